import PyProof.Rows.All
import Wide.All
import OpenK.AllK
import Wide.FinOn
import Lean
import PyProof.EqAt
import PyProof.EqKinds
import PyProof.TupleCall
import PySem.SetOps
import PyProof.SetKind
import PyProof.TupleKey
import PyProof.DictKinds
import PyProof.Rows.SetFrom
import PyProof.WalksMore
import KE.KSortTup
import PyProof.CollectWalk
import PyProof.ExcArgsOwn
import PyProof.Rows.CountFlat
import PyProof.Rows.SeqMore2
import PyProof.Rows.FStr
import PyProof.Rows.StrWeight2
import PyProof.Rows.StrNews
import PyProof.StrLawsTight
import PyProof.ExcBaseAll.ValueError
import PyProof.ZipIter
import PyProof.CallFns
import PyProof.Draws
import PyProof.EnumMake
import PyProof.SetRoads
import PyProof.Rows.SortWalk
import PyProof.SeqI3
import PyProof.Rows.SortShell
import PyProof.Rows.Range3
import KE.KStateDown
import PyProof.Rows.SumAny
import PyProof.ListRange
import PySem.Challenge.RW_rowsorder_k52_orders_of_kinds
set_option Elab.async false
set_option linter.all false
set_option maxRecDepth 100000
set_option maxHeartbeats 1000000
def FQ:=@PySem.wpAny_bind
def FT:=@PySem.Heap.get?_push_of_some
def FU:=@List.getElem?_eq_getElem
def FW:=@PySem.wpAny_pure
def FX:=@Nat.le_refl
def FY:=@List.mem_cons
def FZ:=@if_pos
def F0:=@List.mem_cons_of_mem
def Ga:=@PySem.Heap.lt_size
def Gb:=@PySem.Heap.get?_push_size
def Gd:=@if_neg
def Gf:=@List.getElem?_map
def Gg:=@List.mem_cons_self
def Gh:=@List.mem_map
def Gi:=@Bool.false_eq_true
def Gj:=@decide_eq_true
def Gk:=@List.size_toArray
def Gm:=@List.mem_range
def Gn:=@decide_eq_false
def Gp:=@List.getElem?_set_ne
def Gq:=@List.getElem?_set_self
def Gr:=@List.length_cons
def Gs:=@List.getElem?_eq_some_iff
def Gu:=@Nat.lt_of_lt_of_le
def Gv:=@List.length_map
def Gw:=@Array.getElem?_eq_getElem
def Gx:=@Nat.ne_of_lt
def Gy:=@List.mem_of_getElem?
def Gz:=@PySem.sizeLine_eq
def GA:=@List.getElem?_append_right
def GB:=@List.mem_append
def GC:=@List.getElem?_append_left
def GD:=@List.mem_append_right
def GF:=@Bool.false_ne_true
def GG:=@Array.getD_eq_getD_getElem?
def GH:=@Nat.lt_irrefl
def GI:=@List.mem_iff_getElem
def GJ:=@if_false
def GK:=@PySem.boot_len
def GL:=@Nat.zero_le
def GN:=@List.not_mem_nil
def GO:=@List.length_append
def GP:=@PySem.W.kia_one
def GQ:=@List.nodup_cons
def GR:=@PySem.Heap.get?_update_self
def GS:=@Array.getElem?_eq_some_iff
def GU:=@List.getD_eq_getElem?_getD
def GV:=@Bool.and_eq_true
def GW:=@PySem.wpAny_setState_of
def GX:=@Int.toNat_natCast
def GY:=@PySem.wpAny_truthy_bool
def GZ:=@Nat.lt_or_ge
def G6:=@List.mem_singleton
def G7:=@PySem.Heap.get?_update_other
def G8:=@if_true
def G9:=@decide_eq_true_eq
def Ha:=@PySem.Heap.size_push
def Hb:=@List.mem_filter
def Hd:=@List.length_take
def He:=@List.map_cons
def Hf:=@PySem.wpAny_field
def Hg:=@List.pairwise_map
def Hh:=@List.length_range
def Hi:=@List.Pairwise.imp_of_mem
def Hj:=@List.getElem_mem
def Hk:=@List.all_eq_true
def Hl:=@List.getElem?_replicate
def Hm:=@List.toList_toArray
def Hn:=@Nat.le_trans
def Ho:=@PySem.wpAny_mono
def Hq:=@PySem.wpAny_holding
def Hr:=@PySem.wpAny_call_entry
def Hs:=@List.mem_filterMap
def Ht:=@PySem.wpAny_seqItems
def Hu:=@PySem.wpAny_pyIter_tuple
def Hv:=@List.getElem?_eq_none
def Hw:=@List.mem_append_left
def Hx:=@List.set_eq_of_length_le
def Hy:=@PySem.Value.isInt_shape
def Hz:=@PySem.wpAny_newObj_type
def HA:=@PySem.wpAny_callSpecial?_slot
def HB:=@PySem.mem_of_lookup
def HC:=@PySem.wpAny_setField
def HE:=@or_false
def HF:=@Nat.mul_le_mul
def HG:=@PyProof.Rows.callWith_type1
def HH:=@PyProof.Rows.F.plain_set_update_loop
def HI:=@PySem.wpAny_setField_rec
def HJ:=@List.length_replicate
def HK:=@List.length_set
def HL:=@Array.getElem?_toList
def HM:=@PySem.W.mg_of
def HN:=@List.take_add_one
def HP:=@Array.mem_toList_iff
def HQ:=@List.pairwise_iff_getElem
def HR:=@PySem.Around.under_plainId
def HS:=@List.mem_of_mem_take
def HU:=@PySem.F.called_set
def HV:=@List.replicate_succ
def HW:=@List.map_congr_left
def HX:=@Bool.not_true
def HY:=@PySem.strLen_append
def HZ:=@List.append_nil
def Ia:=@Int.emod_lt_of_pos
def Ic:=@Int.emod_nonneg
def Ie:=@PySem.codeAny_builtin
def Ig:=@List.take_of_length_le
def Ih:=@Array.getElem?_eq_none
def Ij:=@PySem.wpAny_pyIter_list
def Ik:=@List.ext_getElem?
def Il:=@List.getElem?_toArray
def Im:=@List.length_filter_le
def Ip:=@List.nodup_range
def Iq:=@PySem.wpAny_askSetting
def Ir:=@List.lookup_cons
def Iu:=@List.filterMap_cons
def Iv:=@Array.length_toList
def Iw:=@List.getElem?_range
def Iy:=@PySem.wpAny_passesOwn
def Iz:=@List.map_append
def IA:=@Nat.ne_of_gt
def IB:=@PySem.codeAny_mono
def IC:=@PySem.F.args_tuple_add_2
def ID:=@Nat.zero_add
def IE:=@List.length_erase_of_mem
def IF:=@List.map_map
def IG:=@PySem.Obj.data_mapFields
def IH:=@List.eq_of_mem_replicate
def II:=@PySem.AutoSeq1.wpAny_loadPart'
def IJ:=@Int.zero_add
def IK:=@PySem.isSubtype_type
def IL:=@List.flatten_cons
def IM:=@List.append_assoc
def IP:=@Nat.lt_trichotomy
def IQ:=@Bool.not_eq_true'
def IS:=@List.idxOf_append
open List (length_nil foldl_cons any_cons set_set)
open PySem.W (Frag)
open PySem.PyData (int)
section
set_option Elab.async false
namespace L2
open PySem PySem.Spec PyProof.Rows
abbrev Key:=Sum Int Str
def nK:Key->Value->Bool
 | .inl k,v=>Value.isInt k v
 | .inr x,v=>Value.isStrOf x v
def EW (w:World):Key->Int
 | .inl k=>hashInt k
 | .inr x=>hashStr w x
theorem bS:∀{k:Key} {v:Value},nK k v=true->(∃i t,k=Sum.inl i/\v=Value.int i t)\/(∃x t,k=Sum.inr x/\v=Value.str x t)
 | .inl i,v,h=>by
  obtain⟨t,e⟩:=Hy (k:=i) (v:=v) h
  exact .inl ⟨i,t,rfl,e⟩
 | .inr x,v,h=>by
  obtain⟨t,e⟩:=Value.isStrOf_shape (x:=x) (v:=v) h
  exact .inr ⟨x,t,rfl,e⟩
def uz (i:Int)(t:Tok):nK (.inl i) (.int i t)=true:=by simp[nK,Value.isInt]
def u7 (x:Str)(t:Tok):nK (.inr x) (.str x t)=true:=by simp[nK,Value.isStrOf]
def BD (a b:Int):decide ((Sum.inl a:Key)=Sum.inl b)=(a == b):=by
 by_cases e:a=b
 ·subst e;simp
 ·have h:¬(Sum.inl a:Key)=Sum.inl b:=λq=>e (Sum.inl.inj q)
  rw[Gn h]
  exact (beq_eq_false_iff_ne.mpr e).symm
def Bg (a b:Str):decide ((Sum.inr a:Key)=Sum.inr b)=decide (a=b):=by
 by_cases e:a=b
 ·subst e;simp
 ·have h:¬(Sum.inr a:Key)=Sum.inr b:=λq=>e (Sum.inr.inj q)
  rw[Gn h,Gn e]
def Ax (a:Int)(b:Str):decide ((Sum.inl a:Key)=Sum.inr b)=false:=Gn (λq=>nomatch q)
def Af (a:Str)(b:Int):decide ((Sum.inr a:Key)=Sum.inl b)=false:=Gn (λq=>nomatch q)
def dj (prog:Program)(w:World):PySem.KeyKind prog w Key where
 is:=nK
 hash:=EW w
 inj:=λv a b ha hb=>by
  rcases bS ha with⟨i,t,rfl,rfl⟩ | ⟨x,t,rfl,rfl⟩
  ·rcases bS hb with⟨j,u,rfl,e⟩ | ⟨y,u,rfl,e⟩
   ·injection e with e1 _;rw[e1]
   ·exact nomatch e
  ·rcases bS hb with⟨j,u,rfl,e⟩ | ⟨y,u,rfl,e⟩
   ·exact nomatch e
   ·injection e with e1 _;rw[e1]
 byValue:=λk v h=>by
  rcases bS h with⟨i,t,rfl,rfl⟩ | ⟨x,t,rfl,rfl⟩ <;> rfl
 pyHash:=λhv h=>by
  rcases bS hv with⟨i,t,rfl,rfl⟩ | ⟨x,t,rfl,rfl⟩
  ·exact wpAny_pyHash_int h
  ·exact wpAny_pyHash_str h
 eqBool:=λhu hv h=>by
  rcases bS hu with⟨i,t,rfl,rfl⟩ | ⟨x,t,rfl,rfl⟩
  ·rcases bS hv with⟨j,u,rfl,rfl⟩ | ⟨y,u,rfl,rfl⟩
   ·rw[BD] at h;exact wpAny_eqBool_int h
   ·rw[Ax] at h;exact SeqAt.EqAt.int_str i t y u _ _ _ _ h
  ·rcases bS hv with⟨j,u,rfl,rfl⟩ | ⟨y,u,rfl,rfl⟩
   ·rw[Af] at h;exact SeqAt.EqAt.str_int x t j u _ _ _ _ h
   ·rw[Bg] at h;exact wpAny_eqBool_str h
 «strs»:=λk x t v h=>by
  rcases bS h with⟨i,u,rfl,e⟩ | ⟨y,u,rfl,e⟩
  ·exact nomatch e
  ·injection e with e1 _
   subst e1
   cases v <;> rfl
def qi (prog:Program)(w:World)(i:Int)(t:Tok):(dj prog w).is (.inl i) (.int i t)=true:=uz i t
def qQ (prog:Program)(w:World)(x:Str)(t:Tok):(dj prog w).is (.inr x) (.str x t)=true:=u7 x t
inductive V where
 |non |bl (b:Bool) |int (i:Int) |str (x:Str) |byt (b:Array UInt8) |flt (b:UInt64) |ref (a:Addr) |ty (n:String)
 deriving DecidableEq
def RelV:V->Value->Prop
 | .non,u=>u=Value.none
 | .bl b,u=>u=Value.bool b
 | .int i,u=>∃t,u=Value.int i t
 | .str x,u=>∃t,u=Value.str x t
 | .byt b,u=>∃t,u=Value.bytes b t
 | .flt b,u=>∃t,u=Value.float b t
 | .ref a,u=>u=Value.ref a
 | .ty n,u=>u=Value.type n
abbrev Vals:List V->List Value->Prop:=Paired RelV
def Vals.length {xs:List V}{us:List Value}(r:Vals xs us):xs.length=us.length:=Paired.length r
theorem Vals.get:∀{xs:List V} {us:List Value} {i:Nat} {x:V},Vals xs us->xs[i]? =some x->∃u,us[i]? =some u/\RelV x u
 |_,_,_,_,.nil,e=>by simp at e
 |_,_,0,_,.cons r _,e=>by simp at e;subst e;exact⟨_,rfl,r⟩
 |_,_,i + 1,x,.cons _ t,e=>by
  obtain⟨u,h1,h2⟩:=Vals.get (i:=i) (x:=x) t (by simpa using e)
  exact⟨u,by simpa using h1,h2⟩
theorem Vals.set {x:V}{u:Value}(r:RelV x u):∀{xs:List V} {us:List Value} (i:Nat),Vals xs us->Vals (xs.set i x) (us.set i u)
 |_,_,_,.nil=>.nil
 |_,_,0,.cons _ t=>.cons r t
 |_,_,i + 1,.cons q t=>.cons q (Vals.set r i t)
theorem Vals.append:∀{xs ys:List V} {us ws:List Value},Vals xs us->Vals ys ws->Vals (xs ++ ys) (us ++ ws)
 |_,_,_,_,.nil,s=>s
 |_,_,_,_,.cons r t,s=>.cons r (Vals.append t s)
theorem Vals.take:∀{xs:List V} {us:List Value} (n:Nat),Vals xs us->Vals (xs.take n) (us.take n)
 |_,_,0,_=>.nil
 |_,_,_ + 1,.nil=>.nil
 |_,_,n + 1,.cons r t=>.cons r (Vals.take n t)
theorem Vals.drop:∀{xs:List V} {us:List Value} (n:Nat),Vals xs us->Vals (xs.drop n) (us.drop n)
 |_,_,0,r=>r
 |_,_,_ + 1,.nil=>.nil
 |_,_,n + 1,.cons _ t=>Vals.drop n t
def BL:Option V->Option Value->Prop
 |some v,some u=>RelV v u
 |none,none=>True
 |_,_=>False
def KV {κ:Type}:List (κ×V)->List (κ×Value)->Prop:=Paired λ(p:κ×V) (q:κ×Value)=>p.1=q.1/\RelV p.2 q.2
def kV:Key->V
 | .inl i=>.int i
 | .inr x=>.str x
inductive HO where
 |lst (xs:List V)
 |tup (xs:List V)
 |dK (kvs:List (Key×V)) |dT (kvs:List (List Key×V))
 |set (S:Int->Bool) (n:Nat)
 |ins (C dx:Addr) (fs:List (Str×V))
 |own (x:Addr)
 |xd (fs:List (Str×V))
 |met (f x:Addr)
 |xG (lo hi:Int)
 |aX (o:Obj) (u:HO)
 |tbl (ps:Array Value)
 |ext (φ:Heap->Prop)
abbrev Hp:=Addr->Option HO
def upd (H:Hp)(a:Addr)(o:HO):Hp:=λb=>if b=a then some o else H b
def av {H:Hp}{a:Addr}{o:HO}:upd H a o a=some o:=by unfold upd;rw[FZ rfl]
def au {H:Hp}{a b:Addr}{o:HO}(h:b≠a):upd H a o b=H b:=by unfold upd;rw[Gd h]
def zq {H:Hp}{a:Addr}{o u:HO}:upd (upd H a o) a u=upd H a u:=by
 funext b;unfold upd;split <;> rfl
def zz {H:Hp}{a b:Addr}{o u:HO}(h:H a=some o)(h':H b=some u)(d:o≠u):a≠b:=by
 intro e;subst e;rw[h] at h';exact d (Option.some.inj h')
def az {H:Hp}{a b:Addr}{o:HO}(h:H a=some o)(h':H b=none):a≠b:=by
 intro e;subst e;rw[h] at h';cases h'
section
variable (P:Program)(w:World)
def mR (h:Heap)(a:Addr)(items:Array Value):Prop:=∃o,h.get? a=some o/\o.cls=.type "tuple"/\∃n,o.data=.seq items n/\o.dict=none
def mR.isTup {h:Heap}{a:Addr}{items:Array Value}(x:mR h a items):IsTup h a items:=let ⟨o,e,c,n,d,_⟩:=x;⟨o,e,c,n,d⟩
def mR.new (h:Heap)(items:Array Value):mR (h.push {cls:=.type "tuple",data:=.seq items}) h.objs.size items:=⟨_,Gb _ rfl,rfl,_,rfl,rfl⟩
def bW (H:Hp)(h:Heap)(a:Addr):HO->Prop
 | .lst xs=>xs.length<=sizeLine/\∃(its:List Value) (n:Nat),Vals xs its/\h.get? a=some {cls:=.type "list",data:=.seq its.toArray n}
 | .tup xs=>xs.length<=sizeLine/\∃its:List Value,Vals xs its/\mR h a its.toArray
 | .dK kvs=>kvs.length<=sizeLine/\(a == sysModules)=false/\∃vs,KV kvs vs/\h.DictOf (dj P w) a vs
 | .dT kvs=>kvs.length<=sizeLine/\(a == sysModules)=false/\∃xs:List (List Key×Addr×Value),
   Paired (λ(p:List Key×V) (q:List Key×Addr×Value)=>p.1=q.1/\(H q.2.1=some (.tup (p.1.map kV))\/∃o,H q.2.1=some (.aX o (.tup (p.1.map kV))))/\RelV p.2 q.2.2) kvs xs/\
   ∃o es ep,h.get? a=some o/\o.ExactDict/\o.data=.dict es ep/\es.toList=xs.map (entryOfKey (tupleKind (dj P w)))/\(xs.map (·.1)).Nodup
 | .set S n=>h.SetOf (intKind P w) a S n
 | .ins C dx fs=>H dx=some (.own a)/\fs.length<=1000/\dx≠a/\h.get? a=some (PySem.W.instObj C dx)/\
   ∃mA,h.Ns1 dx mA/\(∀f,BL (fs.lookup f) (mA f))/\PySem.Within mA (fs.map (·.1))
 | .own _=>∃o,h.get? a=some o
 | .xd fs=>∃mA,h.Ns1 a mA/\∀f,BL (fs.lookup f) (mA f)
 | .xG lo hi=>∃t u v,h.get? a=some {cls:=.type "range",data:=.fields #[.int lo t,.int hi u,.int 1 v]}
 | .aX o u=>h.get? a=some o/\bW H h a u
 | .tbl ps=>h.get? a=some {cls:=.none,data:=.fields ps}
 | .met f x=>h.get? a=some (PySem.W.methodObj (.ref f) (.ref x))
 | .ext φ=>φ h/\(∃o,h.get? a=some o)/\∀h1 h2:Heap,φ h1->(∀o,h1.get? a=some o->h2.get? a=some o)->φ h2
def iY (H:Hp)(h:Heap):Prop:=∀a o,H a=some o->bW P w H h a o
end
section
variable {P:Program}{w:World}{H H':Hp}{h h':Heap}{a:Addr}{o:HO}
theorem bW.lt (x:bW P w H h a o):a < h.objs.size:=by
 cases o with
 |lst xs=>obtain⟨_,_,_,_,e⟩:=x;exact Ga e
 |tup xs=>obtain⟨_,_,_,p⟩:=x;exact p.isTup.lt
 |dK kvs=>obtain⟨_,_,_,_,o,_,_,e,_⟩:=x;exact Ga e
 |dT kvs=>obtain⟨_,_,_,_,o,_,_,e,_⟩:=x;exact Ga e
 |set S n=>obtain⟨o,_,_,_,e,_⟩:=x;exact Ga e
 |ins C dx fs=>obtain⟨_,_,_,e,_⟩:=x;exact Ga e
 |own y=>obtain⟨_,e⟩:=x;exact Ga e
 |xd fs=>obtain⟨_,⟨_,_,_,e,_⟩,_⟩:=x;exact Ga e
 |xG lo hi=>obtain⟨_,_,_,e⟩:=x;exact Ga e
 |aX ob u=>obtain⟨e,_⟩:=x;exact Ga e
 |tbl ps=>exact Ga (show h.get? a=some _ from x)
 |met f y=>exact Ga (show h.get? a=some _ from x)
 |ext φ=>obtain⟨_,⟨_,e⟩,_⟩:=x;exact Ga e
theorem Paired.mapP {α β:Type}{F G:α->β->Prop}:∀{l₁:List α} {l₂:List β},Paired F l₁ l₂->(∀a b,F a b->G a b)->Paired G l₁ l₂
 |_,_,.nil,_=>.nil
 |_,_,.cons r t,f=>.cons (f _ _ r) (Paired.mapP t f)
theorem bW.stay (x:bW P w H h a o)(k:∀b u,(b=a\/H b=some (.own a))->h.get? b=some u->h'.get? b=some u)
  (ho:∀b,H b=some (.own a)->H' b=some (.own a)) (ht:∀b xs,(H b=some (.tup xs)\/∃o,H b=some (.aX o (.tup xs)))->(H' b=some (.tup xs)\/∃o,H' b=some (.aX o (.tup xs)))):bW P w H' h' a o:=by
 induction o with
 |lst xs=>obtain⟨z,its,n,r,e⟩:=x;exact⟨z,its,n,r,k _ _ (.inl rfl) e⟩
 |tup xs=>obtain⟨z,its,r,ob,e,c⟩:=x;exact⟨z,its,r,ob,k _ _ (.inl rfl) e,c⟩
 |dK kvs=>obtain⟨z,y,vs,r,ob,es,ep,e,c⟩:=x;exact⟨z,y,vs,r,ob,es,ep,k _ _ (.inl rfl) e,c⟩
 |dT kvs=>
  obtain⟨z,y,xs,r,ob,es,ep,e,c⟩:=x
  exact⟨z,y,xs,Paired.mapP r λp q z=>⟨z.1,ht _ _ z.2.1,z.2.2⟩,ob,es,ep,k _ _ (.inl rfl) e,c⟩
 |set S n=>obtain⟨ob,es,ep,t,e,c⟩:=x;exact⟨ob,es,ep,t,k _ _ (.inl rfl) e,c⟩
 |ins C dx fs=>
  obtain⟨d,z,ne,e,mA,⟨od,es,ep,e2,c⟩,r⟩:=x
  exact⟨ho _ d,z,ne,k _ _ (.inl rfl) e,mA,⟨od,es,ep,k _ _ (.inr d) e2,c⟩,r⟩
 |own y=>obtain⟨ob,e⟩:=x;exact⟨ob,k _ _ (.inl rfl) e⟩
 |xd fs=>obtain⟨mA,⟨od,es,ep,e,c⟩,r⟩:=x;exact⟨mA,⟨od,es,ep,k _ _ (.inl rfl) e,c⟩,r⟩
 |xG lo hi=>obtain⟨t,u,v,e⟩:=x;exact⟨t,u,v,k _ _ (.inl rfl) e⟩
 |aX ob u ih=>obtain⟨e,q⟩:=x;exact⟨k _ _ (.inl rfl) e,ih q⟩
 |tbl ps=>
  have e:h.get? a=some {cls:=.none,data:=.fields ps}:=x
  show h'.get? a=some {cls:=.none,data:=.fields ps}
  exact k a _ (.inl rfl) e
 |met f y=>
  have e:h.get? a=some (PySem.W.methodObj (.ref f) (.ref y)):=x
  show h'.get? a=some (PySem.W.methodObj (.ref f) (.ref y))
  exact k a _ (.inl rfl) e
 |ext φ=>obtain⟨p,⟨o,e⟩,st⟩:=x;exact⟨st _ _ p λo q=>k _ _ (.inl rfl) q,⟨o,k _ _ (.inl rfl) e⟩,st⟩
def iY.lt (x:iY P w H h)(e:H a=some o):a < h.objs.size:=(x a o e).lt
theorem iY.fresh (x:iY P w H h)(e:h.objs.size<=a):H a=none:=by
 cases q:H a with
 |none=>rfl
 |some u=>exact absurd (Gu (x.lt q) e) (GH _)
def iY.kept (x:iY P w H h)(k:∀b u,h.get? b=some u->h'.get? b=some u):iY P w H h':=λa o e=>
 (x a o e).stay (λb u _ q=>k b u q) (λ_ q=>q) λ_ _ q=>q
def iY.laid (x:iY P w H h)(k:∀b u,h.get? b=some u->h'.get? b=some u)(hp:h.objs.size<=a)(new:bW P w (upd H a o) h' a o):iY P w (upd H a o) h':=λb u e=>by
 have hn:=x.fresh hp
 by_cases hb:b=a
 ·subst hb;rw[av] at e;cases e;exact new
 ·rw[au hb] at e
  exact (x b u e).stay (λc v _ q=>k c v q) (λc q=>by rw[au (az q hn)];exact q) λc xs q=>q.imp (λq=>by rw[au (az q hn)];exact q) λ⟨o,q⟩=>⟨o,by rw[au (az q hn)];exact q⟩
end
def Rd (H:Hp)(a:Addr)(u:HO):Prop:=H a=some u\/∃o,H a=some (.aX o u)
def Rd.of {H:Hp}{a:Addr}{u:HO}(h:H a=some u):Rd H a u:=.inl h
def Rd.ok {P:Program}{w:World}{H:Hp}{h:Heap}{a:Addr}{u:HO}(r:Rd H a u)(x:iY P w H h):bW P w H h a u:=by
 rcases r with r | ⟨o,r⟩
 ·exact x a u r
 ·obtain⟨_,q⟩:=x a _ r
  exact q
def C3:Option HO->Prop
 |some (.lst _)=>True
 |some (.dK _)=>True
 |some (.dT _)=>True
 |some (.set _ _)=>True
 |some (.ins _ _ _)=>True
 |some (.ext _)=>True
 |_=>False
section
variable {P:Program}{w:World}{H:Hp}{h h':Heap}{x e:Addr}{o':HO}
def iY.write (ok:iY P w H h)(mu:C3 (H x))(he:e=x\/H e=some (.own x))(k:∀b u,b≠e->h.get? b=some u->h'.get? b=some u)(heo:∃u,h'.get? e=some u)
  (new:bW P w (upd H x o') h' x o'):iY P w (upd H x o') h':=λb u q=>by
 have nown:∀c y,H c=some (.own y)->c≠x:=λc y r z=>by subst z;rw[r] at mu;exact mu
 have ntup:∀c xs,H c=some (.tup xs)->c≠x:=λc xs r z=>by subst z;rw[r] at mu;exact mu
 by_cases hb:b=x
 ·subst hb;rw[av] at q;cases q;exact new
 ·rw[au hb] at q
  by_cases hbe:b=e
  ·have q':H b=some (.own x):=by
    rcases he with z |z
    ·exact absurd (hbe.trans z) hb
    ·rw[hbe];exact z
   rw[q] at q';cases q'
   obtain⟨v,hv⟩:=heo
   exact⟨v,by rw[hbe];exact hv⟩
  ·refine (ok b u q).stay (λc v hc r=>k c v ?_ r) (λc r=>by rw[au (nown c b r)];exact r) λc xs r=>r.imp (λr=>by rw[au (ntup c xs r)];exact r) λ⟨o,r⟩=>⟨o,by rw[au (λz=>by subst z;rw[r] at mu;exact mu)];exact r⟩
   rcases hc with rfl |hc
   ·exact hbe
   ·rintro rfl
    rcases he with z |z
    ·exact nown c b hc z
    ·rw[hc] at z;cases z;exact hb rfl
end
structure Un (fs ex:List Addr)(H H':Hp)(h h':Heap):Prop where
 keep:∀b o,h.get? b=some o->H b=none->b∉fs->b∉ex->h'.get? b=some o
 slot:∀b o,h.get? b=some o->H b=none->b∈fs->b∉ex->∃sl,h'.get? b=some {o with slots:=sl}
 free:∀b o,h.get? b=some o->H b=none->b∉ex->H' b=none
 there:∀b o,h.get? b=some o->b∉ex->∃o',h'.get? b=some o'
 tups:∀b xs,H b=some (.tup xs)->H' b=some (.tup xs)
 frzs:∀b o u,H b=some (.aX o u)->H' b=some (.aX o u)
 tbls:∀b ps,H b=some (.tbl ps)->∃more,H' b=some (.tbl (ps ++ more))
section
variable {fs fs' ex ex':List Addr}{H H1 H2:Hp}{h h1 h2 h':Heap}{a x e:Addr}{o:HO}
def Un.any (u:Un fs ex H H1 h h1){b:Addr}{ob:Obj}(q:h.get? b=some ob)(n:H b=none)(hx:b∉ex):∃sl,h1.get? b=some {ob with slots:=sl}:=by
 by_cases hb:b∈fs
 ·exact u.slot b ob q n hb hx
 ·exact⟨ob.slots,u.keep b ob q n hb hx⟩
def Un.kept (k:∀b u,h.get? b=some u->h'.get? b=some u):Un fs ex H H h h':=
 ⟨λb ob q _ _ _=>k b ob q,λb ob q _ _ _=>⟨ob.slots,k b ob q⟩,λ_ _ _ n _=>n,λb ob q _=>⟨ob,k b ob q⟩,λ_ _ q=>q,λ_ _ _ q=>q,λ_ ps q=>⟨#[],by rw[q];simp⟩⟩
def Un.refl:Un fs ex H H h h:=Un.kept λ_ _ q=>q
def Un.laid (k:∀b u,h.get? b=some u->h'.get? b=some u)(hp:h.objs.size<=a)(hn:H a=none):Un fs ex H (upd H a o) h h' where
 keep:=λb u q _ _ _=>k b u q
 slot:=λb u q _ _ _=>⟨u.slots,k b u q⟩
 free:=λb u q n _=>by rw[au (Gx (Gu (Ga q) hp))];exact n
 there:=λb u q _=>⟨u,k b u q⟩
 tups:=λb xs q=>by rw[au (az q hn)];exact q
 frzs:=λb u xs q=>by rw[au (az q hn)];exact q
 tbls:=λb ps q=>⟨#[],by rw[au (az q hn),q];simp⟩
def Un.write (mu:C3 (H x))(he:e=x\/H e=some (.own x))(k:∀b u,b≠e->h.get? b=some u->h'.get? b=some u)(heo:∃u,h'.get? e=some u):Un fs ex H (upd H x o) h h':=by
 have hx:∀b,H b=none->b≠x:=λb n z=>by subst z;rw[n] at mu;exact mu
 have hb:∀b,H b=none->b≠e:=λb n z=>by
  subst z
  rcases he with r |r
  ·exact hx b n r
  ·rw[n] at r;cases r
 have hm:∀b u,H b=some u->¬C3 (some u)->b≠x:=λb u q nm z=>by subst z;rw[q] at mu;exact nm mu
 refine⟨λb u q n _ _=>k b u (hb b n) q,λb u q n _ _=>⟨u.slots,k b u (hb b n) q⟩,λb u q n _=>by rw[au (hx b n)];exact n,λb u q _=>?_,
  λb xs q=>by rw[au (hm b _ q λz=>z)];exact q,λb u xs q=>by rw[au (hm b _ q λz=>z)];exact q,λb ps q=>⟨#[],by rw[au (hm b _ q λz=>z),q];simp⟩⟩
 by_cases hbe:b=e
 ·subst hbe;exact heo
 ·exact⟨u,k b u hbe q⟩
end
def DV (h:Heap)(H:Hp):List Addr:=(List.range h.objs.size).filter λa=>(H a).isSome
def nR (h:Heap)(H:Hp):Heap:=PySem.W.hideAll h (DV h H)
def uO (h:Heap)(H:Hp):(nR h H).objs.size=h.objs.size:=PySem.W.hideAll_size _ _
def xm {h:Heap}{H:Hp}{b:Addr}{o:Obj}(e:h.get? b=some o)(n:H b=none):(nR h H).get? b=some o:=
 PySem.W.hideAll_get _ e λhm=>by
  have q:(H b).isSome=true:=(Hb.mp hm).2
  rw[n] at q;simp at q
theorem yz {h:Heap}{H:Hp}{b:Addr}{o:Obj}(e:(nR h H).get? b=some o):h.get? b=some o/\H b=none:=by
 have e':h.get? b=some o:=PySem.W.of_hideAll (DV h H) e
 refine⟨e',?_⟩
 cases q:H b with
 |none=>rfl
 |some x=>
  have hm:b∈DV h H:=Hb.mpr ⟨Gm.mpr (Ga e'),by simp[q]⟩
  have z:(nR h H).get? b=none:=PySem.W.hideAll_none (DV h H) hm
  rw[z] at e;cases e
def yw (g h:Heap)(L:Addr):List (Addr×Obj):=(List.range h.objs.size).filterMap λa=>if a=L\/(g.get? a).isSome=true then none else (h.get? a).map λo=>(a,o)
def rest (g h:Heap)(L d:Addr):List (Addr×Obj):=(yw g h L).filter λp=>decide (p.1≠d)
structure Mod (K:Frag)(mg:Str->Option Value)(base:Heap):Prop where
 kin:K.In base
 glob:base.Ns mainGlobals mg
 blt:∃mb,base.Ns builtinsNs mb/\∀x:Str,x≠"__name__"->mb x=bootBuiltins x
 nolimit:base.NoLimit
 sys:∃mm,base.Ns sysModules mm
structure Cx where
 prog:Program
 w:World
 K:Frag
 mg:Str->Option Value
 base:Heap
 A:Around
 N:List Str
 s₀:Shared
 H₀:Hp
 env:Env
 outer:List Env
 stack:List Env
 ex:List Addr
 fn:Str->Bool
 calm:Bool
 pn:List (Addr×Obj)
 xe:Value->Shared->Prop
def gu (l:List Env):List Addr:=l.filterMap (·.frame)
abbrev Cx.fs (X:Cx):List Addr:=gu X.outer
def va (sc:Scope)(x:Str):Prop:=sc.names.lookup x=some .local\/sc.names.lookup x=some .cell\/sc.names.lookup x=some .free
def Loc (sc:Scope)(x:Str):Prop:=sc.names.lookup x=some .local\/sc.names.lookup x=some .cell
def Look (env:Env)(h:Heap)(m:Str->Option Value)(x:Str)(u:Value):Prop:=
 (env.kindOf x=some .local/\m x=some u)\/((env.kindOf x=some .cell\/env.kindOf x=some .free)/\∃c,env.cells.lookup x=some c/\h.IsCell c (some u))
structure Cx.Ok (X:Cx):Prop where
 mod:Mod X.K X.mg X.base
 kind:X.env.scope.kind=.function
 glob:X.env.globals=mainGlobals
 blt:X.env.builtins=builtinsNs
 above:X.s₀.heap.objs.size<=X.env.locals
 inj:∀x y c,X.env.cells.lookup x=some c->X.env.cells.lookup y=some c->x=y
 has:∀x,(X.env.kindOf x=some .cell\/X.env.kindOf x=some .free)->∃c,X.env.cells.lookup x=some c
 cab:∀x c,X.fn x=true->X.env.cells.lookup x=some c->X.s₀.heap.objs.size<=c
 hd:X.calm=true->X.A.handled=none
 frames:X.A.frames=some X.stack
 stk:X.stack=X.outer\/(X.stack=X.env :: X.outer/\X.env.frame=some X.env.locals)
 exf:∀b∈X.ex,b≠X.env.locals/\∀x c,X.env.cells.lookup x=some c->c≠b
 bs:∀b o,X.base.get? b=some o->X.s₀.heap.get? b=some o/\X.H₀ b=none
 bsz:X.base.objs.size<=X.s₀.heap.objs.size
 noex:∀b o,X.base.get? b=some o->b∉X.ex
 exfs:∀b∈X.ex,b∉X.fs
 funs:X.s₀.heap.FunFrames X.base X.outer
 frf:∀b∈X.fs,X.H₀ b=none
structure Inv (X:Cx)(pins:List (Addr×Obj))(σ:List (Option V))(H:Hp)(s:Shared):Prop where
 ok:X.Ok
 os:s.os=X.s₀.os
 bare:AllBare s.gens
 base:Un X.fs X.ex X.H₀ H X.s₀.heap s.heap
 loc:∃m,s.heap.Ns X.env.locals m/\∀(i:Nat) (x:Str) (v:V),X.N[i]? =some x->σ[i]? =some (some v)->va X.env.scope x->∃u,RelV v u/\Look X.env s.heap m x u
 cell:∀x c,X.env.cells.lookup x=some c->∃v,s.heap.IsCell c v
 free:H X.env.locals=none
 freeC:∀x c,X.env.cells.lookup x=some c->H c=none
 pin:∀p∈X.pn ++ pins,s.heap.get? p.1=some p.2/\H p.1=none/\p.1≠X.env.locals/\p.1∉X.fs/\∀v,p.2.data≠.cell v
 hok:iY X.prog X.w H s.heap
 len:σ.length=X.N.length
section
variable {X:Cx}{pins:List (Addr×Obj)}{σ:List (Option V)}{H H':Hp}{s:Shared}{h':Heap}
def Cx.Ok.nofr (ok:X.Ok){b:Addr}{o:Obj}(e:X.base.get? b=some o):b∉X.fs:=λhb=>by
 have:=(ok.funs.mem hb).1
 rw[e] at this;cases this
def Inv.bs (I:Inv X pins σ H s):∀b o,X.base.get? b=some o->s.heap.get? b=some o/\H b=none:=λb o e=>
 ⟨I.base.keep b o (I.ok.bs b o e).1 (I.ok.bs b o e).2 (I.ok.nofr e) (I.ok.noex b o e),I.base.free b o (I.ok.bs b o e).1 (I.ok.bs b o e).2 (I.ok.noex b o e)⟩
def Inv.bk (I:Inv X pins σ H s):∀b o,X.base.get? b=some o->s.heap.get? b=some o:=λb o e=>(I.bs b o e).1
def Inv.mod (I:Inv X pins σ H s):Mod X.K X.mg X.base:=I.ok.mod
def Inv.kIn (I:Inv X pins σ H s):X.K.In s.heap:=I.ok.mod.kin.keeps I.bk
def Inv.lt (I:Inv X pins σ H s):X.env.locals < s.heap.objs.size:=let ⟨_,hn,_⟩:=I.loc;hn.lt
def Inv.sz (I:Inv X pins σ H s):X.s₀.heap.objs.size<=s.heap.objs.size:=Hn I.ok.above (Nat.le_of_lt I.lt)
def Inv.nofs (I:Inv X pins σ H s){a:Addr}(h:s.heap.objs.size<=a):a∉X.fs:=λhb=>by
 obtain⟨_,o,ho,_⟩:=I.ok.funs.mem hb
 exact absurd (Gu (Ga ho) (Hn I.sz h)) (GH _)
def Inv.cne (I:Inv X pins σ H s):∀x c,X.env.cells.lookup x=some c->c≠X.env.locals:=λx c e z=>by
 obtain⟨v,o,ho,hd⟩:=I.cell x c e
 obtain⟨m,⟨o',es,ep,ho',hd',_⟩,_⟩:=I.loc
 rw[z,ho'] at ho;cases ho;rw[hd'] at hd;cases hd
def Inv.funs (I:Inv X pins σ H s):s.heap.FunFrames X.base X.outer:=by
 have all:∀(l:List Env),(∀b∈gu l,b∈X.fs)->X.s₀.heap.FunFrames X.base l->s.heap.FunFrames X.base l:=by
  intro l
  induction l with
  |nil=>intro _ _;trivial
  |cons env r ih=>
   intro hs hl
   obtain⟨hk,⟨L,o,hf,hn,ho,hd⟩,hr⟩:=hl
   have hL:L∈X.fs:=hs L (by unfold gu;rw[Iu,hf];exact Gg)
   obtain⟨sl,e⟩:=I.base.slot L o ho (I.ok.frf L hL) hL λz=>I.ok.exfs L z hL
   exact⟨hk,⟨L,_,hf,hn,e,hd⟩,ih (λb hb=>hs b (by unfold gu;rw[Iu,hf];exact F0 _ hb)) hr⟩
 exact all X.outer (λ_ hb=>hb) I.ok.funs
def Inv.stack (I:Inv X pins σ H s):s.heap.FunFrames X.base X.stack:=by
 rcases I.ok.stk with e | ⟨e,hf⟩
 ·rw[e];exact I.funs
 ·rw[e]
  obtain⟨m,hn,_⟩:=I.loc
  refine .cons (by rw[I.ok.kind];decide) hf hn ?_ I.funs
  exact Heap.get?_none_of_le (Hn I.ok.bsz I.ok.above)
def Inv.stkSub (I:Inv X pins σ H s):∀b∈gu X.stack,b∈X.env.locals :: X.fs:=λb hb=>by
 rcases I.ok.stk with e | ⟨e,hf⟩
 ·rw[e] at hb;exact F0 _ hb
 ·rw[e] at hb
  unfold gu at hb
  rw[Iu,hf] at hb
  exact hb
def Inv.stkFree (I:Inv X pins σ H s):∀b∈gu X.stack,H b=none:=λb hb=>by
 rcases FY.mp (I.stkSub b hb) with e |hb
 ·rw[e];exact I.free
 ·obtain⟨_,o,ho,_⟩:=I.ok.funs.mem hb
  exact I.base.free b o ho (I.ok.frf b hb) λz=>I.ok.exfs b z hb
def Inv.step {g':Array GenState}{t':Nat}{d':Drawn}{ch:List Addr}(I:Inv X pins σ H s)
  (hch:∀b∈ch,(b∈X.ex\/X.s₀.heap.objs.size<=b)/\b≠X.env.locals/\(∀x c,X.env.cells.lookup x=some c->c≠b)/\∀p∈X.pn ++ pins,p.1≠b)
  (keep:∀b o,b≠X.env.locals->b∉X.fs->b∉ch->s.heap.get? b=some o->H b=none->h'.get? b=some o)
  (slot:∀b o,b≠X.env.locals->b∈X.fs->b∉ch->s.heap.get? b=some o->H b=none->∃sl,h'.get? b=some {o with slots:=sl}) (free:∀b o,b∉ch->s.heap.get? b=some o->H b=none->H' b=none)
  (there:∀b o,b∉ch->s.heap.get? b=some o->∃o',h'.get? b=some o')
  (tups:∀b xs,H b=some (.tup xs)->H' b=some (.tup xs)) (frzs:∀b o u,H b=some (.aX o u)->H' b=some (.aX o u)) (tbls:∀b ps,H b=some (.tbl ps)->∃more,H' b=some (.tbl (ps ++ more)))
  (ns:∀m,s.heap.Ns X.env.locals m->h'.Ns X.env.locals m) (hok:iY X.prog X.w H' h') (hg:AllBare g') :
  Inv X pins σ H' {s with heap:=h',gens:=g',drawn:=d',toks:=t'}:=by
 have neL:∀b o,X.s₀.heap.get? b=some o->b≠X.env.locals:=λb o e=>Gx (Gu (Ga e) I.ok.above)
 have neC:∀b o,X.s₀.heap.get? b=some o->b∉X.ex->b∉ch:=λb o e hx hb=>by
  rcases (hch b hb).1 with z |z
  ·exact hx z
  ·exact absurd (Gu (Ga e) z) (GH _)
 have cellK:∀x c,X.env.cells.lookup x=some c->∀v,s.heap.IsCell c v->h'.IsCell c v:=λx c e v ⟨o,ho,hd⟩=>by
  have nch:c∉ch:=λz=>(hch c z).2.2.1 x c e rfl
  by_cases hc:c∈X.fs
  ·obtain⟨sl,q⟩:=slot c o (I.cne x c e) hc nch ho (I.freeC x c e)
   exact⟨_,q,hd⟩
  ·exact⟨o,keep c o (I.cne x c e) hc nch ho (I.freeC x c e),hd⟩
 refine⟨I.ok,I.os,hg,⟨λb o e n hb hx=>?_,λb o e n hb hx=>?_,λb o e n hx=>?_,λb o e hx=>?_,λb xs e=>tups b xs (I.base.tups b xs e),λb o xs e=>frzs b o xs (I.base.frzs b o xs e),λb ps e=>?_⟩,?_,λx c e=>?_,?_,λx c e=>?_,λp hp=>?_,hok,I.len⟩
 ·exact keep b o (neL b o e) hb (neC b o e hx) (I.base.keep b o e n hb hx) (I.base.free b o e n hx)
 ·obtain⟨sl,e1⟩:=I.base.slot b o e n hb hx
  obtain⟨sl',e2⟩:=slot b _ (neL b o e) hb (neC b o e hx) e1 (I.base.free b o e n hx)
  exact⟨sl',e2⟩
 ·obtain⟨o',e1⟩:=I.base.there b o e hx
  exact free b o' (neC b o e hx) e1 (I.base.free b o e n hx)
 ·obtain⟨o',e1⟩:=I.base.there b o e hx
  exact there b o' (neC b o e hx) e1
 ·obtain⟨m1,e1⟩:=I.base.tbls b ps e
  obtain⟨m2,e2⟩:=tbls b _ e1
  exact⟨m1 ++ m2,by rw[e2,Array.append_assoc]⟩
 ·obtain⟨m,hn,hl⟩:=I.loc
  refine⟨m,ns m hn,λi x v e1 e2 e3=>?_⟩
  obtain⟨u,r,l⟩:=hl i x v e1 e2 e3
  refine⟨u,r,?_⟩
  rcases l with l | ⟨k,c,e,z⟩
  ·exact .inl l
  ·exact .inr ⟨k,c,e,cellK x c e _ z⟩
 ·obtain⟨v,z⟩:=I.cell x c e
  exact⟨v,cellK x c e v z⟩
 ·obtain⟨m,⟨o,_,_,ho,_⟩,_⟩:=I.loc
  exact free _ o (λz=>(hch _ z).2.1 rfl) ho I.free
 ·obtain⟨v,o,ho,hd⟩:=I.cell x c e
  exact free c o (λz=>(hch c z).2.2.1 x c e rfl) ho (I.freeC x c e)
 ·obtain⟨e,n,ne,nf,d⟩:=I.pin p hp
  have nch:p.1∉ch:=λz=>(hch p.1 z).2.2.2 p hp rfl
  exact⟨keep p.1 p.2 ne nf nch e n,free p.1 p.2 nch e n,ne,nf,d⟩
def Inv.un {t':Nat}(I:Inv X pins σ H s)(u:Un X.fs [] H H' s.heap h')(hok:iY X.prog X.w H' h'):Inv X pins σ H' {s with heap:=h',toks:=t'}:=by
 obtain⟨m,⟨o,es,ep,ho,r⟩,_⟩:=id I.loc
 obtain⟨sl,hL⟩:=u.any ho I.free (by simp)
 exact I.step (g':=s.gens) (d':=s.drawn) (ch:=[]) (λ_ z=>nomatch z) (λb o _ hb _ e n=>u.keep b o e n hb (by simp)) (λb o _ hb _ e n=>u.slot b o e n hb (by simp)) (λb o _ e n=>u.free b o e n (by simp)) (λb o _ e=>u.there b o e (by simp)) u.tups u.frzs u.tbls (λm' hm=>by
  obtain⟨o',es',ep',ho',r'⟩:=hm
  rw[ho] at ho';cases ho'
  exact⟨_,es',ep',hL,r'⟩) hok I.bare
def Inv.call {g':Array GenState}{t':Nat}{d':Drawn}{ch:List Addr}(I:Inv X pins σ H s)(u:Un (gu X.stack) ch H H' s.heap h')(hok:iY X.prog X.w H' h')(hg:AllBare g')
  (hch:∀b∈ch,(b∈X.ex\/X.s₀.heap.objs.size<=b)/\b≠X.env.locals/\(∀x c,X.env.cells.lookup x=some c->c≠b)/\∀p∈X.pn ++ pins,p.1≠b) :
  Inv X pins σ H' {s with heap:=h',gens:=g',drawn:=d',toks:=t'}:=by
 obtain⟨m,⟨o,es,ep,ho,r⟩,_⟩:=id I.loc
 obtain⟨sl,hL⟩:=u.any ho I.free λz=>(hch _ z).2.1 rfl
 exact I.step (ch:=ch) hch (λb o hL hb hc e n=>u.keep b o e n (λz=>(FY.mp (I.stkSub b z)).elim hL hb) hc) (λb o _ _ hc e n=>u.any e n hc) (λb o hc e n=>u.free b o e n hc) (λb o hc e=>u.there b o e hc) u.tups u.frzs u.tbls (λm' hm=>by
  obtain⟨o',es',ep',ho',r'⟩:=hm
  rw[ho] at ho';cases ho'
  exact⟨_,es',ep',hL,r'⟩) hok hg
def Inv.turned {t':Nat}{it:Addr}(I:Inv X pins σ H s)(k:∀b o,b≠it->s.heap.get? b=some o->h'.get? b=some o)(hn:H it=none)(hL:it≠X.env.locals)
  (h1:it∈X.ex\/X.s₀.heap.objs.size<=it) (h2:∀x c,X.env.cells.lookup x=some c->c≠it) (h3:∀p∈X.pn ++ pins,p.1≠it):Inv X pins σ H {s with heap:=h',toks:=t'}:=by
 have nit:∀b u,H b=some u->b≠it:=λb u e z=>by rw[z,hn] at e;cases e
 refine I.step (g':=s.gens) (d':=s.drawn) (ch:=[it]) (λb hb=>?_) (λb o _ _ hc e _=>k b o (λz=>hc (by simp[z])) e) (λb o _ _ hc e _=>⟨o.slots,k b o (λz=>hc (by simp[z])) e⟩) (λ_ _ _ _ n=>n)
  (λb o hc e=>⟨o,k b o (λz=>hc (by simp[z])) e⟩) (λ_ _ e=>e) (λ_ _ _ e=>e) (λb ps e=>⟨#[],by rw[e];simp⟩) (λm hm=>?_) (λb u e=>?_) I.bare
 ·have e:b=it:=by simpa using hb
  subst e
  exact⟨h1,hL,h2,h3⟩
 ·obtain⟨o,es,ep,ho,r⟩:=hm
  exact⟨o,es,ep,k _ o (Ne.symm hL) ho,r⟩
 ·refine (I.hok b u e).stay (λc v hc q=>k c v ?_ q) (λ_ q=>q) λ_ _ q=>q
  rcases hc with z |z
  ·rw[z];exact nit b u e
  ·exact nit c _ z
def Inv.tok (I:Inv X pins σ H s)(t:Nat):Inv X pins σ H {s with toks:=t}:=I.un (h':=s.heap) (t':=t) Un.refl I.hok
def Inv.kept {t':Nat}(I:Inv X pins σ H s)(k:∀b u,s.heap.get? b=some u->h'.get? b=some u):Inv X pins σ H {s with heap:=h',toks:=t'}:=I.un (Un.kept k) (I.hok.kept k)
def Inv.laid {a:Addr}{o:HO}{t':Nat}(I:Inv X pins σ H s)(k:∀b u,s.heap.get? b=some u->h'.get? b=some u)(hp:s.heap.objs.size<=a)(new:bW X.prog X.w (upd H a o) h' a o) :
  Inv X pins σ (upd H a o) {s with heap:=h',toks:=t'}:=I.un (Un.laid k hp (I.hok.fresh hp)) (I.hok.laid k hp new)
def Inv.write {x e:Addr}{o:HO}{t':Nat}(I:Inv X pins σ H s)(mu:C3 (H x))(he:e=x\/H e=some (.own x))(k:∀b u,b≠e->s.heap.get? b=some u->h'.get? b=some u)(heo:∃u,h'.get? e=some u)
  (new:bW X.prog X.w (upd H x o) h' x o):Inv X pins σ (upd H x o) {s with heap:=h',toks:=t'}:=I.un (Un.write mu he k heo) (I.hok.write mu he k heo new)
def Inv.pins_of {pins':List (Addr×Obj)}(I:Inv X pins σ H s)(h:∀p∈pins',s.heap.get? p.1=some p.2/\H p.1=none/\p.1≠X.env.locals/\p.1∉X.fs/\∀v,p.2.data≠.cell v):Inv X pins' σ H s:=
 ⟨I.ok,I.os,I.bare,I.base,I.loc,I.cell,I.free,I.freeC,λp hp=>(GB.mp hp).elim (λz=>I.pin p (Hw _ z)) (h p),I.hok,I.len⟩
def pX {N:List Str}(hN:N.Nodup){i j:Nat}{x:Str}(a:N[i]? =some x)(b:N[j]? =some x):i=j:=by
 obtain⟨h1,e1⟩:=Gs.mp a
 obtain⟨h2,e2⟩:=Gs.mp b
 exact (List.getElem_inj hN).mp (e1.trans e2.symm)
def nA {M:Model}{A:Around}{E:Value->Shared->Prop}{i:Nat}{x:Str}{v:V}{u:Value}{Q:Unit->Shared->Prop}(I:Inv X pins σ H s)(hN:X.N.Nodup)(hi:X.N[i]? =some x)(hx:Loc X.env.scope x)(r:RelV v u)
  (h:∀s',Inv X pins (σ.set i (some v)) H s'->(∃a,Heap.SameBut a s.heap s'.heap/\(a=X.env.locals\/X.env.cells.lookup x=some a))->Q () s') (hf:X.fn x=true\/X.env.scope.names.lookup x=some .local:=by first |exact .inl rfl |exact .inr rfl |assumption):wpAny M A (storeName X.env x u) Q E s:=by
 obtain⟨m,hn,hl⟩:=id I.loc
 have hcls:(X.env.scope.kind == .class || (X.env.scope.kind == .module && X.env.locals != X.env.globals))=false:=by rw[I.ok.kind];rfl
 have hiσ:i < σ.length:=by rw[I.len];exact (Gs.mp hi).1
 have cne:=I.cne
 have tracked:∀{a:Addr} {h':Heap},(∃o,s.heap.get? a=some o/\H a=none)->Heap.SameBut a s.heap h'->iY X.prog X.w H h':=λ{a h'} ha hs b ob e=>by
  obtain⟨_,_,hfree⟩:=ha
  refine (I.hok b ob e).stay (λc w' hc q=>(hs.2 c ?_).trans q) (λ_ q=>q) λ_ _ q=>q
  rintro rfl
  rcases hc with rfl |hc
  ·rw[hfree] at e;cases e
  ·rw[hfree] at hc;cases hc
 rcases hx with hk |hk
 ·refine wpAny_storeName_local hk hn (λh' hn' hs=>?_) hcls
  obtain⟨oL,_,_,hoL,_⟩:=id hn
  refine h _ ⟨I.ok,I.os,I.bare,⟨λb o e n hb hx=>?_,λb o e n hb hx=>?_,I.base.free,λb o e hx=>?_,I.base.tups,I.base.frzs,I.base.tbls⟩,⟨_,hn',λj y v' e1 e2 e3=>?_⟩,λy c e=>?_,I.free,I.freeC,λp hp=>?_,tracked ⟨oL,hoL,I.free⟩ hs,by simpa using I.len⟩ ⟨_,hs,.inl rfl⟩
  ·exact (hs.2 b (Gx (Gu (Ga e) I.ok.above))).trans (I.base.keep b o e n hb hx)
  ·obtain⟨sl,e1⟩:=I.base.slot b o e n hb hx
   exact⟨sl,(hs.2 b (Gx (Gu (Ga e) I.ok.above))).trans e1⟩
  ·obtain⟨o',e1⟩:=I.base.there b o e hx
   exact⟨o',(hs.2 b (Gx (Gu (Ga e) I.ok.above))).trans e1⟩
  ·by_cases hj:j=i
   ·subst hj
    rw[hi] at e1;cases e1
    rw[Gq hiσ] at e2
    cases e2
    exact⟨u,r,.inl ⟨hk,by simp⟩⟩
   ·rw[Gp (Ne.symm hj)] at e2
    obtain⟨u',r',q⟩:=hl j y v' e1 e2 e3
    refine⟨u',r',?_⟩
    rcases q with⟨k,e⟩ | ⟨k,c,e,z⟩
    ·refine .inl ⟨k,?_⟩
     have:y≠x:=λe=>hj (pX hN e1 (e▸hi))
     simp[this,e]
    ·exact .inr ⟨k,c,e,z.sameBut hs (cne y c e)⟩
  ·obtain⟨w',z⟩:=I.cell y c e
   exact⟨w',z.sameBut hs (cne y c e)⟩
  ·obtain⟨e,n,ne,nf,d⟩:=I.pin p hp
   exact⟨(hs.2 p.1 ne).trans e,n,ne,nf,d⟩
 ·have hfn:X.fn x=true:=by
   rcases hf with z |z
   ·exact z
   ·rw[z] at hk;cases hk
  obtain⟨c,hc⟩:=I.ok.has x (.inl hk)
  obtain⟨w',z⟩:=I.cell x c hc
  refine wpAny_storeName_cell I.ok.kind hk hc z (λh' hc' hs=>?_)
  obtain⟨oc,hoc,hocd⟩:=id z
  refine h {s with heap:=h'} ⟨I.ok,I.os,I.bare,⟨λb o e n hb hx=>?_,λb o e n hb hx=>?_,I.base.free,λb o e hx=>?_,I.base.tups,I.base.frzs,I.base.tbls⟩,⟨m,hn.sameBut hs (Ne.symm (cne x c hc)),λj y v' e1 e2 e3=>?_⟩,λy c' e=>?_,I.free,I.freeC,λp hp=>?_,tracked ⟨oc,hoc,I.freeC x c hc⟩ hs,by simpa using I.len⟩ ⟨c,hs,.inr hc⟩
  ·exact (hs.2 b (Gx (Gu (Ga e) (I.ok.cab x c hfn hc)))).trans (I.base.keep b o e n hb hx)
  ·obtain⟨sl,e1⟩:=I.base.slot b o e n hb hx
   exact⟨sl,(hs.2 b (Gx (Gu (Ga e) (I.ok.cab x c hfn hc)))).trans e1⟩
  ·obtain⟨o',e1⟩:=I.base.there b o e hx
   exact⟨o',(hs.2 b (Gx (Gu (Ga e) (I.ok.cab x c hfn hc)))).trans e1⟩
  ·by_cases hj:j=i
   ·subst hj
    rw[hi] at e1;cases e1
    rw[Gq hiσ] at e2
    cases e2
    exact⟨u,r,.inr ⟨.inl hk,c,hc,hc'⟩⟩
   ·rw[Gp (Ne.symm hj)] at e2
    obtain⟨u',r',q⟩:=hl j y v' e1 e2 e3
    refine⟨u',r',?_⟩
    rcases q with q | ⟨k,c',e,z'⟩
    ·exact .inl q
    ·refine .inr ⟨k,c',e,z'.sameBut hs ?_⟩
     rintro rfl
     exact hj (pX hN e1 (I.ok.inj _ _ _ e hc▸hi))
  ·by_cases hcc:c'=c
   ·subst hcc;exact⟨_,hc'⟩
   ·obtain⟨w2,z2⟩:=I.cell y c' e
    exact⟨w2,z2.sameBut hs hcc⟩
  ·obtain⟨e,n,ne,nf,d⟩:=I.pin p hp
   refine⟨(hs.2 p.1 ?_).trans e,n,ne,nf,d⟩
   intro q
   rw[q,hoc] at e
   have q':oc=p.2:=Option.some.inj e
   exact d w' (by rw[<-q'];exact hocd)
def pO {M:Model}{A:Around}{E:Value->Shared->Prop}{i:Nat}{x:Str}{v:V}{u:Value}{Q:Unit->Shared->Prop}(I:Inv X pins σ H s)(hN:X.N.Nodup)(hi:X.N[i]? =some x)(hx:Loc X.env.scope x)(r:RelV v u)
  (h:∀s',Inv X pins (σ.set i (some v)) H s'->Q () s') (hf:X.fn x=true\/X.env.scope.names.lookup x=some .local:=by first |exact .inl rfl |exact .inr rfl |assumption):wpAny M A (storeName X.env x u) Q E s:=
 nA I hN hi hx r (λs' I' _=>h s' I') hf
def Inv.call' {s':Shared}{ch:List Addr}(I:Inv X pins σ H s)(ho:s'.os=s.os)(u:Un (gu X.stack) ch H H' s.heap s'.heap)(hok:iY X.prog X.w H' s'.heap)(hg:AllBare s'.gens)
  (hch:∀b∈ch,(b∈X.ex\/X.s₀.heap.objs.size<=b)/\b≠X.env.locals/\(∀x c,X.env.cells.lookup x=some c->c≠b)/\∀p∈X.pn ++ pins,p.1≠b):Inv X pins σ H' s':=by
 obtain⟨h',g',d',t',o'⟩:=s'
 have e:o'=s.os:=ho
 subst e
 exact I.call (g':=g') (t':=t') (d':=d') u hok hg hch
end
abbrev XK:=Value->Option Addr->Hp->Prop
abbrev St:=List (Option V)
abbrev VK:=V->Hp->Prop
abbrev TE:=St->Hp->VK->Prop
abbrev TT:=St->Hp->(Bool->Hp->Prop)->Prop
abbrev TA:=St->Hp->(List V->Hp->Prop)->Prop
structure Ends where
 nx:St->Hp->Prop
 rt:VK
 bk:St->Hp->Prop:=λ_ _=>False
 ct:St->Hp->Prop:=λ_ _=>False
abbrev TS:=Ends->St->Hp->Prop
def EP (X:Cx)(pins:List (Addr×Obj))(σ:St)(Q:VK)(u:Value)(s':Shared):Prop:=∃v H',Inv X pins σ H' s'/\RelV v u/\Q v H'
def TP (X:Cx)(pins:List (Addr×Obj))(σ:St)(Q:Bool->Hp->Prop)(b:Bool)(s':Shared):Prop:=∃H',Inv X pins σ H' s'/\Q b H'
def AP (X:Cx)(pins:List (Addr×Obj))(σ:St)(Q:List V->Hp->Prop)(us:List Value)(s':Shared):Prop:=∃vs H',Inv X pins σ H' s'/\Vals vs us/\Q vs H'
def SP (X:Cx)(pins:List (Addr×Obj))(D:Ends)(f:Flow)(s':Shared):Prop:=
 match f with
 | .next=>∃σ' H',Inv X pins σ' H' s'/\D.nx σ' H'
 | .brk=>∃σ' H',Inv X pins σ' H' s'/\D.bk σ' H'
 | .cont=>∃σ' H',Inv X pins σ' H' s'/\D.ct σ' H'
 | .ret u=>∃v σ' H',Inv X pins σ' H' s'/\RelV v u/\D.rt v H'
def PE (X:Cx)(e:Expr)(t:TE):Prop:=
 ∀(pins:List (Addr×Obj)) (s:Shared) (σ:St) (H:Hp) (Q:VK),Inv X pins σ H s->t σ H Q->wpAny (model X.prog X.w) X.A (eval e X.env) (EP X pins σ Q) X.xe s
def PT (X:Cx)(e:Expr)(t:TT):Prop:=
 ∀(pins:List (Addr×Obj)) (s:Shared) (σ:St) (H:Hp) (Q:Bool->Hp->Prop),Inv X pins σ H s->t σ H Q->wpAny (model X.prog X.w) X.A (isTrue e X.env (eval e X.env)) (TP X pins σ Q) X.xe s
def PW (X:Cx)(e:Expr)(t:TT):Prop:=
 ∀(whole:Sem Value) (pins:List (Addr×Obj)) (s:Shared) (σ:St) (H:Hp) (Q:Bool->Hp->Prop),Inv X pins σ H s->t σ H Q->wpAny (model X.prog X.w) X.A (isTrue e X.env whole) (TP X pins σ Q) X.xe s
def PW.pt {X:Cx}{e:Expr}{t:TT}(h:PW X e t):PT X e t:=h _
def PA (X:Cx)(es:List Expr)(t:TA):Prop:=
 ∀(pos:Pos) (pins:List (Addr×Obj)) (s:Shared) (σ:St) (H:Hp) (Q:List V->Hp->Prop),Inv X pins σ H s->t σ H Q->wpAny (model X.prog X.w) X.A (spliced (backTo pos (starEach es X.env))) (AP X pins σ Q) X.xe s
def PS (X:Cx)(st:Stmt)(t:TS):Prop:=
 ∀(pins:List (Addr×Obj)) (s:Shared) (σ:St) (H:Hp) (D:Ends),Inv X pins σ H s->t D σ H->wpAny (model X.prog X.w) X.A (exec st X.env) (SP X pins D) X.xe s
def n5 (X:Cx)(st:List Stmt)(t:TS):Prop:=
 ∀(pins:List (Addr×Obj)) (s:Shared) (σ:St) (H:Hp) (D:Ends),Inv X pins σ H s->t D σ H->wpAny (model X.prog X.w) X.A (execs st X.env) (SP X pins D) X.xe s
def b7 {α:Type}{t:Sem α}{Q Q':α->Shared->Prop}{M:Model}{A:Around}{E:Value->Shared->Prop}{s:Shared}(h:wpAny M A t Q E s)(hQ:∀a s,Q a s->Q' a s):wpAny M A t Q' E s:=Ho h hQ λ_ _ x=>x
section
variable {X:Cx}
def bin {a b:Expr}{ta tb:TE}(ha:PE X a ta)(hb:PE X b tb){pins:List (Addr×Obj)}{s:Shared}{σ:St}{H:Hp}{R:V->V->Hp->Prop}(I:Inv X pins σ H s)(h:ta σ H λx H1=>tb σ H1 λy H2=>R x y H2)
  {α:Type} {Q:α->Shared->Prop} {f:Value->Value->Sem α}
  (hf:∀v u s2 x y H2,Inv X pins σ H2 s2->RelV x v->RelV y u->R x y H2->wpAny (model X.prog X.w) X.A (f v u) Q X.xe s2) :
  wpAny (model X.prog X.w) X.A (eval a X.env) (λv s₁=>wpAny (model X.prog X.w) X.A (eval b X.env) (λu s₂=>wpAny (model X.prog X.w) X.A (f v u) Q X.xe s₂) X.xe s₁) X.xe s:=by
 refine b7 (ha pins s σ H _ I h) λv s1 ⟨x,H1,I1,r1,q1⟩=>?_
 refine b7 (hb pins s1 σ H1 _ I1 q1) λu s2 ⟨y,H2,I2,r2,q2⟩=>?_
 exact hf v u s2 x y H2 I2 r1 r2 q2
def xV (i:Nat):TE:=λσ H Q=>∃v,σ[i]? =some (some v)/\Q v H
def tC (v:V):TE:=λ_ H Q=>Q v H
def jo {i:Nat}{x:Str}{pos:Pos}(hN:X.N[i]? =some x)(hv:va X.env.scope x)(hd:(x == ("__debug__":Str))=false:=by decide)(hcd:(x == ("__classdict__":Str))=false:=by decide):PE X (.Name x pos) (xV i):=by
 intro pins s σ H Q I h
 obtain⟨v,e,h⟩:=h
 obtain⟨m,hn,hl⟩:=I.loc
 obtain⟨u,r,l⟩:=hl i x v hN e hv
 have fin:EP X pins σ Q u s:=⟨v,H,I,r,h⟩
 rcases l with⟨hk,hm⟩ | ⟨hk,c,hc,hcell⟩
 ·exact wpAny_Name (wpAny_loadName_local I.ok.kind hk hn hm fin) hd
 ·rcases hk with hk |hk
  ·exact wpAny_Name (wpAny_loadName_cell I.ok.kind hk hc hcell fin) hd
  ·exact wpAny_Name (wpAny_loadName_free I.ok.kind hk hc hcell fin hcd) hd
def nW {i j pos}:PE X (.Constant (.int i) j pos) (tC (.int i)):=λ_ _ _ H _ I h=>wpAny_Constant_int ⟨.int i,H,I.tok _,⟨_,rfl⟩,h⟩
def tE {b j pos}:PE X (.Constant (.bool b) j pos) (tC (.bl b)):=λ_ _ _ H _ I h=>Constant_bool ⟨.bl b,H,I,rfl,h⟩
def Bm {j pos}:PE X (.Constant .none j pos) (tC .non):=λ_ _ _ H _ I h=>Constant_none ⟨.non,H,I,rfl,h⟩
def wK {x j pos}:PE X (.Constant (.str x) j pos) (tC (.str x)):=λ_ _ _ H _ I h=>Calls.Constant_str ⟨.str x,H,I.tok _,⟨_,rfl⟩,h⟩
def Gl (X:Cx)(x:Str):Prop:=X.env.kindOf x=some .globalImplicit
def ot {E:Value->Shared->Prop}{pins:List (Addr×Obj)}{s:Shared}{σ:St}{H:Hp}{x:Str}{u:Value}{pos:Pos}{Q:Value->Shared->Prop}(I:Inv X pins σ H s)(hg:Gl X x)(hm:X.mg x=some u)(h:Q u s)
  (hd:(x == ("__debug__":Str))=false:=by decide):wpAny (model X.prog X.w) X.A (eval (.Name x pos) X.env) Q E s:=
 Calls.Name_function_global I.ok.kind hg (Calls.loadGlobal_global (by rw[I.ok.glob];exact I.mod.glob.keeps I.bk) hm h) hd
def kc {E:Value->Shared->Prop}{pins:List (Addr×Obj)}{s:Shared}{σ:St}{H:Hp}{x:Str}{u:Value}{pos:Pos}{Q:Value->Shared->Prop}(I:Inv X pins σ H s)(hg:Gl X x)(hm:X.mg x=none)(hv:bootBuiltins x=some u)(h:Q u s)
  (hn:x≠"__name__":=by decide) (hd:(x == ("__debug__":Str))=false:=by decide):wpAny (model X.prog X.w) X.A (eval (.Name x pos) X.env) Q E s:=by
 obtain⟨mb,h1,h2⟩:=I.mod.blt
 exact Calls.Name_function_global I.ok.kind hg (Calls.loadGlobal_builtin (by rw[I.ok.glob];exact I.mod.glob.keeps I.bk) hm (by rw[I.ok.blt];exact h1.keeps I.bk) ((h2 x hn).trans hv) h) hd
def xY {x:Str}{v:V}{u:Value}{pos:Pos}(hg:Gl X x)(hm:X.mg x=some u)(r:RelV v u)(hd:(x == ("__debug__":Str))=false:=by decide):PE X (.Name x pos) (tC v):=
 λ_ _ _ H _ I h=>ot I hg hm ⟨v,H,I,r,h⟩ hd
def zc {x:Str}{v:V}{u:Value}{pos:Pos}(hg:Gl X x)(hm:X.mg x=none)(hv:bootBuiltins x=some u)(r:RelV v u)(hn:x≠"__name__":=by decide)(hd:(x == ("__debug__":Str))=false:=by decide):PE X (.Name x pos) (tC v):=
 λ_ _ _ H _ I h=>kc I hg hm hv ⟨v,H,I,r,h⟩ hn hd
variable {a b:Expr}{ta tb:TE}{pos:Pos}
def PC (X:Cx)(op:CmpOp)(a b:Expr)(t:TE):Prop:=
 ∀(pins:List (Addr×Obj)) (s:Shared) (σ:St) (H:Hp) (Q:VK),Inv X pins σ H s->t σ H Q->
  wpAny (model X.prog X.w) X.A (eval a X.env) (λv s₁=>wpAny (model X.prog X.w) X.A (eval b X.env) (λu s₂=>wpAny (model X.prog X.w) X.A (compareOp op v u) (EP X pins σ Q) X.xe s₂) X.xe s₁) X.xe s
def p0 (b:Expr){op:CmpOp}(h:op≠.In)(h2:op≠.NotIn):behindInMarks op b=false:=by
 have e1:(op == CmpOp.In)=false:=by cases op <;> first |rfl |exact absurd rfl h
 have e2:(op == CmpOp.NotIn)=false:=by cases op <;> first |rfl |exact absurd rfl h2
 cases b <;> simp[behindInMarks,e1,e2]
def El (ta:TE):TE:=λσ H Q=>ta σ H λx H1=>Q (.bl (decide (x=.non))) H1
def CB (ta:TE):TE:=λσ H Q=>ta σ H λx H1=>Q (.bl (!decide (x=.non))) H1
theorem RelV.none_iff {x:V}{v:Value}(r:RelV x v):(v == Value.none)=decide (x=.non):=by
 cases x with
 |non=>cases r;rfl
 |bl _=>cases r;rfl
 |int _=>obtain⟨t,rfl⟩:=r;rfl
 |str _=>obtain⟨t,rfl⟩:=r;rfl
 |byt _=>obtain⟨t,rfl⟩:=r;rfl
 |flt _=>obtain⟨t,rfl⟩:=r;rfl
 |ref _=>cases r;rfl
 |ty _=>cases r;rfl
def Bo {j pos'}(ha:PE X a ta):PC X .Is a (.Constant .none j pos') (El ta):=by
 intro pins s σ H Q I h
 refine b7 (ha pins s σ H _ I h) λv s1 ⟨x,H1,I1,r1,q1⟩=>?_
 exact Constant_none (is_none_gen ⟨.bl _,H1,I1,by rw[r1.none_iff];rfl,q1⟩)
def yH {j pos'}(ha:PE X a ta):PC X .IsNot a (.Constant .none j pos') (CB ta):=by
 intro pins s σ H Q I h
 refine b7 (ha pins s σ H _ I h) λv s1 ⟨x,H1,I1,r1,q1⟩=>?_
 exact Constant_none (isnot_none_gen ⟨.bl _,H1,I1,by rw[r1.none_iff];rfl,q1⟩)
def tB (t:TE):TT:=λσ H Q=>t σ H λx H1=>∃c,x=.bl c/\Q c H1
def BB {op:CmpOp}{t:TE}(h:PC X op a b t)(h1:behindInMarks op b=false:=by first |exact p0 _ (by decide) (by decide) |rfl):PE X (.Compare a [op] [b] pos) t:=λpins s σ H Q I hw=>wpAny_Compare1 (h pins s σ H Q I hw) h1
def Ai {op:CmpOp}{t:TE}(h:PC X op a b t)(h1:behindInMarks op b=false:=by first |exact p0 _ (by decide) (by decide) |rfl):PT X (.Compare a [op] [b] pos) (tB t):=by
 intro pins s σ H Q I hw
 refine wpAny_isTrue_Compare1 (b7 (h pins s σ H _ I hw) λv s1 h1=>b7 h1 λu s2 h2=>b7 h2 λc s3 ⟨x,H1,I1,r1,q1⟩=>?_) h1
 obtain⟨d,rfl,q⟩:=q1
 cases r1
 exact GY ⟨H1,I1,q⟩
def sf {e:Expr}{t:TE}(h:PE X e t)(he:∀whole,isTrue e X.env whole=(do let v <-whole;standAt e.pos;holding [v] (truthy v)):=by intro _;rfl):PT X e (tB t):=by
 intro pins s σ H Q I hw
 refine isTrue_plain (b7 (h pins s σ H _ I hw) λv s1 ⟨x,H1,I1,r1,q1⟩=>?_) (he _)
 obtain⟨d,rfl,q⟩:=q1
 cases r1
 exact GY ⟨H1,I1,q⟩
variable {tA tB':TT}{rest:List Expr}
def Fg (t u:TT):TT:=λσ H Q=>t σ H λc H1=>if c=true then u σ H1 Q else Q false H1
def FC (t u:TT):TT:=λσ H Q=>t σ H λc H1=>if c=true then Q true H1 else u σ H1 Q
def Fb (t:TT):TT:=λσ H Q=>t σ H λc H1=>Q (!c) H1
theorem tV (ha:PT X a tA):PW X (.BoolOp .And [a] pos) tA:=by
 intro wh pins s σ H Q I h
 refine isTrue_and (b7 (ha pins s σ H Q I h) λc s1 e=>?_)
 cases c with
 |true=>exact isTrue_and_nil e
 |false=>exact e
theorem An (ha:PT X a tA):PW X (.BoolOp .Or [a] pos) tA:=by
 intro wh pins s σ H Q I h
 refine isTrue_or (b7 (ha pins s σ H Q I h) λc s1 e=>?_)
 cases c with
 |false=>exact isTrue_or_nil e
 |true=>exact e
theorem xA (ha:PT X a tA)(hb:PW X (.BoolOp .And (b :: rest) pos) tB'):PW X (.BoolOp .And (a :: b :: rest) pos) (Fg tA tB'):=by
 intro wh pins s σ H Q I h
 refine isTrue_and (b7 (ha pins s σ H _ I h) λc s1 ⟨H1,I1,q1⟩=>?_)
 cases c with
 |true=>exact hb wh pins s1 σ H1 Q I1 q1
 |false=>exact⟨H1,I1,q1⟩
theorem Du (ha:PT X a tA)(hb:PW X (.BoolOp .Or (b :: rest) pos) tB'):PW X (.BoolOp .Or (a :: b :: rest) pos) (FC tA tB'):=by
 intro wh pins s σ H Q I h
 refine isTrue_or (b7 (ha pins s σ H _ I h) λc s1 ⟨H1,I1,q1⟩=>?_)
 cases c with
 |true=>exact⟨H1,I1,q1⟩
 |false=>exact hb wh pins s1 σ H1 Q I1 q1
def Bp (ha:PT X a tA):PT X (.UnaryOp .Not a pos) (Fb tA):=by
 intro pins s σ H Q I h
 exact isTrue_not (ha pins s σ H (λc H1=>Q (!c) H1) I h)
def DB (ta tb:TE):TE:=λσ H Q=>ta σ H λx H1=>∃c,x=.bl c/\if c=true then tb σ H1 Q else Q (.bl false) H1
def Eu (ta tb:TE):TE:=λσ H Q=>ta σ H λx H1=>∃c,x=.bl c/\if c=true then Q (.bl true) H1 else tb σ H1 Q
def C0 (ta:TE):TE:=λσ H Q=>ta σ H λx H1=>∃c,x=.bl c/\Q (.bl (!c)) H1
def BW {op}{t:TE}(h:PE X a t):PE X (.BoolOp op [a] pos) t:=λpins s σ H Q I hw=>BoolOp_one (h pins s σ H Q I hw)
theorem AL (ha:PE X a ta)(hb:PE X (.BoolOp .And (b :: rest) pos) tb):PE X (.BoolOp .And (a :: b :: rest) pos) (DB ta tb):=by
 intro pins s σ H Q I h
 refine BoolOp_and (b7 (ha pins s σ H _ I h) λv s1 ⟨x,H1,I1,r1,q1⟩=>?_)
 obtain⟨c,rfl,q1⟩:=q1
 cases r1
 refine GY ?_
 cases c with
 |true=>exact hb pins s1 σ H1 Q I1 q1
 |false=>exact⟨.bl false,H1,I1,rfl,q1⟩
theorem CL (ha:PE X a ta)(hb:PE X (.BoolOp .Or (b :: rest) pos) tb):PE X (.BoolOp .Or (a :: b :: rest) pos) (Eu ta tb):=by
 intro pins s σ H Q I h
 refine BoolOp_or (b7 (ha pins s σ H _ I h) λv s1 ⟨x,H1,I1,r1,q1⟩=>?_)
 obtain⟨c,rfl,q1⟩:=q1
 cases r1
 refine GY ?_
 cases c with
 |false=>exact hb pins s1 σ H1 Q I1 q1
 |true=>exact⟨.bl true,H1,I1,rfl,q1⟩
def BV (ha:PE X a ta):PE X (.UnaryOp .Not a pos) (C0 ta):=by
 intro pins s σ H Q I h
 refine UnaryOp_ (b7 (ha pins s σ H _ I h) λv s1 ⟨x,H1,I1,r1,q1⟩=>?_)
 obtain⟨c,rfl,q1⟩:=q1
 cases r1
 exact not_of (GY ⟨.bl (!c),H1,I1,rfl,q1⟩)
end
def fZ (K:Frag)(H:Hp)(a:Addr)(xs:List V):Prop:=
 Rd H a (.lst xs)\/
  ∃(o:Obj) (its:Array Value) (n:Nat),K.lookup a=some o/\o.cls=.type "list"/\o.dict=none/\o.data=.seq its n/\its.size<=sizeLine/\Vals xs its.toList
def cP (K:Frag)(H:Hp)(a:Addr)(xs:List V):Prop:=
 Rd H a (.tup xs)\/
  ∃(o:Obj) (its:Array Value) (n:Nat),K.lookup a=some o/\o.cls=.type "tuple"/\o.data=.seq its n/\its.size<=sizeLine/\Vals xs its.toList/\o.dict=none
def Ey:Value->Option V
 | .none=>some .non
 | .bool b=>some (.bl b)
 | .int i _=>some (.int i)
 | .str x _=>some (.str x)
 | .bytes b _=>some (.byt b)
 | .float b _=>some (.flt b)
 | .ref a=>some (.ref a)
 | .type n=>some (.ty n)
 |_=>none
theorem RelV.abs {x:V}{u:Value}(r:RelV x u):Ey u=some x:=by
 cases x with
 |non=>cases r;rfl
 |bl _=>cases r;rfl
 |int _=>obtain⟨t,rfl⟩:=r;rfl
 |str _=>obtain⟨t,rfl⟩:=r;rfl
 |byt _=>obtain⟨t,rfl⟩:=r;rfl
 |flt _=>obtain⟨t,rfl⟩:=r;rfl
 |ref _=>cases r;rfl
 |ty _=>cases r;rfl
def RelV.inj {x y:V}{u:Value}(r:RelV x u)(q:RelV y u):x=y:=Option.some.inj (r.abs.symm.trans q.abs)
theorem Vals.inj:∀{xs ys:List V} {us:List Value},Vals xs us->Vals ys us->xs=ys
 |_,_,_,.nil,.nil=>rfl
 |_,_,_,.cons r t,.cons r' t'=>by rw[r.inj r',Vals.inj t t']
section
variable {X:Cx}{pins:List (Addr×Obj)}{σ:St}{H:Hp}{s:Shared}{a:Addr}{xs ys:List V}
def fZ.of {K:Frag}(h:H a=some (.lst xs)):fZ K H a xs:=.inl (.inl h)
def cP.of {K:Frag}(h:H a=some (.tup xs)):cP K H a xs:=.inl (.inl h)
def Inv.list (I:Inv X pins σ H s)(h:fZ X.K H a xs):∃its:List Value,Vals xs its/\PlainL s.heap a its.toArray/\xs.length<=sizeLine:=by
 rcases h with h | ⟨o,its,n,hk,hc,hd,hs,hz,r⟩
 ·obtain⟨z,its,n,r,e⟩:=h.ok I.hok
  exact⟨its,r,⟨_,n,e,rfl,rfl,rfl⟩,z⟩
 ·refine⟨its.toList,r,⟨o,n,I.kIn a o hk,hc,hd,by simpa using hs⟩,?_⟩
  have e:=r.length
  simp only[Iv] at e
  omega
def Inv.tuple (I:Inv X pins σ H s)(h:cP X.K H a xs):∃its:List Value,Vals xs its/\IsTup s.heap a its.toArray/\xs.length<=sizeLine:=by
 rcases h with h | ⟨o,its,n,hk,hc,hs,hz,r,_⟩
 ·obtain⟨z,its,r,p⟩:=h.ok I.hok
  exact⟨its,r,p.isTup,z⟩
 ·refine⟨its.toList,r,⟨o,I.kIn a o hk,hc,n,by simpa using hs⟩,?_⟩
  have e:=r.length
  simp only[Iv] at e
  omega
def Inv.list_inj (I:Inv X pins σ H s)(h:fZ X.K H a xs)(h':fZ X.K H a ys):xs=ys:=by
 obtain⟨its,r,⟨o,n,e,_,_,d⟩,_⟩:=I.list h
 obtain⟨its',r',⟨o',n',e',_,_,d'⟩,_⟩:=I.list h'
 rw[e] at e';cases e'
 rw[d] at d'
 injection d' with d1 _
 have:its=its':=by simpa using congrArg Array.toList d1
 subst this
 exact r.inj r'
def Inv.tuple_inj (I:Inv X pins σ H s)(h:cP X.K H a xs)(h':cP X.K H a ys):xs=ys:=by
 obtain⟨its,r,⟨o,e,_,n,d⟩,_⟩:=I.tuple h
 obtain⟨its',r',⟨o',e',_,n',d'⟩,_⟩:=I.tuple h'
 rw[e] at e';cases e'
 rw[d] at d'
 injection d' with d1 _
 have:its=its':=by simpa using congrArg Array.toList d1
 subst this
 exact r.inj r'
end
abbrev Cx.wish (X:Cx)(E:Value->Shared->Prop):Cx:={X with xe:=E}
abbrev Cx.nox (X:Cx):Cx:=X.wish λ_ _=>False
def Cx.Ok.wish {X:Cx}(ok:X.Ok)(E:Value->Shared->Prop):(X.wish E).Ok:=
 ⟨ok.mod,ok.kind,ok.glob,ok.blt,ok.above,ok.inj,ok.has,ok.cab,ok.hd,ok.frames,ok.stk,ok.exf,ok.bs,ok.bsz,ok.noex,ok.exfs,ok.funs,ok.frf⟩
def Cx.Ok.unwish {X:Cx}{E:Value->Shared->Prop}(ok:(X.wish E).Ok):X.Ok:=
 ⟨ok.mod,ok.kind,ok.glob,ok.blt,ok.above,ok.inj,ok.has,ok.cab,ok.hd,ok.frames,ok.stk,ok.exf,ok.bs,ok.bsz,ok.noex,ok.exfs,ok.funs,ok.frf⟩
section
variable {X:Cx}{pins:List (Addr×Obj)}{σ:St}{H:Hp}{s:Shared}{E:Value->Shared->Prop}
def Inv.wish (I:Inv X pins σ H s)(E:Value->Shared->Prop):Inv (X.wish E) pins σ H s:=⟨I.ok.wish E,I.os,I.bare,I.base,I.loc,I.cell,I.free,I.freeC,I.pin,I.hok,I.len⟩
def Inv.unwish (I:Inv (X.wish E) pins σ H s):Inv X pins σ H s:=⟨I.ok.unwish,I.os,I.bare,I.base,I.loc,I.cell,I.free,I.freeC,I.pin,I.hok,I.len⟩
theorem SP.unwish {D:Ends}{f:Flow}{s':Shared}(h:SP (X.wish E) pins D f s'):SP X pins D f s':=by
 cases f with
 |next=>obtain⟨σ',H',I,q⟩:=h;exact⟨σ',H',I.unwish,q⟩
 |brk=>obtain⟨σ',H',I,q⟩:=h;exact⟨σ',H',I.unwish,q⟩
 |cont=>obtain⟨σ',H',I,q⟩:=h;exact⟨σ',H',I.unwish,q⟩
 |ret u=>obtain⟨v,σ',H',I,r,q⟩:=h;exact⟨v,σ',H',I.unwish,r,q⟩
def n5.nox {st:List Stmt}{t:TS}(h:n5 X.nox st t):n5 X st t:=λpins s σ H D I hw=>
 Ho (h pins s σ H D (I.wish _) hw) (λ_ _ q=>q.unwish) λ_ _ z=>False.elim z
end
section
variable {X:Cx}{st:Stmt}{rest:List Stmt}{t u:TS}{e:Expr}{te:TE}{pos:Pos}
def Cz:TS:=λD σ H=>D.nx σ H
def EZ (t u:TS):TS:=λD σ H=>t {D with nx:=u D} σ H
def tI:n5 X [] Cz:=λ_ _ σ H _ I h=>wpAny_execs_nil ⟨σ,H,I,h⟩
theorem fB (h1:PS X st t)(h2:n5 X rest u):n5 X (st :: rest) (EZ t u):=by
 intro pins s σ H D I h
 refine wpAny_execs_cons (b7 (h1 pins s σ H {D with nx:=u D} I h) λf s1 q=>?_)
 cases f with
 |next=>
  obtain⟨σ',H',I',q⟩:=q
  exact h2 pins s1 σ' H' D I' q
 |ret v=>exact q
 |brk=>exact q
 |cont=>exact q
theorem fJ (h1:PS X st t):n5 X [st] t:=by
 intro pins s σ H D I h
 refine wpAny_execs_cons (b7 (h1 pins s σ H D I h) λf s1 q=>?_)
 cases f with
 |next=>exact wpAny_execs_nil q
 |ret v=>exact q
 |brk=>exact q
 |cont=>exact q
def Inv.quiet {pins:List (Addr×Obj)}{σ:St}{H:Hp}{s:Shared}(I:Inv X pins σ H s):interactive X.env=false:=by simp[interactive,I.ok.kind]
def Cg (te:TE):TS:=λD σ H=>te σ H λ_ H1=>D.nx σ H1
def oC (he:PE X e te)(hs:swapsWith e none pos.line X.env=pure false:=by rfl):PS X (.Expr e pos) (Cg te):=by
 intro pins s σ H D I h
 exact wpAny_Expr_any (b7 (he pins s σ H _ I h) λv s1 ⟨x,H1,I1,r1,q1⟩=>⟨σ,H1,I1,q1⟩) I.quiet hs
def Fe (te:TE):TS:=λD σ H=>te σ H D.rt
def ki (he:PE X e te):PS X (.Return (some e) pos) (Fe te):=by
 intro pins s σ H D I h
 exact wpAny_Return_some (b7 (he pins s σ H _ I h) λv s1 ⟨x,H1,I1,r1,q1⟩=>⟨x,σ,H1,I1,r1,q1⟩)
def ES (c:TT)(t u:TS):TS:=λD σ H=>c σ H λb H1=>if b=true then t D σ H1 else u D σ H1
theorem zF {c:Expr}{a b:List Stmt}{tc:TT}(hc:PT X c tc)(ha:n5 X a t)(hb:n5 X b u):PS X (.If c a b pos) (ES tc t u):=by
 intro pins s σ H D I h
 refine wpAny_If (b7 (hc pins s σ H _ I h) λd s1 ⟨H1,I1,q1⟩=>?_)
 cases d with
 |true=>exact ha pins s1 σ H1 D I1 q1
 |false=>exact hb pins s1 σ H1 D I1 q1
end
abbrev TG:=V->St->Hp->(St->Hp->Prop)->Prop
abbrev Bj:=List V->St->Hp->(St->Hp->Prop)->Prop
def PG (X:Cx)(target:Expr)(t:TG):Prop:=
 ∀(pins:List (Addr×Obj)) (s:Shared) (σ:St) (H:Hp) (v:V) (u:Value) (Q:St->Hp->Prop),Inv X pins σ H s->RelV v u->t v σ H Q->
  wpAny (model X.prog X.w) X.A (assign target X.env u) (λ_ s'=>∃σ' H',Inv X pins σ' H' s'/\Q σ' H') X.xe s
def DZ (X:Cx)(ts:List Expr)(t:Bj):Prop:=
 ∀(pins:List (Addr×Obj)) (s:Shared) (σ:St) (H:Hp) (vs:List V) (us:List Value) (Q:St->Hp->Prop),Inv X pins σ H s->Vals vs us->t vs σ H Q->
  wpAny (model X.prog X.w) X.A (assignInOrder ((assignEach ts X.env).map (·.2)) us) (λ_ s'=>∃σ' H',Inv X pins σ' H' s'/\Q σ' H') X.xe s
abbrev AQ:=V->V->V->Hp->(Hp->Prop)->Prop
def l6 (X:Cx)(t:AQ):Prop:=
 ∀(pins:List (Addr×Obj)) (s:Shared) (σ:St) (H:Hp) (o i v:V) (ov iv u:Value) (Q:Hp->Prop),Inv X pins σ H s->RelV o ov->RelV i iv->RelV v u->t o i v H Q->
  wpAny (model X.prog X.w) X.A (setItem ov iv u) (λ_ s'=>∃H',Inv X pins σ H' s'/\Q H') X.xe s
section
variable {X:Cx}{pos:Pos}
def jc (i:Nat):TG:=λv σ H Q=>Q (σ.set i (some v)) H
def cx {i:Nat}{x:Str}(hN:X.N.Nodup)(hi:X.N[i]? =some x)(hx:Loc X.env.scope x)(hf:X.fn x=true\/X.env.scope.names.lookup x=some .local:=by first |exact .inl rfl |exact .inr rfl |assumption):PG X (.Name x pos) (jc i):=by
 intro pins s σ H v u Q I r h
 exact wpAny_assign_Name (pO I hN hi hx r (λs' I'=>⟨_,H,I',h⟩) hf)
def zv:Bj:=λvs σ H Q=>vs= []/\Q σ H
def lJ (t:TG)(u:Bj):Bj:=λvs σ H Q=>∃v r,vs=v :: r/\t v σ H λσ' H'=>u r σ' H' Q
def jF:DZ X [] zv:=by
 intro pins s σ H vs us Q I r h
 obtain⟨e,h⟩:=h
 subst e
 cases r
 exact assignInOrder_nil ⟨σ,H,I,h⟩
theorem cQ {e:Expr}{es:List Expr}{t:TG}{u:Bj}(h1:PG X e t)(h2:DZ X es u)
  (hs:(assignEach (e :: es) X.env).map (·.2)=assign e X.env :: (assignEach es X.env).map (·.2):=by rfl):DZ X (e :: es) (lJ t u):=by
 intro pins s σ H vs us Q I r h
 obtain⟨v,vr,e1,h⟩:=h
 subst e1
 cases r with
 |cons r rr=>
  rw[hs]
  refine assignInOrder_cons (b7 (h1 pins s σ H _ _ _ I r h) λ_ s1 ⟨σ1,H1,I1,q1⟩=>?_)
  exact h2 pins s1 σ1 H1 _ _ Q I1 rr q1
def zw (K:Frag)(n:Nat)(t:Bj):TG:=λv σ H Q=>∃a xs,v=.ref a/\cP K H a xs/\xs.length=n/\t xs σ H Q
def mz {es:List Expr}{k:Nat}{t:Bj}{n:Nat}(hc:X.calm=true)(h:DZ X es t)
  (hn:(assignEach es X.env).length=n:=by rfl) (hst:(assignEach es X.env).findIdx? (·.1)=none:=by rfl):PG X (.Tuple es k pos) (zw X.K n t):=by
 intro pins s σ H v u Q I r hw
 obtain⟨a,xs,e1,hq,hl,hw⟩:=hw
 subst e1
 cases r
 obtain⟨its,rv,ht,hz⟩:=I.tuple hq
 refine assign_Tuple_tuple (I.ok.hd hc) ht (by simp[hn,<-hl,rv.length]) hst λh' hx=>?_
 have I1:Inv X pins σ H {s with heap:=h'}:=I.kept (t':=s.toks) λb o e=>hx b o (Gx (Ga e)) e
 exact h pins _ σ H xs _ Q I1 (by simpa using rv) hw
def EV (to ti:TE)(t:AQ):TG:=λv σ H Q=>to σ H λo H1=>ti σ H1 λi H2=>t o i v H2 λH3=>Q σ H3
def rH {o i:Expr}{to ti:TE}{t:AQ}(ho:PE X o to)(hi:PE X i ti)(hs:l6 X t)
  (ha:∀v,assign (.Subscript o i pos) X.env v=(do
   let ov <-holding [v] (eval o X.env)
   let iv <-holding [v,ov] (eval i X.env)
   standAt pos
   holding [v,ov,iv] (setItem ov iv v)
   release [v,ov,iv] []):=by intro _;rfl):PG X (.Subscript o i pos) (EV to ti t):=by
 intro pins s σ H v u Q I r h
 rw[ha]
 refine FQ (Hq (b7 (ho pins s σ H _ I h) λov s1 ⟨x,H1,I1,r1,q1⟩=>?_))
 refine FQ (Hq (b7 (hi pins s1 σ H1 _ I1 q1) λiv s2 ⟨y,H2,I2,r2,q2⟩=>?_))
 refine FQ (wpAny_standAt (FQ (Hq (b7 (hs pins s2 σ H2 x y v ov iv u _ I2 r1 r2 r q2) λ_ s3 ⟨H3,I3,q3⟩=>?_))))
 exact wpAny_release ⟨σ,H3,I3,q3⟩
def DE (te:TE)(g:TG):TS:=λD σ H=>te σ H λx H1=>g x σ H1 D.nx
def lq {tg e:Expr}{te:TE}{g:TG}(he:PE X e te)(hg:PG X tg g)(hs:swapsWithSole [tg] e pos.line X.env=pure false:=by rfl)(hw:swappedStores [tg] e X.env=pure none:=by rfl)
  (h1:(assignEach [tg] X.env).map (·.2)= [assign tg X.env]:=by rfl):PS X (.Assign [tg] e pos) (DE te g):=by
 intro pins s σ H D I h
 refine wpAny_Assign_stores (b7 (he pins s σ H _ I h) λv s1 ⟨x,H1,I1,r1,q1⟩=>?_) hs hw
 rw[h1]
 exact b7 (hg pins s1 σ H1 x v _ I1 r1 q1) λ_ s2 q=>q
def nQ {i:Nat}{x:Str}{e:Expr}{te:TE}{pos':Pos}(hN:X.N.Nodup)(hi:X.N[i]? =some x)(hx:Loc X.env.scope x)(he:PE X e te)(hs:swapsWith e (some (.Name x pos')) pos.line X.env=pure false:=by rfl)(hf:X.fn x=true\/X.env.scope.names.lookup x=some .local:=by first |exact .inl rfl |exact .inr rfl |assumption) :
  PS X (.Assign [.Name x pos'] e pos) (DE te (jc i)):=by
 intro pins s σ H D I h
 refine wpAny_Assign_Name (b7 (he pins s σ H _ I h) λv s1 ⟨y,H1,I1,r1,q1⟩=>?_) hs
 exact pO I1 hN hi hx r1 (λs2 I2=>⟨_,H1,I2,q1⟩) hf
end
structure It where
 go:Nat->Hp->Prop
 yld:Nat->Hp->V->Hp->Prop
 stop:Nat->Hp->Prop
def kA (X:Cx)(pins:List (Addr×Obj))(H:Hp)(b:Addr):Prop:=
 H b=none/\b≠X.env.locals/\b∉X.fs/\(b∈X.ex\/X.s₀.heap.objs.size<=b)/\(∀x c,X.env.cells.lookup x=some c->c≠b)/\∀p∈X.pn ++ pins,p.1≠b
def Inv.fpOk {X:Cx}{pins:List (Addr×Obj)}{σ:St}{H H':Hp}{s:Shared}{b:Addr}(I:Inv X pins σ H s)(hb:s.heap.objs.size<=b)(hn:H' b=none):kA X pins H' b:=by
 refine⟨hn,IA (Gu I.lt hb),I.nofs hb,.inr (Hn I.sz hb),λx c e z=>?_,λp hp z=>?_⟩
 ·obtain⟨v,q⟩:=I.cell x c e
  exact absurd (Gu q.lt (by rw[z];exact hb)) (GH _)
 ·exact absurd (Gu (Ga (I.pin p hp).1) (by rw[z];exact hb)) (GH _)
structure Turn (P:Program)(w:World)(K:Frag)(tg:Expr)(J:It)(fp:List Addr)(it:Addr)(tn:Nat->Heap->Prop):Prop where
 mem:it∈fp
 obj:∀i h,tn i h->∀b∈fp,∃o,h.get? b=some o/\∀v,o.data≠.cell v
 keep:∀i h h',tn i h->(∀b∈fp,∀o,h.get? b=some o->h'.get? b=some o)->tn i h'
 item:∀(X:Cx),X.prog=P->X.w=w->X.K=K->X.calm=true->∀(i:Nat) (pins:List (Addr×Obj)) (s:Shared) (σ:St) (H:Hp) (E:Value->Shared->Prop),Inv X pins σ H s->(∀b∈fp,kA X pins H b)->tn i s.heap->J.go i H->
  wpAny (model P w) X.A (pyNext (.ref it)) (λr s1=>∃u,r=some u/\
   wpAny (model P w) X.A (letOwnedTupleGo tg (.ref it) u) (λ_ s2=>∃x H',Inv X pins σ H' s2/\RelV x u/\J.yld i H x H'/\tn (i + 1) s2.heap/\∀b∈fp,H' b=none) E s1) E s
 done:∀(X:Cx),X.prog=P->X.w=w->X.K=K->X.calm=true->∀(i:Nat) (pins:List (Addr×Obj)) (s:Shared) (σ:St) (H:Hp) (E:Value->Shared->Prop),Inv X pins σ H s->(∀b∈fp,kA X pins H b)->tn i s.heap->J.stop i H->
  wpAny (model P w) X.A (pyNext (.ref it)) (λr s1=>r=none/\Inv X pins σ H s1) E s
 self:∀(A:Around) (i:Nat) (s:Shared) (Q:Value->Shared->Prop) (E:Value->Shared->Prop),tn i s.heap->Q (.ref it) s->wpAny (model P w) A (pyIter (.ref it)) Q E s
abbrev TI:=St->Hp->(It->Hp->Prop)->Prop
def Fv (X:Cx)(pins:List (Addr×Obj))(σ:St)(tg:Expr)(R:It->Hp->Prop)(itv:Value)(s2:Shared):Prop:=
 ∃(it:Addr) (fp:List Addr) (tn:Nat->Heap->Prop) (J:It) (H':Hp),itv=.ref it/\Inv X pins σ H' s2/\Turn X.prog X.w X.K tg J fp it tn/\tn 0 s2.heap/\(∀b∈fp,kA X pins H' b)/\R J H'
def PI (X:Cx)(tg iter:Expr)(wi:TI):Prop:=
 ∀(pins:List (Addr×Obj)) (s:Shared) (σ:St) (H:Hp) (R:It->Hp->Prop),Inv X pins σ H s->wi σ H R->
  wpAny (model X.prog X.w) X.A (eval iter X.env) (λv s1=>wpAny (model X.prog X.w) X.A (pyIter v) (Fv X pins σ tg R) X.xe s1) X.xe s
def wd {M:Model}{A:Around}{E:Value->Shared->Prop}{s:Shared}{tg:Expr}{it:Addr}{u:Value}{o:Obj}{n:String}{vs:Array Value}{Q:Unit->Shared->Prop}(ho:s.heap.get? it=some o)(hc:o.cls=.type n)(hd:o.data=.fields vs)
  (hn: ["enumerate","zip","dict_itemiterator","dict_reverseitemiterator","odict_iterator","itertools.zip_longest","itertools.pairwise"].contains n=false) (hQ:Q () s):wpAny M A (letOwnedTupleGo tg (.ref it) u) Q E s:=by
 unfold letOwnedTupleGo
 cases tg <;> first
  |exact FW hQ
  | (cases u <;> first
    |exact FW hQ
    | (refine FQ (wpAny_load ho ?_)
       rw[hc,hd]
       show wpAny M A (if (["enumerate","zip","dict_itemiterator","dict_reverseitemiterator","odict_iterator","itertools.zip_longest","itertools.pairwise"].contains n && vs[0]? == some (rawInt _))=true then _ else _) Q E s
       rw[Gd (by intro h;rw[hn,Bool.false_and] at h;cases h)]
       exact FW hQ))
def uq (K:Frag)(a:Addr):It:=
 ⟨λi H=>∃xs x,fZ K H a xs/\xs[i]? =some x,λi H x H'=>H'=H/\∀xs,fZ K H a xs->xs[i]? =some x,λi H=>∃xs,fZ K H a xs/\xs.length<=i⟩
def zK (K:Frag)(a:Addr):It:=
 ⟨λi H=>∃xs x,cP K H a xs/\xs[i]? =some x,λi H x H'=>H'=H/\∀xs,cP K H a xs->xs[i]? =some x,λi H=>∃xs,cP K H a xs/\xs.length<=i⟩
def v9 (lo:Int)(n:Nat):It:=⟨λi _=>i < n,λi H x H'=>H'=H/\x=.int (lo + i),λi _=>n<=i⟩
def km {P:Program}{w:World}{K:Frag}{tg:Expr}(a it:Addr):Turn P w K tg (uq K a) [it] it (λi h=>h.IsListIter it a i) where
 mem:=by simp
 obj:=λi h st b hb=>by
  have e:b=it:=by simpa using hb
  subst e
  obtain⟨o,e,c,d⟩:=st
  exact⟨o,e,λv z=>by rw[d] at z;cases z⟩
 keep:=λi h h' st k=>st.at λo e=>k it (by simp) o e
 item:=by
  intro X hP hw hK hc i pins s σ H E I hf st hg
  subst hP hw hK
  obtain⟨xs,x,hq,hx⟩:=hg
  obtain⟨its,rv,p,hz⟩:=I.list hq
  obtain⟨u,hu,ru⟩:=rv.get hx
  obtain⟨f0,f1,f2,f3,f4,f5⟩:=hf it (by simp)
  refine wpAny_pyNext_list_item st p.isList (x:=u) (by simpa using hu) λh' st' sb=>?_
  have I1:Inv X pins σ H {s with heap:=h'}:=I.turned (t':=s.toks) (λb o hb e=>(sb.2 b hb).trans e) f0 f1 f3 f4 f5
  obtain⟨o,e,c,d⟩:=id st'
  exact⟨u,rfl,wd (s:={s with heap:=h'}) e c d (by decide) ⟨x,H,I1,ru,⟨rfl,λys hy=>by rw[I.list_inj hy hq];exact hx⟩,st',λb hb=>(hf b hb).1⟩⟩
 done:=by
  intro X hP hw hK hc i pins s σ H E I hf st hg
  subst hP hw hK
  obtain⟨xs,hq,hx⟩:=hg
  obtain⟨its,rv,p,hz⟩:=I.list hq
  obtain⟨f0,f1,f2,f3,f4,f5⟩:=hf it (by simp)
  have hl:=rv.length
  exact wpAny_pyNext_list_end (I.ok.hd hc) st p.isList (by simp;omega) λh' eb=>⟨rfl,I.turned (t':=s.toks) (λb o hb e=>eb b o hb e) f0 f1 f3 f4 f5⟩
 self:=λ_ _ _ _ _ st h=>wpAny_pyIter_listiter st h
def lN {P:Program}{w:World}{K:Frag}{tg:Expr}(a it:Addr):Turn P w K tg (zK K a) [it] it (λi h=>h.IsTupleIter it a i) where
 mem:=by simp
 obj:=λi h st b hb=>by
  have e:b=it:=by simpa using hb
  subst e
  obtain⟨o,e,c,d⟩:=st
  exact⟨o,e,λv z=>by rw[d] at z;cases z⟩
 keep:=λi h h' st k=>st.at λo e=>k it (by simp) o e
 item:=by
  intro X hP hw hK hc i pins s σ H E I hf st hg
  subst hP hw hK
  obtain⟨xs,x,hq,hx⟩:=hg
  obtain⟨its,rv,p,hz⟩:=I.tuple hq
  obtain⟨u,hu,ru⟩:=rv.get hx
  obtain⟨f0,f1,f2,f3,f4,f5⟩:=hf it (by simp)
  refine wpAny_pyNext_tuple_item st (show s.heap.IsTuple a its.toArray from p) (x:=u) (by simpa using hu) λh' st' sb=>?_
  have I1:Inv X pins σ H {s with heap:=h'}:=I.turned (t':=s.toks) (λb o hb e=>(sb.2 b hb).trans e) f0 f1 f3 f4 f5
  obtain⟨o,e,c,d⟩:=id st'
  exact⟨u,rfl,wd (s:={s with heap:=h'}) e c d (by decide) ⟨x,H,I1,ru,⟨rfl,λys hy=>by rw[I.tuple_inj hy hq];exact hx⟩,st',λb hb=>(hf b hb).1⟩⟩
 done:=by
  intro X hP hw hK hc i pins s σ H E I hf st hg
  subst hP hw hK
  obtain⟨xs,hq,hx⟩:=hg
  obtain⟨its,rv,p,hz⟩:=I.tuple hq
  obtain⟨f0,f1,f2,f3,f4,f5⟩:=hf it (by simp)
  have hl:=rv.length
  exact wpAny_pyNext_tuple_end (I.ok.hd hc) st (show s.heap.IsTuple a its.toArray from p) (by simp;omega) λh' eb=>⟨rfl,I.turned (t':=s.toks) (λb o hb e=>eb b o hb e) f0 f1 f3 f4 f5⟩
 self:=λ_ _ _ _ _ st h=>wpAny_pyIter_tupleiter st h
def qZ {P:Program}{w:World}{K:Frag}{tg:Expr}(it:Addr)(lo:Int)(n:Nat):Turn P w K tg (v9 lo n) [it] it (λi h=>IsRangeIter h it (lo + (i:Nat) * 1) ((n:Int) - (i:Nat)) 1) where
 mem:=by simp
 obj:=λi h st b hb=>by
  have e:b=it:=by simpa using hb
  subst e
  exact⟨_,st,λv z=>by
   have z':Data.fields _=Data.cell v:=z
   cases z'⟩
 keep:=λi h h' st k=>k it (by simp) _ st
 item:=by
  intro X hP hw hK hc i pins s σ H E I hf st hg
  subst hP hw hK
  obtain⟨f0,f1,f2,f3,f4,f5⟩:=hf it (by simp)
  have W:=Walks.range (prog:=X.prog) (w:=X.w) (I.ok.hd hc) it lo 1 n
  refine W.item i s _ _ hg st λv h' tk hv st' kk=>?_
  obtain⟨t,rfl⟩:=hv
  have I1:Inv X pins σ H {s with heap:=h',toks:=tk}:=I.turned (λb o hb e=>kk b o (by simpa using hb) e) f0 f1 f3 f4 f5
  refine⟨_,rfl,wd (s:={s with heap:=h',toks:=tk}) (n:="range_iterator") st' rfl rfl (by decide) ⟨.int (lo + i),H,I1,⟨t,?_⟩,⟨rfl,rfl⟩,st',λb hb=>(hf b hb).1⟩⟩
  rw[Int.mul_one]
 done:=by
  intro X hP hw hK hc i pins s σ H E I hf st hg
  subst hP hw hK
  obtain⟨f0,f1,f2,f3,f4,f5⟩:=hf it (by simp)
  exact wpAny_pyNext_range_end (I.ok.hd hc) st (by have:n<=i:=hg;omega) λh' eb=>⟨rfl,I.turned (t':=s.toks) (λb o hb e=>eb b o hb e) f0 f1 f3 f4 f5⟩
 self:=λ_ _ _ _ _ st h=>wpAny_pyIter_rangeiter st h
section
variable {X:Cx}{tg:Expr}
def CS (K:Frag)(tl:TE):TI:=λσ H R=>tl σ H λx H1=>∃a,x=.ref a/\(∃xs,fZ K H1 a xs)/\R (uq K a) H1
def sJ {l:Expr}{tl:TE}(hl:PE X l tl):PI X tg l (CS X.K tl):=by
 intro pins s σ H R I h
 refine b7 (hl pins s σ H _ I h) λv s1 ⟨x,H1,I1,r1,q1⟩=>?_
 obtain⟨a,e,⟨xs,hq⟩,q⟩:=q1
 subst e
 cases r1
 obtain⟨its,rv,p,hz⟩:=I1.list hq
 refine Ij p.isList ?_
 refine⟨s1.heap.objs.size,[s1.heap.objs.size],_,_,H1,rfl,I1.kept (t':=s1.toks) λb o e=>FT _ e,km a _,⟨_,Gb _ rfl,rfl,rfl⟩,λb hb=>?_,q⟩
 have e:b=s1.heap.objs.size:=by simpa using hb
 subst e
 exact I1.fpOk (FX _) (I1.hok.fresh (FX _))
def xo {pins:List (Addr×Obj)}{σ:St}{H:Hp}{s:Shared}{R:It->Hp->Prop}{E:Value->Shared->Prop}{lo hi:Int}{t u v:Tok}{tk:Nat}(I:Inv X pins σ H s)(h1: -(2 ^ 62)<=lo)(h2:lo < 2 ^ 62)(h3: -(2 ^ 62)<=hi)(h4:hi < 2 ^ 62)
  (q:R (v9 lo (hi - lo).toNat) H):wpAny (model X.prog X.w) X.A (pyIter (.ref s.heap.objs.size)) (Fv X pins σ tg R) E {s with heap:=s.heap.push {cls:=.type "range",data:=.fields #[.int lo t,.int hi u,.int 1 v]},toks:=tk}:=by
 refine wpAny_pyIter_range (IsRange.new ..) (small_one h1 h2 h3 h4) ?_
 have I1:Inv X pins σ H {s with heap:=s.heap.push {cls:=.type "range",data:=.fields #[.int lo t,.int hi u,.int 1 v]},toks:=tk}:=I.kept λb o e=>FT _ e
 refine⟨(s.heap.push {cls:=.type "range",data:=.fields #[.int lo t,.int hi u,.int 1 v]}).objs.size,[(s.heap.push {cls:=.type "range",data:=.fields #[.int lo t,.int hi u,.int 1 v]}).objs.size],_,_,H,rfl,
  I1.kept (t':=tk) λb o e=>FT _ e,qZ _ lo (hi - lo).toNat,?_,λb hb=>?_,q⟩
 ·have e1:lo + ((0:Nat):Int) * 1=lo:=by simp
  have e2:(((hi - lo).toNat:Nat):Int) - ((0:Nat):Int)=Builtin.Range.rangeSize lo hi 1:=by rw[rangeSize_one];split <;> omega
  show IsRangeIter _ _ (lo + ((0:Nat):Int) * 1) ((((hi - lo).toNat:Nat):Int) - ((0:Nat):Int)) 1
  rw[e1,e2]
  exact Gb _ rfl
 ·have e:b=(s.heap.push {cls:=.type "range",data:=.fields #[.int lo t,.int hi u,.int 1 v]}).objs.size:=by simpa using hb
  subst e
  exact I1.fpOk (FX _) (I1.hok.fresh (FX _))
def Dp (ta:TA):TI:=λσ H R=>ta σ H λvs H1=>∃j:Int,vs= [.int j]/\ -(2 ^ 62)<=j/\j < 2 ^ 62/\R (v9 0 j.toNat) H1
theorem i6 {a:Expr}{ta:TA}{p pos:Pos}(hg:Gl X "range")(hm:X.mg "range"=none)(ha:PA X [a] ta)(hs:starEach [a] X.env= [(false,eval a X.env)]:=by rfl):PI X tg (.Call (.Name "range" p) [a] [] pos) (Dp ta):=by
 intro pins s σ H R I h
 refine Call_ (kc I hg hm boot_range (HG (b7 (ha pos pins s σ H _ I h) λus s1 ⟨vs,H1,I1,r1,q1⟩=>?_) hs rfl))
 obtain⟨j,e,q1,q2,q⟩:=q1
 subst e
 cases r1 with
 |cons r rr=>
  cases rr
  obtain⟨t,rfl⟩:=r
  exact call_range_1 (xo I1 (by omega) (by omega) q1 q2 (by simpa using q))
def EG (wi:TI)(g:TG)(tb:TS):TS:=λD σ H=>wi σ H λJ H1=>∃W:Nat->Nat->St->Hp->Prop,(∃m,W 0 m σ H1)/\∀i m σ H,W i m σ H->
 (J.stop i H/\D.nx σ H)\/(J.go i H/\∃N:St->Hp->Prop,(∀σ' H',N σ' H'->∃m',m' < m/\W (i + 1) m' σ' H')/\∀x H',J.yld i H x H'->g x σ H' λσ2 H2=>tb {D with nx:=N,ct:=N,bk:=D.nx} σ2 H2)
def lh (fp:List Addr)(h:Heap):List (Addr×Obj):=fp.filterMap λb=>(h.get? b).map λo=>(b,o)
def gQ {fp:List Addr}{h:Heap}{b:Addr}{o:Obj}(hb:b∈fp)(e:h.get? b=some o):(b,o)∈lh fp h:=Hs.mpr ⟨b,hb,by rw[e];rfl⟩
theorem uB {fp:List Addr}{h:Heap}{p:Addr×Obj}(hp:p∈lh fp h):p.1∈fp/\h.get? p.1=some p.2:=by
 obtain⟨b,hb,e⟩:=Hs.mp hp
 cases q:h.get? b with
 |none=>rw[q] at e;cases e
 |some o=>
  rw[q] at e
  have e':(b,o)=p:=Option.some.inj e
  subst e'
  exact⟨hb,q⟩
def Inv.pinned {pins:List (Addr×Obj)}{σ:St}{H:Hp}{s:Shared}{fp:List Addr}(I:Inv X pins σ H s)(hf:∀b∈fp,kA X pins H b)(ho:∀b∈fp,∃o,s.heap.get? b=some o/\∀v,o.data≠.cell v):Inv X (pins ++ lh fp s.heap) σ H s:=
 I.pins_of λp hp=>(GB.mp hp).elim (λz=>I.pin p (GD _ z)) λz=>by
  obtain⟨hb,e⟩:=uB z
  obtain⟨f0,f1,f2,_⟩:=hf p.1 hb
  obtain⟨o,e',d⟩:=ho p.1 hb
  rw[e] at e';cases e'
  exact⟨e,f0,f1,f2,d⟩
def Inv.unpinned {pins pl:List (Addr×Obj)}{σ:St}{H:Hp}{s:Shared}(I:Inv X (pins ++ pl) σ H s):Inv X pins σ H s:=I.pins_of λp hp=>I.pin p (GD _ (Hw _ hp))
def nS {iter:Expr}{body:List Stmt}{wi:TI}{g:TG}{tb:TS}{pos:Pos}(hp:PassesOwn (model X.prog X.w) X.A X.env X.xe)(hc:X.calm=true)(hi:PI X tg iter wi)(hg:PG X tg g)(hb:n5 X body tb)
  (hs:∀x,foldedSetIterable iter X.env x=pure x:=by intro _;rfl):PS X (.For tg iter body [] pos) (EG wi g tb):=by
 intro pins s σ H D I h
 refine wpAny_For (b7 (hi pins s σ H _ I h) λv s1 h1=>b7 h1 λitv s2 h2=>?_) hs
 obtain⟨it,fp,tn,J,H2,e,I2,T,st2,f2,W,⟨m0,w0⟩,turn⟩:=h2
 subst e
 have stat:∀{H':Hp},(∀b∈fp,H' b=none)->∀b∈fp,kA X pins H' b:=λhn b hb=>⟨hn b hb,(f2 b hb).2⟩
 refine codeAny_forLoop_any (λn s'=>∃i σ' H',Inv X pins σ' H' s'/\tn i s'.heap/\(∀b∈fp,H' b=none)/\W i n σ' H') ?_ m0 ⟨0,σ,H2,I2,st2,λb hb=>(f2 b hb).1,w0⟩
 rintro n s3 ⟨i,σ3,H3,I3,st3,fr3,w3⟩
 rcases turn i n σ3 H3 w3 with⟨stop,qn⟩ | ⟨go,N,hN,step⟩
 ·refine Iy hp (b7 (T.done X rfl rfl rfl hc i pins s3 σ3 H3 X.xe I3 (stat fr3) st3 stop) λr s4 ⟨hr,I4⟩=>?_)
  subst hr
  exact wpAny_execs_nil ⟨σ3,H3,I4,qn⟩
 ·refine Iy hp (b7 (T.item X rfl rfl rfl hc i pins s3 σ3 H3 X.xe I3 (stat fr3) st3 go) λr s4 ⟨u,hr,h4⟩=>?_)
  subst hr
  refine Iy hp (b7 h4 λ_ s5 ⟨x,H5,I5,r5,y5,st5,fr5⟩=>?_)
  have I5':=I5.pinned (stat fr5) (T.obj _ _ st5)
  refine Iy hp (b7 (hg _ s5 σ3 H5 x u _ I5' r5 (step x H5 y5)) λ_ s6 ⟨σ6,H6,I6,q6⟩=>?_)
  refine Iy hp (b7 (hb _ s6 σ6 H6 _ I6 q6) λf s7 q7=>?_)
  have again:∀{σ7:St} {H7:Hp},Inv X (pins ++ lh fp s5.heap) σ7 H7 s7->N σ7 H7->∃m,m < n/\∃i σ' H',Inv X pins σ' H' s7/\tn i s7.heap/\(∀b∈fp,H' b=none)/\W i m σ' H':=λ{σ7 H7} I7 n7=>by
   obtain⟨m',hm,w7⟩:=hN σ7 H7 n7
   refine⟨m',hm,i + 1,σ7,H7,I7.unpinned,T.keep _ _ _ st5 λb hb o e=>(I7.pin (b,o) (GD _ (GD _ (gQ hb e)))).1,λb hb=>?_,w7⟩
   obtain⟨o,e,d⟩:=T.obj _ _ st5 b hb
   exact (I7.pin (b,o) (GD _ (GD _ (gQ hb e)))).2.1
  cases f with
  |next=>obtain⟨σ7,H7,I7,n7⟩:=q7;exact again I7 n7
  |cont=>obtain⟨σ7,H7,I7,n7⟩:=q7;exact again I7 n7
  |brk=>obtain⟨σ7,H7,I7,q7⟩:=q7;exact⟨σ7,H7,I7.unpinned,q7⟩
  |ret v=>obtain⟨x7,σ7,H7,I7,r7,q7⟩:=q7;exact⟨x7,σ7,H7,I7.unpinned,r7,q7⟩
end
def qR {K:Frag}{a:Addr}{xs:List V}{g:TG}{tb:TS}{D:Ends}{σ:St}{H:Hp}(Pv:Nat->St->Hp->Prop)(h0:Pv 0 σ H)(hl:∀i σ H,i<=xs.length->Pv i σ H->fZ K H a xs)
  (hs:∀i x σ H,xs[i]? =some x->Pv i σ H->g x σ H λσ2 H2=>tb {D with nx:=Pv (i + 1),ct:=Pv (i + 1),bk:=D.nx} σ2 H2) (hd:∀σ H,Pv xs.length σ H->D.nx σ H) :
  ∃W:Nat->Nat->St->Hp->Prop,(∃m,W 0 m σ H)/\∀i m σ H,W i m σ H->
   ((uq K a).stop i H/\D.nx σ H)\/((uq K a).go i H/\∃N:St->Hp->Prop,(∀σ' H',N σ' H'->∃m',m' < m/\W (i + 1) m' σ' H')/\∀x H',(uq K a).yld i H x H'->g x σ H' λσ2 H2=>tb {D with nx:=N,ct:=N,bk:=D.nx} σ2 H2):=by
 refine⟨λi m σ H=>m=xs.length - i/\i<=xs.length/\Pv i σ H,⟨xs.length,by simp,GL _,h0⟩,?_⟩
 rintro i m σ H ⟨rfl,hi,p⟩
 have q:=hl i σ H hi p
 by_cases hlt:i < xs.length
 ·refine .inr ⟨⟨xs,xs[i],q,by simp[hlt]⟩,Pv (i + 1),λσ' H' p'=>⟨xs.length - (i + 1),by omega,rfl,hlt,p'⟩,λx H' y=>?_⟩
  obtain⟨e,y⟩:=y
  subst e
  exact hs i x σ _ (y xs q) p
 ·have e:i=xs.length:=by omega
  subst e
  exact .inl ⟨⟨xs,q,FX _⟩,hd σ H p⟩
def yq {K:Frag}{a:Addr}{xs:List V}{g:TG}{tb:TS}{D:Ends}{σ:St}{H:Hp}(Pv:Nat->St->Hp->Prop)(h0:Pv 0 σ H)(hl:∀i σ H,i<=xs.length->Pv i σ H->cP K H a xs)
  (hs:∀i x σ H,xs[i]? =some x->Pv i σ H->g x σ H λσ2 H2=>tb {D with nx:=Pv (i + 1),ct:=Pv (i + 1),bk:=D.nx} σ2 H2) (hd:∀σ H,Pv xs.length σ H->D.nx σ H) :
  ∃W:Nat->Nat->St->Hp->Prop,(∃m,W 0 m σ H)/\∀i m σ H,W i m σ H->
   ((zK K a).stop i H/\D.nx σ H)\/((zK K a).go i H/\∃N:St->Hp->Prop,(∀σ' H',N σ' H'->∃m',m' < m/\W (i + 1) m' σ' H')/\∀x H',(zK K a).yld i H x H'->g x σ H' λσ2 H2=>tb {D with nx:=N,ct:=N,bk:=D.nx} σ2 H2):=by
 refine⟨λi m σ H=>m=xs.length - i/\i<=xs.length/\Pv i σ H,⟨xs.length,by simp,GL _,h0⟩,?_⟩
 rintro i m σ H ⟨rfl,hi,p⟩
 have q:=hl i σ H hi p
 by_cases hlt:i < xs.length
 ·refine .inr ⟨⟨xs,xs[i],q,by simp[hlt]⟩,Pv (i + 1),λσ' H' p'=>⟨xs.length - (i + 1),by omega,rfl,hlt,p'⟩,λx H' y=>?_⟩
  obtain⟨e,y⟩:=y
  subst e
  exact hs i x σ _ (y xs q) p
 ·have e:i=xs.length:=by omega
  subst e
  exact .inl ⟨⟨xs,q,FX _⟩,hd σ H p⟩
def vf {lo:Int}{n:Nat}{g:TG}{tb:TS}{D:Ends}{σ:St}{H:Hp}(Pv:Nat->St->Hp->Prop)(h0:Pv 0 σ H)
  (hs:∀i σ H,i < n->Pv i σ H->g (.int (lo + i)) σ H λσ2 H2=>tb {D with nx:=Pv (i + 1),ct:=Pv (i + 1),bk:=D.nx} σ2 H2) (hd:∀σ H,Pv n σ H->D.nx σ H) :
  ∃W:Nat->Nat->St->Hp->Prop,(∃m,W 0 m σ H)/\∀i m σ H,W i m σ H->
   ((v9 lo n).stop i H/\D.nx σ H)\/((v9 lo n).go i H/\∃N:St->Hp->Prop,(∀σ' H',N σ' H'->∃m',m' < m/\W (i + 1) m' σ' H')/\∀x H',(v9 lo n).yld i H x H'->g x σ H' λσ2 H2=>tb {D with nx:=N,ct:=N,bk:=D.nx} σ2 H2):=by
 refine⟨λi m σ H=>m=n - i/\i<=n/\Pv i σ H,⟨n,by simp,GL _,h0⟩,?_⟩
 rintro i m σ H ⟨rfl,hi,p⟩
 by_cases hlt:i < n
 ·refine .inr ⟨hlt,Pv (i + 1),λσ' H' p'=>⟨n - (i + 1),by omega,rfl,hlt,p'⟩,λx H' y=>?_⟩
  obtain⟨e,y⟩:=y
  subst e y
  exact hs i σ _ hlt p
 ·have e:i=n:=by omega
  subst e
  exact .inl ⟨FX _,hd σ H p⟩
abbrev R2:=V->V->Hp->VK->Prop
def jh (X:Cx)(f:Value->Value->Sem Value)(r:R2):Prop:=
 ∀(pins:List (Addr×Obj)) (s:Shared) (σ:St) (H:Hp) (x y:V) (v u:Value) (Q:VK),Inv X pins σ H s->RelV x v->RelV y u->r x y H Q->
  wpAny (model X.prog X.w) X.A (f v u) (EP X pins σ Q) X.xe s
def Eg (X:Cx)(f:Value->Sem Value)(r:V->Hp->VK->Prop):Prop:=
 ∀(pins:List (Addr×Obj)) (s:Shared) (σ:St) (H:Hp) (x:V) (v:Value) (Q:VK),Inv X pins σ H s->RelV x v->r x H Q->
  wpAny (model X.prog X.w) X.A (f v) (EP X pins σ Q) X.xe s
def dw (X:Cx)(f:Value)(r:List V->Hp->VK->Prop):Prop:=
 ∀(pins:List (Addr×Obj)) (s:Shared) (σ:St) (H:Hp) (xs:List V) (us:List Value) (Q:VK),Inv X pins σ H s->Vals xs us->r xs H Q->
  wpAny (model X.prog X.w) X.A (call f us) (EP X pins σ Q) X.xe s
def EA (X:Cx)(r:V->Hp->(Bool->Hp->Prop)->Prop):Prop:=
 ∀(pins:List (Addr×Obj)) (s:Shared) (σ:St) (H:Hp) (x:V) (v:Value) (Q:Bool->Hp->Prop),Inv X pins σ H s->RelV x v->r x H Q->
  wpAny (model X.prog X.w) X.A (truthy v) (TP X pins σ Q) X.xe s
def D5 (r:R2)(ta tb:TE):TE:=λσ H Q=>ta σ H λx H1=>tb σ H1 λy H2=>r x y H2 Q
def FO (r:V->Hp->VK->Prop)(ta:TE):TE:=λσ H Q=>ta σ H λx H1=>r x H1 Q
def rI (C:Int->Int->Prop)(g:Int->Int->V):R2:=λx y H Q=>∃i j,x=.int i/\y=.int j/\C i j/\Q (g i j) H
def uT (g:Int->Int->V):R2:=λx y H Q=>∃i j,x=.int i/\y=.int j/\Q (g i j) H
def rU (g:Int->V):V->Hp->VK->Prop:=λx H Q=>∃i,x=.int i/\Q (g i) H
section
variable {X:Cx}{a b c:Expr}{ta tb tc:TE}{pos:Pos}
def AI (ha:PE X a ta)(hb:PE X b tb){pins:List (Addr×Obj)}{s:Shared}{σ:St}{H:Hp}{R:V->V->Hp->Prop}(I:Inv X pins σ H s)
  (h:ta σ H λx H1=>tb σ H1 λy H2=>R x y H2) {Q:Value->Shared->Prop} {f:Value->Value->Sem Value}
  (hf:∀v u s2 x y H2,Inv X pins σ H2 s2->RelV x v->RelV y u->R x y H2->wpAny (model X.prog X.w) X.A (f v u) Q X.xe s2) :
  wpAny (model X.prog X.w) X.A (eval a X.env) (λv s₁=>wpAny (model X.prog X.w) X.A (eval b X.env) (λu s₂=>wpAny (model X.prog X.w) X.A (f v u) Q X.xe s₂) X.xe s₁) X.xe s:=by
 refine b7 (ha pins s σ H _ I h) λv s1 ⟨x,H1,I1,r1,q1⟩=>?_
 refine b7 (hb pins s1 σ H1 _ I1 q1) λu s2 ⟨y,H2,I2,r2,q2⟩=>?_
 exact hf v u s2 x y H2 I2 r1 r2 q2
def pZ {op:Operator}{r:R2}(ho:jh X (binaryOp op) r)(ha:PE X a ta)(hb:PE X b tb):PE X (.BinOp a op b pos) (D5 r ta tb):=by
 intro pins s σ H Q I h
 exact wpAny_BinOp (AI ha hb I h λv u s2 x y H2 I2 rx ry q=>ho pins s2 σ H2 x y v u Q I2 rx ry q)
def CA {op:UnaryOp}{r:V->Hp->VK->Prop}(ho:Eg X (unaryOp op) r)(ha:PE X a ta):PE X (.UnaryOp op a pos) (FO r ta):=by
 intro pins s σ H Q I h
 exact UnaryOp_ (b7 (ha pins s σ H _ I h) λv s1 ⟨x,H1,I1,r1,q1⟩=>ho pins s1 σ H1 x v Q I1 r1 q1)
def Ea {f:Value->Value->Sem Value}{C:Int->Int->Prop}{g:Int->Int->Int}
  (rule:∀(i j:Int) (t u:Tok) (s:Shared) (Q:Value->Shared->Prop) (E:Value->Shared->Prop),C i j->Q (.int (g i j) s.toks) {s with toks:=s.toks + 1}->wpAny (model X.prog X.w) X.A (f (.int i t) (.int j u)) Q E s) :
  jh X f (rI C λi j=>.int (g i j)):=by
 intro pins s σ H x y v u Q I rx ry h
 obtain⟨i,j,rfl,rfl,hc,q⟩:=h
 obtain⟨t,rfl⟩:=rx
 obtain⟨t',rfl⟩:=ry
 exact rule i j t t' s _ _ hc ⟨.int (g i j),H,I.tok _,⟨_,rfl⟩,q⟩
def Ck {f:Value->Value->Sem Value}{g:Int->Int->Int}
  (rule:∀(i j:Int) (t u:Tok) (s:Shared) (Q:Value->Shared->Prop) (E:Value->Shared->Prop),Q (.int (g i j) s.toks) {s with toks:=s.toks + 1}->wpAny (model X.prog X.w) X.A (f (.int i t) (.int j u)) Q E s) :
  jh X f (uT λi j=>.int (g i j)):=by
 intro pins s σ H x y v u Q I rx ry h
 obtain⟨i,j,rfl,rfl,q⟩:=h
 obtain⟨t,rfl⟩:=rx
 obtain⟨t',rfl⟩:=ry
 exact rule i j t t' s _ _ ⟨.int (g i j),H,I.tok _,⟨_,rfl⟩,q⟩
def AV {f:Value->Value->Sem Value}{g:Int->Int->Bool}
  (rule:∀(i j:Int) (t u:Tok) (s:Shared) (Q:Value->Shared->Prop) (E:Value->Shared->Prop),Q (.bool (g i j)) s->wpAny (model X.prog X.w) X.A (f (.int i t) (.int j u)) Q E s) :
  jh X f (uT λi j=>.bl (g i j)):=by
 intro pins s σ H x y v u Q I rx ry h
 obtain⟨i,j,rfl,rfl,q⟩:=h
 obtain⟨t,rfl⟩:=rx
 obtain⟨t',rfl⟩:=ry
 exact rule i j t t' s _ _ ⟨.bl (g i j),H,I,rfl,q⟩
def yJ (i j:Int):Prop:=0 < j/\j < 1073741824
def Ag (i j:Int):Prop:=0<=j/\j<=1000000/\i.natAbs < 2 ^ 64
def xC (i j:Int):Prop:=(-(2 ^ 64) < i/\i < 2 ^ 64)\/(-(2 ^ 64) < j/\j < 2 ^ 64)
def xC.ok {i j:Int}(h:xC i j):IntMulOk i j:=by
 rcases h with⟨h1,h2⟩ | ⟨h1,h2⟩
 ·exact .of_left (intBits_le_64 h1 h2)
 ·exact .of_right (intBits_le_64 h1 h2)
def de:jh X (binaryOp .Add) (uT λi j=>.int (i + j)):=Ck λ_ _ _ _ _ _ _ q=>add_int q
def o7:jh X (binaryOp .Sub) (uT λi j=>.int (i - j)):=Ck λ_ _ _ _ _ _ _ q=>sub_int q
def gi:jh X (binaryOp .Mult) (rI xC λi j=>.int (i * j)):=Ea λ_ _ _ _ _ _ _ hc q=>mul_int q hc.ok
def kY:jh X (binaryOp .FloorDiv) (rI yJ λi j=>.int (i / j)):=Ea λi j _ _ _ _ _ hc q=>by
 have h1:(0:Int) < j:=hc.1
 have h2:j < 1073741824:=hc.2
 exact floordiv_int (by omega) (by rw[Int.fdiv_eq_ediv_of_nonneg i (by omega)];exact q) (.inl (PyProof.noPylong_small (by omega)))
def gY:jh X (binaryOp .Mod) (rI (λ_ j=>0 < j) λi j=>.int (i % j)):=Ea λi j _ _ _ _ _ hc q=>by
 have h1:(0:Int) < j:=hc
 exact mod_int' (by omega) (by rw[Int.fmod_eq_emod_of_nonneg i (by omega)];exact q)
def BH:jh X (binaryOp .Pow) (rI Ag λi j=>.int (i ^ j.toNat)):=Ea λ_ _ _ _ _ _ _ hc q=>pow_int_small hc.1 hc.2.1 hc.2.2 q
def FJ {f:Value->Sem Value}{g:Int->Int}
  (rule:∀(i:Int) (t:Tok) (s:Shared) (Q:Value->Shared->Prop) (E:Value->Shared->Prop),Q (.int (g i) s.toks) {s with toks:=s.toks + 1}->wpAny (model X.prog X.w) X.A (f (.int i t)) Q E s) :
  Eg X f (rU λi=>.int (g i)):=by
 intro pins s σ H x v Q I rx h
 obtain⟨i,rfl,q⟩:=h
 obtain⟨t,rfl⟩:=rx
 exact rule i t s _ _ ⟨.int (g i),H,I.tok _,⟨_,rfl⟩,q⟩
def AZ:Eg X (unaryOp .USub) (rU λi=>.int (-i)):=FJ λ_ _ _ _ _ q=>neg_int q
end
section
variable {X:Cx}{a b c:Expr}{ta tb tc:TE}{pos:Pos}
def wM:jh X (compareOp .Lt) (uT λi j=>.bl (decide (i < j))):=AV λ_ _ _ _ _ _ _ q=>lt_int q
def jV:jh X (compareOp .LtE) (uT λi j=>.bl (decide (i<=j))):=AV λ_ _ _ _ _ _ _ q=>le_int q
def xD:jh X (compareOp .Gt) (uT λi j=>.bl (decide (j < i))):=AV λ_ _ _ _ _ _ _ q=>gt_int q
def aK (b:Expr){op:CmpOp}(h:op≠.In:=by decide)(h2:op≠.NotIn:=by decide):behindInMarks op b=false:=by
 have e1:(op == CmpOp.In)=false:=by cases op <;> first |rfl |exact absurd rfl h
 have e2:(op == CmpOp.NotIn)=false:=by cases op <;> first |rfl |exact absurd rfl h2
 cases b <;> simp[behindInMarks,e1,e2]
def za {op:CmpOp}{r:R2}(ho:jh X (compareOp op) r)(ha:PE X a ta)(hb:PE X b tb)(hm:behindInMarks op b=false):PE X (.Compare a [op] [b] pos) (D5 r ta tb):=by
 intro pins s σ H Q I h
 exact wpAny_Compare1 (AI ha hb I h λv u s2 x y H2 I2 rx ry q=>ho pins s2 σ H2 x y v u Q I2 rx ry q) hm
def zW (t:TE):TT:=λσ H Q=>t σ H λx H'=>∃k,x=.bl k/\Q k H'
def yb {op:CmpOp}{r:R2}(ho:jh X (compareOp op) r)(ha:PE X a ta)(hb:PE X b tb)(hm:behindInMarks op b=false):PT X (.Compare a [op] [b] pos) (zW (D5 r ta tb)):=by
 intro pins s σ H Q I h
 refine wpAny_isTrue_Compare1 (b7 (ha pins s σ H _ I h) λv s1 ⟨x,H1,I1,r1,q1⟩=>b7 (hb pins s1 σ H1 _ I1 q1) λu s2 ⟨y,H2,I2,r2,q2⟩=>
  b7 (ho pins s2 σ H2 x y v u _ I2 r1 r2 q2) λc s3 ⟨z,H3,I3,r3,k,e,q3⟩=>?_) hm
 subst e
 cases r3
 exact GY ⟨H3,I3,q3⟩
def wa (r r':R2)(ta tb tc:TE):TE:=λσ H Q=>ta σ H λx H1=>tb σ H1 λy H2=>r x y H2 λz H3=>∃k,z=.bl k/\
 (if k=true then tc σ H3 λw' H4=>r' y w' H4 Q else Q (.bl false) H3)
theorem xg {op op':CmpOp}{r r':R2}(ho:jh X (compareOp op) r)(ho':jh X (compareOp op') r')(ha:PE X a ta)(hb:PE X b tb)(hc:PE X c tc)
  (hm:lastMarks [op,op'] [b,c]=false:=by with_unfolding_all rfl):PE X (.Compare a [op,op'] [b,c] pos) (wa r r' ta tb tc):=by
 intro pins s σ H Q I h
 refine Compare_chain (b7 (ha pins s σ H _ I h) λv s1 ⟨x,H1,I1,r1,q1⟩=>chain_link (b7 (hb pins s1 σ H1 _ I1 q1) λu s2 ⟨y,H2,I2,r2,q2⟩=>
  b7 (ho pins s2 σ H2 x y v u _ I2 r1 r2 q2) λd s3 ⟨z,H3,I3,r3,k,e,q3⟩=>?_)) hm
 subst e
 cases r3
 refine GY ?_
 cases k with
 |false=>exact ite_ff ⟨.bl false,H3,I3,rfl,q3⟩
 |true=>exact ite_tt (chain_last (b7 (hc pins s3 σ H3 _ I3 q3) λw' s4 ⟨z',H4,I4,r4,q4⟩=>ho' pins s4 σ H4 y z' u w' Q I4 r2 r4 q4))
theorem xk {op op':CmpOp}{r r':R2}(ho:jh X (compareOp op) r)(ho':jh X (compareOp op') r')(ha:PE X a ta)(hb:PE X b tb)(hc:PE X c tc)
  (hm:lastMarks [op,op'] [b,c]=false:=by with_unfolding_all rfl):PT X (.Compare a [op,op'] [b,c] pos) (zW (wa r r' ta tb tc)):=by
 intro pins s σ H Q I h
 refine isTrue_chain (b7 (ha pins s σ H _ I h) λv s1 ⟨x,H1,I1,r1,q1⟩=>test_link (b7 (hb pins s1 σ H1 _ I1 q1) λu s2 ⟨y,H2,I2,r2,q2⟩=>
  b7 (ho pins s2 σ H2 x y v u _ I2 r1 r2 q2) λd s3 ⟨z,H3,I3,r3,k,e,q3⟩=>?_)) hm
 subst e
 cases r3
 refine GY ?_
 cases k with
 |false=>
  obtain⟨k',e',q'⟩:=q3
  cases e'
  exact ite_ff ⟨H3,I3,q'⟩
 |true=>
  refine ite_tt (test_last (b7 (hc pins s3 σ H3 _ I3 q3) λw' s4 ⟨z',H4,I4,r4,q4⟩=>b7 (ho' pins s4 σ H4 y z' u w' _ I4 r2 r4 q4) λd' s5 ⟨z2,H5,I5,r5,k2,e2,q5⟩=>?_))
  subst e2
  cases r5
  exact GY ⟨H5,I5,q5⟩
def CO (K:Frag)(x:V)(H:Hp)(k:Bool):Prop:=
 match x with
 | .non=>k=false
 | .bl b=>k=b
 | .int i=>k=(i != 0)
 | .str y=>y.length<=sizeLine/\k=((y.length:Int) != 0)
 | .byt y=>y.size<=sizeLine/\k=((y.size:Int) != 0)
 | .ref p=>(∃xs,fZ K H p xs/\k= !xs.isEmpty)\/(∃xs,cP K H p xs/\k= !xs.isEmpty)\/∃kvs,H p=some (.dK kvs)/\k= !kvs.isEmpty
 |_=>False
def r9 {κ:Type}{kvs:List (κ×V)}{vs:List (κ×Value)}(r:KV kvs vs):(!vs.isEmpty)= !kvs.isEmpty:=by
 cases r <;> rfl
def ml {xs:List V}{its:List Value}(r:Vals xs its):(!its.toArray.isEmpty)= !xs.isEmpty:=by
 cases r <;> simp
def kd:(sizeLine:Nat) < 2 ^ 63:=by rw[Gz];decide
theorem Bh:EA X (λx H Q=>∃k,CO X.K x H k/\Q k H):=by
 intro pins s σ H x v Q I rx h
 obtain⟨k,e,q⟩:=h
 have hl:=kd
 have hs:sizeLine=16777216:=Gz
 cases x with
 |non=>
  cases rx
  have e':k=false:=e
  subst e'
  exact truthy_none ⟨H,I,q⟩
 |bl b=>
  cases rx
  have e':k=b:=e
  subst e'
  exact GY ⟨H,I,q⟩
 |int i=>
  obtain⟨t,rfl⟩:=rx
  have e':k=(i != 0):=e
  subst e'
  exact PySem.P.truthy_int ⟨H,I,q⟩
 |str y=>
  obtain⟨t,rfl⟩:=rx
  obtain⟨hy,e'⟩:y.length<=sizeLine/\k=((y.length:Int) != 0):=e
  subst e'
  exact PySem.P.truthy_str (by omega) ⟨H,I.tok _,q⟩
 |byt y=>
  obtain⟨t,rfl⟩:=rx
  obtain⟨hy,e'⟩:y.size<=sizeLine/\k=((y.size:Int) != 0):=e
  subst e'
  exact PySem.W.truthy_bytes (by omega) ⟨H,I.tok _,q⟩
 |ref p=>
  cases rx
  have e':(∃xs,fZ X.K H p xs/\k= !xs.isEmpty)\/(∃xs,cP X.K H p xs/\k= !xs.isEmpty)\/∃kvs,H p=some (.dK kvs)/\k= !kvs.isEmpty:=e
  rcases e' with⟨xs,hx,e'⟩ | ⟨xs,hx,e'⟩ | ⟨kvs,hx,e'⟩
  ·subst e'
   obtain⟨its,r,pl,hz⟩:=I.list hx
   have hlen:=r.length
   exact wpAny_truthy_list pl.isList (by simp only[Gk];omega) ⟨H,I.tok _,by rw[ml r];exact q⟩
  ·subst e'
   obtain⟨its,r,pl,hz⟩:=I.tuple hx
   have hlen:=r.length
   exact truthy_tuple pl (by simp only[Gk];omega) ⟨H,I.tok _,by rw[ml r];exact q⟩
  ·subst e'
   obtain⟨hz,hS,vs,r,m⟩:kvs.length<=sizeLine/\(p == sysModules)=false/\∃vs,KV kvs vs/\s.heap.DictOf (dj X.prog X.w) p vs:=I.hok p _ hx
   have hlen:kvs.length=vs.length:=Paired.length r
   exact wpAny_truthy_dict hS m (by omega) ⟨H,I.tok _,by rw[r9 r];exact q⟩
 |_=>exact (show False from e).elim
def vF (ha:PE X a ta)(he:∀whole,isTrue a X.env whole=(do let v <-whole;standAt a.pos;holding [v] (truthy v))) :
  PT X a (λσ H Q=>ta σ H λx H'=>∃k,CO X.K x H' k/\Q k H'):=by
 intro pins s σ H Q I h
 exact isTrue_plain (b7 (ha pins s σ H _ I h) λv s1 ⟨x,H1,I1,r1,q1⟩=>Bh pins s1 σ H1 x v Q I1 r1 q1) (he _)
theorem vals1 {x:V}{us:List Value}(r:Vals [x] us):∃u,us= [u]/\RelV x u:=by
 cases r with
 |cons r1 r2=>cases r2;exact⟨_,rfl,r1⟩
theorem vals2 {x y:V}{us:List Value}(r:Vals [x,y] us):∃u w',us= [u,w']/\RelV x u/\RelV y w':=by
 cases r with
 |cons r1 r2=>
  cases r2 with
  |cons r3 r4=>cases r4;exact⟨_,_,rfl,r1,r3⟩
def xj:dw X (.builtin "abs") (λxs H Q=>∃i,xs= [.int i]/\Q (.int (if i < 0 then -i else i)) H):=by
 intro pins s σ H xs us Q I r h
 obtain⟨i,rfl,q⟩:=h
 obtain⟨u,rfl,t,rfl⟩:=vals1 r
 exact call_abs_int λu tk=>⟨.int (if i < 0 then -i else i),H,I.tok _,⟨_,rfl⟩,q⟩
def uS (hc:X.calm=true):dw X (.builtin "max") (λxs H Q=>∃i j,xs= [.int i,.int j]/\Q (.int (if j > i then j else i)) H):=by
 intro pins s σ H xs us Q I r h
 obtain⟨i,j,rfl,q⟩:=h
 obtain⟨u,w',rfl,⟨t,rfl⟩,⟨t',rfl⟩⟩:=vals2 r
 refine max_two_ints (I.ok.hd hc) λh' tk k=>⟨_,H,I.kept k,?_,q⟩
 by_cases hj:j > i
 ·rw[FZ hj,FZ hj];exact⟨_,rfl⟩
 ·rw[Gd hj,Gd hj];exact⟨_,rfl⟩
def vh (hc:X.calm=true):dw X (.builtin "min") (λxs H Q=>∃i j,xs= [.int i,.int j]/\Q (.int (if j < i then j else i)) H):=by
 intro pins s σ H xs us Q I r h
 obtain⟨i,j,rfl,q⟩:=h
 obtain⟨u,w',rfl,⟨t,rfl⟩,⟨t',rfl⟩⟩:=vals2 r
 refine min_two_ints (I.ok.hd hc) λh' tk k=>⟨_,H,I.kept k,?_,q⟩
 by_cases hj:j < i
 ·rw[FZ hj,FZ hj];exact⟨_,rfl⟩
 ·rw[Gd hj,Gd hj];exact⟨_,rfl⟩
def CW (K:Frag)(x:V)(H:Hp)(n:Nat):Prop:=
 match x with
 | .str y=>y.length<=sizeLine/\n=y.length
 | .byt y=>y.size<=sizeLine/\n=y.size
 | .ref p=>(∃xs,fZ K H p xs/\n=xs.length)\/∃xs,cP K H p xs/\n=xs.length
 |_=>False
theorem bf:dw X (.builtin "len") (λxs H Q=>∃x n,xs= [x]/\CW X.K x H n/\Q (.int n) H):=by
 intro pins s σ H xs us Q I r h
 obtain⟨x,n,rfl,e,q⟩:=h
 obtain⟨u,rfl,rx⟩:=vals1 r
 have hl:=kd
 have hs:sizeLine=16777216:=Gz
 cases x with
 |str y=>
  obtain⟨t,rfl⟩:=rx
  obtain⟨hy,e'⟩:y.length<=sizeLine/\n=y.length:=e
  subst e'
  exact len_str (by omega) ⟨.int _,H,I.tok _,⟨_,rfl⟩,q⟩
 |byt y=>
  obtain⟨t,rfl⟩:=rx
  obtain⟨hy,e'⟩:y.size<=sizeLine/\n=y.size:=e
  subst e'
  exact PySem.W.len_bytes (by omega) ⟨.int _,H,I.tok _,⟨_,rfl⟩,q⟩
 |ref p=>
  cases rx
  have e':(∃xs,fZ X.K H p xs/\n=xs.length)\/∃xs,cP X.K H p xs/\n=xs.length:=e
  rcases e' with⟨xs,hx,e'⟩ | ⟨xs,hx,e'⟩
  ·subst e'
   obtain⟨its,r',pl,hz⟩:=I.list hx
   have hlen:=r'.length
   exact Calls.call_len_list pl.isList (by simp only[Gk];omega) ⟨.int xs.length,H,I.tok _,⟨_,by simp only[Gk];rw[hlen]⟩,q⟩
  ·subst e'
   obtain⟨its,r',pl,hz⟩:=I.tuple hx
   have hlen:=r'.length
   exact len_tuple pl (by simp only[Gk];omega) ⟨.int xs.length,H,I.tok _,⟨_,by simp only[Gk];rw[hlen]⟩,q⟩
 |_=>exact (show False from e).elim
def qx:dw X (.builtin "divmod") (λxs H Q=>∃i j,xs= [.int i,.int j]/\yJ i j/\∀p,H p=none->Q (.ref p) (upd H p (.tup [.int (i / j),.int (i % j)]))):=by
 intro pins s σ H xs us Q I r h
 obtain⟨i,j,rfl,⟨h1,h2⟩,q⟩:=h
 obtain⟨u,w',rfl,⟨t,rfl⟩,⟨t',rfl⟩⟩:=vals2 r
 refine divmod_int (by omega) ?_ (.inl (PyProof.noPylong_small (by omega)))
 rw[Int.fdiv_eq_ediv_of_nonneg i (by omega),Int.fmod_eq_emod_of_nonneg i (by omega)]
 have hn:H s.heap.objs.size=none:=I.hok.fresh (FX _)
 refine⟨.ref s.heap.objs.size,_,?_,rfl,q _ hn⟩
 refine I.laid (λb o e=>FT _ e) (FX _) ⟨by simp only[Gr,length_nil];rw[Gz];decide,[.int (i / j) s.toks,.int (i % j) (s.toks + 1)],.cons ⟨_,rfl⟩ (.cons ⟨_,rfl⟩ .nil),?_⟩
 exact⟨_,Gb s.heap rfl,rfl,0,rfl,rfl⟩
end
structure AS (h:Heap)(x dx C:Addr)(mA:Str->Option Value):Prop where
 obj:h.get? x=some (PySem.W.instObj C dx)
 ns:h.Ns1 dx mA
 ne:dx≠x
def uf {h:Heap}{dx:Addr}{mA:Str->Option Value}(n:h.Ns1 dx mA):∃od,h.get? dx=some od/\∀name,PySem.W.lookIn name od=some (mA name):=by
 obtain⟨o,es,ep,ho,hd,hk,_,hm⟩:=n
 refine⟨o,ho,λname=>?_⟩
 have e:=hm name
 unfold nsFind findBy at e
 rw[<-Array.find?_toList] at e
 unfold PySem.W.lookIn
 rw[hd]
 dsimp only
 split
 ·rename_i y q
  rw[q] at e
  exact congrArg some e
 ·rename_i q
  rw[q] at e
  have a:es.toList.any (·.refKey)=false:=by
   rw[List.any_eq_false]
   intro y hy
   obtain⟨z,t,hkey⟩:=hk y (HP.mp hy)
   simp[DictEntry.refKey,hkey]
  have a':¬es.toList.any (·.refKey)=true:=by rw[a];exact GF
  rw[Gd a']
  exact congrArg some e
def AS.look {h:Heap}{x dx C:Addr}{mA:Str->Option Value}(I:AS h x dx C mA):∃od,PySem.W.InstAt h x (PySem.W.instObj C dx) C (some od)/\∀name,PySem.W.lookIn name od=some (mA name):=
 let ⟨od,ho,hl⟩:=uf I.ns
 ⟨od,⟨I.obj,rfl,rfl,ho⟩,hl⟩
section
variable {P:Program}{w:World}{H H':Hp}{h h':Heap}{a C dx:Addr}{fs fs':List (Str×V)}
def yM (hok:iY P w H h)(e:H a=some (.ins C dx fs)):∃mA,AS h a dx C mA/\(∀f,BL (fs.lookup f) (mA f))/\PySem.Within mA (fs.map (·.1))/\fs.length<=1000/\H dx=some (.own a):=by
 obtain⟨d,z,ne,ob,mA,n,r,q⟩:=(show bW P w H h a (.ins C dx fs) from hok a _ e)
 exact⟨mA,⟨ob,n,ne⟩,r,q,z,d⟩
end
structure E6 (K:Frag)(C:Addr):Prop where
 pg:PySem.W.plainGet K C Str.empty=true
 hd:PySem.W.hasDictIn K C=true
 po:PySem.W.plainOver K C=true
 sa:PySem.W.findIn K (.ref C) "__setattr__"=some (some (.builtin "object.__setattr__"))
def E6.get {K:Frag}{C:Addr}(c:E6 K C)(f:Str):PySem.W.plainGet K C f=true:=c.pg
section
variable {X:Cx}{pins:List (Addr×Obj)}{σ:St}{H:Hp}{s:Shared}{A:Around}{E:Value->Shared->Prop}{Q:Value->Shared->Prop}{c:Value}{b:Bool}
inductive kU (K:Frag)(H:Hp):V->Value->Prop where
 |non:kU K H .non (.type "NoneType")
 |bl (x:Bool):kU K H (.bl x) (.type "bool")
 |int (i:Int):kU K H (.int i) (.type "int")
 |str (x:Str):kU K H (.str x) (.type "str")
 |flt (x:UInt64):kU K H (.flt x) (.type "float")
 |lst {a:Addr} {xs:List V} (e:H a=some (.lst xs)):kU K H (.ref a) (.type "list")
 |aX {a:Addr} {o:Obj} {xs:List V} (e:H a=some (.aX o (.lst xs))):kU K H (.ref a) (.type "list")
 |tup {a:Addr} {xs:List V} (e:H a=some (.tup xs)):kU K H (.ref a) (.type "tuple")
 |dK {a:Addr} {kvs:List (Key×V)} (e:H a=some (.dK kvs)):kU K H (.ref a) (.type "dict")
 |dT {a:Addr} {kvs:List (List Key×V)} (e:H a=some (.dT kvs)):kU K H (.ref a) (.type "dict")
 |ins {a C dx:Addr} {fs:List (Str×V)} (e:H a=some (.ins C dx fs)) (cl:E6 K C) (ha:PySem.W.findIn K (.ref C) "__class__"=some (some (.builtin "object.__class__")))
   (hn:PySem.W.specialIn K (.builtin "object.__class__") "__get__"=some (some (.builtin "getset_descriptor.__get__"))) (htk:PySem.W.takesIn K (.builtin "object.__class__")=some true)
   (hm:PySem.W.mroIn K C (.type "object")=some true):kU K H (.ref a) (.ref C)
theorem gG {x:V}{u t:Value}(I:Inv X pins σ H s)(rx:RelV x u)(ty:kU X.K H x t)(e:PySem.W.kitOne X.K t c=some b)(h:∀tk,Q (.bool b) {s with toks:=tk}) :
  wpAny (model X.prog X.w) A (call (.builtin "isinstance") [u,c]) Q E s:=by
 cases ty with
 |non=>cases (show u=Value.none from rx);exact GP PySem.W.kitx_none I.kIn True.intro e (λz=>nomatch z) h
 |bl y=>cases (show u=Value.bool y from rx);exact GP PySem.W.kitx_bool I.kIn True.intro e (λz=>nomatch z) h
 |int i=>obtain⟨t,q⟩:=(show ∃t,u=Value.int i t from rx);cases q;exact GP PySem.W.kitx_int I.kIn True.intro e (λz=>nomatch z) h
 |str y=>obtain⟨t,q⟩:=(show ∃t,u=Value.str y t from rx);cases q;exact GP PySem.W.kitx_str I.kIn True.intro e (λz=>nomatch z) h
 |flt y=>obtain⟨t,q⟩:=(show ∃t,u=Value.float y t from rx);cases q;exact GP PySem.W.kitx_float I.kIn True.intro e (λz=>nomatch z) h
 | @lst a xs ea=>
  cases (show u=Value.ref a from rx)
  obtain⟨_,_,n,_,h1⟩:=(show bW X.prog X.w H s.heap a (.lst xs) from I.hok a _ ea)
  exact GP PySem.W.kitx_list I.kIn ⟨_,h1,rfl⟩ e (λz=>nomatch z) h
 | @aX a ob xs ea=>
  cases (show u=Value.ref a from rx)
  obtain⟨_,_,_,n,_,h1⟩:=(show bW X.prog X.w H s.heap a (.aX ob (.lst xs)) from I.hok a _ ea)
  exact GP PySem.W.kitx_list I.kIn ⟨_,h1,rfl⟩ e (λz=>nomatch z) h
 | @tup a xs ea=>
  cases (show u=Value.ref a from rx)
  obtain⟨_,_,_,p⟩:=(show bW X.prog X.w H s.heap a (.tup xs) from I.hok a _ ea)
  obtain⟨o,h1,h2,_⟩:=p
  exact GP PySem.W.kitx_tuple I.kIn ⟨o,h1,h2⟩ e (λz=>nomatch z) h
 | @dK a kvs ea=>
  cases (show u=Value.ref a from rx)
  obtain⟨_,_,vs,_,p⟩:=(show bW X.prog X.w H s.heap a (.dK kvs) from I.hok a _ ea)
  obtain⟨o,es,ep,h1,h2,_⟩:=p
  exact GP PySem.W.kitx_dict I.kIn ⟨o,h1,h2.1⟩ e (λz=>nomatch z) h
 | @dT a kvs ea=>
  cases (show u=Value.ref a from rx)
  obtain⟨_,_,xs,_,o,es,ep,h1,h2,_⟩:=(show bW X.prog X.w H s.heap a (.dT kvs) from I.hok a _ ea)
  exact GP PySem.W.kitx_dict I.kIn ⟨o,h1,h2.1⟩ e (λz=>nomatch z) h
 | @ins a C dx fs ea cl ha hn htk hm=>
  cases (show u=Value.ref a from rx)
  obtain⟨mA,O,_⟩:=yM I.hok ea
  obtain⟨od,J,_⟩:=O.look
  exact GP (PySem.W.kitx_own (cl.get _) cl.hd ha hn htk hm) I.kIn J e (λz=>nomatch z) h
end
structure eJ (k:Nat)(A:Around):Prop where
 hd:A.handled=none
 dp:A.depth + 3 * k + 5 < recursionLimit
 un:A.units + 16 * k + 200 < cLine
 gd:A.guards=some []
def eJ.mono {j k:Nat}{A:Around}(r:eJ k A)(h:j<=k):eJ j A:=⟨r.hd,by have:=r.dp;omega,by have:=r.un;omega,r.gd⟩
def eJ.deeper {k:Nat}{A:Around}(r:eJ (k + 1) A)(env:Env):eJ k (A.deeper env):=
 ⟨r.hd,by have:=r.dp;show A.depth + 1 + 3 * k + 5 < _;omega,by have:=r.un;show A.units + 3 + 16 * k + 200 < _;omega,r.gd⟩
def eJ.depth {k:Nat}{A:Around}(r:eJ k A):A.depth < recursionLimit:=by have:=r.dp;omega
def eJ.units {k:Nat}{A:Around}(r:eJ k A):A.units + 64 < cLine:=by have:=r.un;omega
def Ek:TA:=λ_ H Q=>Q [] H
def Dq (ta:TE)(tr:TA):TA:=λσ H Q=>ta σ H λx H1=>tr σ H1 λxs H2=>Q (x :: xs) H2
section
variable {X:Cx}{e:Expr}{es:List Expr}{te:TE}{t:TA}{pos:Pos}
def bK:PA X [] Ek:=λ_ _ _ _ H Q I h=>Calls.spliced_nil ⟨[],H,I,.nil,h⟩
def aN (ha:PE X e te)(hr:PA X es t)(hs:starEach (e :: es) X.env=(false,eval e X.env) :: starEach es X.env:=by rfl):PA X (e :: es) (Dq te t):=by
 intro pos pins s σ H Q I h
 rw[hs]
 show wpAny _ _ (spliced ((false,eval e X.env) :: backTo pos (starEach es X.env))) _ _ s
 refine Calls.spliced_cons (b7 (ha pins s σ H _ I h) λu s1 ⟨x,H1,I1,r1,q1⟩=>?_)
 exact b7 (hr pos pins s1 σ H1 _ I1 q1) λus s2 ⟨xs,H2,I2,r2,q2⟩=>⟨x :: xs,H2,I2,.cons r1 r2,q2⟩
def Ep (t:TA):TE:=λσ H Q=>t σ H λxs H1=>xs.length<=sizeLine/\∀p,H1 p=none->Q (.ref p) (upd H1 p (.tup xs))
def E7 (t:TA):TE:=λσ H Q=>t σ H λxs H1=>xs.length<=sizeLine/\∀p,H1 p=none->Q (.ref p) (upd H1 p (.lst xs))
def si {x1}(h:PA X es t):PE X (.Tuple es x1 pos) (Ep t):=by
 intro pins s σ H Q I hq
 refine wpAny_Tuple_spliced (b7 (h pos pins s σ H _ I hq) λus s1 ⟨xs,H1,I1,r,z,q⟩=>⟨by rw[<-r.length];exact z,?_⟩)
 have hf:H1 s1.heap.objs.size=none:=I1.hok.fresh (FX _)
 refine⟨.ref s1.heap.objs.size,upd H1 s1.heap.objs.size (.tup xs),I1.laid (t':=s1.toks) (λb u e=>FT _ e) (FX _) ?_,rfl,q _ hf⟩
 exact⟨z,us,r,mR.new _ _⟩
def xh (h:PA X es t):PE X (.List es pos) (E7 t):=by
 intro pins s σ H Q I hq
 refine wpAny_List_spliced (b7 (h pos pins s σ H _ I hq) λus s1 ⟨xs,H1,I1,r,z,q⟩=>⟨by rw[<-r.length];exact z,?_⟩)
 have hf:H1 s1.heap.objs.size=none:=I1.hok.fresh (FX _)
 refine⟨.ref s1.heap.objs.size,upd H1 s1.heap.objs.size (.lst xs),I1.laid (t':=s1.toks) (λb u e=>FT _ e) (FX _) ?_,rfl,q _ hf⟩
 exact⟨z,us,0,r,Gb _ rfl⟩
end
abbrev Sp:=List V->Hp->VK->XK->Prop
abbrev uv:=List Env->Hp->Shared->XK->Value->Shared->Prop
structure yg (P:Program)(w:World)(K:Frag)(mg:Str->Option Value)(base:Heap)(A:Around)(outer:List Env)(s:Shared)(H:Hp):Prop where
 frames:A.frames=some outer
 mod:Mod K mg base
 bs:∀b o,base.get? b=some o->s.heap.get? b=some o/\H b=none
 bsz:base.objs.size<=s.heap.objs.size
 funs:s.heap.FunFrames base outer
 frf:∀b∈gu outer,H b=none
 hok:iY P w H s.heap
 bare:AllBare s.gens
def CE (outer:List Env)(P:Program)(w:World)(H:Hp)(s:Shared)(Q:VK)(u:Value)(s':Shared):Prop:=
 ∃v H',s'.os=s.os/\AllBare s'.gens/\Un (gu outer) [] H H' s.heap s'.heap/\iY P w H' s'.heap/\RelV v u/\Q v H'
def CR (CX:uv)(outer:List Env)(P:Program)(w:World)(H:Hp)(s:Shared)(Q:VK)(E:XK)(r:Result)(s':Shared):Prop:=
 match r with
 | .ok (.ret u)=>CE outer P w H s Q u s'
 | .ok _=>False
 | .error e=>CX outer H s E e s'
structure eB (P:Program)(w:World)(K:Frag)(mg:Str->Option Value)(base:Heap)(CX:uv)(k:Nat)(f:Addr)(fd:FuncData)(ps:List Str)(sp:Sp):Prop where
 len:∀vs H Q E,sp vs H Q E->vs.length=ps.length
 run:∀(A:Around) (outer:List Env) (s:Shared) (H:Hp) (args:Args) (us:List Value) (vs:List V) (Q:VK) (E:XK),eJ k A->yg P w K mg base A outer s H->BindsTo s fd args (ps.zip us)->Vals vs us->sp vs H Q E->
  codeAny (model P w) A (.call (.ref f) args) (CR CX outer P w H s Q E) s
def eB.mono {P:Program}{w:World}{K:Frag}{mg:Str->Option Value}{base:Heap}{CX:uv}{j k:Nat}{f:Addr}{fd:FuncData}{ps:List Str}{sp:Sp}(F:eB P w K mg base CX j f fd ps sp)(h:j<=k) :
  eB P w K mg base CX k f fd ps sp:=⟨F.len,λA outer s H args us vs Q E hr=>F.run A outer s H args us vs Q E (hr.mono h)⟩
def eB.imp {P:Program}{w:World}{K:Frag}{mg:Str->Option Value}{base:Heap}{CX:uv}{k:Nat}{f:Addr}{fd:FuncData}{ps:List Str}{sp sp':Sp}(F:eB P w K mg base CX k f fd ps sp)
  (h:∀vs H Q E,sp' vs H Q E->sp vs H Q E):eB P w K mg base CX k f fd ps sp':=
 ⟨λvs H Q E q=>F.len vs H Q E (h _ _ _ _ q),λA outer s H args us vs Q E hr he hb hv hs=>F.run A outer s H args us vs Q E hr he hb hv (h _ _ _ _ hs)⟩
section
variable {X:Cx}{pins:List (Addr×Obj)}{σ:St}{H:Hp}{s s':Shared}
def Inv.env0 (I:Inv X pins σ H s):yg X.prog X.w X.K X.mg X.base X.A X.stack s H:=
 ⟨I.ok.frames,I.ok.mod,I.bs,Hn I.ok.bsz I.sz,I.stack,I.stkFree,I.hok,I.bare⟩
def Inv.after {Q:VK}{u:Value}(I:Inv X pins σ H s)(h:CE X.stack X.prog X.w H s Q u s'):EP X pins σ Q u s':=by
 obtain⟨v,H',os,bare,un,hok,r,q⟩:=h
 obtain⟨hh,g,d,t,os'⟩:=s'
 obtain rfl:os'=s.os:=os
 exact⟨v,H',I.call (h':=hh) (g':=g) (d':=d) (t':=t) (ch:=[]) un hok bare (λb z=>absurd z (by simp)),r,q⟩
end
def Cw (sp:Sp)(dvs:List V)(E:XK)(t:TA):TE:=λσ H Q=>t σ H λvs H1=>sp (vs ++ dvs) H1 Q E
def Binds (K:Frag)(fd:FuncData)(ps:List Str)(ds:List Value):Prop:=
 ∀(s:Shared) (us:List Value),K.In s.heap->(us ++ ds).length=ps.length->BindsTo s fd ⟨us,[]⟩ (ps.zip (us ++ ds))
def Binds.all {K:Frag}{fd:FuncData}{ps:List Str}(h:∀us:List Value,us.length=ps.length->bindArgs fd ⟨us,[]⟩=pure (ps.zip us)):Binds K fd ps []:=λs us _ hl=>by
 rw[HZ] at hl ⊢
 exact .of_eq (h us hl)
def Passes (CX:uv)(X:Cx)(E:XK):Prop:=∀(pins:List (Addr×Obj)) (σ:St) (H:Hp) (s:Shared) (e:Value) (s':Shared),Inv X pins σ H s->CX X.stack H s E e s'->X.xe e s'
section
variable {X:Cx}{CX:uv}{k:Nat}{f C:Addr}{fd:FuncData}{ps:List Str}{sp:Sp}{dvs:List V}{ds:List Value}{E:XK}{x m:Str}{p pos apos:Pos}{e o:Expr}{es:List Expr}{ta:TE}{t:TA}
theorem Aa {pins:List (Addr×Obj)}{σ:St}{H:Hp}{s:Shared}{Q:VK}{us:List Value}{vs:List V}(F:eB X.prog X.w X.K X.mg X.base CX k f fd ps sp)(hr:eJ k X.A)(hb:Binds X.K fd ps ds)(hd:Vals dvs ds)(hx:Passes CX X E)
  (I:Inv X pins σ H s) (r:Vals vs us) (h:sp (vs ++ dvs) H Q E):wpAny (model X.prog X.w) X.A (call (.ref f) us) (EP X pins σ Q) X.xe s:=by
 have r2:Vals (vs ++ dvs) (us ++ ds):=r.append hd
 have hl:(us ++ ds).length=ps.length:=by rw[<-r2.length];exact F.len _ _ _ _ h
 refine wpAny_call (IB (F.run X.A X.stack s H ⟨us,[]⟩ (us ++ ds) (vs ++ dvs) Q E hr I.env0 (hb s us I.kIn hl) r2 h) λr s' hq=>?_)
 cases r with
 |error e=>exact hx pins σ H s e s' I hq
 |ok fl=>
  cases fl with
  |ret u=>exact I.after hq
  |next=>exact False.elim hq
  |brk=>exact False.elim hq
  |cont=>exact False.elim hq
def jU (F:eB X.prog X.w X.K X.mg X.base CX k f fd ps sp)(hr:eJ k X.A)(hg:Gl X x)(hm:X.mg x=some (.ref f))(hk:PySem.W.keepIn X.K (.ref f)=true)(hb:Binds X.K fd ps ds)(hd:Vals dvs ds)(hx:Passes CX X E)
  (ha:PA X (e :: es) t) (hdb:(x == ("__debug__":Str))=false:=by decide) (he:starEach (e :: es) X.env=(false,eval e X.env) :: starEach es X.env:=by rfl) (hpl:(backTo pos (starEach es X.env)).any (·.1)=false:=by rfl) :
  PE X (.Call (.Name x p) (e :: es) [] pos) (Cw sp dvs E t):=by
 intro pins s σ H Q I h
 refine wpAny_Call_Name_kw (ot I hg hm ?_ hdb)
 refine PySem.W.callWith_K (h₀:=X.base) I.ok.mod.kin hk (b7 (ha pos pins s σ H _ I h) λus s1 ⟨vs,H1,I1,r,q⟩=>⟨I1.kIn,?_⟩) he hpl
 exact Aa F hr hb hd hx I1 r q
end
structure aH (N P:List Str)(sc:Scope):Prop where
 kind:sc.kind=.function
 co:sc.isCoroutine=false
 gen:sc.isGenerator=false
 nd:N.Nodup
 pre:N.take P.length=P
 par:∀x∈P,sc.names.lookup x=some .local\/sc.names.lookup x=some .cell
 nofree:∀y∈sc.names,y.2≠.free
theorem nC {kindOf:Str->Option NameKind}{x:Str}:∀{binds:List (Str×Value)} {m:Str->Option Value},(∀v,(x,v)∉binds)->bindL kindOf binds m x=m x
 | [],_,_=>rfl
 | (n,v) :: r,m,h=>by
  unfold bindL
  rw[nC λw hw=>h w (F0 _ hw)]
  split
  ·have:x≠n:=by rintro rfl;exact h v Gg
   simp[this]
  ·rfl
theorem nz {kindOf:Str->Option NameKind}{x:Str}:∀{binds:List (Str×Value)} {m:Str->Option Value},(∀v,(x,v)∉binds)->bindC kindOf binds m x=m x
 | [],_,_=>rfl
 | (n,v) :: r,m,h=>by
  unfold bindC
  rw[nz λw hw=>h w (F0 _ hw)]
  split
  ·rfl
  ·have:x≠n:=by rintro rfl;exact h v Gg
   simp[this]
theorem nO {kindOf:Str->Option NameKind}{x:Str}{v:Value}:∀{P:List Str} {vs:List Value} {i:Nat} {m:Str->Option Value},P.Nodup->P[i]? =some x->vs[i]? =some v->kindOf x=some .local->
  bindL kindOf (P.zip vs) m x=some v
 | [],_,_,_,_,h,_,_=>by simp at h
 |_ :: _,[],_,_,_,_,h,_=>by simp at h
 |p :: P,w :: vs,0,m,nd,h1,h2,hk=>by
  simp at h1 h2;subst h1;subst h2
  show bindL kindOf ((p,w) :: P.zip vs) m p=_
  unfold bindL
  rw[nC λv hv=>(GQ.mp nd).1 (List.of_mem_zip hv).1,FZ hk]
  simp
 |p :: P,w :: vs,i + 1,m,nd,h1,h2,hk=>by
  show bindL kindOf ((p,w) :: P.zip vs) m x=_
  unfold bindL
  exact nO (i:=i) (GQ.mp nd).2 (by simpa using h1) (by simpa using h2) hk
theorem ny {kindOf:Str->Option NameKind}{x:Str}{v:Value}:∀{P:List Str} {vs:List Value} {i:Nat} {m:Str->Option Value},P.Nodup->P[i]? =some x->vs[i]? =some v->kindOf x≠some .local->
  bindC kindOf (P.zip vs) m x=some v
 | [],_,_,_,_,h,_,_=>by simp at h
 |_ :: _,[],_,_,_,_,h,_=>by simp at h
 |p :: P,w :: vs,0,m,nd,h1,h2,hk=>by
  simp at h1 h2;subst h1;subst h2
  show bindC kindOf ((p,w) :: P.zip vs) m p=_
  unfold bindC
  rw[nz λv hv=>(GQ.mp nd).1 (List.of_mem_zip hv).1,Gd hk]
  simp
 |p :: P,w :: vs,i + 1,m,nd,h1,h2,hk=>by
  show bindC kindOf ((p,w) :: P.zip vs) m x=_
  unfold bindC
  exact ny (i:=i) (GQ.mp nd).2 (by simpa using h1) (by simpa using h2) hk
def start (N:List Str)(vs:List V):St:=vs.map some ++ List.replicate (N.length - vs.length) none
def i7 (CX:uv)(P:Program)(w:World)(K:Frag)(mg:Str->Option Value)(base:Heap)(N:List Str)(qual:Str)(scope:Scope)(f:Addr)(cd:Value)(A:Around)(outer:List Env)(s:Shared)(H:Hp)(E:XK):Cx where
 prog:=P
 w:=w
 K:=K
 mg:=mg
 base:=base
 A:=A.deeper (envOfC qual scope s.heap.objs.size f cd)
 N:=N
 s₀:=s
 H₀:=H
 env:=envOfC qual scope s.heap.objs.size f cd
 outer:=outer
 stack:=envOfC qual scope s.heap.objs.size f cd :: outer
 ex:=[]
 calm:=true
 fn:=λ_=>true
 pn:=[]
 xe:=λe s'=>wpAny (model P w) (A.deeper (envOfC qual scope s.heap.objs.size f cd)) (leaving (envOfC qual scope s.heap.objs.size f cd) e) (λ_ s''=>CX outer H s E e s'') (λe' s''=>CX outer H s E e' s'') s'
def qO {sc:Scope}{n:Nat}{x:Str}(h:sc.names.lookup x=some .cell):∃c,(cellsFrom n sc.names []).lookup x=some c:=by
 have q:=PySem.W.cellsFrom_some sc.names n [] (.inl h)
 exact Option.isSome_iff_exists.mp q
def ui {CX:uv}{P:Program}{w:World}{K:Frag}{mg:Str->Option Value}{base:Heap}{N ps:List Str}{qual:Str}{scope:Scope}{f:Addr}{cd:Value}{A:Around}{outer:List Env}{s s1:Shared}{H:Hp}{E:XK}{us:List Value}{vs:List V}
  (S:aH N ps scope) (hd:A.handled=none) (e0:yg P w K mg base A outer s H) (hl:vs.length=ps.length) (r:Vals vs us)
  (x:InCallC s s.heap.objs.size (bindL (envOfC qual scope s.heap.objs.size f cd).kindOf (ps.zip us) λ_=>none) (cellsFrom (s.heap.objs.size + 1) scope.names []) (bindC (envOfC qual scope s.heap.objs.size f cd).kindOf (ps.zip us) λ_=>none) s1) :
  Inv (i7 CX P w K mg base N qual scope f cd A outer s H E) [] (start N vs) H s1:=by
 have hpl:ps.length<=N.length:=by have:=congrArg List.length S.pre;rw[Hd] at this;omega
 obtain⟨h1,tk,rfl,hk⟩:=x.done
 have noA:∀b:Addr,b∉(i7 CX P w K mg base N qual scope f cd A outer s H E).ex:=λb z=>absurd (show b∈([]:List Addr) from z) (by simp)
 refine⟨⟨e0.mod,S.kind,rfl,rfl,FX _,λy z c h1 h2=>?_,λy hy=>?_,λy c _ h=>?_,λ_=>hd,Around.frames_deeper e0.frames,.inr ⟨rfl,rfl⟩,λb z=>absurd z (noA b),e0.bs,e0.bsz,λb _ _=>noA b,λb z=>absurd z (noA b),e0.funs,e0.frf⟩,
  rfl,e0.bare,Un.kept hk,⟨_,x.toInCall.ns,λi y v h1 h2 h3=>?_⟩,λy c h=>⟨_,x.cell y c h⟩,e0.hok.fresh (FX _),λy c h=>?_,λp hp=>absurd (show p∈([]:List (Addr×Obj)) from hp) (by simp),e0.hok.kept hk,?_⟩
 ·exact name_of_addr x.apart (HB h1) (HB h2)
 ·have hy:scope.names.lookup y=some .cell\/scope.names.lookup y=some .free:=hy
  rcases hy with hy |hy
  ·exact qO hy
  ·exact absurd rfl (S.nofree _ (HB hy))
 ·exact Nat.le_of_lt (x.above y c (HB h))
 ·have hi:i < vs.length:=by
   unfold start at h2
   by_cases hi:i < vs.length
   ·exact hi
   ·rw[GA (by simpa using hi)] at h2
    rw[Hl] at h2
    split at h2 <;> cases h2
  have ha:vs[i]? =some v:=by
   unfold start at h2
   rw[GC (by simpa using hi),Gf] at h2
   cases e:vs[i]? with
   |none=>rw[e] at h2;cases h2
   |some a=>rw[e] at h2;cases h2;rfl
  obtain⟨u,hu,rv⟩:=r.get ha
  have hp:ps[i]? =some y:=by
   rw[<-S.pre,List.getElem?_take_of_lt (by omega)];exact h1
  have ndP:ps.Nodup:=by rw[<-S.pre];exact S.nd.sublist (List.take_sublist _ _)
  refine⟨u,rv,?_⟩
  rcases S.par y (Gy hp) with k |k
  ·exact .inl ⟨k,nO ndP hp hu k⟩
  ·obtain⟨c,e⟩:=qO (n:=s.heap.objs.size + 1) k
   refine .inr ⟨.inl k,c,e,?_⟩
   have q:=x.cell y c e
   rw[ny ndP hp hu (by show scope.names.lookup y≠_;rw[k];decide)] at q
   exact q
 ·exact e0.hok.fresh (Nat.le_of_lt (x.above y c (HB h)))
 ·unfold start
  show _=N.length
  rw[GO,Gv,HJ]
  omega
theorem zL {CX:uv}{P:Program}{w:World}{K:Frag}{mg:Str->Option Value}{base:Heap}{k:Nat}{f:Addr}{name qual:Str}{params:Arguments}{body:List Stmt}{scope:Scope}{dV kV doc pm cdv ct oc:Value}{an od:Option Addr}
  {osl:Array (Option Value)} {N ps:List Str} {sp:Sp} (lk:K.lookup f=some ⟨oc,od,.func (PySem.W.fnOf name qual params body scope dV kV doc pm an cdv ct),osl⟩) (hcd:PySem.W.codeIn K cdv qual=true) (S:aH N ps scope)
  (len:∀vs H Q E,sp vs H Q E->vs.length=ps.length)
  (hbody:∀(A:Around) (outer:List Env) (s:Shared) (H:Hp) (vs:List V) (Q:VK) (E:XK),eJ k (A.deeper (envOfC qual scope s.heap.objs.size f cdv))->sp vs H Q E->
   ∃t,n5 (i7 CX P w K mg base N qual scope f cdv A outer s H E) body t/\t {nx:=λ_ H'=>Q .non H',rt:=Q} (start N vs) H) :
  eB P w K mg base CX (k + 1) f (PySem.W.fnOf name qual params body scope dV kV doc pm an cdv ct) ps sp:=by
 refine⟨len,λA outer s H args us vs Q E hr e0 hb r hsp=>?_⟩
 have hl:=len _ _ _ _ hsp
 have KX:K.In s.heap:=e0.mod.kin.keeps λb o e=>(e0.bs b o e).1
 have lim:s.heap.NoLimit:=e0.mod.nolimit.keeps λb o e=>(e0.bs b o e).1
 have hkind:∀y∈ps.zip us,scope.names.lookup y.1=some .local\/(scope.names.lookup y.1=some .cell/\((cellsFrom (s.heap.objs.size + 1) scope.names []).lookup y.1).isSome=true):=λ⟨n,v⟩ hy=>by
  rcases S.par n (List.of_mem_zip hy).1 with q |q
  ·exact .inl q
  ·exact .inr ⟨q,PySem.W.cellsFrom_some _ _ _ (.inl q)⟩
 refine codeAny_call_function hr.depth (KX _ _ lk) rfl S.co S.gen rfl (PySem.W.codeRec_of KX hcd) (hb _ _ _ _ ?_)
 refine wpAny_newFunctionEnv_cells S.kind hkind λenv he s1 x=>?_
 subst he
 refine⟨lim.keeps x.toInCall.keep,codeAny_func ?_⟩
 obtain⟨t,ht,hq⟩:=hbody A outer s H vs Q E (hr.deeper _) hsp
 have I:Inv (i7 CX P w K mg base N qual scope f cdv A outer s H E) [] (start N vs) H s1:=ui S hr.hd e0 hl r x
 refine Ho (ht [] s1 (start N vs) H _ I hq) (λfl s' hs=>?_) λe s' hs=>hs
 have fin:∀{σ':St} {H':Hp} {v:V} {u:Value},Inv (i7 CX P w K mg base N qual scope f cdv A outer s H E) [] σ' H' s'->RelV v u->Q v H'->CE outer P w H s Q u s':=
  λ{σ' H' v u} J rv q=>⟨v,H',J.os,J.bare,J.base,J.hok,rv,q⟩
 cases fl with
 |ret u=>
  obtain⟨v,σ',H',J,rv,q⟩:=hs
  exact fin J rv q
 |next=>
  obtain⟨σ',H',J,q⟩:=hs
  exact fin (v:=V.non) (u:=Value.none) J rfl q
 |brk=>
  obtain⟨_,_,_,q⟩:=hs
  exact False.elim q
 |cont=>
  obtain⟨_,_,_,q⟩:=hs
  exact False.elim q
section
variable {X:Cx}{x:Str}{p pos:Pos}{e:Expr}{es:List Expr}{t:TA}{id T:String}{r:List V->Hp->VK->Prop}
def Ft (r:List V->Hp->VK->Prop)(t:TA):TE:=λσ H Q=>t σ H λvs H1=>r vs H1 Q
def iR (hc:dw X (.builtin id) r)(hg:Gl X x)(hm:X.mg x=none)(hv:bootBuiltins x=some (.builtin id))(ha:PA X (e :: es) t)(hn:x≠"__name__":=by decide)(hdb:(x == ("__debug__":Str))=false:=by decide)
  (he:starEach (e :: es) X.env=(false,eval e X.env) :: starEach es X.env:=by rfl) (hpl:(backTo pos (starEach es X.env)).any (·.1)=false:=by rfl):PE X (.Call (.Name x p) (e :: es) [] pos) (Ft r t):=by
 intro pins s σ H Q I h
 refine wpAny_Call_Name_kw (kc I hg hm hv ?_ hn hdb)
 exact PyProof.Rows.callWith_builtin1 (b7 (ha pos pins s σ H _ I h) λus s1 ⟨vs,H1,I1,r1,q1⟩=>hc pins s1 σ H1 vs us Q I1 r1 q1) he hpl
def j8 (hc:dw X (.type T) r)(hg:Gl X x)(hm:X.mg x=none)(hv:bootBuiltins x=some (.type T))(ha:PA X (e :: es) t)(hn:x≠"__name__":=by decide)(hdb:(x == ("__debug__":Str))=false:=by decide)
  (he:starEach (e :: es) X.env=(false,eval e X.env) :: starEach es X.env:=by rfl) (hpl:(backTo pos (starEach es X.env)).any (·.1)=false:=by rfl):PE X (.Call (.Name x p) (e :: es) [] pos) (Ft r t):=by
 intro pins s σ H Q I h
 refine wpAny_Call_Name_kw (kc I hg hm hv ?_ hn hdb)
 exact HG (b7 (ha pos pins s σ H _ I h) λus s1 ⟨vs,H1,I1,r1,q1⟩=>hc pins s1 σ H1 vs us Q I1 r1 q1) he hpl
end
end L2
namespace HT
open PySem PyProof.Rows
section
open PySem.SeqAt
open PySem.AutoSeq1 (wpAny_loadPart')
open PySem.MeetsSeq PySem.MeetsSeq2 PySem.MeetsSeq3
end
section
variable {prog:Program}{w:World}{A:Around}{E:Value->Shared->Prop}{s:Shared}
def zd {t b:Addr}{vs ws:List Value}{Q:Value->Shared->Prop}(ht:IsTup s.heap t vs.toArray)(hb:IsTup s.heap b ws.toArray)(hv:vs≠ [])
  (h1:ws= []->Q (.ref t) s) (h2:ws≠ []->Q (.ref s.heap.objs.size) {s with heap:=s.heap.push {cls:=.type "tuple",data:=.seq (vs ++ ws).toArray}})
  (hsz:vs.length + ws.length<=sizeLine):wpAny (model prog w) A (binaryOp .Add (.ref t) (.ref b)) Q E s:=by
 obtain⟨⟨cls,dd,data,sl⟩,ho,hc,n,hd⟩:=id ht
 obtain⟨⟨cls2,dd2,data2,sl2⟩,ho2,hc2,n2,hd2⟩:=id hb
 simp only at hc hd hc2 hd2
 subst hc hd hc2 hd2
 have e:vs.toArray ++ ws.toArray=(vs ++ ws).toArray:=by simp
 by_cases hw:ws= []
 ·exact concat_meets ⟨_,ho,rfl⟩ ⟨_,ho2,rfl⟩ noFill_tuple_add seq_tuple_add PySem.F.slot_tuple_add PySem.F.entry_tuple_add (IC _ _)
   (tuple_addW1 t b vs.toArray ws.toArray n n2 dd dd2 sl sl2 (by simpa using hv) (by simp[hw])) ⟨ho,ho2,h1 hw⟩
 ·refine concat_meets ⟨_,ho,rfl⟩ ⟨_,ho2,rfl⟩ noFill_tuple_add seq_tuple_add PySem.F.slot_tuple_add PySem.F.entry_tuple_add (IC _ _)
   (tuple_addW2 t b vs.toArray ws.toArray n n2 dd dd2 sl sl2 (by simpa using hv) (by simpa using hw) (by rw[Gk,Gk];exact hsz)) ⟨ho,ho2,?_⟩
  rw[e]
  exact h2 hw
def rn (n d:Nat):Option Int->Nat
 |none=>d
 |some v=>if v < 0 then (v + (n:Int)).toNat else min v.toNat n
end
end HT
namespace L2
open PySem PySem.Spec PyProof.Rows
abbrev TO:=St->Hp->(Option Int->Hp->Prop)->Prop
section
variable {X:Cx}{e:Expr}{te:TE}{lo hi:Option Expr}{tl th:TO}{pos p2:Pos}
def FH (X:Cx)(r:V->Option Int->Option Int->Hp->VK->Prop):Prop:=
 ∀(pins:List (Addr×Obj)) (s:Shared) (σ:St) (H:Hp) (x:V) (v vl vu:Value) (lo hi:Option Int) (sl:Addr) (Q:VK),Inv X pins σ H s->RelV x v->s.heap.IsSliceOf sl vl vu .none->IsPart vl lo->IsPart vu hi->r x lo hi H Q->
  ∃T id,typeLookup (.type T) "__getitem__"=pure (some (.builtin id))/\s.TypeIs v T/\wpAny (model X.prog X.w) X.A (getItem v (.ref sl)) (EP X pins σ Q) X.xe s
def yf (xs:List V)(lo hi:Option Int):List V:=(xs.drop (HT.rn xs.length 0 lo)).take (HT.rn xs.length xs.length hi - HT.rn xs.length 0 lo)
def pU (xs:List V)(lo hi:Option Int):(yf xs lo hi).length<=xs.length:=by
 unfold yf
 rw[Hd,List.length_drop]
 omega
def Cy (K:Frag):R2:=λx y H Q=>∃a b xs ys,x=.ref a/\y=.ref b/\cP K H a xs/\cP K H b ys/\xs≠ []/\xs.length + ys.length<=sizeLine/\
 (ys= []->Q (.ref a) H)/\(ys≠ []->∀p,H p=none->Q (.ref p) (upd H p (.tup (xs ++ ys))))
theorem Vals.nil_iff {xs:List V}{us:List Value}(r:Vals xs us):us= []↔xs= []:=by
 cases r with
 |nil=>simp
 |cons _ _=>simp
def ya:jh X (binaryOp .Add) (Cy X.K):=by
 intro pins s σ H x y v u Q I rx ry h
 obtain⟨a,b,xs,ys,rfl,rfl,ha,hb,hx,hz,q1,q2⟩:=h
 cases rx
 cases ry
 obtain⟨its,r1,p1,_⟩:=I.tuple ha
 obtain⟨its2,r2,p2,_⟩:=I.tuple hb
 refine HT.zd p1 p2 (λz=>hx (r1.nil_iff.mp z)) (λz=>⟨.ref a,H,I,rfl,q1 (r2.nil_iff.mp z)⟩) (λz=>?_) (by rw[<-r1.length,<-r2.length];exact hz)
 refine⟨.ref s.heap.objs.size,_,I.laid (t':=s.toks) (o:=.tup (xs ++ ys)) (λb ob q=>FT _ q) (FX _) ?_,rfl,q2 (λw=>z (r2.nil_iff.mpr w)) _ (I.hok.fresh (FX _))⟩
 exact⟨by rw[GO];exact hz,_,r1.append r2,mR.new _ _⟩
end
def vB (n:Nat)(i:Int):Option Nat:=if 0<=i then (if i < n then some i.toNat else none) else if -(n:Int)<=i then some (i + n).toNat else none
def kX {α:Type}(xs:List α)(i:Int):Option α:=(vB xs.length i).bind λj=>xs[j]?
def tS {n:Nat}{i:Int}{j:Nat}(h:vB n i=some j):seqIndex? i n=some j/\j < n/\ -(n:Int)<=i/\i < n:=by
 unfold vB at h
 by_cases h0:0<=i
 ·rw[FZ h0] at h
  by_cases h1:i < n
  ·rw[FZ h1] at h
   have e:i.toNat=j:=Option.some.inj h
   exact⟨by rw[seqIndex_of h0 h1,e],by omega,by omega,h1⟩
  ·rw[Gd h1] at h;cases h
 ·rw[Gd h0] at h
  by_cases h1: -(n:Int)<=i
  ·rw[FZ h1] at h
   have e:(i + n).toNat=j:=Option.some.inj h
   exact⟨by rw[seqIndex_neg (by omega) h1,e],by omega,h1,by omega⟩
  ·rw[Gd h1] at h;cases h
theorem n9 {α:Type}{xs:List α}{i:Int}{v:α}(h:kX xs i=some v):∃j,seqIndex? i xs.length=some j/\xs[j]? =some v/\j < xs.length/\ -(xs.length:Int)<=i/\i < xs.length:=by
 unfold kX at h
 cases e:vB xs.length i with
 |none=>rw[e] at h;cases h
 |some j=>
  rw[e] at h
  obtain⟨h1,h2,h3,h4⟩:=tS e
  exact⟨j,h1,h,h2,h3,h4⟩
def ox {α:Type}{xs:List α}{j:Nat}{v:α}(h:xs[j]? =some v):kX xs (j:Int)=some v:=by
 have hj:j < xs.length:=(Gs.mp h).1
 have e:vB xs.length (j:Int)=some j:=by
  unfold vB
  rw[FZ (by omega),FZ (by omega)];simp
 unfold kX;rw[e];exact h
def sE (b:Expr):Prop:=∀o i,subscripted b false o i=operate [o,i] (getItem o i)
def wm (X:Cx)(r:R2):Prop:=
 ∀(value slice:Expr) (pins:List (Addr×Obj)) (s:Shared) (σ:St) (H:Hp) (x y:V) (v u:Value) (Q:VK),Inv X pins σ H s->RelV x v->RelV y u->r x y H Q->
  subscripted slice false v u=operate [v,u] (getItem v u)->wpAny (model X.prog X.w) X.A (subscriptTail value slice v u) (EP X pins σ Q) X.xe s
def FL (X:Cx)(id:String)(r:V->List V->Hp->VK->Prop):Prop:=
 ∀(pins:List (Addr×Obj)) (s:Shared) (σ:St) (H:Hp) (x:V) (xs:List V) (v:Value) (us:List Value) (Q:VK),Inv X pins σ H s->RelV x v->Vals xs us->r x xs H Q->
  wpAny (model X.prog X.w) X.A (call (.builtin id) (v :: us)) (EP X pins σ Q) X.xe s
section
variable {X:Cx}{a b:Expr}{ta tb:TE}{pos:Pos}
def wm.or {r r':R2}(h:wm X r)(h':wm X r'):wm X (λx y H Q=>r x y H Q\/r' x y H Q):=by
 intro value slice pins s σ H x y v u Q I rx ry q hs
 rcases q with q |q
 ·exact h value slice pins s σ H x y v u Q I rx ry q hs
 ·exact h' value slice pins s σ H x y v u Q I rx ry q hs
def jk {r:R2}(hr:wm X r)(ha:PE X a ta)(hb:PE X b tb)(hs:sE b):PE X (.Subscript a b pos) (D5 r ta tb):=by
 intro pins s σ H Q I h
 exact Subscript_ (AI ha hb I h λv u s2 x y H2 I2 rx ry q=>hr a b pins s2 σ H2 x y v u Q I2 rx ry q (hs _ _))
def BE (K:Frag):R2:=λx y H Q=>∃p xs i v,x=.ref p/\y=.int i/\fZ K H p xs/\kX xs i=some v/\Q v H
def Cd (K:Frag):R2:=λx y H Q=>∃p xs i v,x=.ref p/\y=.int i/\cP K H p xs/\kX xs i=some v/\Q v H
def DJ:R2:=λx y H Q=>∃z i c,x=.str z/\y=.int i/\z.length<=sizeLine/\kX z.cps.toList i=some c/\Q (.str ⟨#[c]⟩) H
def eZ:wm X (BE X.K):=by
 intro value slice pins s σ H x y v u Q I rx ry h hs
 obtain⟨p,xs,i,z,rfl,rfl,hq,he,q⟩:=h
 cases rx
 obtain⟨t,rfl⟩:=ry
 obtain⟨its,r,pl,hz⟩:=I.list hq
 obtain⟨j,h1,h2,h3,h4,h5⟩:=n9 he
 obtain⟨w,ew,rw'⟩:=r.get h2
 have hl:=r.length
 have hn:=kd
 have fin:EP X pins σ Q w s:=⟨z,H,I,rw',q⟩
 by_cases h0:0<=i
 ·have hj:i.toNat=j:=by
   rw[seqIndex_of h0 h5] at h1
   exact Option.some.inj h1
  exact item_listR pl.isList h0 (by omega) (by rw[hj];simpa using ew) fin hs
 ·have hj:(i + (its.toArray.size:Int)).toNat=j:=by
   rw[seqIndex_neg (by omega) h4] at h1
   rw[Gk,<-hl]
   exact Option.some.inj h1
  exact subscriptTail_builtinR (x:=w) pl.isList.typeIs slot_list_getitem.lookup
   (wpAny_getItem_list_neg (Q:=λr s'=>r=w/\EP X pins σ Q r s') pl.isList (by omega) (by rw[Gk] <;> omega) (by omega) (by rw[hj];simpa using ew) ⟨rfl,fin⟩) hs
def Ay:wm X (Cd X.K):=by
 intro value slice pins s σ H x y v u Q I rx ry h hs
 obtain⟨p,xs,i,z,rfl,rfl,hq,he,q⟩:=h
 cases rx
 obtain⟨t,rfl⟩:=ry
 obtain⟨its,r,pl,hz⟩:=I.tuple hq
 obtain⟨j,h1,h2,h3,h4,h5⟩:=n9 he
 obtain⟨w,ew,rw'⟩:=r.get h2
 have hl:=r.length
 have hn:=kd
 have fin:EP X pins σ Q w s:=⟨z,H,I,rw',q⟩
 exact subscriptTail_builtinR (x:=w) pl.typeIs slot_tuple_getitem.lookup
  (getItem_tuple (j:=j) (Q:=λr s'=>r=w/\EP X pins σ Q r s') pl (by omega) (by omega) (by rw[Gk,<-hl];exact h1) (by simpa using ew) ⟨rfl,fin⟩) hs
def BS:wm X DJ:=by
 intro value slice pins s σ H x y v u Q I rx ry h hs
 obtain⟨z,i,c,rfl,rfl,hz,he,q⟩:=h
 obtain⟨t,rfl⟩:=rx
 obtain⟨t',rfl⟩:=ry
 obtain⟨j,h1,h2,h3,h4,h5⟩:=n9 he
 have hl:z.cps.toList.length=z.length:=by simp[Str.length]
 rw[hl] at h1 h4 h5
 have hn:=kd
 exact tail_any (typeIs_str s z t) slot_str_getitem.lookup (getItem_str (c:=c) (by
  have e1:decide (i < -(2 ^ 63:Int))=false:=Gn (by omega)
  have e2:decide (i>=2 ^ 63)=false:=Gn (by omega)
  rw[e1,e2,Bool.or_false]) (by rw[h1];simpa using h2) ⟨.str ⟨#[c]⟩,H,I.tok _,⟨_,rfl⟩,q⟩) hs
def Fl (K:Frag):R2:=λx y H Q=>BE K x y H Q\/Cd K x y H Q\/DJ x y H Q
def aP:wm X (Fl X.K):=eZ.or (Ay.or BS)
def rB (its:List Value)(n j:Nat)(u:Value):Obj.mapSeq (·.setIfInBounds j u) {cls:=.type "list",data:=.seq its.toArray n}={cls:=.type "list",data:=.seq (its.set j u).toArray n}:=by
 simp[Obj.mapSeq]
def Inv.lst {pins:List (Addr×Obj)}{σ:St}{H:Hp}{s:Shared}{p:Addr}{xs:List V}(I:Inv X pins σ H s)(h:H p=some (.lst xs)) :
  ∃(its:List Value) (n:Nat),Vals xs its/\s.heap.get? p=some {cls:=.type "list",data:=.seq its.toArray n}/\xs.length<=sizeLine:=by
 obtain⟨z,its,n,r,e⟩:=I.hok p _ h
 exact⟨its,n,r,e,z⟩
def Inv.lstUpd {pins:List (Addr×Obj)}{σ:St}{H:Hp}{s:Shared}{p:Addr}{xs ys:List V}{its its':List Value}{n n':Nat}{f:Obj->Obj}(I:Inv X pins σ H s)(h:H p=some (.lst xs))
  (ho:s.heap.get? p=some {cls:=.type "list",data:=.seq its.toArray n}) (hf:f {cls:=.type "list",data:=.seq its.toArray n}={cls:=.type "list",data:=.seq its'.toArray n'}) (r:Vals ys its') (hz:ys.length<=sizeLine) (t:Nat) :
  Inv X pins σ (upd H p (.lst ys)) {s with heap:=s.heap.update p f,toks:=t}:=by
 have e:(s.heap.update p f).get? p=some {cls:=.type "list",data:=.seq its'.toArray n'}:=by
  rw[GR f ho (by rw[hf] <;> rfl),hf]
 refine I.write (x:=p) (e:=p) (by rw[h];trivial) (.inl rfl) (λb u hb q=>(G7 _ _ (Ne.symm hb)).trans q) ⟨_,e⟩ ?_
 exact⟨hz,its',n',r,e⟩
def DA:V->V->V->Hp->(Hp->Prop)->Prop:=λo i v H Q=>∃p xs k j,o=.ref p/\i=.int k/\H p=some (.lst xs)/\vB xs.length k=some j/\Q (upd H p (.lst (xs.set j v)))
def set_list:l6 X DA:=by
 intro pins s σ H o i v ov iv u Q I ro ri rv h
 obtain⟨p,xs,k,j,rfl,rfl,hp,hj,q⟩:=h
 cases ro
 obtain⟨t,rfl⟩:=ri
 obtain⟨its,n,r,ho,hz⟩:=I.lst hp
 obtain⟨h1,h2,h3,h4⟩:=tS hj
 have hl:=r.length
 have hn:=kd
 have I':Inv X pins σ (upd H p (.lst (xs.set j v))) {s with heap:=s.heap.update p (Obj.mapSeq (·.setIfInBounds j u))}:=
  I.lstUpd hp ho (rB its n j u) (r.set rv j) (by rw[HK];exact hz) s.toks
 by_cases h0:0<=k
 ·have hk:k.toNat=j:=by
   rw[seqIndex_of h0 h4] at h1
   exact Option.some.inj h1
  exact PySem.W.ki_setAt ho h0 (by omega) (by rw[Gk,<-hl];exact h4) (by rw[hk];exact⟨_,I',q⟩)
 ·have hk:(k + (its.toArray.size:Int)).toNat=j:=by
   rw[seqIndex_neg (by omega) h3] at h1
   rw[Gk,<-hl]
   exact Option.some.inj h1
  exact PySem.W.ki_setBack ho (by omega) (by rw[Gk,<-hl];exact h3) (by omega) (by rw[hk];exact⟨_,I',q⟩)
def oZ (lo hi:Option Int)(n:Nat):(sliceBounds lo hi none n).1=((HT.rn n 0 lo:Nat):Int)/\(sliceBounds lo hi none n).2.1=((HT.rn n n hi:Nat):Int)/\(sliceBounds lo hi none n).2.2=1:=by
 refine⟨?_,?_,rfl⟩
 ·cases lo with
  |none=>simp[sliceBounds,HT.rn]
  |some i=>
   simp only[sliceBounds,HT.rn,Option.getD_none,show (1:Int) > 0 by decide,G8]
   by_cases h:i < 0
   ·simp only[h,G8] <;> omega
   ·simp only[h,GJ] <;> omega
 ·cases hi with
  |none=>simp[sliceBounds,HT.rn]
  |some i=>
   simp only[sliceBounds,HT.rn,Option.getD_none,show (1:Int) > 0 by decide,G8]
   by_cases h:i < 0
   ·simp only[h,G8] <;> omega
   ·simp only[h,GJ] <;> omega
def mQ (its:List Value)(lo hi:Option Int):slicePick its.toArray lo hi none=((its.drop (HT.rn its.length 0 lo)).take (HT.rn its.length its.length hi - HT.rn its.length 0 lo)).toArray:=by
 obtain⟨h1,h2,h3⟩:=oZ lo hi its.toArray.size
 unfold slicePick
 rw[h1,h2,h3]
 simp only[sliceRange_one,pick_run,Gk] <;> rfl
def EH (K:Frag):V->Option Int->Option Int->Hp->VK->Prop:=λx lo hi H Q=>∃a xs,x=.ref a/\fZ K H a xs/\∀p,H p=none->Q (.ref p) (upd H p (.lst (yf xs lo hi)))
def D0:FH X (EH X.K):=by
 intro pins s σ H x v vl vu lo hi sl Q I rx hs pl pu h
 obtain⟨a,xs,rfl,hx,q⟩:=h
 cases rx
 obtain⟨its,r,ht,hz⟩:=I.list hx
 have hlen:=r.length
 refine⟨"list",_,slot_list_getitem.lookup,ht.isList.typeIs,?_⟩
 refine wpAny_getItem_list_slice ht.isList hs pl pu .none (by simp) ?_ (by rw[Gk] <;> omega)
 rw[mQ,<-hlen]
 refine⟨.ref s.heap.objs.size,_,I.laid (t':=s.toks) (o:=.lst (yf xs lo hi)) (λb ob q=>FT _ q) (FX _) ?_,rfl,q _ (I.hok.fresh (FX _))⟩
 exact⟨Hn (pU xs lo hi) hz,_,0,(r.drop (HT.rn xs.length 0 lo)).take (HT.rn xs.length xs.length hi - HT.rn xs.length 0 lo),Gb _ rfl⟩
def cm:dw X (.type "tuple") (λxs H Q=>∃p ys,xs= [.ref p]/\((fZ X.K H p ys/\∀l,H l=none->Q (.ref l) (upd H l (.tup ys)))\/(cP X.K H p ys/\Q (.ref p) H))):=by
 intro pins s σ H xs us Q I r h
 obtain⟨p,ys,rfl,h⟩:=h
 obtain⟨u,rfl,rx⟩:=vals1 r
 cases rx
 rcases h with⟨hq,q⟩ | ⟨hq,q⟩
 ·obtain⟨its,r',pl,hz⟩:=I.list hq
  have hlen:=r'.length
  refine call_tuple_list pl.isList (λh' kp=>?_) (by simp only[Gk] <;> omega)
  have I1:Inv X pins σ H {s with heap:=h'}:=I.kept (t':=s.toks) kp
  have I2:Inv X pins σ (upd H h'.objs.size (.tup ys)) {s with heap:=h'.push {cls:=.type "tuple",data:=.seq its.toArray}}:=
   I1.laid (t':=s.toks) (λb o e=>FT _ e) (FX _) (show bW X.prog X.w _ _ _ (.tup ys) from⟨hz,its,r',mR.new _ _⟩)
  exact⟨.ref h'.objs.size,_,I2,rfl,q _ (I1.hok.fresh (FX _))⟩
 ·obtain⟨its,r',pl,hz⟩:=I.tuple hq
  exact call_tuple_same pl ⟨.ref p,H,I,rfl,q⟩
def Fm (K:Frag)(T:String)(x:V)(H:Hp):Prop:=match x with
 | .str _=>T="str"
 | .int _=>T="int"
 | .ref p=>(T="list"/\∃xs,fZ K H p xs)\/(T="tuple"/\∃o,K.lookup p=some o/\o.cls=.type "tuple"/\o.dict=none)\/
   (T="dict"/\((∃kvs,H p=some (.dK kvs))\/∃kvs,H p=some (.dT kvs)))\/(T="set"/\∃S n,H p=some (.set S n))
 |_=>False
theorem Ae {pins:List (Addr×Obj)}{σ:St}{H:Hp}{s:Shared}{T:String}{x:V}{v:Value}(I:Inv X pins σ H s)(r:RelV x v)(ty:Fm X.K T x H) :
  s.TypeIs v T/\∀a,v=.ref a->∃ob,s.heap.get? a=some ob/\ob.dict=none:=by
 cases x with
 |str z=>
  obtain⟨t,rfl⟩:=r
  cases (show T="str" from ty)
  exact⟨typeIs_str s z t,λ_ e=>nomatch e⟩
 |int i=>
  obtain⟨t,rfl⟩:=r
  cases (show T="int" from ty)
  exact⟨typeIs_int s i t,λ_ e=>nomatch e⟩
 |ref p=>
  cases r
  rcases ty with⟨rfl,xs,hq⟩ | ⟨rfl,o,hk,hc,hd⟩ | ⟨rfl,hk⟩ | ⟨rfl,S,n,hk⟩
  ·obtain⟨its,_,pl,_⟩:=I.list hq
   refine⟨pl.isList.typeIs,λa e=>?_⟩
   cases e
   obtain⟨o,n,e,c,hd,_⟩:=pl
   exact⟨o,e,hd⟩
  ·refine⟨⟨o,I.kIn p o hk,hc⟩,λa e=>?_⟩
   cases e
   exact⟨o,I.kIn _ o hk,hd⟩
  ·have z:∃o,s.heap.get? p=some o/\o.ExactDict:=by
    rcases hk with⟨kvs,hk⟩ | ⟨kvs,hk⟩
    ·obtain⟨_,_,_,_,o,_,_,e,ex,_⟩:=I.hok p _ hk
     exact⟨o,e,ex⟩
    ·obtain⟨_,_,_,_,o,_,_,e,ex,_⟩:=I.hok p _ hk
     exact⟨o,e,ex⟩
   obtain⟨o,e,ex⟩:=z
   refine⟨⟨o,e,ex.1⟩,λa e2=>?_⟩
   cases e2
   exact⟨o,e,ex.2.1⟩
  ·obtain⟨o,_,_,_,e,ex,_⟩:=I.hok p _ hk
   refine⟨⟨o,e,ex.1⟩,λa e2=>?_⟩
   cases e2
   exact⟨o,e,ex.2.1⟩
 |_=>exact False.elim ty
def FE (K:Frag)(T:String)(r:V->List V->Hp->VK->Prop)(to:TE)(t:TA):TE:=λσ H Q=>to σ H λx H1=>Fm K T x H1/\t σ H1 λxs H2=>r x xs H2 Q
variable {o e:Expr}{es:List Expr}{to:TE}{t:TA}{name:Str}{apos cpos:Pos}{T id:String}{r:V->List V->Hp->VK->Prop}
def zS (pa:PlainAttrs T)(slot:Slot T name id)(hty:typeOf (.builtin id)=pure (.type "method_descriptor"))(hm:FL X id r)(ho:PE X o to)(ha:PA X (e :: es) t)
  (hbase:attributeBase o name X.env (eval o X.env)=eval o X.env:=by rfl)
  (hfew:((backTo cpos (starEach (e :: es) X.env)).all (λx=> !x.1) && (backToKw cpos (keywordEach [] X.env)).all (λx=>x.1.isSome)
   && decide ((e :: es).length + ([]:List Keyword).length + (if ([]:List Keyword).isEmpty then 0 else 1) < 30))=true:=by rfl)
  (hline:(apos.endLine == cpos.line)=true:=by rfl) (hs:starEach (e :: es) X.env=(false,eval e X.env) :: starEach es X.env:=by rfl) (hplain:(backTo cpos (starEach es X.env)).any (·.1)=false:=by rfl) :
  PE X (.Call (.Attribute o name apos) (e :: es) [] cpos) (FE X.K T r to t):=by
 intro pins s σ H Q I h
 refine wpAny_Call_method_late hbase hfew hline rfl (b7 (ho pins s σ H _ I h) λv s1 ⟨x,H1,I1,r1,ty,q1⟩=>?_)
 obtain⟨h1,h2⟩:=Ae I1 r1 ty
 refine⟨T,id,pa,slot,hty,h1,h2,?_⟩
 have hA:=ha cpos pins s1 σ H1 _ I1 q1
 rw[hs] at hA ⊢
 refine Calls.callWith_builtin (by show (false || (backTo cpos (starEach es X.env)).any (·.1))=false;rw[hplain] <;> rfl) (Calls.evalArgs_plain ?_)
 exact b7 hA λus s2 ⟨vs,H2,I2,r2,q2⟩=>hm pins s2 σ H2 x vs v us Q I2 r1 r2 q2
end
def Fp (X:Cx)(id:String)(r:V->List V->Hp->VK->Prop):Prop:=
 ∀(pins:List (Addr×Obj)) (s:Shared) (σ:St) (H:Hp) (x:V) (xs:List V) (v:Value) (us:List Value) (Q:VK),Inv X pins σ H s->RelV x v->Vals xs us->r x xs H Q->
  wpAny (model X.prog X.w) X.A (call (.builtin id) (v :: us)) (EP X pins σ Q) X.xe s
theorem Vals.one:∀{x:V} {us:List Value},Vals [x] us->∃u,us= [u]/\RelV x u
 |_,_,.cons r .nil=>⟨_,rfl,r⟩
theorem Vals.eraseIdx:∀{xs:List V} {us:List Value} (i:Nat),Vals xs us->Vals (xs.eraseIdx i) (us.eraseIdx i)
 |_,_,_,.nil=>.nil
 |_,_,0,.cons _ t=>t
 |_,_,i + 1,.cons r t=>.cons r (Vals.eraseIdx i t)
theorem Vals.rep {xs:List V}{us:List Value}(h:Vals xs us):∀k:Nat,Vals (List.replicate k xs).flatten (List.replicate k us).flatten
 | 0=>.nil
 |k + 1=>by
  rw[HV,HV,IL,IL]
  exact Vals.append h (Vals.rep h k)
theorem foldl_rep (its:List Value):∀(k:Nat) (acc:List Value),
  List.foldl (λx1 x2=>x1 ++ x2) acc.toArray (List.replicate k its.toArray)=(acc ++ (List.replicate k its).flatten).toArray
 | 0,acc=>by simp
 |k + 1,acc=>by
  have e:acc.toArray ++ its.toArray=(acc ++ its).toArray:=by simp
  have e2:(acc ++ its) ++ (List.replicate k its).flatten=acc ++ (List.replicate (k + 1) its).flatten:=by
   rw[HV,IL,IM]
  rw[<-e2,<-foldl_rep its k (acc ++ its),<-e,HV,foldl_cons]
section
variable {X:Cx}{pins:List (Addr×Obj)}{σ:St}{H:Hp}{s:Shared}{l b:Addr}{xs ys zs:List V}
def Inv.lset {its its':List Value}{n:Nat}{f:Array Value->Array Value}{t':Nat}(I:Inv X pins σ H s)(hH:H l=some (.lst xs))
  (e:s.heap.get? l=some {cls:=.type "list",data:=.seq its.toArray n}) (hf:f its.toArray=its'.toArray) (hv:Vals ys its') (hz:ys.length<=sizeLine) :
  Inv X pins σ (upd H l (.lst ys)) {s with heap:=s.heap.update l (Obj.mapSeq f),toks:=t'}:=by
 have q:=PySem.IsL.update e f
 rw[hf] at q
 refine I.write (x:=l) (e:=l) (by rw[hH];exact trivial) (.inl rfl) (λb' u hb hu=>(G7 s.heap (Obj.mapSeq f) (Ne.symm hb)).trans hu) ⟨_,q⟩ ?_
 exact⟨hz,its',_,hv,q⟩
def Inv.lnew {its:List Value}{t':Nat}(I:Inv X pins σ H s)(hv:Vals ys its)(hz:ys.length<=sizeLine) :
  Inv X pins σ (upd H s.heap.objs.size (.lst ys)) {s with heap:=s.heap.push {cls:=.type "list",data:=.seq its.toArray},toks:=t'}:=
 I.laid (λ_ _ q=>FT _ q) (FX _) ⟨hz,its,0,hv,Gb _ rfl⟩
def Inv.fresh (I:Inv X pins σ H s):H s.heap.objs.size=none:=I.hok.fresh (FX _)
def Inv.lstM (I:Inv X pins σ H s)(hH:H l=some (.lst xs)):xs.length<=sizeLine/\∃(its:List Value) (n:Nat),Vals xs its/\xs.length=its.length/\s.heap.get? l=some {cls:=.type "list",data:=.seq its.toArray n}:=by
 obtain⟨z,its,n,r,e⟩:=I.hok l _ hH
 exact⟨z,its,n,r,r.length,e⟩
def pY {n:Nat}(h:n<=sizeLine):Builtin.List.listTooLong n=false:=by
 unfold Builtin.List.listTooLong
 exact Gn (by omega)
end
section
variable {X:Cx}
def xX:V->List V->Hp->VK->Prop:=λx vs H Q=>∃l xs y,x=.ref l/\vs= [y]/\H l=some (.lst xs)/\xs.length < sizeLine/\Q .non (upd H l (.lst (xs ++ [y])))
def nM:Fp X "list.append" xX:=by
 intro pins s σ H x vs v us Q I rx rv h
 obtain⟨l,xs,y,rfl,rfl,hH,hz,q⟩:=h
 cases rx
 obtain⟨u,rfl,ru⟩:=rv.one
 obtain⟨z,its,n,r,hl,e⟩:=I.lstM hH
 refine call_meets F.slot_list_append ⟨_,e,rfl⟩ F.entry_list_append (F.args_list_append_2 _ _) (PySem.list_append l its.toArray n u (by rw[Gk];omega)) ⟨e,?_⟩
 refine⟨.non,_,I.lset (its':=its ++ [u]) hH e (by simp) (r.append (.cons ru .nil)) ?_,rfl,q⟩
 rw[GO,List.length_singleton]
 omega
def Ff:R2:=λx y H Q=>∃l k xs,x=.ref l/\y=.int k/\H l=some (.lst xs)/\ -(2 ^ 63)<=k/\k < 2 ^ 63/\xs.length * k.toNat<=sizeLine/\
 ∀p,H p=none->Q (.ref p) (upd H p (.lst (List.replicate k.toNat xs).flatten))
theorem len_rep {α:Type}(xs:List α)(k:Nat):(List.replicate k xs).flatten.length=k * xs.length:=by
 induction k with
 |zero=>simp
 |succ k ih=>rw[HV,IL,GO,ih,Nat.succ_mul,Nat.add_comm]
def Bc:jh X (binaryOp .Mult) Ff:=by
 intro pins s σ H x y v u Q I rx ry h
 obtain⟨l,k,xs,rfl,rfl,hH,h1,h2,hz,q⟩:=h
 cases rx
 obtain⟨t,rfl⟩:=ry
 obtain⟨z,its,n,r,hl,e⟩:=I.lstM hH
 have hlen:its.toArray.size * k.toNat<=sizeLine:=by rw[Gk,<-hl];exact hz
 have hcap:¬its.toArray.size * k.toNat > (2 ^ 63 - 1) / 8:=by
  have:(sizeLine:Nat)<=(2 ^ 63 - 1) / 8:=by decide
  omega
 have hfit:¬(!Builtin.List.listFitsIndex k)=true:=by
  rw[fitsIndex_both h1 h2]
  exact GF
 have hlong:¬Builtin.List.listTooLong (its.toArray.size * k.toNat)=true:=by
  rw[pY hlen]
  exact GF
 have hnew:List.foldl (λx1 x2=>x1 ++ x2) #[] (List.replicate (if its.toArray.isEmpty=true then 0 else k.toNat) its.toArray)=(List.replicate k.toNat its).flatten.toArray:=by
  have f0:∀m:Nat,List.foldl (λx1 x2=>x1 ++ x2) #[] (List.replicate m its.toArray)=(List.replicate m its).flatten.toArray:=λm=>by
   have:=foldl_rep its m []
   rw[List.nil_append] at this
   exact this
  rw[f0]
  cases its with
  |nil=>simp
  |cons a r'=>rw[Gd (by simp)]
 refine wpAny_binaryOp_repeat_ref (T:="list") (U:="int") (by decide) ⟨_,e,rfl⟩ (λs'=>typeIs_int s' k t) noFill_list_mul F.fills_int_mul F.slot_int_rmul repeat_list F.slot_int_index.lookup
  (call_meets F.slot_int_rmul (typeIs_int s k t) F.entry_int_rmul (F.args_int_rmul_2 _ _) (int___rmul___int_list k t l its.toArray n)
   ⟨e,rfl,⟨_,e,rfl⟩,call_meets F.slot_list_mul ⟨_,e,rfl⟩ F.entry_list_mul (F.args_list_mul_2 _ _) (AutoListH.list___mul___list_int_3 l its.toArray n k t hfit hcap hlong) ⟨e,?_⟩⟩)
 rw[hnew]
 exact⟨.ref _,_,I.lnew (t':=s.toks) (r.rep k.toNat) (by rw[len_rep,Nat.mul_comm];exact hz),rfl,q _ I.fresh⟩
end
end L2
namespace Att
open PySem PySem.W PySem.Calls PyProof.Rows
theorem kQ {P:Params}{h:Heap}:∀(ns:List Int) (vs:List Value),WellAll P h vs (ns.map WData.int)->IntsAre vs ns:=by
 intro ns
 induction ns with
 |nil=>
  intro vs w
  rw[List.map_nil] at w
  cases w
  exact .nil
 |cons n ns ih=>
  intro vs w
  rw[He] at w
  cases w with
  |cons a b=>
   cases a
   exact .cons _ _ (ih _ b)
theorem uE {l:OpenLaw}{n:Nat}(hn:l.most=some n){P:Params}{h:Heap}{args:List WData}{vals:List Value}
  (hpre:l.row.toRowW.claim.pre args=true) (hwl:WellAll P h vals args) :
  ∃a vs ns,vals= [Value.ref a]/\args= [WData.list (ns.map WData.int)]/\h.get? a=some {cls:=.type "list",data:=.seq vs.toArray}/\IntsAre vs ns/\ns.length<=n:=by
 have hsh:WShape.hasAll [] args [.list .int]=true:=(pre_splitW hpre).1
 have hc:l.pre.holds [] {args:=args}=true:=(pre_splitW hpre).2
 obtain⟨d,r,rfl,h1,h2⟩:=hasAllW_cons hsh
 obtain rfl:=hasAllW_nil h2
 obtain⟨xs,rfl,h3⟩:=hasW_list h1
 obtain⟨ns,rfl⟩:=items_int h3
 have hlen:ns.length<=n:=by
  unfold OpenLaw.pre at hc
  have h4:(WTm.not (.lt (.lit (.int (n:Int))) (.len (.arg 0)))).holds [] {args:=[.list (ns.map .int)]}=true:=by
   have h4:=(holds_andW hc).1
   rw[hn] at h4
   exact h4
  have h5:=condW_of h4 (w_not (w_lt w_lit (w_len_list (w_arg rfl))))
  rw[Gv] at h5
  refine Nat.le_of_not_lt λq=>?_
  have q':(n:Int) < ((ns.length:Nat):Int):=by omega
  first
   | (rw[Gj q'] at h5;exact absurd h5 (by decide))
   | (simp at h5;omega)
 cases hwl with
 |cons w1 w2=>
  cases w2
  cases w1 with
  |list ho hall=>exact⟨_,_,ns,rfl,rfl,ho,kQ ns _ hall,hlen⟩
def uV (l:OpenLaw)(args:List WData):l.row.toRowW.claim.post args (.bool true) args=true:=
 postW_of (r:=l.row.toRowW) (X:=(true == true))
  (show WShape.has [] (.bool true) .bool=true by first |rfl |decide |simp[WShape.has,WShape.arms,WShape.armsAll])
  (show (WTm.eq .res (.lit (.bool true))).value [] {args:=args,res:=some (.bool true),after:=args}=some (.bool (true == true)) from w_eq_bool (w_res rfl) w_lit) rfl
def qu {l:OpenLaw}{n:Nat}{q:Program}{loose:List Str}{XP:(Str->Option Value)->Heap->Prop}{YP:World->Heap->Prop}{d:DefRec}
  (hn:l.most=some n) (hdf:d.params.defaults= [])
  (call:∀(w:World) (s₀ s₁:Shared) (mg mb:Str->Option Value) (fa:Addr) (o:Obj) (pm cd doc:Value) (a:Addr) (vs:List Value) (ns:List Int),
   Ground q loose [] XP w s₀ mg mb s₁.heap->YP w s₁.heap->
   s₁.heap.get? fa=some o->o.data=.func (docDef d.name d.params d.body d.scope pm cd doc)->s₁.heap.CodeRec cd d.name->mg d.name=some (.ref fa)->
   s₁.heap.get? a=some {cls:=.type "list",data:=.seq vs.toArray}->IntsAre vs ns->ns.length<=n->s₁.gens=#[]->
   codeAny (model l.prog w) callerA (.call (.ref fa) ⟨[.ref a],[]⟩) (λr s'=>r=.ok (.ret (.bool true))/\OldK s₁.heap s'.heap/\s'.os=s₁.os/\AllBare s'.gens) s₁) :
  WalkO q loose XP YP l.row.toRowW d [] (λf vs=>PySem.call f vs):=by
 intro w s₀ s₁ mg mb G Y fa o pm cd doc dV kV ho hd hcd hD hmg hg args vals as hpre hlay hrd hwl hlo
 obtain rfl:dV=.none:=Dflts.none hD hdf
 obtain rfl:kV=.none:=Dflts.noKw hD
 obtain⟨a,vs,ns,rfl,rfl,hobj,hints,hlen⟩:=uE hn hpre hwl
 refine enter_call (IB (call w s₀ s₁ mg mb fa o pm cd doc a vs ns G Y ho (fd_plain hd) hcd hmg hobj hints hlen hg) λr s' hq=>?_)
 obtain⟨rfl,h2,h3,h4⟩:=hq
 exact⟨.inl ⟨.bool true,.bool true,[],rfl,λ_=>rfl,.bool true,uV l _,λ_=>⟨List.Pairwise.nil,λ_ hm=>(nomatch hm)⟩⟩,h2,h3,h4⟩
end Att
namespace L2
open PySem PySem.Spec PyProof.Rows
theorem m9:∀{vs:List Value} {ns:List Int},IntsAre vs ns->Vals (ns.map V.int) vs
 |_,_,.nil=>.nil
 |_,_,.cons n t h=>.cons ⟨t,rfl⟩ (m9 h)
def BR (H:Hp):Prop:=∀b,H b=none\/∃o xs,H b=some (.aX o (.lst xs))
theorem vX {P:Program}{w:World}{K:Frag}{mg mb:Str->Option Value}{CX:uv}{k:Nat}{fa a:Addr}{fd:FuncData}{x:Str}{sp:Sp}{s₁:Shared}{vs:List Value}{ns:List Int}
  (KX:K.In s₁.heap) (hns:s₁.heap.Ns mainGlobals mg) (hb:s₁.heap.Ns builtinsNs mb) (hbb:∀x:Str,x≠"__name__"->mb x=bootBuiltins x) (hlim:s₁.heap.NoLimit) (hsys:∃mm,s₁.heap.Ns sysModules mm) (hg:s₁.gens=#[])
  (ha:s₁.heap.get? a=some {cls:=.type "list",data:=.seq vs.toArray}) (hi:IntsAre vs ns) (hl:ns.length<=sizeLine) (hr:eJ k callerA)
  (F:∀base:Heap,K.In base->base.Ns mainGlobals mg->eB P w K mg base CX k fa fd [x] sp) (hbind:∀(s:Shared) (u:Value),BindsTo s fd ⟨[u],[]⟩ [(x,u)])
  (hsp:∀H:Hp,BR H->fZ K H a (ns.map V.int)->sp [.ref a] H (λv _=>v=.bl true) λ_ _ _=>False)
  (hCX:∀H e s',CX [] H s₁ (λ_ _ _=>False) e s'->False) :
  codeAny (model P w) callerA (.call (.ref fa) ⟨[.ref a],[]⟩) (λr s'=>r=.ok (.ret (.bool true))/\OldK s₁.heap s'.heap/\s'.os=s₁.os/\AllBare s'.gens) s₁:=by
 have rv:=m9 hi
 have lenV:=hi.length
 have core:∀H:Hp,BR H->fZ K H a (ns.map V.int)->iY P w H s₁.heap->(∀b,H b≠none->b=a)->(H a≠none->K.lookup a=none)->
   codeAny (model P w) callerA (.call (.ref fa) ⟨[.ref a],[]⟩) (λr s'=>r=.ok (.ret (.bool true))/\OldK s₁.heap s'.heap/\s'.os=s₁.os/\AllBare s'.gens) s₁:=by
  intro H hO hS hok hA hK
  have base_of:∀{b:Addr} {o:Obj},s₁.heap.get? b=some o->H b=none->(nR s₁.heap H).get? b=some o:=λe n=>xm e n
  have noA:∀{b:Addr} {o:Obj} {es:Array DictEntry} {ep:Nat},s₁.heap.get? b=some o->o.data=.dict es ep->H b=none:=λ{b o es ep} e d=>by
   cases q:H b with
   |none=>rfl
   |some u=>
    have e':b=a:=hA b (by rw[q];simp)
    subst e'
    rw[ha] at e;cases e
    have d':Data.seq vs.toArray _=Data.dict es ep:=d
    cases d'
  have nsK:∀{b:Addr} {m:Str->Option Value},s₁.heap.Ns b m->(nR s₁.heap H).Ns b m:=λ{b m} ⟨o,es,ep,e,d,r⟩=>⟨o,es,ep,base_of e (noA e d),d,r⟩
  have hKb:K.In (nR s₁.heap H):=λb o e=>base_of (KX b o e) (by
   cases q:H b with
   |none=>rfl
   |some u=>
    have e':b=a:=hA b (by rw[q];simp)
    subst e'
    rw[hK (by rw[q];simp)] at e;cases e)
  have hM:Mod K mg (nR s₁.heap H):=⟨hKb,nsK hns,⟨mb,nsK hb,hbb⟩,let ⟨mc,h1,h2⟩:=hlim;⟨mc,nsK h1,h2⟩,let ⟨mm,h1⟩:=hsys;⟨mm,nsK h1⟩⟩
  have e0:yg P w K mg (nR s₁.heap H) callerA [] s₁ H:=⟨rfl,hM,λb o e=>yz e,Nat.le_of_eq (uO _ _),trivial,λb hb=>absurd (show b∈([]:List Addr) from hb) (by simp),hok,.of_eq hg⟩
  refine IB ((F _ hKb (nsK hns)).run callerA [] s₁ H ⟨[.ref a],[]⟩ [.ref a] [.ref a] _ _ hr e0 (hbind s₁ (.ref a)) (.cons rfl .nil) (hsp H hO hS)) λr s' h=>?_
  cases r with
  |error e=>exact (hCX H e s' h).elim
  |ok fl=>
   cases fl with
   |next=>exact False.elim h
   |brk=>exact False.elim h
   |cont=>exact False.elim h
   |ret u=>
    obtain⟨v,H',os,bare,un,hok',r',q⟩:=h
    have q':v=.bl true:=q
    subst q'
    obtain rfl:u=Value.bool true:=r'
    refine⟨rfl,OldK.of_keep λb o e=>?_,os,bare⟩
    cases q:H b with
    |none=>exact un.keep b o e q (by intro z;exact absurd (show b∈([]:List Addr) from z) (by simp)) (by simp)
    |some u=>
     rcases hO b with z | ⟨ob,xs,z⟩
     ·rw[q] at z;cases z
     ·have z2:=un.frzs b ob _ z
      obtain⟨e1,_⟩:=hok b _ z
      obtain⟨e2,_⟩:=hok' b _ z2
      rw[e] at e1;cases e1
      exact e2
 cases hk:K.lookup a with
 |some o=>
  have e:=KX a o hk
  rw[ha] at e
  cases e
  refine core (λ_=>none) (λ_=>.inl rfl) (.inr ⟨_,vs.toArray,_,hk,rfl,rfl,rfl,by rw[Gk,lenV];exact hl,by simpa using rv⟩) (λb u z=>by have z':(none:Option HO)=some u:=z;cases z') (λb z=>absurd rfl z) λz=>absurd rfl z
 |none=>
  refine core (λb=>if b=a then some (.aX {cls:=.type "list",data:=.seq vs.toArray} (.lst (ns.map V.int))) else none) (λb=>?_) (.inl (.inr ⟨{cls:=.type "list",data:=.seq vs.toArray},FZ rfl⟩)) (λb u z=>?_) (λb z=>?_) λ_=>hk
  ·by_cases hb:b=a
   ·exact .inr ⟨_,_,FZ hb⟩
   ·exact .inl (Gd hb)
  ·by_cases hb:b=a
   ·have z':=(FZ hb).symm.trans z
    cases z'
    subst hb
    exact⟨ha,by rw[Gv];exact hl,vs,_,rv,ha⟩
   ·have z':=(Gd hb).symm.trans z
    cases z'
  ·by_cases hb:b=a
   ·exact hb
   ·exact absurd (Gd hb) z
def y6 {l:PySem.W.OpenLaw}{n k:Nat}{q:Program}{loose:List Str}{XP:(Str->Option Value)->Heap->Prop}{YP:World->Heap->Prop}{d:DefRec}{K:Params->Frag}{CX:World->uv}{sp:World->Sp}{x:Str}
  (hn:l.most=some n) (hn2:n<=sizeLine) (hdf:d.params.defaults= []) (hi:PyProof.Rows.importsNone q=true) (hr:eJ k callerA)
  (hY:∀(w:World) (h:Heap),YP w h->(K w.params).In h)
  (F:∀(w:World) (mg:Str->Option Value) (fa:Addr) (h:Heap),(K w.params).In h->h.Ns mainGlobals mg->mg d.name=some (.ref fa)->
   ∃fd:FuncData,(∀(s:Shared) (u:Value),BindsTo s fd ⟨[u],[]⟩ [(x,u)])/\
    ∀base:Heap,(K w.params).In base->base.Ns mainGlobals mg->eB l.prog w (K w.params) mg base (CX w) k fa fd [x] (sp w))
  (hsp:∀(w:World) (H:Hp) (a:Addr) (ns:List Int),ns.length<=n->BR H->fZ (K w.params) H a (ns.map V.int)->sp w [.ref a] H (λv _=>v=.bl true) λ_ _ _=>False)
  (hCX:∀(w:World) (H:Hp) (s:Shared) (e:Value) (s':Shared),CX w [] H s (λ_ _ _=>False) e s'->False) :
  PySem.W.WalkO q loose XP YP l.row.toRowW d [] (λf vs=>PySem.call f vs):=by
 refine Att.qu hn hdf λw s₀ s₁ mg mb fa o pm cd doc a vs ns G Y ho hd hcd hmg hobj hints hlen hg=>?_
 have KX:=hY w _ Y
 obtain⟨fd,hb,hF⟩:=F w mg fa _ KX G.T.g hmg
 exact vX KX G.T.g G.T.b G.T.builtins G.T.nolimit (let ⟨mm,h1,_⟩:=(G.T.seer hi).mods;⟨mm,h1⟩) hg hobj hints (Hn hlen hn2) hr hF hb (λH hO hS=>hsp w H a ns hlen hO hS) λH e s'=>hCX w H s₁ e s'
def fT (s:Stmt):Arguments:=match s with
 | .FunctionDef _ a _ _ _ _ _ _ _ _=>a
 |_=>{posonlyargs:=[],args:=[],vararg:=none,kwonlyargs:=[],kw_defaults:=[],kwarg:=none,defaults:=[]}
def cT (s:Stmt):List Stmt:=match s with
 | .FunctionDef _ _ b _ _ _ _ _ _ _=>b
 |_=>[]
def ar (s:Stmt):Scope:=match s with
 | .FunctionDef _ _ _ _ _ _ sc _ _ _=>sc
 |_=>{kind:=.function,names:=[],isGenerator:=false,isCoroutine:=false}
abbrev Aq:uv:=λ_ _ _ _ _ _=>False
abbrev E0:XK:=λ_ _ _=>False
def C5 {X:Cx}:Passes Aq X E0:=λ_ _ _ _ _ _ _ h=>h.elim
structure xP (K:Frag)(x qual:Str)(st:Stmt)(f:Addr)(fd:FuncData):Prop where
 ex:∃(oc:Value) (od:Option Addr) (kV doc pm:Value) (an:Option Addr) (cdv ct:Value) (osl:Array (Option Value)),
  fd=PySem.W.fnOf x qual (fT st) (cT st) (ar st) .none kV doc pm an cdv ct/\K.lookup f=some ⟨oc,od,.func fd,osl⟩/\PySem.W.codeIn K cdv qual=true
 kp:PySem.W.keepIn K (.ref f)=true
section
variable {P:Program}{w:World}{K:Frag}{mg:Str->Option Value}{base:Heap}
def xP.ok {x qual:Str}{st:Stmt}{f:Addr}{fd:FuncData}{N ps:List Str}{k:Nat}{sp:Sp}(F:xP K x qual st f fd)(S:aH N ps (ar st))(len:∀vs H Q E,sp vs H Q E->vs.length=ps.length)
  (hbody:∀(cdv:Value) (A:Around) (outer:List Env) (s:Shared) (H:Hp) (vs:List V) (Q:VK) (E:XK),eJ k (A.deeper (envOfC qual (ar st) s.heap.objs.size f cdv))->sp vs H Q E->
   ∃t,n5 (i7 Aq P w K mg base N qual (ar st) f cdv A outer s H E).nox (cT st) t/\t {nx:=λ_ H'=>Q .non H',rt:=Q} (start N vs) H):eB P w K mg base Aq (k + 1) f fd ps sp:=by
 obtain⟨oc,od,kV,doc,pm,an,cdv,ct,osl,rfl,lk,hcd⟩:=F.ex
 refine zL lk hcd S len λA outer s H vs Q E hr hsp=>?_
 obtain⟨t,h,q⟩:=hbody cdv A outer s H vs Q E hr hsp
 exact⟨t,h.nox,q⟩
def xP.binds {x qual:Str}{st:Stmt}{f:Addr}{fd:FuncData}{ps:List Str}(F:xP K x qual st f fd)
  (h:∀(kV doc pm:Value) (an:Option Addr) (cdv ct:Value) (us:List Value),us.length=ps.length->bindArgs (PySem.W.fnOf x qual (fT st) (cT st) (ar st) .none kV doc pm an cdv ct) ⟨us,[]⟩=pure (ps.zip us)):Binds K fd ps []:=by
 obtain⟨oc,od,kV,doc,pm,an,cdv,ct,osl,rfl,lk,hcd⟩:=F.ex
 exact .all (h kV doc pm an cdv ct)
def rC {x qual:Str}{st:Stmt}{f:Addr}{oc:Value}{od an:Option Addr}{osl:Array (Option Value)}{kV doc pm cdv ct:Value}(l:K.lookup f=some ⟨oc,od,.func (PySem.W.fnOf x qual (fT st) (cT st) (ar st) .none kV doc pm an cdv ct),osl⟩)
  (c:PySem.W.codeIn K cdv qual=true) (k:PySem.W.keepIn K (.ref f)=true):xP K x qual st f (PySem.W.fnOf x qual (fT st) (cT st) (ar st) .none kV doc pm an cdv ct):=⟨⟨oc,od,kV,doc,pm,an,cdv,ct,osl,rfl,l,c⟩,k⟩
end
section
variable {X:Cx}
def pv (i:Nat){x:Str}{pos:Pos}(hN:X.N[i]? =some x:=by rfl)(hv:va X.env.scope x:=by first |exact Or.inl rfl |exact Or.inr (Or.inl rfl) |exact Or.inr (Or.inr rfl))(hd:(x == ("__debug__":Str))=false:=by decide)
  (hcd:(x == ("__classdict__":Str))=false:=by decide):PE X (.Name x pos) (xV i):=jo hN hv hd hcd
end
def oO {A B:Prop}(h:B):if false=true then A else B:=by
 rw[Gd GF]
 exact h
def nX {A B:Prop}(h:A):if true=true then A else B:=by
 rw[FZ rfl]
 exact h
def EF (o:Obj):Prop:=∃vs q t,o.data=.fields vs/\vs[1]? =some (.str q t)
def Kt (H:Hp)(b:Addr):HO->Prop
 | .tbl ps=>∃more:Array Value,H b=some (.tbl (ps ++ more))/\∀c,Value.ref c∈more.toList->∃o,H c=some (.aX o (.own 0))/\EF o
 |o=>H b=some o
theorem Kt.of {H:Hp}{b:Addr}{o:HO}(h:H b=some o):Kt H b o:=by
 cases o with
 |tbl ps=>exact⟨#[],by rw[h];simp,λc hc=>by simp at hc⟩
 |_=>exact h
def ah (H H':Hp):Prop:=∀b o,H b=some o->Kt H' b o
def ah.refl (H:Hp):ah H H:=λ_ _ h=>Kt.of h
theorem Kt.some {H:Hp}{b:Addr}{o:HO}(h:Kt H b o):∃u,H b=Option.some u/\((∀ps,o≠.tbl ps)->u=o)/\((∃ps,o=.tbl ps)->∃ps,u=.tbl ps):=by
 cases o with
 |tbl ps=>obtain⟨m,e,_⟩:=h;exact⟨_,e,λz=>absurd rfl (z ps),λ_=>⟨_,rfl⟩⟩
 |_=>exact⟨_,h,λ_=>rfl,λ⟨ps,z⟩=>by cases z⟩
theorem Kt.step {H H':Hp}{b:Addr}{o:HO}(h:Kt H b o)(s:ah H H'):Kt H' b o:=by
 cases o with
 |tbl ps=>
  obtain⟨m,e,k⟩:=h
  obtain⟨m2,e2,k2⟩:=s b _ e
  refine⟨m ++ m2,by rw[e2,Array.append_assoc],λc hc=>?_⟩
  rw[Array.toList_append,GB] at hc
  rcases hc with hc |hc
  ·obtain⟨o,eo,io⟩:=k c hc;exact⟨o,s c _ eo,io⟩
  ·exact k2 c hc
 |lst xs=>exact s b _ h
 |tup xs=>exact s b _ h
 |dK xs=>exact s b _ h
 |dT xs=>exact s b _ h
 |set S n=>exact s b _ h
 |ins C dx fs=>exact s b _ h
 |own x=>exact s b _ h
 |xd fs=>exact s b _ h
 |met f x=>exact s b _ h
 |xG lo hi=>exact s b _ h
 |aX o u=>exact s b _ h
 |ext φ=>exact s b _ h
def ah.trans {H H1 H2:Hp}(a:ah H H1)(b:ah H1 H2):ah H H2:=λc o h=>(a c o h).step b
theorem ah.free {H H':Hp}(e:ah H H'){l:Addr}(h:H' l=Option.none):H l=Option.none:=by
 cases q:H l with
 |none=>rfl
 |some o=>
  obtain⟨u,z,_⟩:=(e l o q).some
  rw[z] at h
  cases h
def ah.seq {K:Frag}{H H':Hp}{a:Addr}{xs:List V}(e:ah H H')(h:fZ K H a xs):fZ K H' a xs:=by
 rcases h with (h | ⟨o,h⟩) |h
 ·exact .inl (.inl (e _ _ h))
 ·exact .inl (.inr ⟨o,e _ _ h⟩)
 ·exact .inr h
end L2
end
namespace L2.ST
open PySem PySem.SetTable
abbrev gW (xs:Array Nat):Prop:=xs.toList.Pairwise (· < ·)
def fH {xs:Array Nat}(h:gW xs){i k d:Nat}(hik:i < k)(hk:k < xs.size):xs.getD i d < xs.getD k d:=by
 have hi:i < xs.size:=Nat.lt_trans hik hk
 have:=HQ.mp h i k (by simpa using hi) (by simpa using hk) hik
 simpa[Array.getD,hi,hk] using this
theorem vY {xs:Array Nat}{j:Nat}(h:gW xs):∀(fuel lo hi:Nat),lo<=hi->hi<=xs.size->hi - lo<=fuel->
  (∀i,i < lo->xs.getD i j < j)->(∀i,hi<=i->i < xs.size->j<=xs.getD i j)->
  below.go xs j fuel lo hi<=xs.size/\(∀i,i < below.go xs j fuel lo hi->xs.getD i j < j)/\(∀i,below.go xs j fuel lo hi<=i->i < xs.size->j<=xs.getD i j):=by
 intro fuel
 induction fuel with
 |zero=>
  intro lo hi h1 h2 h3 h4 h5
  have:lo=hi:=by omega
  subst this
  exact⟨h2,h4,h5⟩
 |succ fuel ih=>
  intro lo hi h1 h2 h3 h4 h5
  unfold below.go
  by_cases hlt:lo < hi
  ·rw[FZ hlt]
   dsimp only
   by_cases hm:xs.getD ((lo + hi) / 2) j < j
   ·rw[FZ hm]
    refine ih _ _ (by omega) h2 (by omega) (λi hi'=>?_) h5
    by_cases e:i=(lo + hi) / 2
    ·rw[e];exact hm
    ·exact Nat.lt_trans (fH h (show i < (lo + hi) / 2 by omega) (by omega)) hm
   ·rw[Gd hm]
    refine ih _ _ (by omega) (by omega) (by omega) h4 (λi hi' hs=>?_)
    by_cases e:i=(lo + hi) / 2
    ·rw[e];omega
    ·have:=fH (d:=j) h (show (lo + hi) / 2 < i by omega) hs
     omega
  ·rw[Gd hlt]
   have:lo=hi:=by omega
   subst this
   exact⟨h2,h4,h5⟩
def cW {xs:Array Nat}(h:gW xs)(j:Nat) :
  below xs j<=xs.size/\(∀i,i < below xs j->xs.getD i j < j)/\(∀i,below xs j<=i->i < xs.size->j<=xs.getD i j):=
 vY h xs.size 0 xs.size (GL _) (FX _) (by omega) (λi hi=>by omega) (λi h1 h2=>by omega)
def uo {xs:Array Nat}(h:gW xs){i j:Nat}(hi:xs[i]? =some j):below xs j=i:=by
 obtain⟨b1,b2,b3⟩:=cW h j
 have hs:i < xs.size:=(GS.mp hi).1
 have hv:xs.getD i j=j:=by rw[GG,hi];rfl
 rcases IP i (below xs j) with c |c |c
 ·have:=b2 i c;omega
 ·exact c.symm
 ·have hb:below xs j < xs.size:=by omega
  have q:=b3 (below xs j) (FX _) hb
  have:=fH (d:=j) h c hs
  omega
def tY (j:Nat):has #[] j=false:=by
 unfold has
 simp
def ni {t:SetTable}(h:gW t.place){i j:Nat}(hi:t.place[i]? =some j):t.slot j=.live i:=by
 unfold slot
 dsimp only
 rw[uo h hi,FZ (by simp[hi])]
def rW {t:SetTable}(hd:t.dummies=#[]){j:Nat}(hj:j∉t.place):t.slot j=.empty:=by
 unfold slot
 dsimp only
 have:¬(t.place[below t.place j]? == some j)=true:=by
  intro e
  have e':t.place[below t.place j]? =some j:=by simpa using e
  obtain⟨h1,h2⟩:=GS.mp e'
  exact hj (Array.mem_iff_getElem.mpr ⟨_,h1,h2⟩)
 rw[Gd this,hd,tY]
 rfl
def qV (mask:Nat)(p:Probe):Probe:=
 if p.more > 0 then {p with j:=p.j + 1,more:=p.more - 1} else
 {p with j:=(leap mask p.i p.perturb).1,more:=runEnd mask (leap mask p.i p.perturb).1 - (leap mask p.i p.perturb).1,i:=(leap mask p.i p.perturb).1,perturb:=(leap mask p.i p.perturb).2}
def uU (mask i perturb:Nat):Probe:={j:=i,more:=runEnd mask i - i,i,perturb,dummy:=none}
def st (mask:Nat)(h:Int):Probe:=uU mask (bits h % (mask + 1)) (bits h)
def wt (t:SetTable)(p:Probe):t.advance p=qV t.mask p:=rfl
def zJ (t:SetTable)(h:Int):t.probeStart h=st t.mask h:=rfl
def dG (mask:Nat):Nat->Probe->Probe
 | 0,p=>p
 |n + 1,p=>dG mask n (qV mask p)
theorem iS (mask:Nat):∀(n m:Nat) (p:Probe),dG mask (n + m) p=dG mask m (dG mask n p)
 | 0,m,p=>by rw[ID];rfl
 |n + 1,m,p=>by rw[Nat.add_right_comm];exact iS mask n m (qV mask p)
def vQ {mask:Nat}{p:Probe}(h:p.dummy=none):(qV mask p).dummy=none:=by
 unfold qV;split <;> exact h
def gy {mask i:Nat}(h:i<=mask):i<=runEnd mask i/\runEnd mask i<=mask/\runEnd mask i - i<=9:=by
 unfold runEnd;split <;> omega
def In (mask:Nat)(p:Probe):Prop:=p.j + p.more<=mask/\p.more<=9
def AN {mask i q:Nat}(h:i<=mask):In mask (uU mask i q):=by
 have:=gy h
 unfold In uU;dsimp only;omega
def jY (mask i q:Nat):(leap mask i q).1<=mask:=by
 unfold leap;exact Nat.lt_succ_iff.mp (Nat.mod_lt _ (Nat.succ_pos _))
def AK {mask:Nat}{p:Probe}(h:In mask p):In mask (qV mask p):=by
 unfold qV
 by_cases hm:p.more > 0
 ·rw[FZ hm];unfold In at *;dsimp only;omega
 ·rw[Gd hm]
  have:=gy (jY mask p.i p.perturb)
  unfold In;dsimp only;omega
theorem sY {mask:Nat}:∀(n:Nat) {p:Probe},In mask p->In mask (dG mask n p)
 | 0,_,h=>h
 |n + 1,_,h=>sY n (AK h)
def DQ (mask:Nat)(h:Int):In mask (st mask h):=AN (Nat.lt_succ_iff.mp (Nat.mod_lt _ (Nat.succ_pos _)))
theorem pI (mask:Nat):∀(k:Nat) (p:Probe),p.more=k->dG mask (k + 1) p={p with j:=(leap mask p.i p.perturb).1,more:=runEnd mask (leap mask p.i p.perturb).1 - (leap mask p.i p.perturb).1,i:=(leap mask p.i p.perturb).1,perturb:=(leap mask p.i p.perturb).2}
 | 0,p,h=>by
  show qV mask p=_
  unfold qV
  rw[Gd (by omega)]
 |k + 1,p,h=>by
  have e:qV mask p={p with j:=p.j + 1,more:=p.more - 1}:=by unfold qV;rw[FZ (by omega)]
  show dG mask (k + 1) (qV mask p)=_
  rw[e,pI mask k _ (by dsimp only;omega)]
def ke (mask i q:Nat):dG mask (runEnd mask i - i + 1) (uU mask i q)=uU mask (leap mask i q).1 (leap mask i q).2:=by
 exact pI mask _ (uU mask i q) rfl
theorem g7 (mask i q:Nat):∀(k:Nat),k<=runEnd mask i - i->(dG mask k (uU mask i q))={uU mask i q with j:=i + k,more:=runEnd mask i - i - k}
 | 0,_=>rfl
 |k + 1,h=>by
  rw[iS mask k 1,g7 mask i q k (by omega)]
  show qV mask _=_
  unfold qV
  rw[FZ (by dsimp only;omega)]
  simp only[Probe.mk.injEq]
  refine⟨by omega,by omega,?_⟩
  trivial
def dZ (mask:Nat):Nat->Nat×Nat->Nat×Nat
 | 0,x=>x
 |k + 1,x=>dZ mask k (leap mask x.1 x.2)
theorem kB (mask:Nat):∀(k i q:Nat),i<=mask->∃n,n<=10 * k/\dG mask n (uU mask i q)=uU mask (dZ mask k (i,q)).1 (dZ mask k (i,q)).2
 | 0,i,q,_=>⟨0,FX _,rfl⟩
 |k + 1,i,q,h=>by
  obtain⟨n,hn,e⟩:=kB mask k (leap mask i q).1 (leap mask i q).2 (jY _ _ _)
  have:=gy h
  refine⟨(runEnd mask i - i + 1) + n,by omega,?_⟩
  rw[iS,ke,e]
  rfl
theorem nH (mask:Nat):∀(a b:Nat) (x:Nat×Nat),dZ mask (a + b) x=dZ mask b (dZ mask a x)
 | 0,b,x=>by rw[ID];rfl
 |a + 1,b,x=>by rw[Nat.add_right_comm];exact nH mask a b (leap mask x.1 x.2)
theorem pP (mask:Nat):∀(k:Nat) (x:Nat×Nat),x.1<=mask->(dZ mask k x).1<=mask
 | 0,_,h=>h
 |k + 1,x,_=>pP mask k _ (jY mask x.1 x.2)
theorem jb (mask:Nat):∀(k:Nat) (x:Nat×Nat),(dZ mask k x).2=x.2 / 32 ^ k
 | 0,x=>by simp[dZ]
 |k + 1,x=>by
  show (dZ mask k (leap mask x.1 x.2)).2=_
  rw[jb mask k,Nat.pow_succ,Nat.mul_comm,<-Nat.div_div_eq_div_mul]
  rfl
def nx (mask i:Nat):Nat:=(i * 5 + 1) % (mask + 1)
def vt (mask:Nat):Nat->Nat->Nat
 | 0,i=>i
 |k + 1,i=>vt mask k (nx mask i)
theorem lb (mask:Nat):∀(a b i:Nat),vt mask (a + b) i=vt mask b (vt mask a i)
 | 0,b,i=>by rw[ID];rfl
 |a + 1,b,i=>by rw[Nat.add_right_comm];exact lb mask a b (nx mask i)
theorem lM (mask:Nat):∀(k i:Nat),dZ mask k (i,0)=(vt mask k i,0)
 | 0,_=>rfl
 |k + 1,i=>by
  show dZ mask k (leap mask i 0)=_
  have:leap mask i 0=(nx mask i,0):=by simp[leap,nx]
  rw[this,lM mask k]
  rfl
def wD (mask:Nat):Prop:=mask=7\/mask=31\/mask=127
def Dk (mask:Nat)(hm:wD mask):vt mask (mask + 1) 0=0/\∀j,j<=mask->∃k,k<=mask/\vt mask k 0=j:=by
 have h7:∀j:Nat,j < 8->∃k,k < 8/\vt 7 k 0=j:=by decide +kernel
 have h31:∀j:Nat,j < 32->∃k,k < 32/\vt 31 k 0=j:=by decide +kernel
 have h127:∀j:Nat,j < 128->∃k,k < 128/\vt 127 k 0=j:=by decide +kernel
 rcases hm with rfl |rfl |rfl
 ·exact⟨by decide +kernel,λj hj=>let ⟨k,a,b⟩:=h7 j (by omega);⟨k,by omega,b⟩⟩
 ·exact⟨by decide +kernel,λj hj=>let ⟨k,a,b⟩:=h31 j (by omega);⟨k,by omega,b⟩⟩
 ·exact⟨by decide +kernel,λj hj=>let ⟨k,a,b⟩:=h127 j (by omega);⟨k,by omega,b⟩⟩
def Ds {mask:Nat}(hm:wD mask){i j:Nat}(hi:i<=mask)(hj:j<=mask):∃k,k<=mask/\vt mask k i=j:=by
 obtain⟨z,o⟩:=Dk mask hm
 obtain⟨a,ha,ea⟩:=o i hi
 obtain⟨b,hb,eb⟩:=o j hj
 have back:vt mask (mask + 1 - a) i=0:=by
  rw[<-ea,<-lb,show a + (mask + 1 - a)=mask + 1 by omega];exact z
 by_cases hab:a<=b
 ·refine⟨b - a,by omega,?_⟩
  rw[<-ea,<-lb,show a + (b - a)=b by omega];exact eb
 ·refine⟨mask + 1 - a + b,by omega,?_⟩
  rw[lb,back];exact eb
def lG {mask:Nat}(hm:wD mask){i q j:Nat}(hi:i<=mask)(hq:q < 2 ^ 64)(hj:j<=mask):∃k,k<=mask + 13/\(dZ mask k (i,q)).1=j:=by
 have hz:(dZ mask 13 (i,q)).2=0:=by
  rw[jb]
  exact Nat.div_eq_of_lt (Gu hq (by decide))
 obtain⟨k,hk,e⟩:=Ds hm (pP mask 13 (i,q) hi) hj
 refine⟨13 + k,by omega,?_⟩
 rw[nH]
 have:dZ mask 13 (i,q)=((dZ mask 13 (i,q)).1,0):=Prod.ext rfl hz
 rw[this,lM]
 exact e
def tQ (h:Int):bits h < 2 ^ 64:=by
 unfold bits
 have:=Ia h (show (0:Int) < 2 ^ 64 by decide)
 have:=Ic h (show (2 ^ 64:Int)≠0 by decide)
 omega
def xB {mask:Nat}(hm:wD mask)(h:Int){j:Nat}(hj:j<=mask):∃n,n < 10 * turns mask/\(dG mask n (st mask h)).j=j:=by
 have hi:bits h % (mask + 1)<=mask:=Nat.lt_succ_iff.mp (Nat.mod_lt _ (Nat.succ_pos _))
 obtain⟨k,hk,e⟩:=lG hm hi (tQ h) hj
 obtain⟨n,hn,q⟩:=kB mask k (bits h % (mask + 1)) (bits h) hi
 refine⟨n,by unfold turns;omega,?_⟩
 show (dG mask n (uU mask _ _)).j=j
 rw[q];exact e
theorem xE {t:SetTable}{hashAt:Nat->Int}{h:Int}:∀(n fuel:Nat) (p:Probe),n < fuel->p.dummy=none->
  (∀m,m < n->∃i,t.slot (dG t.mask m p).j=.live i/\hashAt i≠h)->t.slot (dG t.mask n p).j=.empty->
  probe.go t hashAt h fuel p=some (.empty (dG t.mask n p).j none):=by
 intro n
 induction n with
 |zero=>
  intro fuel p hf hd _ he
  obtain⟨f,rfl⟩:∃f,fuel=f + 1:=⟨fuel - 1,by omega⟩
  unfold probe.go
  have he':t.slot p.j=.empty:=he
  rw[he',hd]
  rfl
 |succ n ih=>
  intro fuel p hf hd hl he
  obtain⟨f,rfl⟩:∃f,fuel=f + 1:=⟨fuel - 1,by omega⟩
  unfold probe.go
  obtain⟨i,e,ne⟩:=hl 0 (by omega)
  have e':t.slot p.j=.live i:=e
  rw[e']
  dsimp only
  rw[Gd (by simpa using ne),wt]
  exact ih f (qV t.mask p) (by omega) (vQ hd) (λm hm=>hl (m + 1) (by omega)) he
theorem v7 {t:SetTable}{hashAt:Nat->Int}{h:Int}:∀(n fuel:Nat) (p:Probe),n < fuel->
  (∀m,m<=n->∃i,t.slot (dG t.mask m p).j=.live i)->(∃i,t.slot (dG t.mask n p).j=.live i/\hashAt i=h)->
  ∃j i next,probe.go t hashAt h fuel p=some (.candidate j i next)/\t.slot j=.live i/\hashAt i=h:=by
 intro n
 induction n with
 |zero=>
  intro fuel p hf _ he
  obtain⟨f,rfl⟩:∃f,fuel=f + 1:=⟨fuel - 1,by omega⟩
  obtain⟨i,e,eh⟩:=he
  have e':t.slot p.j=.live i:=e
  unfold probe.go
  rw[e']
  dsimp only
  rw[FZ (by simpa using eh)]
  exact⟨p.j,i,_,rfl,e',eh⟩
 |succ n ih=>
  intro fuel p hf hl he
  obtain⟨f,rfl⟩:∃f,fuel=f + 1:=⟨fuel - 1,by omega⟩
  obtain⟨i,e⟩:=hl 0 (by omega)
  have e':t.slot p.j=.live i:=e
  unfold probe.go
  rw[e']
  dsimp only
  by_cases hh:hashAt i=h
  ·rw[FZ (by simpa using hh)]
   exact⟨p.j,i,_,rfl,e',hh⟩
  ·rw[Gd (by simpa using hh),wt]
   exact ih f (qV t.mask p) (by omega) (λm hm=>hl (m + 1) (by omega)) he
def Reach (mask:Nat)(L:Nat->Prop)(h:Int)(j:Nat):Prop:=∃n,n < 10 * turns mask/\(dG mask n (st mask h)).j=j/\∀m,m < n->L (dG mask m (st mask h)).j
def Reach.mono {mask:Nat}{L L':Nat->Prop}{h:Int}{j:Nat}(r:Reach mask L h j)(k:∀x,L x->L' x):Reach mask L' h j:=
 let ⟨n,a,b,c⟩:=r;⟨n,a,b,λm hm=>k _ (c m hm)⟩
structure Tab (t:SetTable)(hs:List Int):Prop where
 mask:wD t.mask
 dum:t.dummies=#[]
 rise:gW t.place
 le:∀j,j∈t.place->j<=t.mask
 size:t.place.size=hs.length
 load:t.place.size * 5 < t.mask * 3
 reach:∀(i j:Nat) (h:Int),t.place[i]? =some j->hs[i]? =some h->Reach t.mask (· ∈t.place) h j
 plain:t.plain=true
theorem bG {α:Type}[DecidableEq α]:∀{l m:List α},l.Nodup->(∀x,x∈l->x∈m)->l.length<=m.length
 | [],_,_,_=>GL _
 |a :: l,m,hn,hs=>by
  have ha:=hs a (Gg ..)
  have hl:=GQ.mp hn
  have:=bG (l:=l) (m:=m.erase a) hl.2 λx hx=>by
   refine (List.mem_erase_of_ne ?_).mpr (hs x (F0 _ hx))
   rintro rfl;exact hl.1 hx
  rw[IE ha] at this
  have:0 < m.length:=List.length_pos_of_mem ha
  simp only[Gr];omega
def sj {mask:Nat}{xs:Array Nat}(hl:xs.size<=mask):∃j,j<=mask/\j∉xs:=by
 refine Classical.byContradiction λhc=>?_
 have all:∀j,j∈List.range (mask + 1)->j∈xs.toList:=λj hj=>by
  have:=Gm.mp hj
  refine Classical.byContradiction λhn=>hc ⟨j,by omega,λz=>hn (by simpa using z)⟩
 have:=bG Ip all
 simp at this
 omega
theorem og {P:Nat->Prop}(h:∃n,P n):∃n,P n/\∀m,m < n->¬P m:=by
 obtain⟨n,hn⟩:=h
 induction n using Nat.strongRecOn with
 |_ n ih=>
  by_cases hc:∃m,m < n/\P m
  ·obtain⟨m,hm,hp⟩:=hc
   exact ih m hm hp
  ·exact⟨n,hn,λm hm hp=>hc ⟨m,hm,hp⟩⟩
section
variable {t:SetTable}{hs:List Int}
def Tab.load' (T:Tab t hs):t.place.size<=t.mask:=by have:=T.load;omega
def Tab.slotL (T:Tab t hs){j:Nat}(hj:j∈t.place):∃i,t.slot j=.live i/\t.place[i]? =some j:=by
 obtain⟨i,hi,e⟩:=Array.mem_iff_getElem.mp hj
 have q:t.place[i]? =some j:=by rw[Gw hi,e]
 exact⟨i,ni T.rise q,q⟩
def Tab.slotE (T:Tab t hs){j:Nat}(hj:j∉t.place):t.slot j=.empty:=rW T.dum hj
def Tab.first (T:Tab t hs)(h:Int):∃n,n < 10 * turns t.mask/\(dG t.mask n (st t.mask h)).j∉t.place/\∀m,m < n->(dG t.mask m (st t.mask h)).j∈t.place:=by
 obtain⟨j,hj,hn⟩:=sj T.load'
 obtain⟨n,h1,h2⟩:=xB T.mask h hj
 obtain⟨k,hk,hlt⟩:=og (P:=λn=>(dG t.mask n (st t.mask h)).j∉t.place) ⟨n,by rw[h2];exact hn⟩
 refine⟨k,?_,hk,λm hm=>Classical.byContradiction λz=>hlt m hm z⟩
 rcases GZ n k with c |c
 ·exact absurd (show (dG t.mask n (st t.mask h)).j∉t.place by rw[h2];exact hn) (hlt n c)
 ·omega
def Tab.absent (T:Tab t hs){hashAt:Nat->Int}(ha:∀i,i < hs.length->some (hashAt i)=hs[i]?){h:Int}(hn:h∉hs) :
  ∃j,t.probe hashAt h (t.probeStart h)=some (.empty j none)/\j∉t.place/\j<=t.mask/\Reach t.mask (· ∈t.place) h j:=by
 obtain⟨n,h1,h2,h3⟩:=T.first h
 refine⟨(dG t.mask n (st t.mask h)).j,?_,h2,?_,⟨n,h1,rfl,h3⟩⟩
 ·unfold probe
  rw[zJ]
  refine xE n _ _ h1 rfl (λm hm=>?_) (T.slotE h2)
  obtain⟨i,e,q⟩:=T.slotL (h3 m hm)
  refine⟨i,e,λz=>hn ?_⟩
  have hi:i < hs.length:=by rw[<-T.size];exact (GS.mp q).1
  have:=ha i hi
  rw[z] at this
  exact Gy this.symm
 ·have:=sY n (DQ t.mask h)
  unfold In at this;omega
def Tab.present (T:Tab t hs){hashAt:Nat->Int}(ha:∀i,i < hs.length->some (hashAt i)=hs[i]?){h:Int}(hm:h∈hs) :
  ∃j i next,t.probe hashAt h (t.probeStart h)=some (.candidate j i next)/\t.slot j=.live i/\i < hs.length/\hs[i]? =some h:=by
 obtain⟨i,hi,e⟩:=GI.mp hm
 have hi':hs[i]? =some h:=by rw[FU hi,e]
 have hp:i < t.place.size:=by rw[T.size];exact hi
 obtain⟨n,h1,h2,h3⟩:=T.reach i t.place[i] h (Gw hp) hi'
 have hj:(dG t.mask n (st t.mask h)).j∈t.place:=by rw[h2];exact Array.getElem_mem hp
 obtain⟨j',i',nx,g1,g2,g3⟩:=v7 (t:=t) (hashAt:=hashAt) (h:=h) n (10 * turns t.mask) (st t.mask h) h1 (λm hm=>by
   rcases GZ m n with c |c
   ·obtain⟨i,e,_⟩:=T.slotL (h3 m c);exact⟨i,e⟩
   ·have:m=n:=by omega
    subst this
    obtain⟨i,e,_⟩:=T.slotL hj;exact⟨i,e⟩)
  ⟨i,by rw[h2];exact ni T.rise (Gw hp),by
   have:=ha i hi
   rw[hi'] at this
   exact Option.some.inj this⟩
 have hi2:i' < t.place.size:=by
  unfold slot at g2
  dsimp only at g2
  split at g2
  ·rename_i c
   have c':t.place[below t.place j']? =some j':=by simpa using c
   cases g2
   exact (GS.mp c').1
  ·split at g2 <;> cases g2
 refine⟨j',i',nx,by unfold probe;rw[zJ];exact g1,g2,by rw[<-T.size];exact hi2,?_⟩
 have:=ha i' (by rw[<-T.size];exact hi2)
 rw[g3] at this
 exact this.symm
end
def bM {α:Type}(xs:Array α)(p:Nat)(x:α)(_:p<=xs.size):(insertAt xs p x).toList=xs.toList.take p ++ x :: xs.toList.drop p:=by
 unfold insertAt
 simp[Array.toList_extract,List.extract_eq_take_drop]
 rw[Ig (by simp)]
def nc (t:SetTable)(j:Nat)(hd:t.dummies=#[]):(t.put j).1={t with place:=insertAt t.place (below t.place j) j}/\(t.put j).2=below t.place j:=by
 unfold put
 dsimp only
 rw[hd,tY]
 exact⟨by simp,rfl⟩
section
variable {t:SetTable}{hs:List Int}
def jQ {α:Type}{xs:Array α}{p:Nat}{x y:α}(hp:p<=xs.size):y∈insertAt xs p x↔y∈xs\/y=x:=by
 rw[<-HP,bM xs p x hp,GB,FY,<-HP]
 have:y∈xs.toList↔y∈xs.toList.take p\/y∈xs.toList.drop p:=by
  conv=>lhs;rw[<-List.take_append_drop p xs.toList]
  exact GB
 rw[this]
 constructor
 ·rintro (a |a |a)
  ·exact .inl (.inl a)
  ·exact .inr a
  ·exact .inl (.inr a)
 ·rintro ((a |a) |a)
  ·exact .inl a
  ·exact .inr (.inr a)
  ·exact .inr (.inl a)
def mH {xs:Array Nat}(h:gW xs){j:Nat}(hj:j∉xs):gW (insertAt xs (below xs j) j):=by
 obtain⟨b1,b2,b3⟩:=cW h j
 unfold gW
 rw[bM _ _ _ b1]
 have hl:∀y,y∈xs.toList.take (below xs j)->y < j:=λy hy=>by
  obtain⟨i,hi,e⟩:=GI.mp hy
  have hi1:i < below xs j:=by simp at hi;omega
  have hi2:i < xs.size:=by omega
  have:=b2 i hi1
  rw[GG,Gw hi2] at this
  simp at e this
  omega
 have hr:∀y,y∈xs.toList.drop (below xs j)->j < y:=λy hy=>by
  obtain⟨i,hi,e⟩:=GI.mp hy
  have hi2:below xs j + i < xs.size:=by simp at hi;omega
  have:=b3 (below xs j + i) (by omega) hi2
  rw[GG,Gw hi2] at this
  simp at e this
  rcases GZ j y with c |c
  ·exact c
  ·have:j=y:=by omega
   exact absurd (by rw[this,<-e];exact Array.getElem_mem _) hj
 refine List.pairwise_append.mpr ⟨List.Pairwise.sublist (List.take_sublist ..) h,List.pairwise_cons.mpr ⟨λy hy=>hr y hy,List.Pairwise.sublist (List.drop_sublist ..) h⟩,λa ha b hb=>?_⟩
 rcases FY.mp hb with rfl |hb
 ·exact hl a ha
 ·exact Nat.lt_trans (hl a ha) (hr b hb)
def pF {α:Type}(l:List α)(p:Nat)(x:α)(hp:p<=l.length)(i:Nat):(l.take p ++ x :: l.drop p)[i]? =if i < p then l[i]? else if i=p then some x else l[i - 1]?:=by
 rcases IP i p with c |c |c
 ·rw[FZ c,GC (by simp;omega),List.getElem?_take_of_lt c]
 ·subst c
  rw[Gd (GH _),FZ rfl,GA (by simp;omega),Hd,Nat.min_eq_left hp,Nat.sub_self]
  rfl
 ·rw[Gd (by omega),Gd (by omega),GA (by simp;omega),Hd,Nat.min_eq_left hp]
  obtain⟨k,rfl⟩:∃k,i=p + 1 + k:=⟨i - (p + 1),by omega⟩
  rw[show p + 1 + k - p=k + 1 by omega,List.getElem?_cons_succ,List.getElem?_drop]
  congr 1
  omega
def Tab.put (T:Tab t hs){j:Nat}{h:Int}(hj:j∉t.place)(hm:j<=t.mask)(r:Reach t.mask (· ∈t.place) h j)(hf:(t.place.size + 1) * 5 < t.mask * 3) :
  Tab (t.put j).1 (hs.take (t.put j).2 ++ h :: hs.drop (t.put j).2)/\(t.put j).2<=hs.length:=by
 obtain⟨e1,e2⟩:=nc t j T.dum
 obtain⟨b1,b2,b3⟩:=cW T.rise j
 have hsz:(insertAt t.place (below t.place j) j).size=t.place.size + 1:=by
  rw[<-Iv,bM _ _ _ b1]
  simp;omega
 have hl:below t.place j<=hs.length:=by rw[<-T.size];exact b1
 rw[e1,e2]
 refine⟨⟨T.mask,T.dum,mH T.rise hj,λy hy=>?_,?_,?_,λi y g hy hg=>?_,T.plain⟩,hl⟩
 ·rcases (jQ b1).mp hy with z |z
  ·exact T.le y z
  ·rw[z];exact hm
 ·show (insertAt t.place _ j).size=_
  rw[hsz,T.size];simp;omega
 ·show (insertAt t.place _ j).size * 5 < t.mask * 3
  rw[hsz];exact hf
 ·show Reach t.mask (· ∈insertAt t.place (below t.place j) j) g y
  have hy':(t.place.toList.take (below t.place j) ++ j :: t.place.toList.drop (below t.place j))[i]? =some y:=by
   rw[<-bM _ _ _ b1,HL];exact hy
  rw[pF _ _ _ (by simpa using b1)] at hy'
  rw[pF _ _ _ hl] at hg
  have old:∀{g y},Reach t.mask (· ∈t.place) g y->Reach t.mask (· ∈insertAt t.place (below t.place j) j) g y:=λr=>r.mono λx hx=>(jQ b1).mpr (.inl hx)
  split at hy'
  ·rename_i c
   rw[FZ c] at hg
   exact old (T.reach i y g (by simpa using hy') hg)
  ·rename_i c
   rw[Gd c] at hg
   split at hy'
   ·rename_i c2
    rw[FZ c2] at hg
    cases hg;cases hy'
    exact old r
   ·rename_i c2
    rw[Gd c2] at hg
    exact old (T.reach (i - 1) y g (by simpa using hy') hg)
end
abbrev own (o:Array (Option Nat))(j:Nat):Option Nat:=o.getD j none
theorem uP {mask:Nat}{o:Array (Option Nat)}(hsz:o.size=mask + 1):∀(fuel i q:Nat) (j:Nat),i<=mask->layClean.free mask o fuel i q=some j->
  ∃n,n < 10 * fuel/\(dG mask n (uU mask i q)).j=j/\(∀m,m < n->(own o (dG mask m (uU mask i q)).j).isSome=true)/\own o j=none/\j<=mask:=by
 intro fuel
 induction fuel with
 |zero=>intro i q j _ h;unfold layClean.free at h;cases h
 |succ fuel ih=>
  intro i q j hi h
  unfold layClean.free at h
  have hr:=gy hi
  have ind:∀k,k<=runEnd mask i - i->o.getD (i + k) (some 0)=own o (i + k):=λk hk=>by
   have:i + k < o.size:=by omega
   simp[own,Array.getD,this]
  cases hf:(List.range (runEnd mask i + 1 - i)).find? λk=>(o.getD (i + k) (some 0)).isNone with
  |some k=>
   rw[hf] at h
   dsimp only at h
   have hk:=List.find?_eq_some_iff_getElem.mp hf
   obtain⟨hn,ix,hix,eix,hbef⟩:=hk
   have ek:ix=k:=by simpa using eix
   subst ek
   have hix':ix < runEnd mask i + 1 - i:=by simpa using hix
   cases h
   refine⟨ix,by omega,?_,λm hm=>?_,?_,by omega⟩
   ·rw[g7 mask i q ix (by omega)]
   ·rw[g7 mask i q m (by omega)]
    have:=hbef m hm
    simp only[List.getElem_range] at this
    rw[ind m (by omega)] at this
    dsimp only
    cases e:own o (i + m) with
    |none=>rw[e] at this;simp at this
    |some _=>rfl
   ·rw[ind ix (by omega)] at hn
    cases e:own o (i + ix) with
    |none=>rfl
    |some _=>rw[e] at hn;simp at hn
  |none=>
   rw[hf] at h
   dsimp only at h
   obtain⟨n,h1,h2,h3,h4,h5⟩:=ih _ _ j (jY mask i q) h
   have hnone:=List.find?_eq_none.mp hf
   refine⟨(runEnd mask i - i + 1) + n,by omega,?_,λm hm=>?_,h4,h5⟩
   ·rw[iS,ke];exact h2
   ·rcases GZ m (runEnd mask i - i + 1) with c |c
    ·rw[g7 mask i q m (by omega)]
     have:=hnone m (Gm.mpr (by omega))
     rw[ind m (by omega)] at this
     dsimp only
     cases e:own o (i + m) with
     |none=>rw[e] at this;simp at this
     |some _=>rfl
    ·obtain⟨k,rfl⟩:∃k,m=(runEnd mask i - i + 1) + k:=⟨m - (runEnd mask i - i + 1),by omega⟩
     rw[iS,ke]
     exact h3 k (by omega)
theorem uC {mask:Nat}{o:Array (Option Nat)}(hsz:o.size=mask + 1):∀(fuel i q k:Nat),i<=mask->k < fuel->own o (dZ mask k (i,q)).1=none->∃j,layClean.free mask o fuel i q=some j:=by
 intro fuel
 induction fuel with
 |zero=>intro i q k _ hk;omega
 |succ fuel ih=>
  intro i q k hi hk hn
  unfold layClean.free
  cases hf:(List.range (runEnd mask i + 1 - i)).find? λk=>(o.getD (i + k) (some 0)).isNone with
  |some k=>exact⟨_,rfl⟩
  |none=>
   dsimp only
   cases k with
   |zero=>
    have hr:=gy hi
    have:=List.find?_eq_none.mp hf 0 (Gm.mpr (by omega))
    have e:own o i=none:=hn
    have hi2:i < o.size:=by omega
    simp[own,Array.getD,hi2] at e this
    rw[e] at this;simp at this
   |succ k=>exact ih _ _ k (jY mask i q) (by omega) hn
structure Lay (mask:Nat)(o:Array (Option Nat))(hs:List Int):Prop where
 size:o.size=mask + 1
 all:∀k h,hs[k]? =some h->∃j,own o j=some k/\Reach mask (λx=>(own o x).isSome=true) h j
 one:∀j j' k,own o j=some k->own o j'=some k->j=j'
 le:∀j k,own o j=some k->j<=mask/\k < hs.length
def jz {o:Array (Option Nat)}{j x k:Nat}(hj:j < o.size):own (o.setIfInBounds j (some k)) x=if x=j then some k else own o x:=by
 unfold own
 rw[GG,GG,Array.getElem?_setIfInBounds]
 by_cases e:x=j
 ·subst e;simp[hj]
 ·rw[Gd e,Gd (λz=>e z.symm)]
def xJ {mask:Nat}(hm:wD mask){o:Array (Option Nat)}{hs:List Int}(L:Lay mask o hs)(h:Int)(hl:hs.length<=mask) :
  ∃j,layClean.free mask o (turns mask) (bits h % (mask + 1)) (bits h)=some j/\Lay mask (o.setIfInBounds j (some hs.length)) (hs ++ [h]):=by
 have hi:bits h % (mask + 1)<=mask:=Nat.lt_succ_iff.mp (Nat.mod_lt _ (Nat.succ_pos _))
 have hfree:∃j,j<=mask/\own o j=none:=by
  refine Classical.byContradiction λhc=>?_
  have hall:∀j,j<=mask->∃k,own o j=some k:=λj hj=>by
   cases e:own o j with
   |none=>exact absurd ⟨j,hj,e⟩ hc
   |some k=>exact⟨k,rfl⟩
  have nd:((List.range (mask + 1)).map λj=>(own o j).getD 0).Nodup:=by
   refine Hg.mpr ?_
   refine Hi ?_ Ip
   intro a b ha hb hab e
   obtain⟨ka,ea⟩:=hall a (by have:=Gm.mp ha;omega)
   obtain⟨kb,eb⟩:=hall b (by have:=Gm.mp hb;omega)
   rw[ea,eb] at e
   simp at e
   subst e
   exact hab (L.one a b ka ea eb)
  have:=bG (m:=List.range hs.length) nd λx hx=>by
   obtain⟨j,hj,rfl⟩:=Gh.mp hx
   obtain⟨k,e⟩:=hall j (by have:=Gm.mp hj;omega)
   rw[e]
   exact Gm.mpr (L.le j k e).2
  simp at this
  omega
 obtain⟨j0,hj0,hn0⟩:=hfree
 obtain⟨k,hk,ek⟩:=lG hm hi (tQ h) hj0
 obtain⟨j,hj⟩:=uC L.size (turns mask) _ (bits h) k hi (by unfold turns;omega) (by rw[ek];exact hn0)
 refine⟨j,hj,?_⟩
 obtain⟨n,h1,h2,h3,h4,h5⟩:=uP L.size _ _ _ _ hi hj
 have hjs:j < o.size:=by rw[L.size];omega
 have grow:∀x,(own o x).isSome=true->(own (o.setIfInBounds j (some hs.length)) x).isSome=true:=λx hx=>by
  rw[jz hjs];split
  ·rfl
  ·exact hx
 refine⟨by rw[Array.size_setIfInBounds];exact L.size,λk g hg=>?_,λa b c ea eb=>?_,λa c ea=>?_⟩
 ·rcases GZ k hs.length with c |c
  ·rw[GC c] at hg
   obtain⟨x,ex,rx⟩:=L.all k g hg
   refine⟨x,?_,rx.mono grow⟩
   rw[jz hjs,Gd (λz=>?_)]
   ·exact ex
   ·subst z;rw[ex] at h4;cases h4
  ·rw[GA c] at hg
   have:k=hs.length:=by
    have:=(Gs.mp hg).1
    simp at this;omega
   subst this
   simp at hg
   subst hg
   exact⟨j,by rw[jz hjs,FZ rfl],n,h1,h2,λm hm=>grow _ (h3 m hm)⟩
 ·rw[jz hjs] at ea eb
  split at ea
  ·cases ea
   split at eb
   ·omega
   ·have:=(L.le _ _ eb).2;omega
  ·split at eb
   ·cases eb
    have:=(L.le _ _ ea).2;omega
   ·exact L.one _ _ _ ea eb
 ·rw[jz hjs] at ea
  rw[GO]
  split at ea
  ·cases ea;simp;omega
  ·have:=L.le _ _ ea;simp;omega
theorem tD {mask:Nat}(hm:wD mask):∀(rest hs:List Int) (o:Array (Option Nat)),Lay mask o hs->hs.length + rest.length<=mask->
  ∃o',rest.foldl (init:=some (o,hs.length)) (λacc h=>do
   let (owner,k) <-acc
   let j <-layClean.free mask owner (turns mask) (bits h % (mask + 1)) (bits h)
   pure (owner.setIfInBounds j (some k),k + 1))=some (o',hs.length + rest.length)/\Lay mask o' (hs ++ rest)
 | [],hs,o,L,_=>⟨o,rfl,by rw[HZ];exact L⟩
 |h :: rest,hs,o,L,hl=>by
  simp only[Gr] at hl
  obtain⟨j,e,L'⟩:=xJ hm L h (by omega)
  obtain⟨o',e',L2⟩:=tD hm rest (hs ++ [h]) _ L' (by simp;omega)
  refine⟨o',?_,by rw[IM] at L2;exact L2⟩
  rw[foldl_cons]
  simp only[Option.bind_eq_bind,Option.bind_some,e,Option.pure_def]
  have el:(hs ++ [h]).length=hs.length + 1:=by simp
  rw[el] at e'
  simp only[Option.bind_eq_bind,Option.pure_def] at e'
  rw[e']
  simp;omega
def tJ (n j:Nat):own (Array.replicate n none) j=none:=by
 unfold own
 rw[GG,Array.getElem?_replicate]
 split <;> rfl
def y2 (mask:Nat):Lay mask (Array.replicate (mask + 1) none) []:=
 ⟨by simp,λk h e=>by simp at e,λj j' k e _=>by (rw[tJ] at e;cases e),λj k e=>by (rw[tJ] at e;cases e)⟩
def vm {mask:Nat}(hm:wD mask)(hs:Array Int)(hl:hs.size * 5 < mask * 3)(finger moves:Nat)(led:Bool) :
  ∃t order,laid mask finger moves led true hs=some (t,order)/\t.led=led/\t.mask=mask/\order.toList.Nodup/\(∀k,k∈order.toList↔k < hs.size)/\
   Tab t (order.toList.map λk=>hs.toList.getD k 0):=by
 obtain⟨o,e,L⟩:=tD hm hs.toList [] _ (y2 mask) (by simp;omega)
 simp only[List.nil_append] at L
 have ec:layClean mask hs=some o:=by
  unfold layClean
  rw[<-Array.foldl_toList]
  simp only[length_nil] at e
  rw[e];rfl
 have hlive:∀j k,(j,k)∈((List.range (mask + 1)).filterMap λj=>(o.getD j none).map (j, ·))↔own o j=some k:=λj k=>by
  rw[Hs]
  constructor
  ·rintro⟨x,_,q⟩
   cases ex:o.getD x none with
   |none=>rw[ex] at q;cases q
   |some y=>rw[ex] at q;simp at q;rw[<-q.1,<-q.2];exact ex
  ·intro q
   refine⟨j,Gm.mpr (by have:=(L.le j k q).1;omega),?_⟩
   have:o.getD j none=some k:=q
   rw[this];rfl
 have hpw:((List.range (mask + 1)).filterMap λj=>(o.getD j none).map (j, ·)).Pairwise (λa b=>a.1 < b.1):=by
  refine List.pairwise_filterMap.mpr ?_
  refine List.Pairwise.imp ?_ List.pairwise_lt_range
  intro a b hab x hx y hy
  cases ea:o.getD a none with
  |none=>rw[ea] at hx;cases hx
  |some u=>
   cases eb:o.getD b none with
   |none=>rw[eb] at hy;cases hy
   |some v=>
    rw[ea] at hx;rw[eb] at hy
    simp at hx hy
    rw[<-hx,<-hy];exact hab
 generalize hlv:((List.range (mask + 1)).filterMap λj=>(o.getD j none).map (j, ·))=live at hlive hpw
 refine⟨{mask,place:=(live.map (·.1)).toArray,dummies:=#[],finger,led,moves,plain:=true},(live.map (·.2)).toArray,?_,rfl,rfl,?_,λk=>?_,?_⟩
 ·unfold laid
  rw[ec]
  simp only[Option.bind_eq_bind,Option.bind_some,Option.pure_def,hlv]
 ·have:(live.map (·.2)).Nodup:=by
   refine Hg.mpr (Hi ?_ hpw)
   intro a b ha hb hab ee
   have h1:=(hlive a.1 a.2).mp ha
   have h2:=(hlive b.1 b.2).mp hb
   rw[ee] at h1
   have:=L.one _ _ _ h1 h2
   omega
  simpa using this
 ·rw[Gh]
  constructor
  ·rintro⟨x,hx,rfl⟩
   have:=(L.le x.1 x.2 ((hlive x.1 x.2).mp hx)).2
   simpa using this
  ·intro hk
   have hk':k < hs.toList.length:=by simpa using hk
   obtain⟨j,ej,_⟩:=L.all k _ (FU hk')
   exact⟨(j,k),(hlive j k).mpr ej,rfl⟩
 ·have hord:live.length=hs.size:=by
   have a1:(live.map (·.2)).Nodup:=by
    refine Hg.mpr (Hi ?_ hpw)
    intro a b ha hb hab ee
    have h1:=(hlive a.1 a.2).mp ha
    have h2:=(hlive b.1 b.2).mp hb
    rw[ee] at h1
    have:=L.one _ _ _ h1 h2
    omega
   have b1:=bG (m:=List.range hs.size) a1 λx hx=>by
    obtain⟨y,hy,rfl⟩:=Gh.mp hx
    have:=(L.le y.1 y.2 ((hlive y.1 y.2).mp hy)).2
    exact Gm.mpr (by simpa using this)
   have b2:=bG (l:=List.range hs.size) (m:=live.map (·.2)) Ip λx hx=>by
    have hk':x < hs.toList.length:=by simpa using Gm.mp hx
    obtain⟨j,ej,_⟩:=L.all x _ (FU hk')
    exact Gh.mpr ⟨(j,x),(hlive j x).mpr ej,rfl⟩
   simp at b1 b2
   omega
  refine⟨hm,rfl,?_,λj hj=>?_,?_,?_,λi j h hi hh=>?_,rfl⟩
  ·show (live.map (·.1)).toArray.toList.Pairwise _
   rw[Hm]
   exact Hg.mpr hpw
  ·have:j∈live.map (·.1):=by simpa using hj
   obtain⟨x,hx,rfl⟩:=Gh.mp this
   exact (L.le x.1 x.2 ((hlive x.1 x.2).mp hx)).1
  ·simp
  ·show (live.map (·.1)).toArray.size * 5 < mask * 3
   simp[hord];exact hl
  ·have hi':(live.map (·.1))[i]? =some j:=by simpa using hi
   have hh':((live.map (·.2)).map λk=>hs.toList.getD k 0)[i]? =some h:=by simpa using hh
   rw[Gf] at hi'
   rw[Gf,Gf] at hh'
   cases ex:live[i]? with
   |none=>rw[ex] at hi';cases hi'
   |some x=>
    rw[ex] at hi' hh'
    simp at hi' hh'
    have hxl:=(hlive x.1 x.2).mp (Gy ex)
    have hk:=(L.le _ _ hxl).2
    have hk2:x.2 < hs.size:=by simpa using hk
    obtain⟨j2,ej2,r⟩:=L.all x.2 h (by
     rw[FU hk]
     simp[hk2] at hh'
     simpa using hh')
    have:j2=j:=by rw[<-hi'];exact L.one _ _ _ ej2 hxl
    subst this
    refine r.mono λy hy=>?_
    show y∈(live.map (·.1)).toArray
    cases ey:own o y with
    |none=>rw[ey] at hy;cases hy
    |some k=>
     have:y∈live.map (·.1):=Gh.mpr ⟨(y,k),(hlive y k).mpr ey,rfl⟩
     simpa using this
abbrev Pr:=Int×Int
def hp (p:Pr):Int:=reduceHash (Builtin.Tuple.tupleHashOf [hashInt p.1,hashInt p.2])
def Sm (p:Pr):Prop:=(0<=p.1/\p.1 < 8)/\(0<=p.2/\p.2 < 8)
def mE:List Pr:=(List.range 64).map λk=>(((k / 8:Nat):Int),((k % 8:Nat):Int))
def jq {p:Pr}(h:Sm p):p∈mE:=by
 unfold mE
 obtain⟨⟨a,b⟩,c,d⟩:=h
 refine Gh.mpr ⟨p.1.toNat * 8 + p.2.toNat,Gm.mpr (by omega),?_⟩
 refine Prod.ext ?_ ?_ <;> dsimp only <;> omega
def xp:(mE.map hp).Nodup:=by decide +kernel
theorem jC {α β:Type}{f:α->β}:∀{l:List α},(l.map f).Nodup->∀a b,a∈l->b∈l->f a=f b->a=b
 | [],_,_,_,h,_,_=>by cases h
 |x :: l,hn,a,b,ha,hb,e=>by
  have hn':=GQ.mp hn
  rcases FY.mp ha with ea |ha
  ·rcases FY.mp hb with eb |hb
   ·rw[ea,eb]
   ·exact absurd (Gh.mpr ⟨b,hb,by rw[<-e,ea]⟩) hn'.1
  ·rcases FY.mp hb with eb |hb
   ·exact absurd (Gh.mpr ⟨a,ha,by rw[e,eb]⟩) hn'.1
   ·exact jC hn'.2 a b ha hb e
def Bl {p q:Pr}(hp1:Sm p)(hq:Sm q)(e:hp p=hp q):p=q:=jC xp p q (jq hp1) (jq hq) e
def l9 {l:List Pr}(hn:l.Nodup)(h:∀p,p∈l->Sm p):l.length<=64:=by
 have:=bG (m:=mE) hn λx hx=>jq (h x hx)
 simpa[mE] using this
section
variable {prog:Program}{w:World}{A:Around}{E:Value->Shared->Prop}{s:Shared}
abbrev bE (prog:Program)(w:World)(h:Heap)(p:Pr)(a:Addr):Prop:=IsTupleKey (intKind prog w) h [p.1,p.2] a
def bE.inj {h:Heap}{p q:Pr}{a:Addr}(x:bE prog w h p a)(y:bE prog w h q a):p=q:=by
 have:=IsTupleKey.inj x y
 simp at this
 exact Prod.ext this.1 this.2
structure l6 (f:Pr->Int)(prog:Program)(w:World)(led:Bool)(h:Heap)(S:Addr)(ps:List (Addr×Pr)):Prop where
 ex:∃o ep t,h.get? S=some o/\o.ExactSet/\o.data=.set (ps.map λq=>(f q.2,Value.ref q.1)).toArray ep t/\Tab t (ps.map λq=>f q.2)/\t.led=led
 at':∀q,q∈ps->bE prog w h q.2 q.1/\Sm q.2
 nd:(ps.map (·.2)).Nodup
def l6.len {f:Pr->Int}{led:Bool}{h:Heap}{S:Addr}{ps:List (Addr×Pr)}(P:l6 f prog w led h S ps):ps.length<=64:=by
 have:=l9 P.nd λp hp=>by
  obtain⟨q,hq,rfl⟩:=Gh.mp hp
  exact (P.at' q hq).2
 simpa using this
def mw {t:SetTable}{hs:List Int}(T:Tab t hs){n:Nat}(e:n=hs.length):t.fits n=true:=by
 unfold SetTable.fits SetTable.fill
 have:=T.load'
 simp[T.size,T.dum,e]
 rw[T.size] at this;exact this
def xI (a:Addr)(wanted:Nat):setRelay a wanted=(do
  let (es,_,t) <-setState a
  if SetTable.sizeAbove wanted > sizeLine then unsupported "set:memory"
  let (es,t) <-(do
   let some (t,order):=t.relaid (es.map (·.1)) wanted |unsupported "internal:set-table-without-room"
   let es':=order.filterMap (es[·]?)
   if es'.size != es.size then unsupported "internal:set-table-lost-an-element"
   pure (es',t))
  storeSet a es t):=rfl
def vb (a:Addr)(x:Value)(h:Int)(fuel:Nat):setSearchFrom a x h true (fuel + 1) none=(do
  let (es,_,t) <-setState a
  if t.gaveWay then unsupported "set:on-a-table-that-gave-way"
  let some met:=t.probe (λi=>(es[i]?.map (·.1)).getD 0) h (t.probeStart h) |unsupported "internal:set-table-without-an-empty-slot"
  match met with
  | .empty j dummy=>
   match dummy with
   |none=>return .free j false
   |some d=>
    if true && t.slot d != .dummy then rule "set.search.the-dummy-was-taken";return <-setSearchFrom a x h true fuel none
    return .free d true
  | .candidate j i next=>
   if !t.led then
    if <-searchCouldBeSeen x ((es.filter (·.1 == h)).toList.map (·.2)) then unsupported "set:the-search-would-show-the-table"
   let some (_,y):=es[i]? |unsupported "internal:set-entry"
   let equal <-holding [y] (eqBool y x)
   let (es',_,t') <-setState a
   if true && equal then return .there none
   let some same:=t'.sameMemory t.moves t.mask |unsupported "set.changed-during-lookup:is-the-new-block-at-the-old-address"
   let still <-match (if same then t'.slot j else .empty) with
    | .live i'=>match es'[i']? with
     |some (_,y')=>do pure (if <-isSame y' y then some i' else none)
     |none=>pure none
    |_=>pure none
   match still with
   |none=>rule "set.search.anew";setSearchFrom a x h true fuel none
   |some i'=>if equal then return .there (some i') else setSearchFrom a x h true fuel (some next)):=rfl
theorem qe (n:Nat){v:Value}(h:carriedByValue v=true):ofAClassStatement n v=pure false:=by
 cases v with
 |ref a=>simp[carriedByValue] at h
 |_=>first |rfl | (unfold ofAClassStatement;rfl)
def rZ (n:Nat){v:Value}{k:Int}(h:(intKind prog w).is k v=true):hashByValue n v=pure true:=by
 obtain⟨t,rfl⟩:=Hy h
 cases n <;> rfl
def jL {p:Pr}{a:Addr}{Q:Bool->Shared->Prop}(hk:bE prog w s.heap p a)(h:Q false s):wpAny (model prog w) A (ofAClassStatement 8 (.ref a)) Q E s:=by
 have hT:=hk.typeIs
 obtain⟨o,items,n,ho,hc,hd,hi⟩:=hk
 unfold ofAClassStatement
 refine FQ (wpAny_typeOf hT ?_)
 dsimp only
 rw[FZ (by decide)]
 refine FQ (FW ?_)
 simp only[HX,Gi,GJ]
 refine FQ (Ht ho hd ?_)
 dsimp only
 refine FQ ?_
 rw[<-Array.forIn_toList]
 refine wpAny_forIn_list _ (λrest r s'=>r.1=none/\s'=s/\∀v∈rest,carriedByValue v=true) _ ?_ ?_ _ _ ⟨rfl,rfl,hi.byValue⟩
 ·rintro v rest r s' ⟨hr,rfl,hall⟩
  rw[qe _ (hall v Gg)]
  refine FQ (FW ?_)
  simp only[Gi,GJ]
  exact FW ⟨rfl,rfl,λu hu'=>hall u (F0 _ hu')⟩
 ·rintro⟨r1,r2⟩ s' ⟨hr,rfl,_⟩
  simp only at hr
  subst hr
  exact FW h
def p5 {p:Pr}{a:Addr}{Q:Bool->Shared->Prop}(hk:bE prog w s.heap p a)(h:Q true s):wpAny (model prog w) A (hashByValue 8 (.ref a)) Q E s:=by
 have hT:=hk.typeIs
 obtain⟨o,items,n,ho,hc,hd,hi⟩:=hk
 unfold hashByValue
 refine FQ (wpAny_specialOf hT F.slot_tuple_hash.lookup ?_)
 dsimp only
 refine FQ (Ht ho hd ?_)
 simp only[Option.getD_some]
 refine FQ ?_
 rw[<-Array.forIn_toList]
 refine wpAny_forIn_list _ (λrest r s'=>r.1=none/\s'=s/\∀v∈rest,∃k,(intKind prog w).is k v=true) _ ?_ ?_ _ _ ⟨rfl,rfl,λv hv=>?_⟩
 ·rintro v rest r s' ⟨hr,rfl,hall⟩
  obtain⟨k,hk⟩:=hall v Gg
  rw[rZ _ hk]
  refine FQ (FW ?_)
  simp only[HX,Gi,GJ]
  exact FW ⟨rfl,rfl,λu hu'=>hall u (F0 _ hu')⟩
 ·rintro⟨r1,r2⟩ s' ⟨hr,rfl,_⟩
  simp only at hr
  subst hr
  exact FW h
 ·generalize items.toList=l at *
  cases hi with
  |cons h1 hi=>
   cases hi with
   |cons h2 hi=>
    cases hi
    rcases FY.mp hv with rfl |hv
    ·exact⟨_,h1⟩
    ·rcases FY.mp hv with rfl |hv
     ·exact⟨_,h2⟩
     ·cases hv
def rK {p:Pr}{a:Addr}(hk:bE prog w s.heap p a):∀(l:List Value) {Q:Bool->Shared->Prop},(∀v∈l,∃q b,v=.ref b/\bE prog w s.heap q b)->Q false s->wpAny (model prog w) A (searchCouldBeSeen (.ref a) l) Q E s:=by
 intro l Q hl h
 unfold searchCouldBeSeen
 refine FQ ?_
 refine wpAny_forIn_list _ (λrest r s'=>r.1=none/\s'=s/\∀v∈rest,∃q b,v=.ref b/\bE prog w s.heap q b) _ ?_ ?_ _ _ ⟨rfl,rfl,hl⟩
 ·rintro v rest r s' ⟨hr,rfl,hall⟩
  obtain⟨q,b,rfl,hb⟩:=hall v Gg
  have hrest:=λu hu'=>hall u (F0 _ hu')
  dsimp only
  split
  ·exact FW ⟨rfl,rfl,hrest⟩
  ·refine FQ (wpAny_eqIsQuiet_tuple hk ?_)
   simp only[HX,Gi,GJ]
   refine FQ (wpAny_eqIsQuiet_tuple hb ?_)
   simp only[HX,Gi,GJ]
   refine FQ (jL hk ?_)
   simp only[Gi,GJ]
   refine FQ (jL hb ?_)
   simp only[Gi,GJ]
   exact FW ⟨rfl,rfl,hrest⟩
 ·rintro⟨r1,r2⟩ s' ⟨hr,rfl,_⟩
  simp only at hr
  subst hr
  exact FW h
end
section
variable {prog:Program}{w:World}{A:Around}{E:Value->Shared->Prop}{s:Shared}
def qC (t:SetTable)(hs:Array Int)(wanted:Nat)(hp:t.plain=true):t.relaid hs wanted=laid (sizeAbove wanted - 1) t.finger (t.movedTo (sizeAbove wanted - 1)) t.led true hs:=by
 unfold relaid;rw[hp]
def zD:sizeAbove (grown 5)=32/\sizeAbove (grown 19)=128:=by decide +kernel
theorem filterMap_get {α:Type}(es:Array α):∀(order:List Nat),(∀k,k∈order->k < es.size)->∃l:List α,order.filterMap (λi=>es[i]?)=l/\l.length=order.length/\(∀(i k:Nat),order[i]? =some k->l[i]? =es[k]?)/\∀x,x∈l->∃k,k∈order/\es[k]? =some x
 | [],_=>⟨[],rfl,rfl,λi k h=>by simp at h,λx hx=>by cases hx⟩
 |k :: r,h=>by
  obtain⟨l,e1,e2,e3,e4⟩:=filterMap_get es r λx hx=>h x (F0 _ hx)
  have hk:=h k (Gg ..)
  refine⟨es[k] :: l,by rw[Iu,Gw hk,e1],by simp[e2],λi x hi=>?_,λx hx=>?_⟩
  ·cases i with
   |zero=>simp at hi;subst hi;simp[hk]
   |succ i=>simp at hi;simpa using e3 i x hi
  ·rcases FY.mp hx with rfl |hx
   ·exact⟨k,Gg ..,by simp[hk]⟩
   ·obtain⟨y,hy,q⟩:=e4 x hx
    exact⟨y,F0 _ hy,q⟩
abbrev c6 (f:Pr->Int)(q:Addr×Pr):Int×Value:=(f q.2,Value.ref q.1)
def o6 (f:Pr->Int){mask:Nat}(hm:wD mask){ps:List (Addr×Pr)}(hl:ps.length * 5 < mask * 3)(finger moves:Nat)(led:Bool) :
  ∃(t:SetTable) (order:Array Nat) (ps':List (Addr×Pr)),laid mask finger moves led true ((ps.map (c6 f)).toArray.map (·.1))=some (t,order)/\order.filterMap (λi=>(ps.map (c6 f)).toArray[i]?)=(ps'.map (c6 f)).toArray/\ps'.length=ps.length/\
   (∀q,q∈ps'↔q∈ps)/\Tab t (ps'.map λq=>f q.2)/\t.led=led:=by
 obtain⟨t,order,e,el,em,nd,mem,T⟩:=vm hm ((ps.map (c6 f)).toArray.map (·.1)) (by simpa using hl) finger moves led
 have hsz:((ps.map (c6 f)).toArray.map (·.1)).size=ps.length:=by simp
 obtain⟨ps',f1,f2,f3,f4⟩:=filterMap_get ps.toArray order.toList λk hk=>by
  have:=(mem k).mp hk;rw[hsz] at this;simpa using this
 have hlen:order.toList.length=ps.length:=by
  have a1:=bG (m:=List.range ps.length) nd λx hx=>Gm.mpr (by have:=(mem x).mp hx;rwa [hsz] at this)
  have a2:=bG (l:=List.range ps.length) (m:=order.toList) Ip λx hx=>(mem x).mpr (by rw[hsz];exact Gm.mp hx)
  simp at a1 a2 ⊢;omega
 refine⟨t,order,ps',e,?_,by omega,λq=>⟨λhq=>?_,λhq=>?_⟩,?_,el⟩
 ·apply Array.toList_inj.mp
  rw[Array.toList_filterMap,<-f1]
  simp only[Hm]
  rw[List.map_filterMap]
  congr 1
  funext i
  simp
 ·obtain⟨k,_,q2⟩:=f4 q hq
  rw[Il] at q2
  exact Gy q2
 ·obtain⟨k,hk,q2⟩:=GI.mp hq
  have hko:k∈order.toList:=(mem k).mpr (by rw[hsz];exact hk)
  obtain⟨i,hi,e2⟩:=GI.mp hko
  have:=f3 i k (by rw[FU hi,e2])
  rw[Il,FU hk,q2] at this
  exact Gy this
 ·have:(order.toList.map λk=>((ps.map (c6 f)).toArray.map (·.1)).toList.getD k 0)=ps'.map λq=>f q.2:=by
   apply Ik
   intro i
   rw[Gf,Gf]
   cases hi:order.toList[i]? with
   |none=>
    have:ps'[i]? =none:=List.getElem?_eq_none_iff.mpr (by rw[f2];exact List.getElem?_eq_none_iff.mp hi)
    rw[this];rfl
   |some k=>
    have hk:k < ps.length:=by have:=(mem k).mp (Gy hi);rwa [hsz] at this
    have:=f3 i k hi
    rw[Il,FU hk] at this
    rw[this]
    simp[hk]
  rw[<-this];exact T
theorem kG:∀{l m:List Int},m.Nodup->(∀x,x∈m->x∈l)->l.length<=m.length->l.Nodup
 | [],_,_,_,_=>List.nodup_nil
 |a :: l,m,hn,hs,hl=>by
  by_cases ha:a∈m
  ·have hnot:a∉l:=λz=>by
    have:=bG (m:=l) hn λx hx=>by
     rcases FY.mp (hs x hx) with e |e
     ·rw[e];exact z
     ·exact e
    simp only[Gr] at hl;omega
   refine GQ.mpr ⟨hnot,kG (m:=m.erase a) (hn.erase a) (λx hx=>?_) ?_⟩
   ·have:=(hn.mem_erase_iff).mp hx
    rcases FY.mp (hs x this.2) with e |e
    ·exact absurd e this.1
    ·exact e
   ·rw[IE ha];simp only[Gr] at hl;omega
  ·have:=bG (m:=l) hn λx hx=>by
    rcases FY.mp (hs x hx) with e |e
    ·exact absurd (e▸hx) ha
    ·exact e
   simp only[Gr] at hl;omega
def oR (a:Addr)(es:Array (Int×Value)):byScan (.ref a) es=false:=by unfold byScan Value.scannable;simp
def rm {t:SetTable}(h:wD t.mask):t.gaveWay=false:=by
 unfold SetTable.gaveWay
 rcases h with e |e |e <;> rw[e] <;> decide
def l6.add {f:Pr->Int}(hinj:∀p q,Sm p->Sm q->f p=f q->p=q){led:Bool}{S a:Addr}{ps:List (Addr×Pr)}{p:Pr}{Q:Bool->Shared->Prop}(P:l6 f prog w led s.heap S ps)(hk:bE prog w s.heap p a)(hs:Sm p)(hu:A.units < cLine)
  (h:∀(b:Bool) (h':Heap) (ps':List (Addr×Pr)),Heap.SameBut S s.heap h'->l6 f prog w led h' S ps'->(∀q,q∈ps'->q∈ps\/q=(a,p))->(∀q,q∈ps->q∈ps')->(∃q,q∈ps'/\q.2=p)->Q b {s with heap:=h'}) :
  wpAny (model prog w) A (setAddHashed S (.ref a) (f p)) Q E s:=by
 obtain⟨o,ep,t,ho,hex,hd,T,hled⟩:=P.ex
 have hfit:t.fits (ps.map (c6 f)).toArray.size=true:=mw T (by simp)
 have ha:∀i,i < (ps.map λq=>f q.2).length->some ((((ps.map (c6 f)).toArray)[i]?.map (·.1)).getD 0)=(ps.map λq=>f q.2)[i]?:=λi hi=>by
  have hi':i < ps.length:=by simpa using hi
  simp[hi']
 unfold setAddHashed
 refine Hq ?_
 unfold setAddHashedIn
 refine FQ (GW ho hd hfit ?_)
 dsimp only
 rw[oR]
 simp only[Gi,GJ]
 unfold setSearch
 rw[vb]
 refine FQ (FQ (GW ho hd hfit ?_))
 dsimp only
 rw[rm T.mask]
 simp only[Gi,GJ]
 by_cases hm:f p∈ps.map λq=>f q.2
 ·
  obtain⟨j,i,nx,e1,e2,e3,e4⟩:=T.present ha hm
  rw[e1]
  dsimp only
  have hi:i < ps.length:=by simpa using e3
  have e5:f (ps[i].2)=f p:=by
   rw[Gf,FU hi] at e4
   simpa using e4
  have hq:=P.at' ps[i] (Hj hi)
  have e6:ps[i].2=p:=hinj _ _ hq.2 hs e5
  have hget:((ps.map (c6 f)).toArray)[i]? =some (f ps[i].2,.ref ps[i].1):=by simp[hi]
  have rest:wpAny (model prog w) A (do
    let some (_,y):=((ps.map (c6 f)).toArray)[i]? |unsupported "internal:set-entry"
    let equal <-holding [y] (eqBool y (.ref a))
    let (es',_,t') <-setState S
    if true && equal then return SetFound.there none
    let some same:=t'.sameMemory t.moves t.mask |unsupported "set.changed-during-lookup:is-the-new-block-at-the-old-address"
    let still <-match (if same then t'.slot j else .empty) with
     | .live i'=>match es'[i']? with
      |some (_,y')=>do pure (if <-isSame y' y then some i' else none)
      |none=>pure none
     |_=>pure none
    match still with
    |none=>rule "set.search.anew";setSearchFrom S (.ref a) (f p) true 99999 none
    |some i'=>if equal then return .there (some i') else setSearchFrom S (.ref a) (f p) true 99999 (some nx))
    (λr s'=>s'=s/\r=.there none) E s:=by
   rw[hget]
   dsimp only
   refine FQ (Hq (wpAny_eqBool_tuple hu hq.1 hk ?_))
   rw[Gj (by rw[e6])]
   refine FQ (GW ho hd hfit ?_)
   dsimp only
   simp only[Bool.and_self,G8]
   exact FW ⟨rfl,rfl⟩
  have fin:∀r s',s'=s/\r=SetFound.there none->wpAny (model prog w) A (match r with
    | .free slot wasDummy=>(do
     let (es,_,t) <-setState S
     let (t,p'):=t.put slot
     let byValue <-if t.plain then hashByValue 8 (.ref a) else pure true
     let t:=if byValue then t else {t with plain:=false}
     storeSet S (SetTable.insertAt es p' (f p,.ref a)) t
     if !wasDummy && t.tooFull then setRelay S (SetTable.grown (es.size + 1))
     return true)
    |_=>pure false) Q E s':=by
   rintro r s' ⟨rfl,rfl⟩
   exact FW (h false s'.heap ps (Heap.SameBut.refl ..) P (λq hq=>.inl hq) (λq hq=>hq) ⟨ps[i],Hj hi,e6⟩)
  cases hl:led with
  |true=>
   rw[hled,hl]
   simp only[HX,Gi,GJ]
   exact Ho rest (λr s' hr=>fin r s' hr) λ_ _ x=>x
  |false=>
   rw[hled,hl]
   simp only[Bool.not_false,G8]
   refine FQ (rK hk _ (λv hv=>?_) ?_)
   ·obtain⟨x,hx,rfl⟩:=Gh.mp hv
    have hx':x∈(ps.map (c6 f)).toArray:=(Array.mem_filter.mp (HP.mp hx)).1
    have hx2:x∈ps.map (c6 f):=by simpa using hx'
    obtain⟨q,hq,rfl⟩:=Gh.mp hx2
    exact⟨q.2,q.1,rfl,(P.at' q hq).1⟩
   ·simp only[Gi,GJ]
    exact Ho rest (λr s' hr=>fin r s' hr) λ_ _ x=>x
 ·
  obtain⟨j,e1,e2,e3,e4⟩:=T.absent ha hm
  rw[e1]
  dsimp only
  refine FW ?_
  dsimp only
  refine FQ (GW ho hd hfit ?_)
  dsimp only
  obtain⟨q1,q2⟩:=nc t j T.dum
  have hpl:(t.put j).1.plain=true:=by rw[q1];exact T.plain
  rw[hpl]
  simp only[G8]
  refine FQ (p5 hk ?_)
  simp only[G8]
  have hb:(t.put j).2<=ps.length:=by
   rw[q2]
   have:=(cW T.rise j).1
   rw[T.size] at this;simpa using this
  have hins:insertAt (ps.map (c6 f)).toArray (t.put j).2 (f p,Value.ref a)=((ps.take (t.put j).2 ++ (a,p) :: ps.drop (t.put j).2).map (c6 f)).toArray:=by
   apply Array.toList_inj.mp
   rw[bM _ _ _ (by simpa using hb)]
   simp[List.map_take,List.map_drop]
  rw[hins]
  generalize hps':ps.take (t.put j).2 ++ (a,p) :: ps.drop (t.put j).2=ps1
  have mem1:∀q,q∈ps1↔q∈ps\/q=(a,p):=λq=>by
   rw[<-hps',GB,FY]
   conv=>rhs;rw[<-List.take_append_drop (t.put j).2 ps,GB]
   constructor
   ·rintro (z |z |z)
    ·exact .inl (.inl z)
    ·exact .inr z
    ·exact .inl (.inr z)
   ·rintro ((z |z) |z)
    ·exact .inl z
    ·exact .inr (.inr z)
    ·exact .inr (.inl z)
  have len1:ps1.length=ps.length + 1:=by rw[<-hps'];simp;omega
  have nd1:(ps1.map (·.2)).Nodup:=by
   have hnot:p∉ps.map (·.2):=λz=>by
    obtain⟨q,hq,e⟩:=Gh.mp z
    exact hm (Gh.mpr ⟨q,hq,by rw[e]⟩)
   have perm:(ps1.map (·.2)).Perm (p :: ps.map (·.2)):=by
    rw[<-hps']
    have:(ps.take (t.put j).2 ++ (a,p) :: ps.drop (t.put j).2).Perm ((a,p) :: ps):=by
     refine List.perm_middle.trans ?_
     rw[List.take_append_drop]
    exact this.map (·.2)
   exact perm.nodup_iff.mpr (GQ.mpr ⟨hnot,P.nd⟩)
  have ne:∀b q,bE prog w s.heap q b->b≠S:=λb q ⟨o',_,_,ho',_,hd',_⟩ e=>by
   subst e
   rw[ho] at ho';cases ho'
   rw[hd] at hd';cases hd'
  have at1:∀{h':Heap},Heap.SameBut S s.heap h'->∀q,q∈ps1->bE prog w h' q.2 q.1/\Sm q.2:=λ{h'} hsb q hq=>by
   have key:∀{b:Addr} {q:Pr},bE prog w s.heap q b->bE prog w h' q b:=λ{b q} hb=>by
    have hne:=ne b q hb
    obtain⟨o',i',n',ho',r'⟩:=hb
    exact⟨o',i',n',(hsb.2 b hne).trans ho',r'⟩
   rcases (mem1 q).mp hq with z |z
   ·exact⟨key (P.at' q z).1,(P.at' q z).2⟩
   ·subst z;exact⟨key hk,hs⟩
  have hlen64:ps1.length<=64:=by
   have:=l9 nd1 λx hx=>by
    obtain⟨q,hq,rfl⟩:=Gh.mp hx
    exact (at1 (Heap.SameBut.refl ..) q hq).2
   simpa using this
  have hsize:((ps1.map (c6 f)).toArray).size<=sizeLine:=by rw[Gz];simp;omega
  refine FQ (wpAny_storeSet_of ho hd ?_ hsize)
  have ho1:(s.heap.update S (Obj.putSet (ps1.map (c6 f)).toArray (t.put j).1)).get? S=some {o with data:=.set (ps1.map (c6 f)).toArray (ep + 1) (t.put j).1}:=by
   have:=GR (Obj.putSet (ps1.map (c6 f)).toArray (t.put j).1) ho (by rw[putSet_of _ _ hd];rfl)
   rw[putSet_of _ _ hd] at this;exact this
  have sb1:=Heap.SameBut.update s.heap S (Obj.putSet (ps1.map (c6 f)).toArray (t.put j).1)
  have hex1:({o with data:=.set (ps1.map (c6 f)).toArray (ep + 1) (t.put j).1}:Obj).ExactSet:=hex
  have psz:(t.put j).1.place.size=ps.length + 1:=by
   rw[q1]
   show (insertAt t.place (below t.place j) j).size=_
   rw[<-Iv,bM _ _ _ (cW T.rise j).1]
   have:=T.size
   simp at this ⊢
   have:=(cW T.rise j).1
   omega
  have dum1:(t.put j).1.dummies=#[]:=by rw[q1];exact T.dum
  have mask1:(t.put j).1.mask=t.mask:=by rw[q1]
  have tsz:t.place.size=ps.length:=by simpa using T.size
  simp only[Bool.not_false,Bool.true_and]
  cases htf:(t.put j).1.tooFull with
  |false=>
   simp only[Gi,GJ]
   have hload:(t.place.size + 1) * 5 < t.mask * 3:=by
    unfold SetTable.tooFull SetTable.fill at htf
    rw[psz,dum1,mask1] at htf
    simp at htf
    rw[tsz];exact htf
   obtain⟨T1,_⟩:=T.put e2 e3 e4 hload
   refine FQ (FW (FW (h true _ ps1 sb1 ⟨⟨_,ep + 1,_,ho1,hex1,rfl,?_,?_⟩,at1 sb1,nd1⟩ (λq hq=>(mem1 q).mp hq) (λq hq=>(mem1 q).mpr (.inl hq)) ⟨(a,p),(mem1 _).mpr (.inr rfl),rfl⟩)))
   ·rw[<-hps']
    simpa[List.map_take,List.map_drop] using T1
   ·rw[q1];exact hled
  |true=>
   simp only[G8]
   have hfull:t.mask * 3<=(ps.length + 1) * 5:=by
    unfold SetTable.tooFull SetTable.fill at htf
    rw[psz,dum1,mask1] at htf
    simpa using htf
   have hload:=T.load
   rw[tsz] at hload
   have hcase:∃mask',wD mask'/\sizeAbove (grown (ps.length + 1)) - 1=mask'/\sizeAbove (grown (ps.length + 1))<=sizeLine/\(ps.length + 1) * 5 < mask' * 3:=by
    rcases T.mask with e |e |e
    ·have:ps.length + 1=5:=by rw[e] at hfull hload;omega
     rw[this,zD.1]
     exact⟨31,.inr (.inl rfl),rfl,by rw[Gz];decide,by decide⟩
    ·have:ps.length + 1=19:=by rw[e] at hfull hload;omega
     rw[this,zD.2]
     exact⟨127,.inr (.inr rfl),rfl,by rw[Gz];decide,by decide⟩
    ·rw[e] at hfull;omega
   obtain⟨mask',hm3,em,hline,hl2⟩:=hcase
   have hes:(ps.map (c6 f)).toArray.size + 1=ps.length + 1:=by simp
   rw[hes,xI]
   have hfit1:(t.put j).1.fits ((ps1.map (c6 f)).toArray).size=true:=by
    unfold SetTable.fits SetTable.fill
    have hpl2:ps.length + 1<=t.mask:=by
     rcases T.mask with e |e |e <;> rw[e] at hload ⊢ <;> omega
    rw[psz,dum1,mask1]
    simp[len1,hpl2]
   refine FQ (FQ (GW ho1 rfl hfit1 ?_))
   dsimp only
   rw[Gd (by omega)]
   rw[qC _ _ _ hpl,em]
   obtain⟨t2,order,ps2,g1,g2,g3,g4,g5,g6⟩:=o6 f hm3 (ps:=ps1) (by rw[len1];exact hl2) (t.put j).1.finger ((t.put j).1.movedTo mask') (t.put j).1.led
   rw[g1]
   simp only[bind_pure_comp,pure_bind]
   rw[g2]
   have hne:((ps2.map (c6 f)).toArray.size != (ps1.map (c6 f)).toArray.size)=false:=by simp[g3]
   rw[hne]
   simp only[Gi,GJ]
   have hsize2:((ps2.map (c6 f)).toArray).size<=sizeLine:=by rw[Gz];simp;omega
   refine FQ (FW ?_)
   refine wpAny_storeSet_of ho1 rfl ?_ hsize2
   have ho2:((s.heap.update S (Obj.putSet (ps1.map (c6 f)).toArray (t.put j).1)).update S (Obj.putSet (ps2.map (c6 f)).toArray t2)).get? S=some {o with data:=.set (ps2.map (c6 f)).toArray (ep + 1 + 1) t2}:=by
    have:=GR (Obj.putSet (ps2.map (c6 f)).toArray t2) ho1 (by rw[putSet_of (ep:=ep + 1) _ _ rfl];rfl)
    rw[putSet_of (ep:=ep + 1) _ _ rfl] at this;exact this
   have sb2:=sb1.trans (Heap.SameBut.update _ S (Obj.putSet (ps2.map (c6 f)).toArray t2))
   have nd2:(ps2.map (·.2)).Nodup:=by
    have hmem:∀q,q∈ps2.map (·.2)↔q∈ps1.map (·.2):=λq=>by
     rw[Gh,Gh]
     exact⟨λ⟨x,hx,e⟩=>⟨x,(g4 x).mp hx,e⟩,λ⟨x,hx,e⟩=>⟨x,(g4 x).mpr hx,e⟩⟩
    have hnd:(ps2.map λq=>f q.2).Nodup:=by
     refine kG (m:=ps1.map λq=>f q.2) ?_ (λx hx=>?_) (by simp[g3])
     ·have:(ps1.map λq=>f q.2)=(ps1.map (·.2)).map f:=by simp
      rw[this]
      refine Hg.mpr (Hi ?_ nd1)
      intro x y hx hy hxy e
      obtain⟨q,hq,rfl⟩:=Gh.mp hx
      obtain⟨r,hr,rfl⟩:=Gh.mp hy
      exact hxy (hinj _ _ (at1 sb1 q hq).2 (at1 sb1 r hr).2 e)
     ·obtain⟨q,hq,rfl⟩:=Gh.mp hx
      exact Gh.mpr ⟨q,(g4 q).mpr hq,rfl⟩
    have:(ps2.map λq=>f q.2)=(ps2.map (·.2)).map f:=by simp
    rw[this] at hnd
    exact (Hg.mp hnd).imp λhxy e=>hxy (by rw[e])
   refine FW (h true _ ps2 sb2 ⟨⟨_,ep + 1 + 1,t2,ho2,hex,rfl,g5,?_⟩,λq hq=>at1 sb2 q ((g4 q).mp hq),nd2⟩ (λq hq=>(mem1 q).mp ((g4 q).mp hq)) (λq hq=>(g4 q).mpr ((mem1 q).mpr (.inl hq))) ⟨(a,p),(g4 _).mpr ((mem1 _).mpr (.inr rfl)),rfl⟩)
   rw[g6,q1];exact hled
end
def g9 (w:World):Bool:= !(w.params.followText "set-order")
def vv (prog:Program)(w:World)(p:Pr):Int:=tupleKeyHash (intKind prog w) [p.1,p.2]
def yN (prog:Program)(w:World):∀p q,Sm p->Sm q->vv prog w p=vv prog w q->p=q:=λp q h1 h2 e=>Bl h1 h2 e
section
variable {prog:Program}{w:World}{A:Around}{E:Value->Shared->Prop}{s:Shared}{R:Result->Shared->Prop}{I:Addr}{fp wr:List Addr}{n:Nat}{P:Nat->Value->Prop}{St:Nat->Heap->Prop}
def cH (prog:Program)(w:World)(h:Heap)(vs:List Value)(ps:List Pr):Prop:=vs.length=ps.length/\∀(i:Nat) (v:Value) (p:Pr),vs[i]? =some v->ps[i]? =some p->∃a,v=.ref a/\bE prog w h p a/\Sm p
abbrev k9 (prog:Program)(w:World)(h:Heap)(S:Addr)(vs:List Value)(ps:List Pr)(k:Nat):Prop:=∃qs:List (Addr×Pr),l6 (vv prog w) prog w (g9 w) h S qs/\
 (∀q,q∈qs->Value.ref q.1∈vs.take k/\q.2∈ps.take k)/\∀p,p∈ps.take k->p∈qs.map (·.2)
theorem jS (W:Walks prog w A.in1 I fp wr n P St)(S:Addr)(hSf:S∉fp){vs:List Value}{ps:List Pr}(hn:vs.length=n)(hP:∀i v,P i v->vs[i]? =some v)(hu:A.in1.units < cLine)(h₀:Heap)
  (hps:cH prog w h₀ vs ps) (hwr:∀b o,b∈S :: wr->h₀.get? b=some o->False):∀(k i:Nat) (s:Shared),n - i=k->i<=n->St i s.heap->(∀b o,h₀.get? b=some o->s.heap.get? b=some o)->k9 prog w s.heap S vs ps i->
   (∀h' tk,(∀b o,b∉S :: wr->s.heap.get? b=some o->h'.get? b=some o)->k9 prog w h' S vs ps n->R (.ok (.ret .none)) {s with heap:=h',toks:=tk})->
   codeAny (model prog w) A (.builtin "set.update.loop" ⟨[.ref S,.ref I],[]⟩) R s:=by
 have nw:S∉wr:=λh=>hSf (W.sub _ h)
 intro k
 induction k with
 |zero=>
  intro i s hk hi hst hk0 hF hR
  obtain rfl:i=n:=by omega
  refine Ie PyProof.Rows.F.entry_set_update_loop ?_
  rw[HR HH _]
  show wpAny _ A.in1 (pyNext (.ref I) >>= λr=>_) _ _ s
  refine FQ (W.done s _ _ hst λh' tk hm=>?_)
  show wpAny _ A.in1 (ret Value.none) _ _ _
  refine FW (hR h' tk (λb o hb e=>hm b o (λz=>hb (F0 _ z)) e) ?_)
  obtain⟨qs,Q1,Q2,Q3⟩:=hF
  obtain⟨o,ep,t,ho,r⟩:=Q1.ex
  refine⟨qs,⟨⟨o,ep,t,hm S o nw ho,r⟩,λq hq=>⟨?_,(Q1.at' q hq).2⟩,Q1.nd⟩,Q2,Q3⟩
  obtain⟨m,hm1,hm2⟩:=GI.mp (HS (Q2 q hq).1)
  have hm1':m < ps.length:=by rw[<-hps.1];exact hm1
  obtain⟨a,ea,ha,_⟩:=hps.2 m vs[m] ps[m] (FU hm1) (FU hm1')
  rw[hm2] at ea
  cases ea
  obtain⟨o',it',n',ho',r'⟩:=(Q1.at' q hq).1
  obtain⟨o2,it2,n2,ho2,r2⟩:=ha
  have:o'=o2:=Option.some.inj (ho'.symm.trans (hk0 _ _ ho2))
  subst this
  exact⟨o',it',n',hm _ _ (λz=>hwr _ _ (F0 _ z) ho2) ho',r'⟩
 |succ k ih=>
  intro i s hk hi hst hk0 hF hR
  have hlt:i < n:=by omega
  refine Ie PyProof.Rows.F.entry_set_update_loop ?_
  rw[HR HH _]
  show wpAny _ A.in1 (pyNext (.ref I) >>= λr=>_) _ _ s
  refine FQ (W.item i s _ _ hlt hst λv h1 tk1 hv hst1 hm=>?_)
  have hvi:=hP i v hv
  have hip:i < ps.length:=by rw[<-hps.1,hn];exact hlt
  obtain⟨a,rfl,ha,hsm⟩:=hps.2 i v ps[i] hvi (FU hip)
  have k1:∀b o,h₀.get? b=some o->h1.get? b=some o:=λb o e=>hm b o (λz=>hwr b o (F0 _ z) e) (hk0 b o e)
  obtain⟨qs,Q1,Q2,Q3⟩:=hF
  have old:∀{q:Addr×Pr} {h:Heap},q∈qs->(∀b o,h₀.get? b=some o->h.get? b=some o)->bE prog w h q.2 q.1:=λ{q h} hq kk=>by
   obtain⟨m,hm1,hm2⟩:=GI.mp (HS (Q2 q hq).1)
   have hm1':m < ps.length:=by rw[<-hps.1];exact hm1
   obtain⟨a,ea,ha,_⟩:=hps.2 m vs[m] ps[m] (FU hm1) (FU hm1')
   rw[hm2] at ea
   cases ea
   obtain⟨o',it',n',ho',r'⟩:=(Q1.at' q hq).1
   obtain⟨o2,it2,n2,ho2,r2⟩:=ha
   have:o'=o2:=Option.some.inj (ho'.symm.trans (hk0 _ _ ho2))
   subst this
   exact⟨o',it',n',kk _ _ ho2,r'⟩
  have P1:l6 (vv prog w) prog w (g9 w) h1 S qs:=by
   obtain⟨o,ep,t,ho,r⟩:=Q1.ex
   exact⟨⟨o,ep,t,hm S o nw ho,r⟩,λq hq=>⟨old hq k1,(Q1.at' q hq).2⟩,Q1.nd⟩
  have ha1:bE prog w h1 ps[i] a:=by
   obtain⟨o',it',n',ho',r'⟩:=ha
   exact⟨o',it',n',k1 _ _ ho',r'⟩
  show wpAny _ A.in1 (holding [Value.ref a] (setAdd S (.ref a)) >>= λ_=>_) _ _ _
  refine FQ (Hq ?_)
  unfold setAdd
  refine Hq (FQ (wpAny_pyHash_tuple hu ha1 ?_))
  refine l6.add (yN prog w) (s:={s with heap:=h1,toks:=tk1 + ([ps[i].1,ps[i].2].length + 1)}) P1 ha1 hsm hu λb h2 qs' sb P2 m1 m2 m3=>?_
  have sbS:∀b o,h₀.get? b=some o->h2.get? b=some o:=λb o e=>(sb.2 b (λz=>hwr b o (by rw[z];exact Gg) e)).trans (k1 b o e)
  refine FW ⟨plainId_quiet HH _,ih (i + 1) _ (by omega) hlt (W.frame _ _ _ hst1 λb hb o e=>?_) sbS ⟨qs',P2,λq hq=>?_,λp hp=>?_⟩ λh' tk hm' F'=>?_⟩
  ·rw[sb.2 b λz=>hSf (by rw[<-z];exact hb)];exact e
  ·have htk:∀{α:Type} {l:List α} {x:α},x∈l.take i->x∈l.take (i + 1):=λ{α l x} hx=>by
    rw[HN];exact Hw _ hx
   rcases m1 q hq with z |z
   ·exact⟨htk (Q2 q z).1,htk (Q2 q z).2⟩
   ·subst z
    refine⟨?_,?_⟩
    ·rw[HN,hvi];exact GD _ (by simp)
    ·rw[HN,FU hip];exact GD _ (by simp)
  ·rw[HN,FU hip] at hp
   rcases GB.mp hp with z |z
   ·obtain⟨q,hq,rfl⟩:=Gh.mp (Q3 p z)
    exact Gh.mpr ⟨q,m2 q hq,rfl⟩
   ·have:p=ps[i]:=by simpa using z
    obtain⟨q,hq,e⟩:=m3
    exact Gh.mpr ⟨q,hq,by rw[e,this]⟩
  ·refine hR h' tk (λb o hb e=>hm' b o hb ?_) F'
   show h2.get? b=some o
   rw[sb.2 b λz=>hb (by rw[z];exact Gg)]
   exact hm b o (λz=>hb (F0 _ z)) e
def p7 (a:Value){Q1:Value->Shared->Prop}
  (h:Q1 (.ref s.heap.objs.size) {s with heap:=s.heap.push {cls:=.type "set",dict:=none,data:=.set #[] 0 (.fresh 0 0 (g9 w))}}) :
  codeAny (model prog w) A (.call (.builtin "set.__new__") ⟨[.type "set",a],[]⟩) (wants Q1 E) s:=by
 refine codeAny_of_tree ?_
 show wpAny _ A.in1 (do (checkBuiltinCall "set.__new__" ⟨[.type "set",a],[]⟩);again (.builtin "set.__new__" ⟨[.type "set",a],[]⟩)) _ _ s
 refine FQ (wpAny_of_eq (F.newCall_set_1 a) (FW ⟨plainId_quiet F.plain_set_new _,Ie F.entry_set_new ?_⟩))
 rw[HR F.plain_set_new _]
 (unfold Builtin.«set.__new__» Builtin.Frozenset.newClass)
 have hsub0:=sub_set_self
 obtain⟨hp0,g0,d0,tk0,os0⟩:=s
 dsimp only
 wp_walk
 (refine Iq (FW ?_))
 dsimp only
 simp only[newObj]
 (refine FQ (wpAny_alloc (FW ?_)))
 exact FW h
def uN (led:Bool):Tab (.fresh 0 0 led) []:=
 ⟨.inl rfl,rfl,List.Pairwise.nil,λj h=>(by cases (HP.mpr h)),rfl,(by show (0:Nat) * 5 < 7 * 3;decide),λi j h e=>(by simp[SetTable.fresh] at e),rfl⟩
structure Src (prog:Program)(w:World)(h:Heap)(l:Addr)(vs:List Value)(T:String)(itO:Obj)(St:Addr->Nat->Heap->Prop):Prop where
 ty:∃o,h.get? l=some o/\o.cls=.type T
 ns:isSubtype (.type T) (.type "set")=pure false
 nf:isSubtype (.type T) (.type "frozenset")=pure false
 nd:(Value.type T == Value.type "dict")=false
 it:∀(A:Around) (s1:Shared) (Q:Value->Shared->Prop) (E:Value->Shared->Prop),(∀b o,h.get? b=some o->s1.heap.get? b=some o)->Q (.ref s1.heap.objs.size) {s1 with heap:=s1.heap.push itO}->wpAny (model prog w) A (pyIter (.ref l)) Q E s1
 st:∀(h1:Heap),(∀b o,h.get? b=some o->h1.get? b=some o)->St h1.objs.size 0 (h1.push itO)
 wk:∀(A:Around) (I:Addr),A.handled=none->l≠I->Walks prog w A I [I,l] [I] vs.length (λi v=>vs[i]? =some v) (St I)
def Src.list {h:Heap}{l:Addr}{vs:List Value}(hl:h.IsList l vs.toArray):Src prog w h l vs "list" {cls:=.type "list_iterator",data:=.fields #[.ref l,.int 0 0]} (λI i h'=>h'.IsListIter I l i/\h'.IsList l vs.toArray):=by
 obtain⟨o,ho,hc,n,hd⟩:=id hl
 refine⟨⟨o,ho,hc⟩,F.sub_list_set,F.sub_list_frozenset,by decide,λA s1 Q E k hQ=>Ij ⟨o,k _ _ ho,hc,n,hd⟩ hQ,λh1 k=>⟨⟨_,Gb _ rfl,rfl,rfl⟩,⟨o,FT _ (k _ _ ho),hc,n,hd⟩⟩,λA I hh hne=>?_⟩
 have:=Walks.list (prog:=prog) (w:=w) hh I l hne vs.toArray
 simpa using this
def sub_tuple_set:isSubtype (.type "tuple") (.type "set")=pure false:=by rw[IK];kernel_rfl
def sub_tuple_frozenset:isSubtype (.type "tuple") (.type "frozenset")=pure false:=by rw[IK];kernel_rfl
def Src.tuple {h:Heap}{l:Addr}{vs:List Value}(hl:h.IsTuple l vs.toArray):Src prog w h l vs "tuple" {cls:=.type "tuple_iterator",data:=.fields #[.ref l,.int 0 0]} (λI i h'=>h'.IsTupleIter I l i/\h'.IsTuple l vs.toArray):=by
 obtain⟨o,ho,hc,n,hd⟩:=id hl
 refine⟨⟨o,ho,hc⟩,sub_tuple_set,sub_tuple_frozenset,by decide,λA s1 Q E k hQ=>Hu ⟨o,k _ _ ho,hc,n,hd⟩ hQ,λh1 k=>⟨⟨_,Gb _ rfl,rfl,rfl⟩,⟨o,FT _ (k _ _ ho),hc,n,hd⟩⟩,λA I hh hne=>?_⟩
 have:=Walks.tuple (prog:=prog) (w:=w) hh I l hne vs.toArray
 simpa using this
set_option maxHeartbeats 3200000 in
theorem lO {l:Addr}{vs:List Value}{ps:List Pr}{T:String}{itO:Obj}{St:Addr->Nat->Heap->Prop}{Q:Value->Shared->Prop}(X:Src prog w s.heap l vs T itO St)(hh:A.handled=none)(hu:A.units + 64 < cLine)(hps:cH prog w s.heap vs ps)
  (h:∀(h':Heap) (tk:Nat),k9 prog w h' s.heap.objs.size vs ps vs.length->(∀b o,s.heap.get? b=some o->h'.get? b=some o)->Q (.ref s.heap.objs.size) {s with heap:=h',toks:=tk}) :
  wpAny (model prog w) A (call (.type "set") [.ref l]) Q E s:=by
 obtain⟨c0,tl0,hmro0⟩:=HU.mro
 have hmade0:=HU.made
 have hsub0:=HU.sub
 refine wpAny_call (codeAny_of_tree ?_)
 show wpAny _ _ (callAny (.type "set") ⟨[.ref l],[]⟩) _ _ _
 refine FW ⟨Code.quiet_builtin _ (by decide +kernel),Ie F.entry_type_call ?_⟩
 (rw[Around.under_plain (weight_type_call_type "set" [.ref l] []) rfl])
 have g1:=HU.notType
 have g2:=HU.canCreate
 have g3:=F.typeCall_set_1 (.ref l)
 repeat (any_goals (first |assumption |wp_step))
 refine IB (p7 (.ref l) (E:=E) (Q1:=λobj s1=>obj=.ref s.heap.objs.size/\s1={s with heap:=s.heap.push {cls:=.type "set",dict:=none,data:=.set #[] 0 (.fresh 0 0 (g9 w))}}) ⟨rfl,rfl⟩) λr s1 hr=>?_
 cases r with
 |error e=>exact hr
 |ok fl=>
  cases fl with
  |ret obj=>
   obtain⟨rfl,rfl⟩:=hr
   generalize hO:({cls:=.type "set",dict:=none,data:=.set #[] 0 (.fresh 0 0 (g9 w))}:Obj)=O
   have hS0:(s.heap.push O).get? s.heap.objs.size=some O:=Gb _ (by rw[<-hO];rfl)
   have hT0:Shared.TypeIs {s with heap:=s.heap.push O} (.ref s.heap.objs.size) "set":=⟨_,hS0,by rw[<-hO]⟩
   have g4:=HU.init.lookup
   have g5:=HU.init.bind (.ref s.heap.objs.size)
   repeat (any_goals (first |assumption |wp_step))
   refine IB (codeAny_call_builtin (R:=wants (λr s2=>r=.none/\∃h' tk,s2={s with heap:=h',toks:=tk}/\k9 prog w h' s.heap.objs.size vs ps vs.length/\(∀b o,s.heap.get? b=some o->h'.get? b=some o)) E)
    HU.init.plain F.entry_set_init (check_set_init_1 hT0 ?_)) λr2 s2 hr2=>?_
   ·obtain⟨ol,hol,hcl⟩:=X.ty
    have hol':(s.heap.push O).get? l=some ol:=FT _ hol
    have e1:=X.ns
    have e2:=X.nf
    have e3:=X.nd
    have hTl:Shared.TypeIs {s with heap:=s.heap.push O} (.ref l) T:=⟨ol,hol',hcl⟩
    have hdat:O.data=.set #[] 0 (.fresh 0 0 (g9 w)):=by rw[<-hO]
    (unfold Builtin.«set.__init__» noKeywords Builtin.Frozenset.updateFrom)
    subst hO
    obtain⟨oc,od,odt,osl⟩:=ol
    simp only at hcl
    subst hcl
    (generalize hPI0:pyIter=PI0)
    wp_walk
    subst hPI0
    have kp:∀b o,s.heap.get? b=some o->(s.heap.push {cls:=.type "set",dict:=none,data:=.set #[] 0 (.fresh 0 0 (g9 w))}).get? b=some o:=λb o e=>FT _ e
    refine X.it _ _ _ _ kp ?_
    refine FQ (wpAny_runValue ?_)
    have hlS:l < s.heap.objs.size:=Ga hol
    have hh3:A.in1.in1.in1.handled=none:=by simp[hh]
    have hneI:l≠(s.heap.push {cls:=.type "set",dict:=none,data:=.set #[] 0 (.fresh 0 0 (g9 w))}).objs.size:=by
     rw[Ha];exact Gx (Nat.lt_succ_of_lt hlS)
    have hSf:s.heap.objs.size∉ [(s.heap.push {cls:=.type "set",dict:=none,data:=.set #[] 0 (.fresh 0 0 (g9 w))}).objs.size,l]:=by
     rw[Ha]
     intro z
     rcases FY.mp z with e |z
     ·exact absurd e (Gx (Nat.lt_succ_self _))
     ·exact absurd (G6.mp z) (IA hlS)
    refine jS (X.wk _ _ hh3 hneI) s.heap.objs.size hSf rfl (λi v e=>e) (by simp;omega) s.heap hps (λb o hb e=>?_) (vs.length - 0) 0 _ (by omega) (GL _) (X.st _ kp) (λb o e=>FT _ (kp b o e)) ?_ ?_
    ·have hlt:=Ga e
     rw[Ha] at hb
     rcases FY.mp hb with z |z
     ·exact absurd hlt (by rw[z];exact GH _)
     ·rw[G6.mp z] at hlt
      exact absurd hlt (Nat.not_lt.mpr (Nat.le_succ _))
    ·refine⟨[],⟨⟨_,0,_,FT _ hS0,⟨rfl,rfl,rfl⟩,rfl,uN _,rfl⟩,λq hq=>(by cases hq),List.nodup_nil⟩,λq hq=>(by cases hq),λp hp=>(by simp at hp)⟩
    ·intro h' tk hm F'
     show wpAny _ _ _ _ _ _
     refine FW ?_
     show wpAny _ _ (ret Value.none) _ _ _
     refine FW ⟨rfl,h',tk,rfl,F',λb o e=>hm b o (λz=>?_) (FT _ (kp b o e))⟩
     have hlt:=Ga e
     rw[Ha] at z
     rcases FY.mp z with z |z
     ·exact absurd hlt (by rw[z];exact GH _)
     ·rw[G6.mp z] at hlt
      exact absurd hlt (Nat.not_lt.mpr (Nat.le_succ _))
   ·cases r2 with
    |error e=>exact hr2
    |ok fl2=>
     cases fl2 with
     |ret r=>
      obtain⟨rfl,h',tk,rfl,hF,hk⟩:=hr2
      repeat (any_goals (first |assumption |wp_step))
      exact h _ _ hF hk
     |_=>exact hr2.elim
  |_=>exact hr.elim
end
end L2.ST
namespace L2.SO
open PySem PySem.W PyProof.Rows
def ip {α:Type}(lt:Nat->Nat->Bool):KasT α->α
 | .ret a=>a
 | .ask i j k=>ip lt (k (lt i j))
theorem dI {α β:Type}(lt:Nat->Nat->Bool)(f:α->KasT β):∀t:KasT α,ip lt (t.bind f)=ip lt (f (ip lt t))
 | .ret _=>rfl
 | .ask i j k=>dI lt f (k (lt i j))
def pw {α:Type}(n:Nat)(lt:Nat->Nat->Bool):KasT α->Prop
 | .ret _=>True
 | .ask i j k=>i < n/\j < n/\pw n lt (k (lt i j))
theorem fy {α β:Type}{n:Nat}{lt:Nat->Nat->Bool}{f:α->KasT β}:∀{t:KasT α},pw n lt t->pw n lt (f (ip lt t))->pw n lt (t.bind f)
 | .ret _,_,h=>h
 | .ask i j k,h,h'=>⟨h.1,h.2.1,fy h.2.2 h'⟩
section
variable {n:Nat}{key:Nat->Int}
abbrev kH (key:Nat->Int)(i j:Nat):Bool:=decide (key i < key j)
abbrev Kp (key:Nat->Int)(p:Array Nat)(k:Nat):Int:=key (p.getD k 0)
structure Pm (n:Nat)(p:Array Nat):Prop where
 sz:p.size=n
 nd:p.toList.Nodup
 lt:∀x,x∈p->x < n
def Pm.at {p:Array Nat}(P:Pm n p){k:Nat}(hk:k < n):p.getD k 0 < n:=by
 have h:k < p.size:=by rw[P.sz];exact hk
 simp only[Array.getD,h,dif_pos]
 exact P.lt _ (Array.getElem_mem h)
def Pm.ne {p:Array Nat}(P:Pm n p){i k:Nat}(hi:i < n)(hk:k < n)(hne:i≠k):p.getD i 0≠p.getD k 0:=by
 have h1:i < p.toList.length:=by simpa using (by rw[P.sz];exact hi:i < p.size)
 have h2:k < p.toList.length:=by simpa using (by rw[P.sz];exact hk:k < p.size)
 have h1':i < p.size:=by rw[P.sz];exact hi
 have h2':k < p.size:=by rw[P.sz];exact hk
 have a1:p.getD i 0=p.toList[i]:=by simp[Array.getD,h1']
 have a2:p.getD k 0=p.toList[k]:=by simp[Array.getD,h2']
 rw[a1,a2]
 have q:=HQ.mp P.nd
 rcases GZ i k with c |c
 ·exact q i k h1 h2 c
 ·exact (q k i h2 h1 (by omega)).symm
def Pm.perm {p q:Array Nat}(P:Pm n p)(h:q.Perm p):Pm n q:=by
 have h':=Array.perm_iff_toList_perm.mp h
 exact⟨by rw[h.size_eq];exact P.sz,h'.nodup_iff.mpr P.nd,λx hx=>P.lt x (by simpa using h'.mem_iff.mp (by simpa using hx))⟩
def qA (n:Nat):Pm n (List.toArray (List.range n)):=⟨by simp,by simpa using Ip,λx hx=>by simpa using hx⟩
def Inj (n:Nat)(key:Nat->Int):Prop:=∀i j,i < n->j < n->key i=key j->i=j
def Pm.tri {p:Array Nat}(P:Pm n p)(hi:Inj n key){i k:Nat}(h1:i < n)(h2:k < n)(hne:i≠k):Kp key p i < Kp key p k\/Kp key p k < Kp key p i:=by
 have:Kp key p i≠Kp key p k:=λe=>P.ne h1 h2 hne (hi _ _ (P.at h1) (P.at h2) e)
 omega
def Up (key:Nat->Int)(p:Array Nat)(m:Nat):Prop:=∀i j,i < j->j < m->Kp key p i < Kp key p j
def Dn (key:Nat->Int)(p:Array Nat)(m:Nat):Prop:=∀i j,i < j->j < m->Kp key p j < Kp key p i
def Up.snoc {p:Array Nat}{m:Nat}(U:Up key p m)(h1:1<=m)(h:Kp key p (m - 1) < Kp key p m):Up key p (m + 1):=λi j hij hj=>by
 rcases GZ j m with c |c
 ·exact U i j hij c
 ·have:j=m:=by omega
  subst this
  rcases GZ i (j - 1) with d |d
  ·exact Int.lt_trans (U i (j - 1) d (by omega)) h
  ·have:i=j - 1:=by omega
   rw[this];exact h
def Dn.snoc {p:Array Nat}{m:Nat}(U:Dn key p m)(h1:1<=m)(h:Kp key p m < Kp key p (m - 1)):Dn key p (m + 1):=λi j hij hj=>by
 rcases GZ j m with c |c
 ·exact U i j hij c
 ·have:j=m:=by omega
  subst this
  rcases GZ i (j - 1) with d |d
  ·exact Int.lt_trans h (U i (j - 1) d (by omega))
  ·have:i=j - 1:=by omega
   rw[this];exact h
theorem my {p:Array Nat}(P:Pm n p)(hi:Inj n key):∀(f m:Nat),1<=m->m + f<=n->Up key p m->
  ∃r,(ip (kH key) (kas_asc p f m)=r/\pw n (kH key) (kas_asc p f m))/\m<=r/\r<=m + f/\Up key p r/\(r < m + f->Kp key p r < Kp key p (r - 1))
 | 0,m,_,_,U=>⟨m,⟨rfl,trivial⟩,FX _,FX _,U,λh=>absurd h (GH _)⟩
 |f + 1,m,h1,hn,U=>by
  have b1:p.getD m 0 < n:=P.at (by omega)
  have b2:p.getD (m - 1) 0 < n:=P.at (by omega)
  unfold kas_asc ip pw
  by_cases c:Kp key p m < Kp key p (m - 1)
  ·rw[show kH key (p.getD m 0) (p.getD (m - 1) 0)=true from Gj c]
   simp only[G8]
   exact⟨m,⟨rfl,b1,b2,trivial⟩,FX _,by omega,U,λ_=>c⟩
  ·rw[show kH key (p.getD m 0) (p.getD (m - 1) 0)=false from Gn c]
   simp only[Gi,GJ]
   have up:Kp key p (m - 1) < Kp key p m:=(P.tri hi (by omega) (by omega) (by omega)).resolve_right c
   obtain⟨r,⟨e,o⟩,a,b,u,d⟩:=my P hi f (m + 1) (by omega) (by omega) (U.snoc h1 up)
   exact⟨r,⟨e,b1,b2,o⟩,by omega,by omega,u,λh=>d (by omega)⟩
theorem nt {p:Array Nat}(P:Pm n p)(hi:Inj n key):∀(f m:Nat),1<=m->m + f<=n->Dn key p m->
  ∃r,(ip (kH key) (kas_desc f p m 0)=(p,r,0)/\pw n (kH key) (kas_desc f p m 0))/\m<=r/\r<=m + f/\Dn key p r
 | 0,m,_,_,U=>⟨m,⟨rfl,trivial⟩,FX _,FX _,U⟩
 |f + 1,m,h1,hn,U=>by
  have b1:p.getD m 0 < n:=P.at (by omega)
  have b2:p.getD (m - 1) 0 < n:=P.at (by omega)
  unfold kas_desc ip pw
  by_cases c:Kp key p m < Kp key p (m - 1)
  ·rw[show kH key (p.getD m 0) (p.getD (m - 1) 0)=true from Gj c]
   simp only[G8,GH,gt_iff_lt,GJ]
   obtain⟨r,⟨e,o⟩,a,b,u⟩:=nt P hi f (m + 1) (by omega) (by omega) (U.snoc h1 c)
   exact⟨r,⟨e,b1,b2,o⟩,by omega,by omega,u⟩
  ·rw[show kH key (p.getD m 0) (p.getD (m - 1) 0)=false from Gn c]
   simp only[Gi,GJ]
   unfold ip pw
   have up:Kp key p (m - 1) < Kp key p m:=(P.tri hi (by omega) (by omega) (by omega)).resolve_right c
   rw[show kH key (p.getD (m - 1) 0) (p.getD m 0)=true from Gj up]
   simp only[G8]
   exact⟨m,⟨rfl,b1,b2,b2,b1,trivial⟩,FX _,by omega,U⟩
def v8 {p:Array Nat}{j k:Nat}(hj:j<=p.size)(hk:k < j):(kas_rev p 0 j).getD k 0=p.getD (j - 1 - k) 0:=by
 unfold kas_rev
 rw[GG,getElem?_mirror_all hj k,FZ ⟨GL _,hk⟩,GG]
 congr 2
 omega
def AX {p:Array Nat}{m:Nat}(hm:m<=p.size)(D:Dn key p m):Up key (kas_rev p 0 m) m:=λi j hij hj=>by
 unfold Kp
 rw[v8 hm (by omega),v8 hm hj]
 exact D (m - 1 - j) (m - 1 - i) (by omega) (by omega)
def Pm.rev {p:Array Nat}(P:Pm n p)(j:Nat):Pm n (kas_rev p 0 j):=P.perm (mirror_perm ..)
def rP {p:Array Nat}(P:Pm n p)(hi:Inj n key)(h1:1<=n) :
  ∃m q,(ip (kH key) (kas_count n p)=(m,q)/\pw n (kH key) (kas_count n p))/\Pm n q/\1<=m/\m<=n/\Up key q m:=by
 obtain⟨r,⟨e,o⟩,a,b,u,d⟩:=my P hi (n - 1) 1 (FX _) (by omega) (λi j hij hj=>by omega)
 have rest:∃m q,(ip (kH key) (if (r == n)=true then KasT.ret (r,p) else if r > 1 then .ask (p.getD 0 0) (p.getD (r - 1) 0) λc=>if c=true then .ret (r,p) else kas_descPart r n (kas_rev p 0 r) else kas_descPart r n p)=(m,q)/\
   pw n (kH key) (if (r == n)=true then KasT.ret (r,p) else if r > 1 then .ask (p.getD 0 0) (p.getD (r - 1) 0) λc=>if c=true then .ret (r,p) else kas_descPart r n (kas_rev p 0 r) else kas_descPart r n p))/\Pm n q/\1<=m/\m<=n/\Up key q m:=by
  by_cases c:(r == n)=true
  ·rw[FZ c]
   exact⟨r,p,⟨rfl,trivial⟩,P,a,by omega,u⟩
  ·rw[Gd c]
   have hrn:r≠n:=by simpa using c
   have dd:=d (by omega)
   by_cases c2:r > 1
   ·rw[FZ c2]
    unfold ip pw
    rw[show kH key (p.getD 0 0) (p.getD (r - 1) 0)=true from Gj (u 0 (r - 1) (by omega) (by omega))]
    simp only[G8]
    exact⟨r,p,⟨rfl,P.at (by omega),P.at (by omega),trivial⟩,P,a,by omega,u⟩
   ·rw[Gd c2]
    have hr1:r=1:=by omega
    subst hr1
    unfold kas_descPart
    rw[dI]
    have D2:Dn key p 2:=λi j hij hj=>by
     have e1:i=0:=by omega
     have e2:j=1:=by omega
     rw[e1,e2];exact dd
    obtain⟨x,⟨e2,o2⟩,a2,b2,u2⟩:=nt P hi (n - 2) 2 (by omega) (by omega) D2
    obtain⟨y,⟨e3,o3⟩,a3,b3,u3,_⟩:=my (P.rev x) hi (n - x) x (by omega) (by omega) (AX (by rw[P.sz];omega) u2)
    rw[show n - (1 + 1)=n - 2 from rfl,show (1 + 1:Nat)=2 from rfl]
    have t3:pw n (kH key) (kas_tail3 x n p):=by
     unfold kas_tail3
     exact fy o3 trivial
    refine⟨y,kas_rev p 0 x,⟨?_,fy o2 ?_⟩,P.rev x,by omega,by omega,u3⟩
    ·rw[e2]
     simp only[GH,gt_iff_lt,GJ]
     unfold kas_tail3
     rw[dI,e3]
     rfl
    ·rw[e2]
     simp only[GH,gt_iff_lt,GJ]
     exact t3
 obtain⟨m,q,⟨f1,f2⟩,f3⟩:=rest
 refine⟨m,q,⟨?_,?_⟩,f3⟩
 ·unfold kas_count
  rw[dI,e]
  exact f1
 ·unfold kas_count
  refine fy o ?_
  rw[e]
  exact f2
theorem place_spec {p:Array Nat}{k:Nat}(P:Pm n p)(hi:Inj n key)(hk:k < n)(U:Up key p k):∀(f l r:Nat),l<=r->r<=k->r - l<=f->(∀i,i < l->Kp key p i < Kp key p k)->(∀i,r<=i->i < k->Kp key p k < Kp key p i)->
  ∃x,(ip (kH key) (kas_place p k f l r)=x/\pw n (kH key) (kas_place p k f l r))/\x<=k/\(∀i,i < x->Kp key p i < Kp key p k)/\(∀i,x<=i->i < k->Kp key p k < Kp key p i)
 | 0,l,r,h1,h2,h3,a,b=>⟨l,⟨rfl,trivial⟩,by omega,a,λi hi=>b i (by omega)⟩
 |f + 1,l,r,h1,h2,h3,a,b=>by
  unfold kas_place
  by_cases c:l>=r
  ·rw[FZ c]
   exact⟨l,⟨rfl,trivial⟩,by omega,a,λi hi=>b i (by omega)⟩
  ·rw[Gd c]
   have b1:p.getD k 0 < n:=P.at hk
   have b2:p.getD ((l + r) / 2) 0 < n:=P.at (by omega)
   unfold ip pw
   by_cases d:Kp key p k < Kp key p ((l + r) / 2)
   ·rw[show kH key (p.getD k 0) (p.getD ((l + r) / 2) 0)=true from Gj d]
    simp only[G8]
    have side:∀i,(l + r) / 2<=i->i < k->Kp key p k < Kp key p i:=λi h1 h2=>by
     rcases GZ ((l + r) / 2) i with z |z
     ·exact Int.lt_trans d (U _ _ z h2)
     ·have:i=(l + r) / 2:=by omega
      rw[this];exact d
    obtain⟨x,⟨e1,e2⟩,e3⟩:=place_spec P hi hk U f l ((l + r) / 2) (by omega) (by omega) (by omega) a side
    exact⟨x,⟨e1,b1,b2,e2⟩,e3⟩
   ·rw[show kH key (p.getD k 0) (p.getD ((l + r) / 2) 0)=false from Gn d]
    simp only[Gi,GJ]
    have d':Kp key p ((l + r) / 2) < Kp key p k:=(P.tri hi (by omega) hk (by omega)).resolve_right d
    have side:∀i,i < (l + r) / 2 + 1->Kp key p i < Kp key p k:=λi h=>by
     rcases GZ i ((l + r) / 2) with z |z
     ·exact Int.lt_trans (U _ _ z (by omega)) d'
     ·have:i=(l + r) / 2:=by omega
      rw[this];exact d'
    obtain⟨x,⟨e1,e2⟩,e3⟩:=place_spec P hi hk U f ((l + r) / 2 + 1) r (by omega) h2 (by omega) side b
    exact⟨x,⟨e1,b1,b2,e2⟩,e3⟩
def vK {p:Array Nat}{k l j:Nat}(hk:k < p.size)(hl:l<=k):(bubble p k (k - l)).getD j 0=if j=l then p.getD k 0 else if l < j/\j<=k then p.getD (j - 1) 0 else p.getD j 0:=by
 rw[GG,getElem?_bubble hk (k - l) (by omega) j,show k - (k - l)=l by omega]
 simp only[GG]
 split
 ·rfl
 ·split <;> rfl
theorem pA (hi:Inj n key):∀(f k:Nat) (p:Array Nat),Pm n p->1<=k->k + f=n->Up key p k->∃q,(ip (kH key) (kas_bin f p k)=q/\pw n (kH key) (kas_bin f p k))/\Pm n q/\Up key q n
 | 0,k,p,P,_,e,U=>⟨p,⟨rfl,trivial⟩,P,by rw[<-e];exact U⟩
 |f + 1,k,p,P,h1,e,U=>by
  have hk:k < n:=by omega
  obtain⟨l,⟨el,ol⟩,hl,a,b⟩:=place_spec P hi hk U k 0 k (GL _) (FX _) (by omega) (λi h=>by omega) (λi h h'=>by omega)
  have side:Up key (bubble p k (k - l)) (k + 1):=λi j hij hj=>by
   have hks:k < p.size:=by rw[P.sz];exact hk
   unfold Kp
   rw[vK hks hl,vK hks hl]
   by_cases i1:i=l
   ·rw[FZ i1,Gd (by omega)]
    by_cases j2:l < j/\j<=k
    ·rw[FZ j2];exact b _ (by omega) (by omega)
    ·omega
   ·rw[Gd i1]
    by_cases i2:l < i/\i<=k
    ·rw[FZ i2,Gd (by omega),FZ (by omega)]
     exact U _ _ (by omega) (by omega)
    ·rw[Gd i2]
     by_cases j1:j=l
     ·rw[FZ j1];exact a _ (by omega)
     ·rw[Gd j1]
      by_cases j2:l < j/\j<=k
      ·rw[FZ j2]
       rcases GZ i (j - 1) with z |z
       ·exact U _ _ z (by omega)
       ·omega
      ·rw[Gd j2];exact U _ _ hij (by omega)
  obtain⟨q,⟨q1,q2⟩,q3⟩:=pA hi f (k + 1) (bubble p k (k - l)) (P.perm (bubble_perm ..)) (by omega) (by omega) side
  refine⟨q,⟨?_,?_⟩,q3⟩
  ·unfold kas_bin;rw[dI,el];exact q1
  ·unfold kas_bin;refine fy ol ?_;rw[el];exact q2
def ue (hi:Inj n key)(h2:2<=n):∃q,(ip (kH key) (kas_sort n)=q/\pw n (kH key) (kas_sort n))/\Pm n q/\Up key q n:=by
 obtain⟨m,q,⟨e,o⟩,P,a,b,u⟩:=rP (qA n) hi (by omega)
 by_cases c:m < n
 ·obtain⟨q',⟨e1,o1⟩,r⟩:=pA hi (n - m) m q P a (by omega) u
  refine⟨q',⟨?_,?_⟩,r⟩
  ·unfold kas_sort;rw[dI,e];dsimp only;rw[FZ c,Nat.max_eq_left a];exact e1
  ·unfold kas_sort;refine fy o ?_;rw[e];dsimp only;rw[FZ c,Nat.max_eq_left a];exact o1
 ·refine⟨q,⟨?_,?_⟩,P,λi j hij hj=>u i j hij (by omega)⟩
  ·unfold kas_sort;rw[dI,e];dsimp only;rw[Gd c];rfl
  ·unfold kas_sort;refine fy o ?_;rw[e];dsimp only;rw[Gd c];trivial
theorem wp_run {α:Type}{n:Nat}{lt:Nat->Nat->Bool}{cmp:Nat->Nat->(Bool->Shared->Prop)->Shared->Prop}{Q:α->Shared->Prop}{s:Shared} :
  ∀(t:KasT α),(∀i j C,i < n->j < n->C (lt i j) s->cmp i j C s)->pw n lt t->Q (ip lt t) s->t.kasWp cmp Q s
 | .ret a,_,_,h=>h
 | .ask i j k,hc,ho,h=>hc i j _ ho.1 ho.2.1 (wp_run (k (lt i j)) hc ho.2.2 h)
end
end L2.SO
namespace L2.ST
open PySem PySem.SetTable PySem.W PyProof.Rows
def code (p:Pr):Int:=p.1 * 8 + p.2
def tT {p q:Pr}(h1:Sm p)(h2:Sm q):code p < code q↔p.1 < q.1\/(p.1=q.1/\p.2 < q.2):=by
 unfold code Sm at *;omega
def code_inj {p q:Pr}(h1:Sm p)(h2:Sm q)(e:code p=code q):p=q:=by
 unfold code Sm at *
 refine Prod.ext ?_ ?_ <;> omega
section
variable {prog:Program}{w:World}{A:Around}{E:Value->Shared->Prop}{s:Shared}
abbrev m6 (ps:List Pr)(i:Nat):Int:=code (ps.getD i (0,0))
def wH {ps:List Pr}(nd:ps.Nodup)(hs:∀p,p∈ps->Sm p):L2.SO.Inj ps.length (m6 ps):=λi j hi hj e=>by
 have a1:ps.getD i (0,0)=ps[i]:=by simp[hi]
 have a2:ps.getD j (0,0)=ps[j]:=by simp[hj]
 unfold m6 at e
 rw[a1,a2] at e
 have e':=code_inj (hs _ (Hj hi)) (hs _ (Hj hj)) e
 have q:=HQ.mp nd
 rcases IP i j with c |c |c
 ·exact absurd e' (q i j hi hj c)
 ·exact c
 ·exact absurd e'.symm (q j i hj hi c)
theorem zl {a b:Addr}{p q:Pr}{Q:Bool->Shared->Prop}(ha:bE prog w s.heap p a)(hb:bE prog w s.heap q b)(hp:Sm p)(hq:Sm q)(h:Q (decide (code p < code q)) s) :
  wpAny (model prog w) A (keyLt' (tuples' true) (.ref a) (.ref b)) Q E s:=by
 obtain⟨oa,ia,na,hoa,hca,hda,hia⟩:=ha
 obtain⟨ob,ib,nb,hob,hcb,hdb,hib⟩:=hb
 obtain⟨l1,rfl⟩:∃l,ia=List.toArray l:=⟨ia.toList,by simp⟩
 obtain⟨l2,rfl⟩:∃l,ib=List.toArray l:=⟨ib.toList,by simp⟩
 simp only[Hm] at hia hib
 cases hia with
 | @cons _ v1 _ _ h1 hia=>
  cases hia with
  | @cons _ v2 _ _ h2 hia=>
   cases hia
   cases hib with
   | @cons _ u1 _ _ g1 hib=>
    cases hib with
    | @cons _ u2 _ _ g2 hib=>
     cases hib
     obtain⟨t1,rfl⟩:=Hy h1
     obtain⟨t2,rfl⟩:=Hy h2
     obtain⟨t3,rfl⟩:=Hy g1
     obtain⟨t4,rfl⟩:=Hy g2
     refine kat_lt hoa hda hob hdb ?_
     have hc:=tT hp hq
     refine kat_cons (wpAny_eqBool_int ?_)
     by_cases e1:p.1=q.1
     ·rw[show (p.1 == q.1)=true by simpa using e1]
      refine kat_yes (kat_cons (wpAny_eqBool_int ?_))
      by_cases e2:p.2=q.2
      ·rw[show (p.2 == q.2)=true by simpa using e2]
       refine kat_yes (kat_nil ?_)
       have:decide (code p < code q)=false:=Gn (by rw[hc];omega)
       rw[this] at h
       simpa using h
      ·rw[show (p.2 == q.2)=false by simpa using e2]
       refine kat_no ?_
       show wpAny _ _ (oneLt' false _ _) _ _ _
       refine kat_one _ _ (lt_int ?_)
       have:decide (code p < code q)=decide (p.2 < q.2):=by
        by_cases z:p.2 < q.2
        ·rw[Gj z];exact Gj (hc.mpr (.inr ⟨e1,z⟩))
        ·rw[Gn z];exact Gn (by rw[hc];omega)
       rw[this] at h;exact h
     ·rw[show (p.1 == q.1)=false by simpa using e1]
      refine kat_no ?_
      show wpAny _ _ (oneLt' true _ _) _ _ _
      refine oneLt_int ?_
      have:decide (code p < code q)=decide (p.1 < q.1):=by
       by_cases z:p.1 < q.1
       ·rw[Gj z];exact Gj (hc.mpr (.inl z))
       ·rw[Gn z];exact Gn (by rw[hc];omega)
      rw[this] at h;exact h
theorem ud:∀{vs:List Value} {ps:List Pr},cH prog w s.heap vs ps->∃fs,KatTups s.heap vs fs/\fs.length=vs.length/\∀v∈fs,∃(i:Int) (t:Tok),v=.int i t
 | [],ps,_=>⟨[],KatTups.nil,rfl,λv hv=>by cases hv⟩
 |v :: vs,[],h=>by have:=h.1;simp at this
 |v :: vs,p :: ps,h=>by
  obtain⟨a,rfl,⟨o,items,n,ho,hc,hd,hi⟩,_⟩:=h.2 0 v p rfl rfl
  obtain⟨fs,k,e,f⟩:=ud (vs:=vs) (ps:=ps) ⟨by simpa using h.1,λi v p h1 h2=>h.2 (i + 1) v p (by simpa using h1) (by simpa using h2)⟩
  obtain⟨l1,rfl⟩:∃l,items=List.toArray l:=⟨items.toList,by simp⟩
  simp only[Hm] at hi
  cases hi with
  | @cons _ v1 _ _ h1 hi=>
   obtain⟨t1,rfl⟩:=Hy h1
   exact⟨_ :: fs,KatTups.cons ho hc hd rfl k,by simp[e],λv hv=>by
    rcases FY.mp hv with z |z
    ·exact⟨_,_,z⟩
    ·exact f v z⟩
def qI {a:Addr}{vs:List Value}{ps:List Pr}{n:Nat}{P:PySem.Fin->Shared->Prop}(ho:s.heap.get? a=some (seqObj "list" vs.toArray n))(hps:cH prog w s.heap vs ps)(nd:ps.Nodup)(h64:vs.length < 64)
  (h:∀(h':Heap) (c:Nat) (ix:Array Nat),L2.SO.Pm vs.length ix->L2.SO.Up (m6 ps) ix vs.length->(∀b o,b≠a->s.heap.get? b=some o->h'.get? b=some o)->
   h'.get? a=some (seqObj "list" (ix.toList.map λi=>vs.getD i Value.none).toArray c)->P (.done (.ret .none)) {s with heap:=h'}) :
  wpAny (model prog w) A (Builtin.«list.sort» ⟨[.ref a],[]⟩) P E s:=by
 have ha:a < s.heap.objs.size:=Ga ho
 obtain⟨e1,ho1⟩:∃e1,(s.heap.update a (Obj.mapSeq λ_=>(#[]:Array Value))).get? a=some (seqObj "list" #[] e1):=⟨_,get?_update_seq ho λ_=>#[]⟩
 generalize hH1:(s.heap.update a (Obj.mapSeq λ_=>(#[]:Array Value)))=H1 at ho1
 have sb1:Heap.SameBut a s.heap H1:=by rw[<-hH1];exact Heap.SameBut.update ..
 have kp2:∀b o,H1.get? b=some o->((H1.push (seqObj "tuple" vs.toArray 0)).push (seqObj "list" #[] 0)).get? b=some o:=λb o e=>FT _ (FT _ e)
 generalize hH2:((H1.push (seqObj "tuple" vs.toArray 0)).push (seqObj "list" #[] 0))=H2 at kp2
 have kp:∀b o,b≠a->s.heap.get? b=some o->H2.get? b=some o:=λb o hb e=>kp2 b o ((sb1.2 b hb).trans e)
 have ho2:=kp2 _ _ ho1
 have hps2:cH prog w H2 vs ps:=⟨hps.1,λi v p h1 h2=>by
  obtain⟨b,e,⟨o,it,m,hb,hc,hd,r⟩,hs⟩:=hps.2 i v p h1 h2
  refine⟨b,e,⟨o,it,m,kp b o (λz=>?_) hb,hc,hd,r⟩,hs⟩
  subst z
  rw[ho] at hb;cases hb
  exact absurd hc (by simp[seqObj])⟩
 have hz:vs.length<=sizeLine:=by rw[Gz];omega
 rw[list_sort_plain]
 refine FQ (listItems_at ho rfl (FQ (listUpdate_at ho rfl ?_ (by simpa using hz) (GL _))))
 rw[hH1]
 refine FQ (seqEpoch_at (s:={s with heap:=H1}) ho1 rfl (FQ (wpAny_newTuple ?_ (by simpa using hz))))
 refine FQ (wpAny_newList ?_ (GL _))
 refine Hq ?_
 show wpAny (model prog w) A _ P E {s with heap:=(H1.push (seqObj "tuple" vs.toArray 0)).push (seqObj "list" #[] 0)}
 rw[hH2]
 have fin:∀(ix:Array Nat) (st:SortSt),L2.SO.Pm vs.length ix->L2.SO.Up (m6 ps) ix vs.length->(arrOf st).map (·.2)=List.toArray (ix.toList.map λi=>vs.getD i Value.none)->failedOf st=none->
   wpAny (model prog w) A (do
    let sorted:=(arrOf st).map (·.2)
    let touched:=(<-seqEpoch a) != e1
    Builtin.List.listUpdate (.ref a) λ_=>sorted
    if let some e:=failedOf st then rule "list.sort.comparison-raised";throw e
    if touched then rule "list.sort.modified";raiseError "ValueError" "list modified during sort"
    ret .none) P E {s with heap:=H2}:=λix st P1 U1 hout hf=>by
  dsimp only
  rw[hout]
  have hsz:(List.toArray (ix.toList.map λi=>vs.getD i Value.none)).size=vs.length:=by simp[P1.sz]
  refine FQ (seqEpoch_at (s:={s with heap:=H2}) ho2 rfl ?_)
  refine FQ (listUpdate_at (s:={s with heap:=H2}) ho2 rfl ?_ (GL _) (Hn (Nat.le_of_eq hsz) (Nat.le_succ_of_le hz)))
  rw[hf]
  simp only[bne_self_eq_false,Gi,GJ]
  obtain⟨c2,hc2⟩:∃c2,(H2.update a (Obj.mapSeq λ_=>List.toArray (ix.toList.map λi=>vs.getD i Value.none))).get? a=some (seqObj "list" (List.toArray (ix.toList.map λi=>vs.getD i Value.none)) c2):=⟨_,get?_update_seq ho2 λ_=>List.toArray (ix.toList.map λi=>vs.getD i Value.none)⟩
  exact FW (h _ c2 ix P1 U1 (λb o hb e=>((Heap.SameBut.update H2 a _).2 b hb).trans (kp b o hb e)) hc2)
 by_cases h2:vs.length < 2
 ·have h2':vs.toArray.size < 2:=by simpa using h2
  dsimp only
  rw[FZ h2',FZ h2']
  refine FQ (FW ?_)
  rw[StateT.run_pure]
  refine FQ (FW ?_)
  refine fin (List.toArray (List.range vs.length)) (SortSt.mk' general' (vs.toArray.zip vs.toArray) #[] 7 none) (L2.SO.qA _) (λi j hij hj=>by omega) ?_ rfl
  have:∀{l:List Value},l.length < 2->((l.toArray.zip l.toArray).map (·.2))=List.toArray ((List.range l.length).map λi=>l.getD i Value.none):=λ{l} hl=>by
   match l,hl with
   | [],_=>simp
   | [x],_=>simp
  exact (this h2).trans (by simp)
 ·have h2':¬vs.toArray.size < 2:=by simpa using h2
  dsimp only
  rw[Gd h2',Gd h2']
  obtain⟨fs,kt,fl,ff⟩:=ud (s:={s with heap:=H2}) hps2
  refine FQ (kat_kind (s:={s with heap:=H2}) (T:=.type "int") kt (by omega) (λv hv=>?_) (by decide) ?_)
  ·obtain⟨i,t,rfl⟩:=ff v hv
   exact .now
  ·rw[show ((Value.type "int" != Value.type "tuple"):Bool)=true by decide]
   have hinj:L2.SO.Inj vs.length (m6 ps):=by
    rw[hps.1]
    refine wH nd λp hp=>?_
    obtain⟨i,hi,e⟩:=GI.mp hp
    have hi':i < vs.length:=by rw[hps.1];exact hi
    obtain⟨_,_,_,hs⟩:=hps.2 i vs[i] p (FU hi') (by rw[FU hi,e])
    exact hs
   obtain⟨ix,⟨er,ok⟩,P1,U1⟩:=L2.SO.ue hinj (by omega)
   refine FQ (Ho (kat_run (s:={s with heap:=H2}) (κ:=tuples' true) (ks:=vs) (Q:=λst s'=>s'={s with heap:=H2}/\arrOf st=ix.map (kas_item (vs.toArray.zip vs.toArray))/\failedOf st=none)
    (G:=λp s'=>p=ix/\s'={s with heap:=H2}) rfl (by omega) h64 (λp st s' a1 a2 a3 a4=>?_) (L2.SO.wp_run (n:=vs.length) (lt:=L2.SO.kH (m6 ps)) _ (λi j C hi hj hC=>?_) ok ⟨er,rfl⟩)) ?_ λ_ _ x=>x)
   ·obtain⟨rfl,rfl⟩:=a4
    exact⟨rfl,a2,a3⟩
   ·unfold kas_ask
    have hi':i < ps.length:=by rw[<-hps.1];exact hi
    have hj':j < ps.length:=by rw[<-hps.1];exact hj
    obtain⟨b1,eb1,hb1,s1⟩:=hps2.2 i vs[i] ps[i] (FU hi) (FU hi')
    obtain⟨b2,eb2,hb2,s2⟩:=hps2.2 j vs[j] ps[j] (FU hj) (FU hj')
    have e1:vs.getD i Value.none=.ref b1:=by rw[<-eb1];simp[hi]
    have e2:vs.getD j Value.none=.ref b2:=by rw[<-eb2];simp[hj]
    rw[e1,e2]
    refine zl (s:={s with heap:=H2}) hb1 hb2 s1 s2 ?_
    have:L2.SO.kH (m6 ps) i j=decide (code ps[i] < code ps[j]):=by
     unfold L2.SO.kH m6;simp[hi',hj']
    rw[<-this];exact hC
   ·rintro⟨⟨⟩,st⟩ s' ⟨rfl,har,hf⟩
    exact fin ix st P1 U1 (kat_snds rfl har) hf
end
def bO:Slot "set_iterator" "__next__" "set_iterator.__next__":=
 Slot.of (owner:="set_iterator") (n:="__next__") (by rw[typeLookup_type,builtinLookup_eq_fast];kernel_rfl) (by decide +kernel) (by decide +kernel) (by decide +kernel) (by first |exact .inl (by decide +kernel) |exact .inr (by decide +kernel)) (by rw[IK];kernel_rfl)
def gH:entryFor table "set_iterator.__next__"=some Builtin.«set_iterator.__next__»:=entryFor_of_tree (by kernel_rfl)
def ig (a:Value):argsOk "set_iterator.__next__" ⟨[a],[]⟩:=by unfold argsOk;kernel_rfl
def lL:entryFor table "set.__iter__"=some Builtin.«frozenset.__iter__»:=entryFor_alias (id':="frozenset.__iter__") (by kernel_rfl) rfl (by decide +kernel) (by kernel_rfl)
def ij:Slot "set_iterator" "__iter__" "set_iterator.__iter__":=
 Slot.of (owner:="set_iterator") (n:="__iter__") (by rw[typeLookup_type,builtinLookup_eq_fast];kernel_rfl) (by decide +kernel) (by decide +kernel) (by decide +kernel) (by first |exact .inl (by decide +kernel) |exact .inr (by decide +kernel)) (by rw[IK];kernel_rfl)
def kx:entryFor table "set_iterator.__iter__"=some Builtin.«dict_keyiterator.__iter__»:=entryFor_alias (id':="dict_keyiterator.__iter__") (by kernel_rfl) rfl (by decide +kernel) (by kernel_rfl)
def kT (a:Value):argsOk "set_iterator.__iter__" ⟨[a],[]⟩:=by unfold argsOk;kernel_rfl
def yL (a:Addr)(slot given ep0:Nat):setNext a slot given ep0=(do
  let (es,epoch,t) <-setState a
  if (<-ask).params.followText "set-order" then
   if epoch != ep0 then unsupported "set_iterator.__next__:elements-changed"
   return ((<-setWalk a)[given]?).map λe=>(e.2,slot)
  if !t.plain && es.size > 1 then unsupported "set_iterator.__next__:the-table-is-plain-no-more"
  let u:Unit <-(show Sem Unit from do if !t.led && !es.isEmpty then unsupported "set:maker-not-led")
  let i:=SetTable.below t.place slot
  return match es[i]?,t.place[i]? with
   |some (_,x),some j=>some (x,j + 1)
   |_,_=>none):=by
 unfold setNext setsByText
 simp only[bind_assoc,pure_bind]
 rfl
def zi (a:Addr):setWalk a=(do
  let (es,epoch,t) <-setState a
  if (<-ask).params.followText "set-order" then return pickOrder ((<-ask).params.setOrder a epoch) es
  if !t.plain && es.size > 1 then return (<-drawOrder es.size es.toList).toArray
  let u:Unit <-(show Sem Unit from do if !t.led && es.size > 1 then unsupported "set:maker-not-led")
  return es):=by
 unfold setWalk setsByText
 simp only[bind_assoc,pure_bind]
 rfl
def wC (a:Addr):setDrawn a=(do
  let (es,_,t) <-setState a
  let byText <-(do return (<-ask).params.followText "set-order")
  return !byText && (!t.plain && es.size > 1)):=rfl
theorem gS {α:Type}:∀(l:List α) (i:Nat) (h:i < l.length),(l[i] :: l.eraseIdx i).Perm l
 |a :: l,0,_=>List.Perm.refl _
 |a :: l,i + 1,h=>by
  have hi:i < l.length:=by simpa using h
  show (l[i] :: a :: l.eraseIdx i).Perm (a :: l)
  exact (List.Perm.swap ..).trans ((gS l i hi).cons a)
theorem nF {α:Type}(next:Nat->Nat):∀(fuel k:Nat) (left:List α) (out:Array α),left.length=fuel->(pickOrder.go next fuel k left out).toList.Perm (out.toList ++ left)
 | 0,k,left,out,h=>by
  have:left= []:=List.length_eq_zero_iff.mp h
  subst this
  unfold pickOrder.go
  simp
 |fuel + 1,k,left,out,h=>by
  unfold pickOrder.go
  have hlt:next k % left.length < left.length:=Nat.mod_lt _ (by omega)
  rw[FU hlt]
  dsimp only
  refine (nF next fuel (k + 1) _ _ (by rw[List.length_eraseIdx_of_lt hlt];omega)).trans ?_
  rw[Array.toList_push,IM]
  refine List.Perm.append_left _ ?_
  exact gS left _ hlt
def iC {α:Type}(next:Nat->Nat)(xs:Array α):(pickOrder next xs).toList.Perm xs.toList:=by
 have:=nF next xs.size 0 xs.toList #[] (by simp)
 simpa[pickOrder] using this
section
variable {prog:Program}{w:World}{A:Around}{E:Value->Shared->Prop}{s:Shared}
def told (w:World)(S:Addr)(ep:Nat)(es:Array (Int×Value)):Array (Int×Value):=if w.params.followText "set-order" then pickOrder (w.params.setOrder S ep) es else es
def nE (w:World)(S:Addr)(ep:Nat)(es:Array (Int×Value)):(told w S ep es).toList.Perm es.toList:=by
 unfold told;split
 ·exact iC _ _
 ·exact List.Perm.refl _
abbrev pS (S:Addr)(slot k n ep:Nat):Obj:={cls:=.type "set_iterator",data:=.fields #[.int (slot:Int) 0,.int (k:Int) 0,.ref S,.int (n:Int) 0,.int (ep:Int) 0]}
structure jA (w:World)(S:Addr)(o:Obj)(es:Array (Int×Value))(ep:Nat)(t:SetTable)(I:Addr)(k:Nat)(h:Heap):Prop where
 set:h.get? S=some o
 data:o.data=.set es ep t
 cls:o.cls=.type "set"
 tab:Tab t (es.toList.map (·.1))
 led:t.led=g9 w
 it:∃slot,h.get? I=some (pS S slot k es.size ep)/\(g9 w=true->slot=if k=0 then 0 else t.place.getD (k - 1) 0 + 1)
def jA.fits {S I:Addr}{o:Obj}{es:Array (Int×Value)}{ep k:Nat}{t:SetTable}{h:Heap}(X:jA w S o es ep t I k h):t.fits es.size=true:=mw X.tab (by simp)
theorem tK {S I:Addr}{o:Obj}{es:Array (Int×Value)}{ep k slot:Nat}{t:SetTable}{Q:Option (Value×Nat)->Shared->Prop}(X:jA w S o es ep t I k s.heap)(hk:k<=es.size)(hs:g9 w=true->slot=if k=0 then 0 else t.place.getD (k - 1) 0 + 1)
  (h:∀(r:Option (Value×Nat)),(k < es.size->∃x nx,r=some (x,nx)/\(told w S ep es)[k]?.map (·.2)=some x/\(g9 w=true->nx=t.place.getD k 0 + 1))->(k=es.size->r=none)->Q r s) :
  wpAny (model prog w) A (setNext S slot k ep) Q E s:=by
 rw[yL]
 refine FQ (GW X.set X.data X.fits ?_)
 dsimp only
 refine FQ (Iq ?_)
 dsimp only
 cases hb:w.params.followText "set-order" with
 |true=>
  rw[FZ (show (model prog w).w.params.followText "set-order"=true from hb)]
  simp only[bne_self_eq_false,Gi,GJ]
  rw[zi]
  refine FQ (FQ (GW X.set X.data X.fits ?_))
  dsimp only
  refine FQ (Iq ?_)
  dsimp only
  rw[FZ (show (model prog w).w.params.followText "set-order"=true from hb)]
  refine FQ (Iq (FW (FW ?_)))
  have et:told w S ep es=pickOrder (w.params.setOrder S ep) es:=by unfold told;rw[FZ hb]
  have hsz:(pickOrder (w.params.setOrder S ep) es).size=es.size:=by
   have:=(iC (w.params.setOrder S ep) es).length_eq;simpa using this
  refine h _ (λhlt=>?_) (λe=>?_)
  ·have hlt':k < (pickOrder (w.params.setOrder S ep) es).size:=by rw[hsz];exact hlt
   refine⟨(pickOrder (w.params.setOrder S ep) es)[k].2,slot,?_,?_,λz=>?_⟩
   ·show Option.map _ (pickOrder (w.params.setOrder S ep) es)[k]? =_
    rw[Gw hlt'];rfl
   ·rw[et,Gw hlt'];rfl
   ·unfold g9 at z;rw[hb] at z;cases z
  ·show Option.map _ (pickOrder (w.params.setOrder S ep) es)[k]? =_
   rw[Ih (by rw[hsz];omega)];rfl
 |false=>
  rw[Gd (show ¬(model prog w).w.params.followText "set-order"=true by intro z;rw[show (model prog w).w.params.followText "set-order"=false from hb] at z;cases z)]
  have hl:g9 w=true:=by unfold g9;rw[hb];rfl
  rw[X.tab.plain,X.led,hl]
  simp only[HX,Bool.false_and,Gi,GJ]
  have et:told w S ep es=es:=by unfold told;rw[hb];simp
  have hps:t.place.size=es.size:=by simpa using X.tab.size
  have hbl:below t.place slot=k:=by
   rw[hs hl]
   obtain⟨b1,b2,b3⟩:=cW X.tab.rise (if k=0 then 0 else t.place.getD (k - 1) 0 + 1)
   by_cases k0:k=0
   ·subst k0
    simp only[G8] at b1 b2 b3 ⊢
    rcases Nat.eq_zero_or_pos (below t.place 0) with z |z
    ·exact z
    ·have:=b2 0 z;omega
   ·rw[Gd k0] at b1 b2 b3 ⊢
    have hk1:k - 1 < t.place.size:=by omega
    rcases IP (below t.place (t.place.getD (k - 1) 0 + 1)) k with z |z |z
    ·have q:=b3 (k - 1) (by omega) hk1
     have e:t.place.getD (k - 1) (t.place.getD (k - 1) 0 + 1)=t.place.getD (k - 1) 0:=by simp[Array.getD,hk1]
     omega
    ·exact z
    ·have hks:k < t.place.size:=by omega
     have q:=b2 k z
     have e:t.place.getD k (t.place.getD (k - 1) 0 + 1)=t.place.getD k 0:=by simp[Array.getD,hks]
     have:=fH (d:=0) X.tab.rise (show k - 1 < k by omega) hks
     omega
  refine FW ?_
  rw[hbl]
  refine h _ (λhlt=>?_) (λe=>?_)
  ·have hlt2:k < t.place.size:=by omega
   refine⟨es[k].2,t.place[k] + 1,?_,?_,λ_=>?_⟩
   ·rw[Gw hlt,Gw hlt2]
   ·rw[et,Gw hlt];rfl
   ·simp[Array.getD,hlt2]
  ·rw[Ih (by omega)]
def uL {S I:Addr}{o:Obj}{es:Array (Int×Value)}{ep:Nat}{t:SetTable}(hh:A.handled=none)(hne:S≠I) :
  Walks prog w A I [I,S] [I] es.size (λi v=>(told w S ep es)[i]?.map (·.2)=some v) (λi h=>jA w S o es ep t I i h) where
 sub:=λb hb=>FY.mpr (.inl (G6.mp hb))
 frame:=λi h h' X k=>by
  obtain⟨slot,e,r⟩:=X.it
  exact⟨k S (by simp) _ X.set,X.data,X.cls,X.tab,X.led,slot,k I (by simp) _ e,r⟩
 item:=λi s Q E hi X hQ=>by
  obtain⟨slot,e,r⟩:=X.it
  have hT:s.TypeIs (.ref I) "set_iterator":=⟨_,e,rfl⟩
  unfold pyNext
  refine FQ (wpAny_attempt (HA (name:=Str.ofString "__next__") hT bO (Hr bO hT gH ?_ (ig _))))
  unfold Builtin.«set_iterator.__next__»
  refine FQ (m:=slotArgs "__next__" 0 _) (FW ?_)
  dsimp only
  unfold fieldsOf
  refine FQ (FQ (wpAny_load e (FW ?_)))
  dsimp only
  unfold setEntries
  refine FQ (FQ (GW X.set X.data X.fits (FW ?_)))
  dsimp only
  rw[Gd (by simp)]
  refine FQ ?_
  simp only[GX]
  refine tK X (Nat.le_of_lt hi) r λrr h1 _=>?_
  obtain⟨x,nx,rfl,h2,h3⟩:=h1 hi
  dsimp only
  refine FQ (HC e rfl (by simp) ?_)
  have e2:=GR (Obj.mapFields λvs=>vs.setIfInBounds 0 (rawInt (nx:Int))) e rfl
  refine FQ (HC e2 rfl (by simp) ?_)
  refine FW ⟨x,rfl,FW ?_⟩
  have sb:=(Heap.SameBut.update s.heap I (Obj.mapFields λvs=>vs.setIfInBounds 0 (rawInt (nx:Int)))).trans (Heap.SameBut.update _ I (Obj.mapFields λvs=>vs.setIfInBounds 1 (rawInt ((i:Int) + 1))))
  refine hQ x _ _ h2 ⟨(sb.2 S hne).trans X.set,X.data,X.cls,X.tab,X.led,nx,?_,λz=>?_⟩ λb o hb eb=>(sb.2 b (by simpa using hb)).trans eb
  ·exact GR (Obj.mapFields λvs=>vs.setIfInBounds 1 (rawInt ((i:Int) + 1))) e2 rfl
  ·rw[Gd (by omega)];exact h3 z
 done:=λs Q E X hQ=>by
  obtain⟨slot,e,r⟩:=X.it
  have hT:s.TypeIs (.ref I) "set_iterator":=⟨_,e,rfl⟩
  unfold pyNext
  refine FQ (wpAny_attempt (HA (name:=Str.ofString "__next__") hT bO (Hr bO hT gH ?_ (ig _))))
  unfold Builtin.«set_iterator.__next__»
  refine FQ (m:=slotArgs "__next__" 0 _) (FW ?_)
  dsimp only
  unfold fieldsOf
  refine FQ (FQ (wpAny_load e (FW ?_)))
  dsimp only
  unfold setEntries
  refine FQ (FQ (GW X.set X.data X.fits (FW ?_)))
  dsimp only
  rw[Gd (by simp)]
  refine FQ ?_
  simp only[GX]
  refine tK X (FX _) r λrr _ h1=>?_
  rw[h1 rfl]
  dsimp only
  refine FQ (HC e rfl (by simp) ?_)
  (show wpAny _ _ (newExc (.type "StopIteration") [] >>= λx=>raiseNew x) _ _ _)
  refine FQ ?_
  simp only[newExc,newTuple]
  (refine FQ (Hz ?_ (by size_fits)))
  (refine FQ (m:=firstArgMember _ _) (wpAny_of_eq (a:=Value.none) (by first |rfl | (simp only[firstArgMember];rfl)) ?_))
  (refine Hz ?_ (by size_fits))
  simp only[raiseNew]
  refine FQ (wpAny_handled ?_)
  (rw[show A.in1.handled=none from hh])
  refine FQ (FW (wpAny_throw ?_))
  refine FQ (wpAny_isInstance (T:="StopIteration") (b:=true) ⟨_,Gb _ rfl,rfl⟩ isSubtype_stop (FW (hQ _ _ λb o hb eb=>?_)))
  exact FT _ (FT _ (((Heap.SameBut.update ..).2 b (by simpa using hb)).trans eb))
 self:=λi s Q E X hQ=>by
  obtain⟨slot,e,r⟩:=X.it
  have hT:s.TypeIs (.ref I) "set_iterator":=⟨_,e,rfl⟩
  refine wpAny_pyIter_slot hT ij (Hr ij hT kx ?_ (kT _))
  show wpAny _ _ (ret (.ref I)) _ _ s
  exact FW ⟨_,rfl,"set_iterator",_,hT,bO.lookup,hQ⟩
def xH {S:Addr}{o:Obj}{es:Array (Int×Value)}{ep:Nat}{t:SetTable}{Q:Value->Shared->Prop}(ho:s.heap.get? S=some o)(hd:o.data=.set es ep t)(hc:o.cls=.type "set")(T:Tab t (es.toList.map (·.1)))(hl:t.led=g9 w)
  (h:Q (.ref s.heap.objs.size) {s with heap:=s.heap.push (pS S 0 0 es.size ep)}):wpAny (model prog w) A (pyIter (.ref S)) Q E s:=by
 have hT:s.TypeIs (.ref S) "set":=⟨o,ho,hc⟩
 have hf:t.fits es.size=true:=mw T (by simp)
 refine wpAny_pyIter_slot hT F.slot_set_iter (Hr F.slot_set_iter hT lL ?_ (F.args_set_iter_1 _))
 unfold Builtin.«frozenset.__iter__» Builtin.Frozenset.slot0
 refine FQ (FQ (m:=slotArgs "__iter__" 0 _) (FW (FW ?_)))
 unfold Builtin.Frozenset.sizeOf setEntries
 refine FQ (FQ (FQ (GW ho hd hf (FW (FW ?_)))))
 rw[wC]
 refine FQ (FQ (GW ho hd hf ?_))
 dsimp only
 refine FQ (FQ (Iq (FW (FW ?_))))
 rw[T.plain]
 simp only[HX,Bool.false_and,Bool.and_false,Gi,GJ]
 refine FQ (FW ?_)
 unfold setEpoch
 refine FQ (FQ (GW ho hd hf (FW ?_)))
 refine FQ (Hz (FW ⟨_,rfl,"set_iterator",_,⟨_,Gb _ rfl,rfl⟩,bO.lookup,h⟩))
def pK {S:Addr}{o:Obj}{es:Array (Int×Value)}{ep:Nat}{t:SetTable}{Q:List Value->Shared->Prop}(hh:A.handled=none)(ho:s.heap.get? S=some o)(hd:o.data=.set es ep t)(hc:o.cls=.type "set")(T:Tab t (es.toList.map (·.1)))(hl:t.led=g9 w)
  (hn:es.size<=64) (h:∀h' tk vs,vs=(told w S ep es).toList.map (·.2)->(∀b o,s.heap.get? b=some o->h'.get? b=some o)->Q vs {s with heap:=h',toks:=tk}):wpAny (model prog w) A (collect (.ref S)) Q E s:=by
 have hz:es.size<=sizeLine:=by rw[Gz];omega
 unfold collect
 (refine FQ (wpAny_runValue (Ie F.entry_proto_collect ?_)))
 (rw[HR F.plain_proto_collect _])
 show wpAny _ A.in1 (newList [] >>= λl=>again (.builtin "list.__iadd__" ⟨[l,.ref S],[]⟩)) _ _ s
 refine FQ (Hz ?_)
 (refine FW ⟨plainId_quiet F.plain_list_iadd _,Ie F.entry_list_iadd ?_⟩)
 (rw[HR F.plain_list_iadd _])
 show wpAny _ A.in1 (Builtin.List.listExtendWith (.ref s.heap.objs.size) (.ref S) (.ref s.heap.objs.size)) _ _ {s with heap:=s.heap.push (seqObj "list" #[] 0)}
 generalize hH:s.heap.push (seqObj "list" #[] 0)=H1
 have kp1:∀b o,s.heap.get? b=some o->H1.get? b=some o:=λb o e=>by rw[<-hH];exact FT _ e
 have hD:H1.get? s.heap.objs.size=some (seqObj "list" #[] 0):=by rw[<-hH];exact Gb _ rfl
 have hHs:H1.objs.size=s.heap.objs.size + 1:=by rw[<-hH];exact Ha ..
 have hSD:S≠s.heap.objs.size:=Gx (Ga ho)
 have hT:Shared.TypeIs {s with heap:=H1} (.ref S) "set":=⟨o,kp1 _ _ ho,hc⟩
 unfold Builtin.List.listExtendWith
 refine FQ (wpAny_typeOf hT ?_)
 have h1:Builtin.List.listSameRef (.ref s.heap.objs.size) (.ref S)=false:=by simp[Builtin.List.listSameRef,Ne.symm hSD]
 have h2:(Value.type "set" == Value.type "list")=false:=by decide
 have h3:(Value.type "set" == Value.type "tuple")=false:=by decide
 rw[h1,h2,h3]
 simp only[Bool.or_false,Gi,GJ]
 refine FQ (xH (s:={s with heap:=H1}) (kp1 _ _ ho) hd hc T hl ?_)
 refine FQ (Hq ?_)
 unfold Builtin.List.listLengthHint
 have hT2:Shared.TypeIs {s with heap:=H1.push (pS S 0 0 es.size ep)} (.ref S) "set":=⟨o,FT _ (kp1 _ _ ho),hc⟩
 refine FQ (wpAny_specialOf hT2 F.slot_set_len.lookup ?_)
 wp_delta
 refine FQ (wpAny_isInstance hT2 (b:=true) (by rw[IK];kernel_rfl) ?_)
 show wpAny _ A.in1 (typeOf (Value.ref S) >>= λ_=>_) _ _ _
 refine FQ (wpAny_typeOf hT2 ?_)
 refine FW ?_
 show wpAny _ A.in1 (rule "list.extend.makes-room" >>= λ_=>Builtin.List.listTouch (.ref s.heap.objs.size) >>= λ_=>again (.builtin "list.extend.loop" ⟨[.ref s.heap.objs.size,.ref H1.objs.size,.ref s.heap.objs.size],[]⟩)) _ _ _
 refine FQ (wpAny_rule (FQ ?_))
 generalize hH2:H1.push (pS S 0 0 es.size ep)=H2
 have kp2:∀b o,H1.get? b=some o->H2.get? b=some o:=λb o e=>by rw[<-hH2];exact FT _ e
 have hI:H2.get? H1.objs.size=some (pS S 0 0 es.size ep):=by rw[<-hH2];exact Gb _ rfl
 have hS0:=kp2 _ _ hD
 show wpAny _ A.in1 (updateSeq s.heap.objs.size (·.push .none) >>= λ_=>updateSeq s.heap.objs.size (·.pop)) _ _ _
 refine FQ (wpAny_updateSeq (s:={s with heap:=H2}) hS0 rfl ?_)
 have hS2:=GR (Obj.mapSeq (·.push Value.none)) hS0 rfl
 refine wpAny_updateSeq (hz:=by seq_fits) hS2 rfl ?_
 have hS3:=GR (Obj.mapSeq (·.pop)) hS2 rfl
 have oth:∀b o,b≠s.heap.objs.size->H2.get? b=some o->((H2.update s.heap.objs.size (Obj.mapSeq (·.push Value.none))).update s.heap.objs.size (Obj.mapSeq (·.pop))).get? b=some o:=λb o hb e=>
  ((Heap.SameBut.update _ s.heap.objs.size (Obj.mapSeq (·.pop))).2 b hb).trans (((Heap.SameBut.update H2 s.heap.objs.size (Obj.mapSeq (·.push Value.none))).2 b hb).trans e)
 have hIS:S≠H1.objs.size:=by rw[hHs];exact Gx (Nat.lt_succ_of_lt (Ga ho))
 have hID:H1.objs.size≠s.heap.objs.size:=by rw[hHs];exact Nat.succ_ne_self _
 have hDf:s.heap.objs.size∉ [H1.objs.size,S]:=λz=>by
  rcases FY.mp z with e |z
  ·exact hID e.symm
  ·exact hSD (G6.mp z).symm
 have X0:jA w S o es ep t H1.objs.size 0 ((H2.update s.heap.objs.size (Obj.mapSeq (·.push Value.none))).update s.heap.objs.size (Obj.mapSeq (·.pop))):=
  ⟨oth _ _ hSD (kp2 _ _ (kp1 _ _ ho)),hd,hc,T,hl,0,oth _ _ hID hI,λ_=>rfl⟩
 refine FW ⟨plainId_quiet F.plain_extend_loop _,codeAny_extend_loopS (uL (A:=A.in1) (o:=o) (t:=t) hh hIS).toS hz _ hDf _ es.size 0 _ _ _ rfl (GL _) X0 hS3 (ItemsOf.nil _) λs' acc' c' hm hS' hacc=>?_⟩
 show wpAny _ A (load s.heap.objs.size >>= λ_=>_) _ _ s'
 refine FQ (wpAny_load hS' (FW ?_))
 obtain⟨h',g',d',tk',os'⟩:=s'
 have eg:g'=s.gens:=hm.gens
 have ed:d'=s.drawn:=hm.drawn
 have eo:os'=s.os:=hm.os
 subst eg ed eo
 refine h h' tk' acc'.toList ?_ λb ob e=>hm.heap b ob (λhb=>?_) (oth b ob (Gx (Ga e)) (kp2 _ _ (kp1 _ _ e)))
 ·have hts:(told w S ep es).size=es.size:=by have:=(nE w S ep es).length_eq;simpa using this
  apply Ik
  intro i
  rw[Gf]
  by_cases hi:i < es.size
  ·have hi1:i < acc'.size:=by rw[hacc.1];exact hi
   have q:=hacc.2 i acc'[i] (Gw hi1)
   rw[HL,HL,Gw hi1]
   exact q.symm
  ·rw[HL,HL,Ih (by rw[hacc.1];omega),Ih (by omega)];rfl
 ·have hlt:=Ga e
  rcases FY.mp hb with z |z
  ·rw[z] at hlt;exact GH _ hlt
  ·rw[G6.mp z,hHs] at hlt;exact absurd hlt (Nat.not_lt.mpr (Nat.le_succ _))
end
end L2.ST
namespace OM
abbrev Pr:=Int×Int
def zV (p q:Pr):Prop:=p.1 < q.1\/(p.1=q.1/\p.2 < q.2)
def g8 (p:Pr):¬zV p p:=by unfold zV;omega
def uw {p q r:Pr}(a:zV p q)(b:zV q r):zV p r:=by unfold zV at *;omega
abbrev pz (l:List Pr):Prop:=l.Pairwise zV
theorem fS:∀{l m:List Pr},pz l->pz m->(∀x,x∈l↔x∈m)->l=m
 | [],[],_,_,_=>rfl
 | [],b :: m,_,_,h=>absurd ((h b).mpr (Gg ..)) (by simp)
 |a :: l,[],_,_,h=>absurd ((h a).mp (Gg ..)) (by simp)
 |a :: l,b :: m,hl,hm,h=>by
  have hl':=List.pairwise_cons.mp hl
  have hm':=List.pairwise_cons.mp hm
  have e:a=b:=by
   rcases FY.mp ((h a).mp (Gg ..)) with e |e
   ·exact e
   ·rcases FY.mp ((h b).mpr (Gg ..)) with e' |e'
    ·exact e'.symm
    ·exact absurd (uw (hm'.1 a e) (hl'.1 b e')) (g8 _)
  subst e
  congr 1
  refine fS hl'.2 hm'.2 λx=>⟨λhx=>?_,λhx=>?_⟩
  ·rcases FY.mp ((h x).mp (F0 _ hx)) with e |e
   ·subst e;exact absurd (hl'.1 x hx) (g8 _)
   ·exact e
  ·rcases FY.mp ((h x).mpr (F0 _ hx)) with e |e
   ·subst e;exact absurd (hm'.1 x hx) (g8 _)
   ·exact e
def gK {l:List Pr}(h:pz l):l.Nodup:=h.imp λ{a b} hab e=>by subst e;exact g8 _ hab
def me {l:List Pr}(p:Pr->Bool)(h:pz l):pz (l.filter p):=h.sublist List.filter_sublist
def e9 (n:Nat):List Pr:=(List.range (n * n)).map λk=>(((k / n:Nat):Int),((k % n:Nat):Int))
def dY {n:Nat}{p:Pr}:p∈e9 n↔(0<=p.1/\p.1 < n)/\(0<=p.2/\p.2 < n):=by
 unfold e9
 rw[Gh]
 constructor
 ·rintro⟨k,hk,rfl⟩
  have hk:=Gm.mp hk
  have hn:0 < n:=by
   rcases Nat.eq_zero_or_pos n with e |e
   ·subst e;omega
   ·exact e
  have h1:k / n < n:=Nat.div_lt_of_lt_mul hk
  have h2:k % n < n:=Nat.mod_lt _ hn
  generalize k / n=q at h1
  generalize k % n=r at h2
  exact⟨⟨Int.natCast_nonneg _,by dsimp only;omega⟩,⟨Int.natCast_nonneg _,by dsimp only;omega⟩⟩
 ·rintro⟨⟨a0,a1⟩,⟨b0,b1⟩⟩
  have hn:0 < n:=by omega
  refine⟨p.1.toNat * n + p.2.toNat,Gm.mpr ?_,?_⟩
  ·have h1:p.1.toNat + 1<=n:=by omega
   have h2:p.2.toNat < n:=by omega
   have:=Nat.mul_le_mul_right n h1
   rw[Nat.add_mul] at this
   omega
  ·have h2:p.2.toNat < n:=by omega
   have e1:(p.1.toNat * n + p.2.toNat) / n=p.1.toNat:=by
    rw[Nat.mul_comm,Nat.mul_add_div hn,Nat.div_eq_of_lt h2];rfl
   have e2:(p.1.toNat * n + p.2.toNat) % n=p.2.toNat:=by
    rw[Nat.mul_comm,Nat.mul_add_mod,Nat.mod_eq_of_lt h2]
   rw[e1,e2]
   refine Prod.ext ?_ ?_ <;> dsimp only <;> omega
def lR (n:Nat):pz (e9 n):=by
 unfold e9
 refine Hg.mpr (Hi ?_ List.pairwise_lt_range)
 intro a b ha hb hab
 have ha:=Gm.mp ha
 have hb:=Gm.mp hb
 have hn:0 < n:=by
  rcases Nat.eq_zero_or_pos n with e |e
  ·subst e;omega
  ·exact e
 have h1:a / n<=b / n:=Nat.div_le_div_right (Nat.le_of_lt hab)
 have e1:=Nat.div_add_mod a n
 have e2:=Nat.div_add_mod b n
 unfold zV
 dsimp only
 rcases GZ (a / n) (b / n) with c |c
 ·left;omega
 ·right
  have e:a / n=b / n:=by omega
  rw[e] at e1
  omega
open Classical in
noncomputable def b6 (n:Nat)(R:Int->Int->Prop):List Pr:=(e9 n).filter λp=>decide (R p.1 p.2)
def aR {n:Nat}{R:Int->Int->Prop}{p:Pr}:p∈b6 n R↔((0<=p.1/\p.1 < n)/\(0<=p.2/\p.2 < n))/\R p.1 p.2:=by
 unfold b6
 rw[Hb,dY]
 simp
def cA (n:Nat)(R:Int->Int->Prop):pz (b6 n R):=me _ (lR n)
def sk {n:Nat}{R S:Int->Int->Prop}(h:∀a b:Int,0<=a->a < n->0<=b->b < n->(R a b↔S a b)):b6 n R=b6 n S:=by
 refine fS (cA n R) (cA n S) λx=>?_
 rw[aR,aR]
 constructor
 ·rintro⟨⟨⟨a,b⟩,c,d⟩,r⟩;exact⟨⟨⟨a,b⟩,c,d⟩,(h _ _ a b c d).mp r⟩
 ·rintro⟨⟨⟨a,b⟩,c,d⟩,r⟩;exact⟨⟨⟨a,b⟩,c,d⟩,(h _ _ a b c d).mpr r⟩
def Wn (n:Nat)(l:List Pr):Prop:=∀p,p∈l->(0<=p.1/\p.1 < n)/\(0<=p.2/\p.2 < n)
abbrev Mem (l:List Pr)(a b:Int):Prop:=(a,b)∈l
def nq {n:Nat}{l:List Pr}(w:Wn n l)(r:pz l):b6 n (Mem l)=l:=by
 refine fS (cA n _) r λx=>?_
 rw[aR]
 exact⟨λh=>h.2,λh=>⟨w x h,h⟩⟩
def o9 (n:Nat)(R:Int->Int->Prop):Wn n (b6 n R):=λ_ h=>(aR.mp h).1
def vT (n:Nat)(R:Int->Int->Prop):(b6 n R).length<=n * n:=by
 unfold b6
 refine Hn (Im ..) ?_
 unfold e9;simp
inductive Tr (R:Int->Int->Prop):Int->Int->Prop
 |one {a b}:R a b->Tr R a b
 |more {a b c}:R a b->Tr R b c->Tr R a c
theorem Tr.trans {R:Int->Int->Prop}{a b c:Int}(h:Tr R a b)(k:Tr R b c):Tr R a c:=by
 induction h with
 |one r=>exact .more r k
 |more r _ ih=>exact .more r (ih k)
theorem Tr.least {R S:Int->Int->Prop}(f:∀a b,R a b->S a b)(t:∀a b c,S a b->S b c->S a c){a b:Int}(h:Tr R a b):S a b:=by
 induction h with
 |one r=>exact f _ _ r
 |more r _ ih=>exact t _ _ _ (f _ _ r) ih
theorem Tr.wn {n:Nat}{l:List Pr}(w:Wn n l){a b:Int}(h:Tr (Mem l) a b):(0<=a/\a < n)/\(0<=b/\b < n):=by
 induction h with
 |one r=>exact w _ r
 |more r _ ih=>exact⟨(w _ r).1,ih.2⟩
structure Ord (n:Nat)(l:List Pr):Prop where
 lo:1<=n
 hi:n<=8
 wn:Wn n l
 ris:pz l
 irr:∀a,(a,a)∉l
 tr:∀a b c,(a,b)∈l->(b,c)∈l->(a,c)∈l
def Ord.tr_mem {n:Nat}{l:List Pr}(O:Ord n l){a b:Int}:Tr (Mem l) a b↔(a,b)∈l:=
 ⟨λh=>h.least (λ_ _ r=>r) λa b c=>O.tr a b c,λh=>.one h⟩
def Ord.closed {n:Nat}{l:List Pr}(O:Ord n l):b6 n (Tr (Mem l))=l:=by
 rw[sk (S:=Mem l) λa b _ _ _ _=>O.tr_mem,nq O.wn O.ris]
def wI {n:Nat}{l:List Pr}(h1:1<=n)(h8:n<=8)(w:Wn n l)(hr:∀a,¬Tr (Mem l) a a):Ord n (b6 n (Tr (Mem l))):=
 ⟨h1,h8,o9 n _,cA n _,λa h=>hr a (aR.mp h).2,λa b c h k=>aR.mpr ⟨⟨(aR.mp h).1.1,(aR.mp k).1.2⟩,(aR.mp h).2.trans (aR.mp k).2⟩⟩
theorem oI {l m:List Pr}(hl:l.Nodup)(h:∀x,x∈l->x∈m):l.length<=m.length:=by
 induction l generalizing m with
 |nil=>exact GL _
 |cons a l ih=>
  have ha:=h a (Gg ..)
  have hl':=GQ.mp hl
  have:=ih (m:=m.erase a) hl'.2 λx hx=>by
   refine (List.mem_erase_of_ne ?_).mpr (h x (F0 _ hx))
   rintro rfl;exact hl'.1 hx
  rw[IE ha] at this
  have:0 < m.length:=List.length_pos_of_mem ha
  simp only[Gr];omega
def sub_eq {l m:List Pr}(hl:pz l)(hm:pz m)(h:∀x,x∈l->x∈m)(e:l.length=m.length):l=m:=by
 refine fS hl hm λx=>⟨h x,λhx=>Classical.byContradiction λhn=>?_⟩
 have:=oI (l:=x :: l) (m:=m) (GQ.mpr ⟨hn,gK hl⟩) λy hy=>by
  rcases FY.mp hy with e |e
  ·subst e;exact hx
  ·exact h y e
 simp only[Gr] at this
 omega
def more (l:List Pr):List Pr:=l.flatMap λp=>(l.filter λq=>decide (q.1=p.2)).map λq=>(p.1,q.2)
def lA {l:List Pr}{x:Pr}:x∈more l↔∃b,(x.1,b)∈l/\(b,x.2)∈l:=by
 unfold more
 rw[List.mem_flatMap]
 constructor
 ·rintro⟨p,hp,hx⟩
  obtain⟨q,hq,rfl⟩:=Gh.mp hx
  obtain⟨hq,e⟩:=Hb.mp hq
  have e:q.1=p.2:=by simpa using e
  exact⟨p.2,hp,by rw[<-e];exact hq⟩
 ·rintro⟨b,h1,h2⟩
  exact⟨(x.1,b),h1,Gh.mpr ⟨(b,x.2),Hb.mpr ⟨h2,by simp⟩,rfl⟩⟩
noncomputable def nj (n:Nat)(l:List Pr):List Pr:=b6 n (Mem (l ++ more l))
structure zM (n:Nat)(ps l:List Pr):Prop where
 wn:Wn n l
 ris:pz l
 sub:∀x,x∈ps->x∈l
 sup:∀x,x∈l->Tr (Mem ps) x.1 x.2
def uM {n:Nat}{ps:List Pr}(w:Wn n ps):zM n ps (b6 n (Mem ps)):=
 ⟨o9 n _,cA n _,λx hx=>aR.mpr ⟨w x hx,hx⟩,λ_ hx=>.one (aR.mp hx).2⟩
def wU {n:Nat}{ps l:List Pr}(B:zM n ps l):Wn n (l ++ more l):=λx hx=>by
 rcases GB.mp hx with h |h
 ·exact B.wn x h
 ·obtain⟨b,h1,h2⟩:=lA.mp h
  exact⟨(B.wn _ h1).1,(B.wn _ h2).2⟩
def lX {n:Nat}{ps l:List Pr}(B:zM n ps l):zM n ps (nj n l)/\∀x,x∈l->x∈nj n l:=by
 have hs:∀x,x∈l->x∈nj n l:=λx hx=>aR.mpr ⟨B.wn x hx,Hw _ hx⟩
 refine⟨⟨o9 n _,cA n _,λx hx=>hs x (B.sub x hx),λx hx=>?_⟩,hs⟩
 rcases GB.mp (aR.mp hx).2 with h |h
 ·exact B.sup _ h
 ·obtain⟨b,h1,h2⟩:=lA.mp h
  exact (B.sup _ h1).trans (B.sup _ h2)
abbrev Tb:=Nat->Nat->Bool
def Tb.set (M:Tb)(a b:Nat):Tb:=λx y=>if x=a/\y=b then true else M x y
def zm (M:Tb)(m:Nat):Prop:=∀k a b,k < m->M a k=true->M k b=true->M a b=true
def Phase (M0 M:Tb)(m:Nat)(D:Nat->Nat->Prop):Prop:=∀a b,M a b=true↔M0 a b=true\/(D a b/\M0 a m=true/\M0 m b=true)
def Phase.start (M:Tb)(m:Nat):Phase M M m λ_ _=>False:=λa b=>by simp
def Phase.row {M0 M:Tb}{m:Nat}{D:Nat->Nat->Prop}(P:Phase M0 M m D)(a:Nat):M a m=true↔M0 a m=true:=by
 rw[P]
 exact⟨λh=>h.elim id λh=>h.2.1,.inl⟩
def Phase.col {M0 M:Tb}{m:Nat}{D:Nat->Nat->Prop}(P:Phase M0 M m D)(b:Nat):M m b=true↔M0 m b=true:=by
 rw[P]
 exact⟨λh=>h.elim id λh=>h.2.2,.inl⟩
def Phase.step {M0 M:Tb}{m:Nat}{D:Nat->Nat->Prop}(P:Phase M0 M m D)(x y:Nat) :
  Phase M0 (if M x m=true/\M m y=true then M.set x y else M) m (λa b=>D a b\/(a=x/\b=y)):=λa b=>by
 have r:=P.row x
 have c:=P.col y
 by_cases h:M x m=true/\M m y=true
 ·rw[FZ h]
  unfold Tb.set
  by_cases e:a=x/\b=y
  ·rw[FZ e]
   obtain⟨rfl,rfl⟩:=e
   simp only[true_iff]
   exact .inr ⟨.inr (by simp),r.mp h.1,c.mp h.2⟩
  ·rw[Gd e,P]
   constructor
   ·rintro (q | ⟨d,q⟩)
    ·exact .inl q
    ·exact .inr ⟨.inl d,q⟩
   ·rintro (q | ⟨d |d,q⟩)
    ·exact .inl q
    ·exact .inr ⟨d,q⟩
    ·exact absurd d e
 ·rw[Gd h,P]
  constructor
  ·rintro (q | ⟨d,q⟩)
   ·exact .inl q
   ·exact .inr ⟨.inl d,q⟩
  ·rintro (q | ⟨d | ⟨rfl,rfl⟩,q1,q2⟩)
   ·exact .inl q
   ·exact .inr ⟨d,q1,q2⟩
   ·exact absurd ⟨r.mpr q1,c.mpr q2⟩ h
def Phase.done {M0 M:Tb}{m n:Nat}{D:Nat->Nat->Prop}(P:Phase M0 M m D)(hD:∀a b,a < n->b < n->D a b)(hM:∀a b,M0 a b=true->a < n/\b < n)(T:zm M0 m) :
  zm M (m + 1)/\∀a b,M a b=true->a < n/\b < n:=by
 have hM':∀a b,M a b=true->a < n/\b < n:=λa b h=>by
  rcases (P a b).mp h with q | ⟨_,q1,q2⟩
  ·exact hM a b q
  ·exact⟨(hM _ _ q1).1,(hM _ _ q2).2⟩
 have put:∀a b,M0 a m=true->M0 m b=true->M a b=true:=λa b h1 h2=>(P a b).mpr (.inr ⟨hD a b (hM _ _ h1).1 (hM _ _ h2).2,h1,h2⟩)
 refine⟨λk a b hk h1 h2=>?_,hM'⟩
 rcases GZ k m with c |c
 ·rcases (P a k).mp h1 with q1 | ⟨_,q1,q1'⟩
  ·rcases (P k b).mp h2 with q2 | ⟨_,q2,q2'⟩
   ·exact (P a b).mpr (.inl (T k a b c q1 q2))
   ·exact put a b (T k a m c q1 q2) q2'
  ·rcases (P k b).mp h2 with q2 | ⟨_,q2,q2'⟩
   ·exact put a b q1 (T k m b c q1' q2)
   ·exact put a b q1 q2'
 ·have e:k=m:=by omega
  subst e
  exact put a b ((P.row a).mp h1) ((P.col b).mp h2)
structure Tab (n:Nat)(ps:List Pr)(M:Tb):Prop where
 inn:∀a b,M a b=true->a < n/\b < n
 sub:∀a b:Nat,((a:Int),(b:Int))∈ps->M a b=true
 sup:∀a b:Nat,M a b=true->Tr (Mem ps) a b
def Tab.phase {n:Nat}{ps:List Pr}{M0 M:Tb}{m:Nat}{D:Nat->Nat->Prop}(T:Tab n ps M0)(P:Phase M0 M m D):Tab n ps M:=
 ⟨λa b h=>by
  rcases (P a b).mp h with q | ⟨_,q1,q2⟩
  ·exact T.inn a b q
  ·exact⟨(T.inn _ _ q1).1,(T.inn _ _ q2).2⟩,
  λa b h=>(P a b).mpr (.inl (T.sub a b h)),
  λa b h=>by
  rcases (P a b).mp h with q | ⟨_,q1,q2⟩
  ·exact T.sup a b q
  ·exact (T.sup _ _ q1).trans (T.sup _ _ q2)⟩
def Tab.all {n:Nat}{ps:List Pr}{M:Tb}(w:Wn n ps)(T:Tab n ps M)(H:zm M n)(a b:Nat):M a b=true↔Tr (Mem ps) a b:=by
 refine⟨T.sup a b,λh=>?_⟩
 have key:∀{x y:Int},Tr (Mem ps) x y->M x.toNat y.toNat=true:=λ{x y} h=>by
  induction h with
  | @one x y r=>
   have:=w _ r
   refine T.sub _ _ ?_
   have e1:((x.toNat:Nat):Int)=x:=by simp only at this;omega
   have e2:((y.toNat:Nat):Int)=y:=by simp only at this;omega
   rw[e1,e2];exact r
  | @more x y z r _ ih=>
   have:=w _ r
   have e1:((x.toNat:Nat):Int)=x:=by simp only at this;omega
   have e2:((y.toNat:Nat):Int)=y:=by simp only at this;omega
   have q:M x.toNat y.toNat=true:=T.sub _ _ (by rw[e1,e2];exact r)
   exact H y.toNat _ _ (T.inn _ _ q).2 q ih
 have:=key h
 simpa using this
end OM
namespace L2.ST
open PySem PySem.SetTable PySem.W PyProof.Rows
section
variable {prog:Program}{w:World}{A:Around}{E:Value->Shared->Prop}{s:Shared}
def AW {ps:List Pr}(hs:∀p,p∈ps->Sm p){ix:Array Nat}(P:L2.SO.Pm ps.length ix)(U:L2.SO.Up (m6 ps) ix ps.length):OM.pz (ix.toList.map λi=>ps.getD i (0,0)):=by
 refine Hg.mpr (HQ.mpr λi j hi hj hij=>?_)
 have hi':i < ix.size:=by simpa using hi
 have hj':j < ix.size:=by simpa using hj
 have q:=U i j hij (by rw[<-P.sz];exact hj')
 unfold L2.SO.Kp m6 at q
 have ei:ix.getD i 0=ix.toList[i]:=by simp[Array.getD,hi']
 have ej:ix.getD j 0=ix.toList[j]:=by simp[Array.getD,hj']
 rw[ei,ej] at q
 have ai:ix.toList[i] < ps.length:=P.lt _ (by simp)
 have aj:ix.toList[j] < ps.length:=P.lt _ (by simp)
 have bi:Sm (ps.getD ix.toList[i] (0,0)):=by rw[GU,FU ai];exact hs _ (Hj ai)
 have bj:Sm (ps.getD ix.toList[j] (0,0)):=by rw[GU,FU aj];exact hs _ (Hj aj)
 exact (tT bi bj).mp q
def Bk {n:Nat}{ix:Array Nat}(P:L2.SO.Pm n ix){k:Nat}(hk:k < n):k∈ix.toList:=by
 refine Classical.byContradiction λhn=>?_
 have:=bG (l:=k :: ix.toList) (m:=List.range n) (GQ.mpr ⟨hn,P.nd⟩) λx hx=>by
  rcases FY.mp hx with e |e
  ·rw[e];exact Gm.mpr hk
  ·exact Gm.mpr (P.lt x (by simpa using e))
 simp[P.sz] at this
 omega
theorem C8 {h:Heap}{vs:List Value}{ps:List Pr}(hps:cH prog w h vs ps){ix:Array Nat}(P:L2.SO.Pm vs.length ix) :
  cH prog w h (ix.toList.map λi=>vs.getD i Value.none) (ix.toList.map λi=>ps.getD i (0,0)):=by
 refine⟨by simp,λi v p h1 h2=>?_⟩
 rw[Gf] at h1 h2
 cases e:ix.toList[i]? with
 |none=>rw[e] at h1;cases h1
 |some k=>
  rw[e] at h1 h2
  have hk:k < vs.length:=P.lt k (by simpa using Gy e)
  have hk':k < ps.length:=by rw[<-hps.1];exact hk
  simp[hk,hk'] at h1 h2
  exact hps.2 k v p (by rw[FU hk,h1]) (by rw[FU hk',h2])
def nr {v:Value}{vs:List Value}{ps:List Pr}{Q:Value->Shared->Prop}(hps:cH prog w s.heap vs ps)(nd:ps.Nodup)(h64:vs.length < 64)
  (hcol:∀(Q':List Value->Shared->Prop),(∀h' tk,(∀b o,s.heap.get? b=some o->h'.get? b=some o)->Q' vs {s with heap:=h',toks:=tk})->wpAny (model prog w) A.in1 (collect v) Q' (λe s'=>E e s') s)
  (h:∀(h1 h':Heap) (tk:Nat) (D:Addr) (out:List Value) (qs:List Pr) (c:Nat),(∀b o,s.heap.get? b=some o->h1.get? b=some o)->D=h1.objs.size->(∀b o,h1.get? b=some o->h'.get? b=some o)->h'.get? D=some (seqObj "list" out.toArray c)->cH prog w h' out qs->(∀u,u∈out->u∈vs)->OM.pz qs->(∀p,p∈qs↔p∈ps)->
   Q (.ref D) {s with heap:=h',toks:=tk}):wpAny (model prog w) A (call (.builtin "sorted") [v]) Q E s:=by
 have hsm:∀p,p∈ps->Sm p:=λp hp=>by
  obtain⟨i,hi,e⟩:=GI.mp hp
  have hi':i < vs.length:=by rw[hps.1];exact hi
  obtain⟨_,_,_,hs⟩:=hps.2 i vs[i] p (FU hi') (by rw[FU hi,e])
  exact hs
 (refine Calls.call_function_entry kind_sorted plain_sorted entry_sorted (args_sorted1 _) ?_)
 unfold Builtin.«sorted»
 refine FQ (m:=checkCount "sorted" 1 1 ([v]:List Value).length) (FW ?_)
 refine FQ (hcol _ λh1 tk1 k1=>?_)
 have hz:vs.length<=sizeLine:=by rw[Gz];omega
 refine FQ (wpAny_newList ?_ hz)
 show wpAny _ _ _ _ _ {s with heap:=h1.push (seqObj "list" vs.toArray 0),toks:=tk1}
 have hoL:(h1.push (seqObj "list" vs.toArray 0)).get? h1.objs.size=some (seqObj "list" vs.toArray 0):=Gb _ rfl
 have kp:∀b o,s.heap.get? b=some o->(h1.push (seqObj "list" vs.toArray 0)).get? b=some o:=λb o e=>FT _ (k1 b o e)
 have hp1:cH prog w (h1.push (seqObj "list" vs.toArray 0)) vs ps:=⟨hps.1,λi v p a b=>by
  obtain⟨c,e,⟨o,it,n,ho,r⟩,hs⟩:=hps.2 i v p a b
  exact⟨c,e,⟨o,it,n,kp _ _ ho,r⟩,hs⟩⟩
 have hne:∀b o,s.heap.get? b=some o->b≠h1.objs.size:=λb o e=>Gx (Ga (k1 b o e))
 refine FQ (Hq (Hr slot_list_sort ⟨_,hoL,rfl⟩ entry_list_sort ?_ (args_list_sort _)))
 refine qI (s:={s with heap:=h1.push (seqObj "list" vs.toArray 0),toks:=tk1}) hoL hp1 nd h64 λh' c ix P U hk ho=>?_
 refine⟨_,rfl,FW ⟨_,rfl,?_⟩⟩
 have kk:∀b o,s.heap.get? b=some o->h'.get? b=some o:=λb o e=>hk b o (hne b o e) (kp b o e)
 have P':L2.SO.Pm ps.length ix:=by rw[<-hps.1];exact P
 have k2:∀b o,h1.get? b=some o->h'.get? b=some o:=λb o e=>hk b o (Gx (Ga e)) (FT _ e)
 refine h h1 h' tk1 h1.objs.size _ (ix.toList.map λi=>ps.getD i (0,0)) c k1 rfl k2 ho (C8 ⟨hps.1,λi v p a b=>?_⟩ P) (λu hu=>?_) (AW hsm P' (by rw[<-hps.1];exact U)) λp=>⟨λhp=>?_,λhp=>?_⟩
 ·obtain⟨c,e,⟨o,it,n,ho,r⟩,hs⟩:=hps.2 i v p a b
  exact⟨c,e,⟨o,it,n,kk _ _ ho,r⟩,hs⟩
 ·obtain⟨i,hi,rfl⟩:=Gh.mp hu
  have:i < vs.length:=P.lt i (by simpa using hi)
  rw[GU,FU this]
  exact Hj this
 ·obtain⟨i,hi,rfl⟩:=Gh.mp hp
  have:i < ps.length:=P'.lt i (by simpa using hi)
  rw[GU,FU this]
  exact Hj this
 ·obtain⟨i,hi,e⟩:=GI.mp hp
  refine Gh.mpr ⟨i,Bk P' hi,?_⟩
  rw[GU,FU hi,e];rfl
end
end L2.ST
namespace L2
open PySem PySem.Spec PyProof.Rows
abbrev Pr:=Int×Int
abbrev Sm:=L2.ST.Sm
section
variable {X:Cx}{pins:List (Addr×Obj)}{σ:St}{H H':Hp}{s:Shared}
def eS (H H':Hp):Prop:=(∀b xs,H b=some (.tup xs)->H' b=some (.tup xs))/\∀b o u,H b=some (.aX o u)->H' b=some (.aX o u)
def eS.refl (H:Hp):eS H H:=⟨λ_ _ h=>h,λ_ _ _ h=>h⟩
def eS.trans {H H1 H2:Hp}(a:eS H H1)(b:eS H1 H2):eS H H2:=⟨λc xs h=>b.1 c xs (a.1 c xs h),λc o u h=>b.2 c o u (a.2 c o u h)⟩
def ah.grow {H H':Hp}(e:ah H H'):eS H H':=⟨λb xs h=>e b _ h,λb o u h=>e b _ h⟩
def eS.new {H:Hp}{l:Addr}{o:HO}(h:H l=none):eS H (upd H l o):=⟨λb xs e=>by rw[au (az e h)];exact e,λb o' u e=>by rw[au (az e h)];exact e⟩
def ah.new {H:Hp}{l:Addr}{o:HO}(h:H l=none):ah H (upd H l o):=λb u e=>Kt.of (by rw[au (az e h)];exact e)
def cP.grow {K:Frag}{a:Addr}{xs:List V}(h:cP K H a xs)(g:eS H H'):cP K H' a xs:=by
 rcases h with (h | ⟨o,h⟩) |h
 ·exact .inl (.inl (g.1 _ _ h))
 ·exact .inl (.inr ⟨o,g.2 _ _ _ h⟩)
 ·exact .inr h
def eS.list {a:Addr}{ys:List V}{o:HO}(h:H a=some (.lst ys)):eS H (upd H a o):=
 ⟨λb xs e=>by rw[au (zz e h (by intro z;cases z))];exact e,λb o' u e=>by rw[au (zz e h (by intro z;cases z))];exact e⟩
theorem mI {α β:Type}{f:α->β}:∀{l:List α} {m:List β},m.Perm (l.map f)->∃l':List α,m=l'.map f/\l'.Perm l:=by
 intro l m h
 generalize hk:l.map f=k at h
 induction h generalizing l with
 |nil=>
  have:l= []:=by simpa using hk
  exact⟨[],rfl,by rw[this]⟩
 | @cons x m1 m2 _ ih=>
  cases l with
  |nil=>cases hk
  |cons a l=>
   simp only[He,List.cons.injEq] at hk
   obtain⟨l',e,p⟩:=ih hk.2
   exact⟨a :: l',by rw[He,hk.1,e],p.cons a⟩
 |swap x y m1=>
  cases l with
  |nil=>cases hk
  |cons a l=>
   cases l with
   |nil=>simp at hk
   |cons b l=>
    simp only[He,List.cons.injEq] at hk
    exact⟨b :: a :: l,by rw[He,He,hk.1,hk.2.1,hk.2.2],List.Perm.swap ..⟩
 |trans _ _ ih1 ih2=>
  obtain⟨l1,e1,p1⟩:=ih2 hk
  obtain⟨l2,e2,p2⟩:=ih1 e1.symm
  exact⟨l2,e2,p2.trans p1⟩
def aF (K:Frag)(H:Hp):List V->List Pr->Prop:=Paired λv p=>∃a,v=.ref a/\cP K H a [.int p.1,.int p.2]
def aF.grow {K:Frag}{vs:List V}{ps:List Pr}(h:aF K H vs ps)(g:eS H H'):aF K H' vs ps:=Paired.mapP h λv p ⟨a,e,q⟩=>⟨a,e,q.grow g⟩
theorem Paired.getP {α β:Type}{F:α->β->Prop}:∀{l:List α} {m:List β} {i:Nat} {x:α},Paired F l m->l[i]? =some x->∃y,m[i]? =some y/\F x y
 |_,_,_,_,.nil,e=>by simp at e
 |_,_,0,_,.cons r _,e=>by simp at e;subst e;exact⟨_,rfl,r⟩
 |_,_,i + 1,x,.cons _ t,e=>by
  obtain⟨u,h1,h2⟩:=Paired.getP (i:=i) (x:=x) t (by simpa using e)
  exact⟨u,by simpa using h1,h2⟩
theorem Paired.getQ {α β:Type}{F:α->β->Prop}:∀{l:List α} {m:List β} {i:Nat} {y:β},Paired F l m->m[i]? =some y->∃x,l[i]? =some x/\F x y
 |_,_,_,_,.nil,e=>by simp at e
 |_,_,0,_,.cons r _,e=>by simp at e;subst e;exact⟨_,rfl,r⟩
 |_,_,i + 1,x,.cons _ t,e=>by
  obtain⟨u,h1,h2⟩:=Paired.getQ (i:=i) (y:=x) t (by simpa using e)
  exact⟨u,by simpa using h1,h2⟩
theorem oH (I:Inv X pins σ H s){a:Addr}{p:Pr}(h:cP X.K H a [.int p.1,.int p.2]):L2.ST.bE X.prog X.w s.heap p a:=by
 obtain⟨its,r,⟨o,ho,hc,n,hd⟩,_⟩:=I.tuple h
 cases r with
 |cons r1 r=>
  cases r with
  |cons r2 r=>
   cases r
   obtain⟨t1,rfl⟩:=r1
   obtain⟨t2,rfl⟩:=r2
   exact⟨o,_,n,ho,hc,hd,.cons (intKind_is ..) (.cons (intKind_is ..) .nil)⟩
def pairs_at (I:Inv X pins σ H s){vs:List V}{us:List Value}{ps:List Pr}(hv:Vals vs us)(h:aF X.K H vs ps)(hs:∀p,p∈ps->Sm p):L2.ST.cH X.prog X.w s.heap us ps:=by
 refine⟨by rw[<-hv.length];exact Paired.length h,λi u p e1 e2=>?_⟩
 obtain⟨v,ev,a,rfl,q⟩:=Paired.getQ h e2
 obtain⟨u',eu,ru⟩:=hv.get ev
 rw[e1] at eu;cases eu
 cases ru
 exact⟨a,rfl,oH I q,hs p (Gy e2)⟩
theorem mh (I:Inv X pins σ H s){vs:List V}{us:List Value}{ps:List Pr}(hv:Vals vs us)(h:aF X.K H vs ps){h':Heap}(k:∀b o,s.heap.get? b=some o->h'.get? b=some o):∀{out:List Value} {qs:List Pr},
  (∀u,u∈out->u∈us)->L2.ST.cH X.prog X.w h' out qs->∃ws,Vals ws out/\aF X.K H ws qs
 | [],[],_,_=>⟨[],.nil,.nil⟩
 | [],_ :: _,_,hp=>by have:=hp.1;simp at this
 |_ :: _,[],_,hp=>by have:=hp.1;simp at this
 |u :: out,q :: qs,hm,hp=>by
  obtain⟨ws,a1,a2⟩:=mh I hv h k (out:=out) (qs:=qs) (λx hx=>hm x (F0 _ hx)) ⟨by have:=hp.1;simpa using this,λi v p e1 e2=>hp.2 (i + 1) v p (by simpa using e1) (by simpa using e2)⟩
  obtain⟨i,hi,e⟩:=GI.mp (hm u (Gg ..))
  have hi':i < vs.length:=by rw[hv.length];exact hi
  obtain⟨u',eu,ru⟩:=hv.get (FU hi')
  rw[FU hi,e] at eu
  cases eu
  obtain⟨p,ep,a,ea,qa⟩:=Paired.getP h (FU hi')
  rw[ea] at ru
  cases ru
  obtain⟨b,eb,hb,_⟩:=hp.2 0 (.ref a) q rfl rfl
  cases eb
  have pa:L2.ST.bE X.prog X.w h' p a:=by
   obtain⟨o,it,n,ho,r⟩:=oH I qa
   exact⟨o,it,n,k _ _ ho,r⟩
  have:p=q:=L2.ST.bE.inj pa hb
  subst this
  exact⟨.ref a :: ws,.cons rfl a1,.cons ⟨a,rfl,qa⟩ a2⟩
def tf (K:Frag):List V->Hp->VK->Prop:=λxs H Q=>∃a vs ps,xs= [.ref a]/\fZ K H a vs/\aF K H vs ps/\(∀p,p∈ps->Sm p)/\ps.Nodup/\ps.length < 64/\
 ∀l ws qs,H l=none->aF K H ws qs->OM.pz qs->(∀p,p∈qs↔p∈ps)->Q (.ref l) (upd H l (.lst ws))
def mD (I:Inv X pins σ H s){vs:List V}{us:List Value}{ps:List Pr}(hv:Vals vs us)(hp:aF X.K H vs ps)(hlen:ps.length < 64){Q:VK}
  (q:∀l ws qs,H l=none->aF X.K H ws qs->OM.pz qs->(∀p,p∈qs↔p∈ps)->Q (.ref l) (upd H l (.lst ws)))
  {h1 h':Heap} {tk:Nat} {D:Addr} {out:List Value} {qs:List Pr} {c:Nat} (k1:∀b o,s.heap.get? b=some o->h1.get? b=some o) (eD:D=h1.objs.size) (k2:∀b o,h1.get? b=some o->h'.get? b=some o)
  (ho:h'.get? D=some (seqObj "list" out.toArray c)) (hpq:L2.ST.cH X.prog X.w h' out qs) (hm:∀u,u∈out->u∈us) (hr:OM.pz qs) (hmem:∀p,p∈qs↔p∈ps):EP X pins σ Q (.ref D) {s with heap:=h',toks:=tk}:=by
 obtain⟨ws,r1,r2⟩:=mh I hv hp (λb o e=>k2 b o (k1 b o e)) hm hpq
 have I1:Inv X pins σ H {s with heap:=h1,toks:=tk}:=I.kept k1
 have hf:H D=none:=by rw[eD];exact I1.hok.fresh (FX _)
 have hz:ws.length<=sizeLine:=by
  have e1:=r1.length
  have e2:out.length=qs.length:=hpq.1
  have e3:=OM.oI (OM.gK hr) λx hx=>(hmem x).mp hx
  rw[Gz];omega
 have I2:Inv X pins σ (upd H D (.lst ws)) {s with heap:=h',toks:=tk}:=I1.laid (t':=tk) k2 (by rw[eD];exact FX _) (show bW X.prog X.w _ h' _ (.lst ws) from⟨hz,out,c,r1,ho⟩)
 exact⟨.ref D,_,I2,rfl,q D ws qs hf r2 hr hmem⟩
def qU:dw X (.builtin "sorted") (tf X.K):=by
 intro pins s σ H xs us Q I r h
 obtain⟨a,vs,ps,rfl,hq,hp,hs,nd,hl,q⟩:=h
 obtain⟨u,rfl,rx⟩:=vals1 r
 cases rx
 obtain⟨its,rv,pl,hz⟩:=I.list hq
 have hpa:=pairs_at I rv hp hs
 have h64:its.length < 64:=by rw[hpa.1];exact hl
 refine L2.ST.nr (v:=.ref a) hpa nd h64 (λQ' hQ'=>collect_list pl.isList ?_ (by rw[Gz];omega)) λh1 h' tk D out qs c k1 eD k2 ho hpq hm hr hmem=>?_
 ·exact hQ' _ s.toks λb o e=>by
   rw[Heap.get?_update_ne _ _ _ _ (Gx (Ga e)),Heap.get?_push_ne _ _ _ (Gx (Ga e))];exact e
 ·exact mD I rv hp hl q k1 eD k2 ho hpq hm hr hmem
abbrev vq (qs:List (Addr×Pr)):List V:=qs.map λq=>V.ref q.1
abbrev pq (qs:List (Addr×Pr)):List Pr:=qs.map (·.2)
def zG (prog:Program)(w:World)(S:Addr)(qs:List (Addr×Pr))(h:Heap):Prop:=∃o ep t,h.get? S=some o/\o.ExactSet/\o.data=.set (qs.map λq=>(L2.ST.vv prog w q.2,Value.ref q.1)).toArray ep t/\L2.ST.Tab t (qs.map λq=>L2.ST.vv prog w q.2)/\t.led=L2.ST.g9 w
def uX (prog:Program)(w:World)(S:Addr)(qs:List (Addr×Pr)):HO:=.ext (zG prog w S qs)
def CT (P:Program)(w:World)(K:Frag):List V->Hp->VK->Prop:=λxs H Q=>∃a vs ps,xs= [.ref a]/\(fZ K H a vs\/cP K H a vs)/\aF K H vs ps/\(∀p,p∈ps->Sm p)/\
 ∀S qs,H S=none->aF K H (vq qs) (pq qs)->(pq qs).Nodup->(∀p,p∈pq qs↔p∈ps)->Q (.ref S) (upd H S (uX P w S qs))
def wQ (hc:X.calm=true)(hu:X.A.units + 64 < cLine):dw X (.type "set") (CT X.prog X.w X.K):=by
 intro pins s σ H xs us Q I r h
 obtain⟨a,vs,ps,rfl,hq,hp,hs,q⟩:=h
 obtain⟨u,rfl,rx⟩:=vals1 r
 cases rx
 have hh:=I.ok.hd hc
 have core:∀{its:List Value} {T:String} {itO:Obj} {St:Addr->Nat->Heap->Prop},Vals vs its->L2.ST.Src X.prog X.w s.heap a its T itO St->wpAny (model X.prog X.w) X.A (call (.type "set") [.ref a]) (EP X pins σ Q) X.xe s:=λ{its T itO St} rv src=>by
  refine L2.ST.lO src hh hu (pairs_at I rv hp hs) λh' tk F k=>?_
  obtain⟨qs,P1,P2,P3⟩:=F
  have hlen:its.length=vs.length:=rv.length.symm
  have back:∀qv:Addr×Pr,qv∈qs->∃b,b=qv.1/\cP X.K H b [.int qv.2.1,.int qv.2.2]:=λqv hqv=>by
   obtain⟨i,hi,e⟩:=GI.mp (HS (P2 qv hqv).1)
   have hi':i < vs.length:=by rw[<-hlen];exact hi
   obtain⟨u',eu,ru⟩:=rv.get (FU hi')
   rw[FU hi,e] at eu
   cases eu
   obtain⟨p,ep,b,eb,qb⟩:=Paired.getP hp (FU hi')
   rw[eb] at ru
   cases ru
   have pa:L2.ST.bE X.prog X.w h' p qv.1:=by
    obtain⟨o,it,n,ho,r⟩:=oH I qb
    exact⟨o,it,n,k _ _ ho,r⟩
   have:p=qv.2:=L2.ST.bE.inj pa (P1.at' qv hqv).1
   subst this
   exact⟨_,rfl,qb⟩
  have hpv:∀{l:List (Addr×Pr)},(∀x,x∈l->x∈qs)->aF X.K H (vq l) (pq l):=λ{l}=>by
   induction l with
   |nil=>intro _;exact .nil
   |cons y l ih=>
    intro hl
    obtain⟨b,eb,qb⟩:=back y (hl y (Gg ..))
    subst eb
    exact .cons ⟨_,rfl,qb⟩ (ih λx hx=>hl x (F0 _ hx))
  have hmem:∀p,p∈pq qs↔p∈ps:=λp=>by
   have hpl:ps.length=its.length:=by rw[hlen];exact (Paired.length hp).symm
   constructor
   ·intro hx
    obtain⟨qv,hqv,rfl⟩:=Gh.mp hx
    exact HS (P2 qv hqv).2
   ·intro hx
    exact P3 p (by rw[<-hpl,Ig (FX _)];exact hx)
  have hf:H s.heap.objs.size=none:=I.hok.fresh (FX _)
  obtain⟨o,ep,t,ho,r1⟩:=P1.ex
  have new:bW X.prog X.w (upd H s.heap.objs.size (uX X.prog X.w s.heap.objs.size qs)) h' s.heap.objs.size (uX X.prog X.w s.heap.objs.size qs):=
   ⟨⟨o,ep,t,ho,r1⟩,⟨o,ho⟩,λh1 h2 ⟨o1,ep1,t1,g1,g2⟩ kk=>⟨o1,ep1,t1,kk _ g1,g2⟩⟩
  exact⟨.ref _,_,I.laid (t':=tk) k (FX _) new,rfl,q _ qs hf (hpv λx hx=>hx) P1.nd hmem⟩
 rcases hq with hq |hq
 ·obtain⟨its,rv,pl,hz⟩:=I.list hq
  exact core rv (L2.ST.Src.list pl.isList)
 ·obtain⟨its,rv,pl,hz⟩:=I.tuple hq
  exact core rv (L2.ST.Src.tuple pl)
def pV (P:Program)(w:World)(K:Frag):List V->Hp->VK->Prop:=λxs H Q=>∃S qs,xs= [.ref S]/\H S=some (uX P w S qs)/\aF K H (vq qs) (pq qs)/\(∀p,p∈pq qs->Sm p)/\(pq qs).Nodup/\qs.length < 64/\
 ∀l ws rs,H l=none->aF K H ws rs->OM.pz rs->(∀p,p∈rs↔p∈pq qs)->Q (.ref l) (upd H l (.lst ws))
def oD (hc:X.calm=true):dw X (.builtin "sorted") (pV X.prog X.w X.K):=by
 intro pins s σ H xs us Q I r h
 obtain⟨S,qs,rfl,hS,hp,hs,nd,hl,q⟩:=h
 obtain⟨u,rfl,rx⟩:=vals1 r
 cases rx
 have hh:=I.ok.hd hc
 obtain⟨⟨o,ep,t,ho,hex,hd,T,hled⟩,_,_⟩:zG X.prog X.w S qs s.heap/\_:=I.hok S _ hS
 have T':L2.ST.Tab t ((qs.map λq=>(L2.ST.vv X.prog X.w q.2,Value.ref q.1)).toArray.toList.map (·.1)):=by
  rw[Hm,IF];exact T
 have htp:=L2.ST.nE X.w S ep (qs.map λq=>(L2.ST.vv X.prog X.w q.2,Value.ref q.1)).toArray
 have hmem:∀x,x∈(L2.ST.told X.w S ep (qs.map λq=>(L2.ST.vv X.prog X.w q.2,Value.ref q.1)).toArray).toList->∃q,q∈qs/\x=(L2.ST.vv X.prog X.w q.2,Value.ref q.1):=λx hx=>by
  have:=htp.mem_iff.mp hx
  simp only[Hm] at this
  obtain⟨q,hq,e⟩:=Gh.mp this
  exact⟨q,hq,e.symm⟩
 obtain⟨q2,e2,p2⟩:∃q2:List (Addr×Pr),(L2.ST.told X.w S ep (qs.map λq=>(L2.ST.vv X.prog X.w q.2,Value.ref q.1)).toArray).toList=q2.map (λq=>(L2.ST.vv X.prog X.w q.2,Value.ref q.1))/\q2.Perm qs:=by
  have:=htp
  simp only[Hm] at this
  exact mI this
 have hp2:aF X.K H (vq q2) (pq q2):=by
  have key:∀{l:List (Addr×Pr)},(∀x,x∈l->x∈qs)->aF X.K H (vq l) (pq l):=λ{l}=>by
   induction l with
   |nil=>intro _;exact .nil
   |cons y l ih=>
    intro hl
    obtain⟨i,hi,e⟩:=GI.mp (hl y (Gg ..))
    obtain⟨p,ep',a,ea,qa⟩:=Paired.getP (l:=vq qs) (m:=pq qs) (i:=i) (x:=.ref y.1) hp (by simp[hi,e])
    have:p=y.2:=by simp[hi,e] at ep';exact ep'.symm
    subst this
    exact .cons ⟨a,ea,qa⟩ (ih λx hx=>hl x (F0 _ hx))
  exact key λx hx=>p2.mem_iff.mp hx
 have hv2:Vals (vq q2) (q2.map λq=>Value.ref q.1):=by
  induction q2 with
  |nil=>exact .nil
  |cons y l ih=>exact .cons rfl (by
    clear ih e2 p2 hp2
    induction l with
    |nil=>exact .nil
    |cons z l ih2=>exact .cons rfl ih2)
 have hm2:∀p,p∈pq q2↔p∈pq qs:=λp=>(p2.map (·.2)).mem_iff
 have hpa:=pairs_at I hv2 hp2 λp hpp=>hs p ((hm2 p).mp hpp)
 have hl2:q2.length < 64:=by rw[p2.length_eq];exact hl
 refine L2.ST.nr (v:=.ref S) hpa ((p2.map (·.2)).nodup_iff.mpr nd) (by simpa using hl2) (λQ' hQ'=>L2.ST.pK (by simpa using hh) ho hd hex.1 T' hled (by simp;omega) λh' tk vs ev k=>?_) λh1 h' tk D out qs' c k1 eD k2 ho' hpq hm hr hmem'=>?_
 ·rw[ev,e2]
  rw[IF]
  exact hQ' h' tk k
 ·exact mD I hv2 hp2 (by simpa using hl2) (λl ws rs a1 a2 a3 a4=>q l ws rs a1 a2 a3 λp=>(a4 p).trans (hm2 p)) k1 eD k2 ho' hpq hm hr hmem'
end
def j7 (cells:List (Str×Addr)):List (Str×NameKind)->List (Str×Addr)->List (Str×Addr)
 | [],cs=>cs
 | (n,k) :: r,cs=>j7 cells r (if k == .free then (n,(cells.lookup n).getD 0) :: cs else cs)
def mj {scope:Scope}{env:Env}(h:∀y∈scope.names,y.2=.free->∃c,env.cells.lookup y.1=some c):closureFor scope env=pure (j7 env.cells scope.names []):=by
 unfold closureFor
 have key:∀(l:List (Str×NameKind)) (cs:List (Str×Addr)),(∀y∈l,y.2=.free->∃c,env.cells.lookup y.1=some c)->
   (forIn l cs (λ(x:Str×NameKind) (r:List (Str×Addr))=>if (x.2 == NameKind.free)=true then (do let a <-cellOf env x.1;pure (ForInStep.yield ((x.1,a) :: r)):Sem _) else pure (ForInStep.yield r)):Sem (List (Str×Addr)))=pure (j7 env.cells l cs):=by
  intro l
  induction l with
  |nil=>intro cs _;rfl
  |cons y l ih=>
   intro cs hy
   obtain⟨n,k⟩:=y
   rw[List.forIn_cons]
   unfold j7
   by_cases hk:(k == NameKind.free)=true
   ·have hk':k=.free:=by simpa using hk
    obtain⟨c,hc⟩:=hy (n,k) (Gg ..) hk'
    have hce:cellOf env n=pure c:=by unfold cellOf;rw[hc]
    simp only[hk,G8]
    have hc':env.cells.lookup n=some c:=hc
    rw[hce,hc']
    simp only[pure_bind,Option.getD_some]
    exact ih _ λz hz=>hy z (F0 _ hz)
   ·simp only[hk,GJ,Gi]
    simp only[pure_bind]
    exact ih _ λz hz=>hy z (F0 _ hz)
 have:=key scope.names [] h
 simp only[bind_pure_comp] at this ⊢
 first
  |exact this
  | (rw[this];rfl)
  | (simpa using this)
theorem kq {cells:List (Str×Addr)}{x:Str}:∀{l:List (Str×NameKind)} {cs:List (Str×Addr)},((x,NameKind.free)∈l\/cs.lookup x=some ((cells.lookup x).getD 0))->(j7 cells l cs).lookup x=some ((cells.lookup x).getD 0)
 | [],cs,h=>by
  rcases h with h |h
  ·cases h
  ·exact h
 | (n,k) :: r,cs,h=>by
  unfold j7
  refine kq ?_
  by_cases hk:(k == NameKind.free)=true
  ·rw[FZ hk]
   by_cases hx:x=n
   ·subst hx;right;simp
   ·rcases h with h |h
    ·rcases FY.mp h with e |e
     ·injection e with e1 _;exact absurd e1 hx
     ·exact .inl e
    ·right
     rw[Ir,show (x == n)=false by simpa using hx]
     exact h
  ·rw[Gd hk]
   rcases h with h |h
   ·rcases FY.mp h with e |e
    ·injection e with _ e2;exact absurd (by rw[<-e2];rfl) hk
    ·exact .inl e
   ·exact .inr h
theorem ko {cells:List (Str×Addr)}{x:Str}{c:Addr}:∀{l:List (Str×NameKind)} {cs:List (Str×Addr)},(j7 cells l cs).lookup x=some c->((x,NameKind.free)∈l/\c=(cells.lookup x).getD 0)\/cs.lookup x=some c
 | [],cs,h=>.inr h
 | (n,k) :: r,cs,h=>by
  unfold j7 at h
  rcases ko h with⟨a,b⟩ |a
  ·exact .inl ⟨F0 _ a,b⟩
  ·by_cases hk:(k == NameKind.free)=true
   ·rw[FZ hk,Ir] at a
    by_cases hx:x=n
    ·subst hx
     simp at a
     have:k=.free:=by simpa using hk
     subst this
     exact .inl ⟨Gg ..,a.symm⟩
    ·rw[show (x == n)=false by simpa using hx] at a
     exact .inr a
   ·rw[Gd hk] at a
    exact .inr a
theorem kN {f:Str->NameKind->NameKind}{x:Str}:∀(l:List (Str×NameKind)),(l.map λy=>(y.1,f y.1 y.2)).lookup x=(l.lookup x).map (f x)
 | []=>rfl
 | (n,k) :: l=>by
  rw[He,Ir,Ir]
  by_cases hx:x=n
  ·subst hx;simp
  ·have hb:(x == n)=false:=by simpa using hx
   simp only[hb]
   exact kN l
def mi (scope:Scope)(env:Env)(x:Str):(relabel scope env).names.lookup x=(scope.names.lookup x).map λk=>if (k == .free && env.scope.kind == .function && env.kindOf x == some .cell) then .cell else k:=by
 have e:(relabel scope env).names=scope.names.map λy=>(y.1,if (y.2 == .free && env.scope.kind == .function && env.kindOf y.1 == some .cell) then .cell else y.2):=by
  unfold relabel
  dsimp only
  refine HW λy _=>?_
  obtain⟨n,k⟩:=y
  dsimp only
  split <;> rfl
 rw[e]
 exact kN (f:=λn k=>if (k == .free && env.scope.kind == .function && env.kindOf n == some .cell) then .cell else k) scope.names
def fg (X:Cx)(NB:List Str)(scope:Scope)(C:Addr)(ex:List Addr)(s3:Shared)(H3:Hp)(pn:List (Addr×Obj)):Cx:=
 {X with N:=NB,s₀:=s3,H₀:=H3,env:=compEnvC scope (j7 X.env.cells scope.names []) C X.env,outer:=X.stack,ex:=ex,fn:=λ_=>false,pn:=pn,xe:=λ_ _=>False}
def om (own:Nat)(ixs:List Nat)(σ:St):St:=List.replicate own none ++ ixs.map λi=>(σ[i]?).join
structure ck (X:Cx)(NB:List Str)(own:Nat)(ixs:List Nat)(scope:Scope):Prop where
 kind:scope.kind=.function
 nocell:∀y∈scope.names,y.2≠.cell
 names:∀y∈scope.names,scope.names.lookup y.1=some y.2
 frees:∀y∈scope.names,y.2=.free->X.env.kindOf y.1=some .cell\/X.env.kindOf y.1=some .free
 nd:NB.Nodup
 len:NB.length=own + ixs.length
 at':∀k,k < ixs.length->NB[own + k]? =X.N[ixs.getD k 0]?/\∀x,NB[own + k]? =some x->(x,NameKind.free)∈scope.names
section
variable {X:Cx}{NB:List Str}{own:Nat}{ixs:List Nat}{scope:Scope}{pins:List (Addr×Obj)}{σ:St}{H:Hp}{s:Shared}
def uR (S:ck X NB own ixs scope)(I:Inv X pins σ H s){fp:List Addr}(hfp:∀b∈fp,kA X pins H b)(hob:∀b∈fp,∃o,s.heap.get? b=some o){h1:Heap}{tk:Nat}
  (hn:h1.Ns s.heap.objs.size (λ_=>none)) (hk:∀b o,s.heap.get? b=some o->h1.get? b=some o) :
  Inv (fg X NB scope s.heap.objs.size fp s H (X.pn ++ pins)) [] (om own ixs σ) H {s with heap:=h1,toks:=tk}:=by
 have stk:=I.stack
 have frees:∀{x:Str},(x,NameKind.free)∈scope.names->∃c,X.env.cells.lookup x=some c:=λ{x} hx=>I.ok.has x (S.frees _ hx rfl)
 have clE:∀{x:Str} {c:Addr},(j7 X.env.cells scope.names []).lookup x=some c->(x,NameKind.free)∈scope.names/\X.env.cells.lookup x=some c:=λ{x c} h=>by
  rcases ko h with⟨a,b⟩ |a
  ·obtain⟨c',e⟩:=frees a
   rw[e] at b
   exact⟨a,by rw[e,b];rfl⟩
  ·simp at a
 have kindB:∀x,(fg X NB scope s.heap.objs.size fp s H (X.pn ++ pins)).env.kindOf x=(scope.names.lookup x).map λk=>if (k == .free && X.env.scope.kind == .function && X.env.kindOf x == some .cell) then .cell else k:=λx=>mi scope X.env x
 have isFree:∀{x:Str},((fg X NB scope s.heap.objs.size fp s H (X.pn ++ pins)).env.kindOf x=some .cell\/(fg X NB scope s.heap.objs.size fp s H (X.pn ++ pins)).env.kindOf x=some .free)->(x,NameKind.free)∈scope.names:=λ{x} h=>by
  rw[kindB] at h
  cases e:scope.names.lookup x with
  |none=>rw[e] at h;simp at h
  |some k=>
   have hm:=HB e
   cases k with
   |free=>exact hm
   |cell=>exact absurd rfl (S.nocell _ hm)
   |_=>rw[e] at h;simp at h
 have neN:∀b o,s.heap.get? b=some o->b≠s.heap.objs.size:=λb o e=>Gx (Ga e)
 have cellN:∀{x:Str} {c:Addr},X.env.cells.lookup x=some c->c < s.heap.objs.size:=λ{x c} e=>by
  obtain⟨v,o,ho,_⟩:=I.cell x c e
  exact Ga ho
 have ok:(fg X NB scope s.heap.objs.size fp s H (X.pn ++ pins)).Ok:=by
  refine⟨I.ok.mod,S.kind,I.ok.glob,I.ok.blt,FX _,λx y c h1 h2=>I.ok.inj x y c (clE h1).2 (clE h2).2,λx hx=>?_,λx c h=>(by cases h),I.ok.hd,I.ok.frames,.inl rfl,λb hb=>?_,I.bs,Hn I.ok.bsz I.sz,λb o e hb=>?_,λb hb hs=>?_,stk,I.stkFree⟩
  ·have hm:=isFree hx
   exact⟨_,kq (.inl hm)⟩
  ·obtain⟨_,f1,f2,f3,f4,f5⟩:=hfp b hb
   refine⟨?_,λx c h z=>f4 x c (clE h).2 z⟩
   obtain⟨o,ho⟩:=hob b hb
   exact neN b o ho
  ·obtain⟨_,f1,f2,f3,f4,f5⟩:=hfp b hb
   rcases f3 with f3 |f3
   ·exact I.ok.noex b o e f3
   ·exact absurd (Gu (Ga e) (Hn I.ok.bsz f3)) (GH _)
  ·obtain⟨_,f1,f2,f3,f4,f5⟩:=hfp b hb
   rcases FY.mp (I.stkSub b hs) with z |z
   ·exact f1 z
   ·exact f2 z
 refine⟨ok,rfl,I.bare,Un.kept hk,⟨_,hn,λi x v h1' h2' h3'=>?_⟩,λx c h=>?_,I.hok.fresh (FX _),λx c h=>I.freeC x c (clE h).2,λp hp=>?_,I.hok.kept hk,?_⟩
 ·
  have h1':NB[i]? =some x:=h1'
  have hown:own<=i:=by
   refine Classical.byContradiction λhc=>?_
   have hlt:i < own:=Nat.lt_of_not_le hc
   unfold om at h2'
   rw[GC (by simpa using hlt),Hl,FZ hlt] at h2'
   cases h2'
  obtain⟨k,rfl⟩:∃k,i=own + k:=⟨i - own,by omega⟩
  have hk':k < ixs.length:=by
   have:=(Gs.mp h1').1
   rw[S.len] at this;omega
  obtain⟨e1,e2⟩:=S.at' k hk'
  have hm:=e2 x h1'
  unfold om at h2'
  rw[GA (by simp),HJ,Nat.add_sub_cancel_left,Gf,FU hk'] at h2'
  simp only[Option.map_some,Option.some.injEq] at h2'
  have hix:ixs.getD k 0=ixs[k]:=by simp[hk']
  have hσ:σ[ixs[k]]? =some (some v):=by
   cases e:σ[ixs[k]]? with
   |none=>rw[e] at h2';cases h2'
   |some o=>rw[e] at h2';simp at h2';rw[h2']
  rw[e1,hix] at h1'
  have hkind:=S.frees _ hm rfl
  have hvis:va X.env.scope x:=hkind.elim (λz=>.inr (.inl z)) (λz=>.inr (.inr z))
  obtain⟨m,hm',hl⟩:=I.loc
  obtain⟨u,r,look⟩:=hl _ x v h1' hσ hvis
  refine⟨u,r,.inr ⟨?_,?_⟩⟩
  ·rw[kindB]
   have hfr:scope.names.lookup x=some .free:=S.names _ hm
   rw[hfr]
   simp only[Option.map_some]
   split
   ·exact .inl rfl
   ·exact .inr rfl
  ·rcases look with⟨z,_⟩ | ⟨_,c,hc,hcell⟩
   ·rcases hkind with q |q
    ·rw[q] at z;cases z
    ·rw[q] at z;cases z
   ·refine⟨c,?_,?_⟩
    ·have:=kq (cells:=X.env.cells) (cs:=[]) (.inl hm)
     rw[hc] at this
     exact this
    ·obtain⟨o,ho,hd⟩:=hcell
     exact⟨o,hk _ _ ho,hd⟩
 ·obtain⟨v,o,ho,hd⟩:=I.cell x c (clE h).2
  exact⟨v,o,hk _ _ ho,hd⟩
 ·have hp':p∈X.pn ++ pins:=by
   rcases GB.mp hp with z |z
   ·exact z
   ·cases z
  obtain⟨e,n,ne,nf,d⟩:=I.pin p hp'
  refine⟨hk _ _ e,n,neN _ _ e,λz=>?_,d⟩
  rcases FY.mp (I.stkSub _ z) with q |q
  ·exact ne q
  ·exact nf q
 ·show (om own ixs σ).length=NB.length
  unfold om
  rw[S.len];simp
end
abbrev tX (ifs:List Expr)(env:Env):Sem Bool:=forIn ifs true λc r=>if r=true then do let ok <-isTrue c env (eval c env);pure (ForInStep.yield ok) else pure (ForInStep.yield r)
theorem uI {prog:Program}{w:World}{A:Around}{R:Result->Shared->Prop}{s:Shared}{elt target iter:Expr}{ifs:List Expr}{scope:Scope}{pos:Pos}{it acc:Value}{env:Env}(I:Nat->Shared->Prop)
  (turn:∀n s,I n s->wpAny (model prog w) A (pyNext it) (λr s1=>match r with
   |none=>R (.ok .next) s1
   |some v=>wpAny (model prog w) A (letOwnedTupleGo target it v) (λ_ s1'=>wpAny (model prog w) A (assign target env v) (λ_ s2=>
     wpAny (model prog w) A (tX ifs env) (λok s3=>
      if ok=true then wpAny (model prog w) A (eval elt env) (λx s4=>wpAny (model prog w) A (call (.builtin "list.append") [acc,x]) (λ_ s5=>∃m,m < n/\I m s5) (λ_ _=>False) s4) (λ_ _=>False) s3
      else ∃m,m < n/\I m s3) (λ_ _=>False) s2) (λ_ _=>False) s1') (λ_ _=>False) s1) (λ_ _=>False) s)
  (n:Nat) (h:I n s):codeAny (model prog w) A (.compLoop (.ListComp elt [⟨target,iter,ifs,0⟩] scope pos) 0 it acc env) R s:=by
 refine codeAny_loop rfl I (λn s hI=>?_) n h
 (show wpAny _ A ((compTurn (.ListComp elt [⟨target,iter,ifs,0⟩] scope pos) 0 it acc env).onRaise (λx=>do (noteFrame x env);theTreesLotGoes x)) _ _ s)
 refine wpAny_noted ?_
 rw[compTurn_list]
 refine FQ (wpAny_standAt (FQ (Ho (turn n s hI) (λr s1 h1=>?_) λ_ _ z=>z.elim)))
 cases r with
 |none=>exact FW h1
 |some v=>
  refine FQ (Ho h1 (λ_ s1' h1'=>?_) λ_ _ z=>z.elim)
  refine FQ (Ho h1' (λ_ s2 h2=>FQ (Ho h2 (λok s3 h3=>?_) λ_ _ z=>z.elim)) λ_ _ z=>z.elim)
  cases ok with
  |false=>exact FW ⟨rfl,h3⟩
  |true=>exact FQ (FQ (Ho h3 (λx s4 h4=>FQ (Ho h4 (λ_ s5 h5=>FW (FW ⟨rfl,h5⟩)) λ_ _ z=>z.elim)) λ_ _ z=>z.elim))
def vD (X:Cx)(ifs:List Expr)(t:TT):Prop:=
 ∀(pins:List (Addr×Obj)) (s:Shared) (σ:St) (H:Hp) (Q:Bool->Hp->Prop),Inv X pins σ H s->t σ H Q->wpAny (model X.prog X.w) X.A (tX ifs X.env) (TP X pins σ Q) X.xe s
def A3:TT:=λ_ H Q=>Q true H
def oP {X:Cx}:vD X [] A3:=λpins s σ H Q I h=>FW ⟨H,I,h⟩
def sx {X:Cx}{c:Expr}{t:TT}(h:PT X c t):vD X [c] t:=λpins s σ H Q I q=>wpAny_tests_one (h pins s σ H Q I q)
def sh (own:Nat)(ixs:List Nat)(wi:TI)(g:TG)(tt:TT)(te:TE)(σ:St)(H:Hp)(Q:VK):Prop:=wi σ H λJ H1=>∀D,H1 D=none->∃W:Nat->Nat->St->Hp->Prop,(∃m,W 0 m (om own ixs σ) (upd H1 D (.lst [])))/\∀i m σ' H',W i m σ' H'->
 (J.stop i H'/\(∃acc,H' D=some (.lst acc))/\Q (.ref D) H')\/
 (J.go i H'/\∃N:St->Hp->Prop,(∀σ2 H2,N σ2 H2->∃m',m' < m/\W (i + 1) m' σ2 H2)/\∀x H2,J.yld i H' x H2->g x σ' H2 λσ3 H3=>tt σ3 H3 λb H4=>
  if b=true then te σ3 H4 λv H5=>∃acc,H5 D=some (.lst acc)/\acc.length < sizeLine/\N σ3 (upd H5 D (.lst (acc ++ [v]))) else N σ3 H4)
section
variable {X:Cx}{NB:List Str}{own:Nat}{ixs:List Nat}{scope:Scope}{elt tg iter:Expr}{ifs:List Expr}{pos:Pos}{wi:TI}{g:TG}{tt:TT}{te:TE}
def m8 (hc:X.calm=true)(S:ck X NB own ixs scope)
  (hg:∀C ex s3 H3 pn,PG (fg X NB scope C ex s3 H3 pn) tg g) (ht:∀C ex s3 H3 pn,vD (fg X NB scope C ex s3 H3 pn) ifs tt) (he:∀C ex s3 H3 pn,PE (fg X NB scope C ex s3 H3 pn) elt te)
  {pins:List (Addr×Obj)} {σ:St} {H1:Hp} {s2:Shared} {it:Addr} {fp:List Addr} {tn:Nat->Heap->Prop} {J:It} {Q:VK} (I2:Inv X pins σ H1 s2) (T:Turn X.prog X.w X.K tg J fp it tn) (st2:tn 0 s2.heap) (f2:∀b∈fp,kA X pins H1 b)
  (hQ:∀D,H1 D=none->∃W:Nat->Nat->St->Hp->Prop,(∃m,W 0 m (om own ixs σ) (upd H1 D (.lst [])))/\∀i m σ' H',W i m σ' H'->
   (J.stop i H'/\(∃acc,H' D=some (.lst acc))/\Q (.ref D) H')\/
   (J.go i H'/\∃N:St->Hp->Prop,(∀σ2 H2,N σ2 H2->∃m',m' < m/\W (i + 1) m' σ2 H2)/\∀x H2,J.yld i H' x H2->g x σ' H2 λσ3 H3=>tt σ3 H3 λb H4=>
    if b=true then te σ3 H4 λv H5=>∃acc,H5 D=some (.lst acc)/\acc.length < sizeLine/\N σ3 (upd H5 D (.lst (acc ++ [v]))) else N σ3 H4))
  {E:Value->Shared->Prop} {RR:Value->Addr->Result->Shared->Prop}
  (fin:∀D C H' s' m,Inv X pins σ H' s'->Q (.ref D) H'->s'.heap.Ns C m->H' C=none->C≠X.env.locals->(∀x c,X.env.cells.lookup x=some c->c≠C)->X.s₀.heap.objs.size<=C->(∀p∈X.pn ++ pins,p.1≠C)->RR (.ref D) C (.ok .next) s') :
  wpAny (model X.prog X.w) X.A (newList []) (λacc s3=>wpAny (model X.prog X.w) X.A (newFunctionEnv scope X.env.globals (j7 X.env.cells scope.names []) [] X.env.qual none .none (some X.env)) (λcenv s4=>
   codeAny (model X.prog X.w) X.A (.compStart (.ListComp elt [⟨tg,iter,ifs,0⟩] scope pos) 0 (.ref it) acc {cenv with scope:=relabel scope X.env}) (RR acc cenv.locals) s4) E s3) E s2:=by
 refine wpAny_newList ?_ (GL _)
 have hD:H1 s2.heap.objs.size=none:=I2.hok.fresh (FX _)
 obtain⟨W,⟨m0,w0⟩,turn⟩:=hQ s2.heap.objs.size hD
 generalize hs3:({s2 with heap:=s2.heap.push (seqObj "list" ([]:List Value).toArray 0)}:Shared)=s3
 have I3:Inv X pins σ (upd H1 s2.heap.objs.size (.lst [])) s3:=by
  rw[<-hs3]
  exact I2.lnew (ys:=[]) (its:=[]) (t':=s2.toks) .nil (GL _)
 have k3:∀b o,s2.heap.get? b=some o->s3.heap.get? b=some o:=λb o e=>by rw[<-hs3];exact FT _ e
 have sz3:s3.heap.objs.size=s2.heap.objs.size + 1:=by rw[<-hs3];exact Ha ..
 have ob2:∀b∈fp,∃o,s2.heap.get? b=some o:=λb hb=>let ⟨o,e,_⟩:=T.obj 0 _ st2 b hb;⟨o,e⟩
 have neD:∀b∈fp,b≠s2.heap.objs.size:=λb hb=>let ⟨o,e⟩:=ob2 b hb;Gx (Ga e)
 have f3:∀b∈fp,kA X pins (upd H1 s2.heap.objs.size (.lst [])) b:=λb hb=>by
  obtain⟨a1,a2⟩:=f2 b hb
  exact⟨by rw[au (neD b hb)];exact a1,a2⟩
 have st3:tn 0 s3.heap:=T.keep _ _ _ st2 λb _ o e=>k3 b o e
 refine wpAny_newFunctionEnv S.nocell (λy hy=>by simp at hy) (λh4 hn4 sb4=>?_) S.kind
 have k4:∀b o,s3.heap.get? b=some o->h4.get? b=some o:=λb o e=>sb4.extBut b o (Gx (Ga e)) (FT _ e)
 have I4:Inv (fg X NB scope s3.heap.objs.size fp s3 (upd H1 s2.heap.objs.size (.lst [])) (X.pn ++ pins)) [] (om own ixs σ) (upd H1 s2.heap.objs.size (.lst [])) {s3 with heap:=h4,toks:=s3.toks + ([]:List (Str×Value)).length}:=
  uR S I3 f3 (λb hb=>let ⟨o,e⟩:=ob2 b hb;⟨o,k3 _ _ e⟩) (by simpa using hn4) k4
 have st4:tn 0 h4:=T.keep _ _ _ st3 λb _ o e=>k4 b o e
 generalize hB:fg X NB scope s3.heap.objs.size fp s3 (upd H1 s2.heap.objs.size (.lst [])) (X.pn ++ pins)=B at I4
 have hgB:PG B tg g:=by rw[<-hB];exact hg _ _ _ _ _
 have htB:vD B ifs tt:=by rw[<-hB];exact ht _ _ _ _ _
 have heB:PE B elt te:=by rw[<-hB];exact he _ _ _ _ _
 have eP:B.prog=X.prog:=by rw[<-hB];rfl
 have eW:B.w=X.w:=by rw[<-hB];rfl
 have eK:B.K=X.K:=by rw[<-hB];rfl
 have eA:B.A=X.A:=by rw[<-hB];rfl
 have eC:B.calm=true:=by rw[<-hB];exact hc
 have eX:B.xe=λ_ _=>False:=by rw[<-hB];rfl
 have eE:B.env=compEnvC scope (j7 X.env.cells scope.names []) s3.heap.objs.size X.env:=by rw[<-hB];rfl
 have ex:B.ex=fp:=by rw[<-hB];rfl
 have eL:B.env.locals=s3.heap.objs.size:=by rw[eE];rfl
 have stat:∀{H':Hp},(∀b∈fp,H' b=none)->∀b∈fp,kA B [] H' b:=λ{H'} hn b hb=>by
  obtain⟨a1,a2,a3,a4,a5,a6⟩:=f3 b hb
  obtain⟨o,eo⟩:=ob2 b hb
  refine⟨hn b hb,?_,λz=>?_,.inl (by rw[ex];exact hb),λx c e z=>?_,λp hp z=>?_⟩
  ·rw[eL];exact Gx (Ga (k3 _ _ eo))
  ·have hz:b∈gu X.stack:=by rw[<-hB] at z;exact z
   rcases FY.mp (I3.stkSub b hz) with q |q
   ·exact a2 q
   ·exact a3 q
  ·rw[eE] at e
   rcases ko e with⟨m1,m2⟩ |m1
   ·obtain⟨c',e'⟩:=I3.ok.has x (S.frees _ m1 rfl)
    rw[e'] at m2
    exact a5 x c' e' (by rw[<-z,m2];rfl)
   ·simp at m1
  ·have hp':p∈X.pn ++ pins:=by
    rw[<-hB] at hp
    rcases GB.mp hp with q |q
    ·exact q
    ·cases q
   exact a6 p hp' z
 have back:∀{σ':St} {H':Hp} {s':Shared},Inv B [] σ' H' s'->Inv X pins σ H' s':=λ{σ' H' s'} J'=>by
  have u:=J'.base
  have os:=J'.os
  have bare:=J'.bare
  have hok:=J'.hok
  subst hB
  exact I3.call' (ch:=fp) os u hok bare λb hb=>by
   obtain⟨a1,a2,a3,a4,a5,a6⟩:=f3 b hb
   exact⟨a4,a2,a5,a6⟩
 have loop:∀s5:Shared,s5={s3 with heap:=h4,toks:=s3.toks + ([]:List (Str×Value)).length}->
   codeAny (model X.prog X.w) X.A (.compLoop (.ListComp elt [⟨tg,iter,ifs,0⟩] scope pos) 0 (.ref it) (.ref s2.heap.objs.size) (compEnvC scope (j7 X.env.cells scope.names []) s3.heap.objs.size X.env)) (RR (.ref s2.heap.objs.size) s3.heap.objs.size) s5:=by
  rintro s5 rfl
  refine uI (λn s'=>∃i σ' H',Inv B [] σ' H' s'/\tn i s'.heap/\(∀b∈fp,H' b=none)/\W i n σ' H') ?_ m0 ⟨0,_,_,I4,st4,λb hb=>(f3 b hb).1,w0⟩
  rintro n s6 ⟨i,σ6,H6,I6,st6,fr6,w6⟩
  rcases turn i n σ6 H6 w6 with⟨stop,⟨acc,hacc⟩,qn⟩ | ⟨go,N,hN,step⟩
  ·have:=T.done B eP eW eK eC i [] s6 σ6 H6 (λ_ _=>False) I6 (stat fr6) st6 stop
   rw[eA] at this
   refine b7 this λr s7 ⟨hr,I7⟩=>?_
   subst hr
   obtain⟨m7,hn7,_⟩:=I7.loc
   rw[eL] at hn7
   have J7:=back I7
   refine fin _ _ H6 s7 m7 J7 qn hn7 (by rw[<-eL];exact I7.free) (λz=>?_) (λx c e z=>?_) ?_ λp hp z=>?_
   ·have:=I3.lt
    rw[<-z] at this
    exact GH _ this
   ·obtain⟨v,o,ho,_⟩:=I3.cell x c e
    exact absurd (Ga ho) (by rw[z];exact GH _)
   ·exact I3.sz
   ·have:=Ga (I3.pin p hp).1
    rw[z] at this
    exact GH _ this
  ·have hitem:=T.item B eP eW eK eC i [] s6 σ6 H6 (λ_ _=>False) I6 (stat fr6) st6 go
   rw[eA] at hitem
   refine b7 hitem λr s7 ⟨u,hr,h7⟩=>?_
   subst hr
   refine b7 h7 λ_ s8 ⟨x,H8,I8,r8,y8,st8,fr8⟩=>?_
   have I8':=I8.pinned (stat fr8) (T.obj _ _ st8)
   have ha:=hgB _ s8 σ6 H8 x u _ I8' r8 (step x H8 y8)
   rw[eP,eW,eA,eE,eX] at ha
   refine b7 ha λ_ s9 ⟨σ9,H9,I9,q9⟩=>?_
   have hb:=htB _ s9 σ9 H9 _ I9 q9
   rw[eP,eW,eA,eE,eX] at hb
   refine b7 hb λok s10 ⟨H10,I10,q10⟩=>?_
   have again:∀{σ7:St} {H7:Hp} {s7:Shared},Inv B ([] ++ lh fp s8.heap) σ7 H7 s7->N σ7 H7->∃m,m < n/\∃i σ' H',Inv B [] σ' H' s7/\tn i s7.heap/\(∀b∈fp,H' b=none)/\W i m σ' H':=λ{σ7 H7 s7} I7 n7=>by
    obtain⟨m',hm,w7⟩:=hN σ7 H7 n7
    refine⟨m',hm,i + 1,σ7,H7,I7.unpinned,T.keep _ _ _ st8 λb hb o e=>(I7.pin (b,o) (GD _ (GD _ (gQ hb e)))).1,λb hb=>?_,w7⟩
    obtain⟨o,e,d⟩:=T.obj _ _ st8 b hb
    exact (I7.pin (b,o) (GD _ (GD _ (gQ hb e)))).2.1
   cases ok with
   |false=>
    simp only[Gi,GJ] at q10 ⊢
    exact again I10 q10
   |true=>
    simp only[G8] at q10 ⊢
    have hv:=heB _ s10 σ9 H10 _ I10 q10
    rw[eP,eW,eA,eE,eX] at hv
    refine b7 hv λy s11 ⟨v,H11,I11,r11,acc,hacc,hz,q11⟩=>?_
    have hap:=nM (X:=B) _ s11 σ9 H11 (.ref s2.heap.objs.size) [v] (.ref s2.heap.objs.size) [y] (λz H'=>z=.non/\N σ9 H') I11 rfl (.cons r11 .nil) ⟨_,acc,v,rfl,rfl,hacc,hz,rfl,q11⟩
    rw[eP,eW,eA,eX] at hap
    exact b7 hap λ_ s12 ⟨_,H12,I12,_,_,q12⟩=>again I12 q12
 exact codeAny_compStart_list (loop _ rfl) (T.self X.A 0 _ _ _ st4 (loop _ rfl))
def qz (hc:X.calm=true)(S:ck X NB own ixs scope)(hi:PI X tg iter wi)
  (hg:∀C ex s3 H3 pn,PG (fg X NB scope C ex s3 H3 pn) tg g) (ht:∀C ex s3 H3 pn,vD (fg X NB scope C ex s3 H3 pn) ifs tt) (he:∀C ex s3 H3 pn,PE (fg X NB scope C ex s3 H3 pn) elt te)
  (hs:∀x,foldedSetIterable iter X.env x=pure x:=by intro _;rfl) :
  PE X (.ListComp elt [⟨tg,iter,ifs,0⟩] scope pos) (sh own ixs wi g tt te):=by
 intro pins s σ H Q I h
 rw[eval_ListComp]
 refine wpAny_comprehension_free (use:=none) rfl hs (mj λy hy e=>I.ok.has _ (S.frees y hy e)) S.kind (λy hy e=>by rw[S.names y hy,e]) ?_
 refine b7 (hi pins s σ H _ I h) λv s1 h1=>b7 h1 λitv s2 h2=>?_
 obtain⟨it,fp,tn,J,H2,e,I2,T,st2,f2,q2⟩:=h2
 subst e
 refine m8 hc S hg ht he I2 T st2 f2 q2 (RR:=λacc C=>compPost (model X.prog X.w) X.A X.xe none (EP X pins σ Q) acc C) λD C H' s' m J' q hn hC n1 n2 n3 n4=>?_
 refine⟨m,hn,λh'' sb=>⟨.ref D,H',?_,rfl,q⟩⟩
 exact J'.turned (t':=s'.toks) (it:=C) (λb o hb e=>sb.extBut b o hb e) hC n1 (.inr n3) n2 n4
def qd {i:Nat}{y:Str}{py spos:Pos}(hc:X.calm=true)(S:ck X NB own ixs scope)(hi:PI X tg iter wi)
  (hg:∀C ex s3 H3 pn,PG (fg X NB scope C ex s3 H3 pn) tg g) (ht:∀C ex s3 H3 pn,vD (fg X NB scope C ex s3 H3 pn) ifs tt) (he:∀C ex s3 H3 pn,PE (fg X NB scope C ex s3 H3 pn) elt te)
  (hN:X.N.Nodup) (hy:X.N[i]? =some y) (hl:X.env.scope.names.lookup y=some .local)
  (hsw:swapsWith (.ListComp elt [⟨tg,iter,ifs,0⟩] scope pos) (some (.Name y py)) spos.line X.env=pure true)
  (hs:∀x,foldedSetIterable iter X.env x=pure x:=by intro _;rfl) :
  PS X (.Assign [.Name y py] (.ListComp elt [⟨tg,iter,ifs,0⟩] scope pos) spos) (λD σ H=>sh own ixs wi g tt te σ H λv H'=>D.nx (σ.set i (some v)) H'):=by
 intro pins s σ H D I h
 rw[exec_Assign_Name_used _ _ _ _ hsw]
 refine FQ (wpAny_standAt (FQ ?_))
 show wpAny _ X.A (comprehension (.ListComp elt [⟨tg,iter,ifs,0⟩] scope pos) scope X.env _ (newList []) false (eval iter X.env) (some (assign (.Name y py) X.env)) >>= λ_=>pure ()) _ _ s
 refine FQ (Ho (wpAny_comprehension_free (use:=some (assign (.Name y py) X.env)) (Q:=λ_ s'=>SP X pins D .next s') rfl hs (mj λy hy e=>I.ok.has _ (S.frees y hy e)) S.kind (λy hy e=>by rw[S.names y hy,e]) ?_)
  (λ_ s' hq=>FW (FW hq)) λ_ _ e=>e)
 refine b7 (hi pins s σ H _ I h) λv s1 h1=>b7 h1 λitv s2 h2=>?_
 obtain⟨it,fp,tn,J,H2,e,I2,T,st2,f2,q2⟩:=h2
 subst e
 refine m8 hc S hg ht he I2 T st2 f2 q2 (Q:=λv H'=>D.nx (σ.set i (some v)) H') (RR:=λacc C=>compPost (model X.prog X.w) X.A X.xe (some (assign (.Name y py) X.env)) (λ_ s'=>SP X pins D .next s') acc C) λD' C H' s' m J' q hn hC n1 n2 n3 n4=>?_
 show wpAny _ X.A (assign (.Name y py) X.env (.ref D')) _ _ s'
 refine wpAny_assign_Name (nA J' hN hy (.inl hl) (v:=.ref D') rfl (λs'' I'' ⟨a,sb,ha⟩=>?_) (.inr hl))
 have hCa:C≠a:=by
  rcases ha with z |z
  ·rw[z];exact n1
  ·exact (n2 _ _ z).symm
 refine⟨m,hn.sameBut sb hCa,λh3 sb3=>⟨_,H',?_,q⟩⟩
 exact I''.turned (t':=s''.toks) (it:=C) (λb o hb e=>sb3.extBut b o hb e) hC n1 (.inr n3) n2 n4
end
section
variable {own:Nat}{ixs:List Nat}{g:TG}{tt:TT}{te:TE}{σ:St}{H:Hp}{Q:VK}{K:Frag}{D a:Addr}{xs:List V}
abbrev dq (g:TG)(tt:TT)(te:TE)(D:Addr)(x:V)(σ:St)(H:Hp)(N:St->Hp->Prop):Prop:=g x σ H λσ3 H3=>tt σ3 H3 λb H4=>
  if b=true then te σ3 H4 λv H5=>∃acc,H5 D=some (.lst acc)/\acc.length < sizeLine/\N σ3 (upd H5 D (.lst (acc ++ [v]))) else N σ3 H4
def um (Pv:Nat->St->Hp->Prop)(h0:Pv 0 (om own ixs σ) (upd H D (.lst [])))(hl:∀i σ H,i<=xs.length->Pv i σ H->fZ K H a xs)
  (hs:∀i x σ H,xs[i]? =some x->Pv i σ H->dq g tt te D x σ H (Pv (i + 1))) (hd:∀σ H,Pv xs.length σ H->(∃acc,H D=some (.lst acc))/\Q (.ref D) H) :
  ∃W:Nat->Nat->St->Hp->Prop,(∃m,W 0 m (om own ixs σ) (upd H D (.lst [])))/\∀i m σ' H',W i m σ' H'->
   ((uq K a).stop i H'/\(∃acc,H' D=some (.lst acc))/\Q (.ref D) H')\/
   ((uq K a).go i H'/\∃N:St->Hp->Prop,(∀σ2 H2,N σ2 H2->∃m',m' < m/\W (i + 1) m' σ2 H2)/\∀x H2,(uq K a).yld i H' x H2->dq g tt te D x σ' H2 N):=by
 refine⟨λi m σ H=>m=xs.length - i/\i<=xs.length/\Pv i σ H,⟨xs.length,by simp,GL _,h0⟩,?_⟩
 rintro i m σ H ⟨rfl,hi,p⟩
 have q:=hl i σ H hi p
 by_cases hlt:i < xs.length
 ·refine .inr ⟨⟨xs,xs[i],q,by simp[hlt]⟩,Pv (i + 1),λσ' H' p'=>⟨xs.length - (i + 1),by omega,rfl,hlt,p'⟩,λx H' y=>?_⟩
  obtain⟨e,y⟩:=y
  subst e
  exact hs i x σ _ (y xs q) p
 ·have e:i=xs.length:=by omega
  subst e
  exact .inl ⟨⟨xs,q,FX _⟩,hd σ H p⟩
def rf {lo:Int}{n:Nat}(Pv:Nat->St->Hp->Prop)(h0:Pv 0 (om own ixs σ) (upd H D (.lst [])))
  (hs:∀i σ H,i < n->Pv i σ H->dq g tt te D (.int (lo + i)) σ H (Pv (i + 1))) (hd:∀σ H,Pv n σ H->(∃acc,H D=some (.lst acc))/\Q (.ref D) H) :
  ∃W:Nat->Nat->St->Hp->Prop,(∃m,W 0 m (om own ixs σ) (upd H D (.lst [])))/\∀i m σ' H',W i m σ' H'->
   ((v9 lo n).stop i H'/\(∃acc,H' D=some (.lst acc))/\Q (.ref D) H')\/
   ((v9 lo n).go i H'/\∃N:St->Hp->Prop,(∀σ2 H2,N σ2 H2->∃m',m' < m/\W (i + 1) m' σ2 H2)/\∀x H2,(v9 lo n).yld i H' x H2->dq g tt te D x σ' H2 N):=by
 refine⟨λi m σ H=>m=n - i/\i<=n/\Pv i σ H,⟨n,by simp,GL _,h0⟩,?_⟩
 rintro i m σ H ⟨rfl,hi,p⟩
 by_cases hlt:i < n
 ·refine .inr ⟨hlt,Pv (i + 1),λσ' H' p'=>⟨n - (i + 1),by omega,rfl,hlt,p'⟩,λx H' y=>?_⟩
  obtain⟨e,y⟩:=y
  subst e y
  exact hs i σ _ hlt p
 ·have e:i=n:=by omega
  subst e
  exact .inl ⟨FX _,hd σ H p⟩
end
mutual
inductive Rep (K:Frag)(H:Hp):V->PyData->Prop
 |non:Rep K H .non .none
 |bl (b:Bool):Rep K H (.bl b) (.bool b)
 |int (i:Int):Rep K H (.int i) (.int i)
 |str (x:Str):Rep K H (.str x) (.str x)
 |tup {a:Addr} {xs:List V} {ds:List PyData}:cP K H a xs->iJ K H xs ds->Rep K H (.ref a) (.tuple ds)
 |lst {a:Addr} {xs:List V} {ds:List PyData}:fZ K H a xs->iJ K H xs ds->Rep K H (.ref a) (.list ds)
inductive iJ (K:Frag)(H:Hp):List V->List PyData->Prop
 |nil:iJ K H [] []
 |cons {x:V} {xs:List V} {d:PyData} {ds:List PyData}:Rep K H x d->iJ K H xs ds->iJ K H (x :: xs) (d :: ds)
end
section
variable {X:Cx}{pins:List (Addr×Obj)}{σ:St}{H H':Hp}{s:Shared}
mutual
theorem Rep.reads (I:Inv X pins σ H s):∀{x:V} {d:PyData} {u:Value},Rep X.K H x d->RelV x u->∃as,Reads s.heap u d as
 |_,_,_,.non,r=>by cases r;exact⟨_,.none⟩
 |_,_,_,.bl b,r=>by cases r;exact⟨_,.bool b⟩
 |_,_,_,.int i,r=>by obtain⟨t,rfl⟩:=r;exact⟨_,.int i t⟩
 |_,_,_,.str x,r=>by obtain⟨t,rfl⟩:=r;exact⟨_,.str x t⟩
 |_,_,_,.tup h hs,r=>by
  cases r
  obtain⟨its,rv,⟨o,ho,hc,n,hd⟩,_⟩:=I.tuple h
  obtain⟨as,q⟩:=iJ.reads I hs rv
  exact⟨_,.tuple ho hc hd (by simpa using q)⟩
 |_,_,_,.lst h hs,r=>by
  cases r
  obtain⟨its,rv,pl,_⟩:=I.list h
  obtain⟨o,ho,hc,n,hd⟩:=pl.isList
  obtain⟨as,q⟩:=iJ.reads I hs rv
  exact⟨_,.list ho hc hd (by simpa using q)⟩
theorem iJ.reads (I:Inv X pins σ H s):∀{xs:List V} {ds:List PyData} {us:List Value},iJ X.K H xs ds->Vals xs us->∃as,ReadsAll s.heap us ds as
 |_,_,_,.nil,r=>by cases r;exact⟨_,.nil⟩
 |_,_,_,.cons h hs,r=>by
  cases r with
  |cons r1 r2=>
   obtain⟨as,q⟩:=Rep.reads I h r1
   obtain⟨bs,q'⟩:=iJ.reads I hs r2
   exact⟨_,.cons q q'⟩
end
def Bs (K:Frag)(neg:Bool):R2:=λx y H Q=>∃d e,Rep K H x d/\Rep K H y e/\SeqAt.shaped d=true/\SeqAt.shaped e=true/\Q (.bl (if neg then !PyData.eqv d e else PyData.eqv d e)) H
def bL (hu:X.A.units + 64 < cLine):jh X (compareOp .Eq) (Bs X.K false):=by
 intro pins s σ H x y v u Q I rx ry h
 obtain⟨d,e,h1,h2,s1,s2,q⟩:=h
 obtain⟨as,r1⟩:=h1.reads I rx
 obtain⟨bs,r2⟩:=h2.reads I ry
 exact SeqAt.compareEq_shaped r1 r2 s1 s2 hu ⟨.bl _,H,I,rfl,q⟩
def gV (hu:X.A.units + 64 < cLine):jh X (compareOp .NotEq) (Bs X.K true):=by
 intro pins s σ H x y v u Q I rx ry h
 obtain⟨d,e,h1,h2,s1,s2,q⟩:=h
 obtain⟨as,r1⟩:=h1.reads I rx
 obtain⟨bs,r2⟩:=h2.reads I ry
 exact SeqAt.compareNe_shaped r1 r2 s1 s2 hu ⟨.bl _,H,I,rfl,q⟩
theorem iJ.at' {K:Frag}:∀{xs:List V} {ds:List PyData} {i:Nat} {x:V},iJ K H xs ds->xs[i]? =some x->∃d,ds[i]? =some d/\Rep K H x d
 |_,_,_,_,.nil,e=>by simp at e
 |_,_,0,_,.cons r _,e=>by simp at e;subst e;exact⟨_,rfl,r⟩
 |_,_,i + 1,x,.cons _ t,e=>by
  obtain⟨u,h1,h2⟩:=iJ.at' (i:=i) (x:=x) t (by simpa using e)
  exact⟨u,by simpa using h1,h2⟩
theorem iJ.len {K:Frag}:∀{xs:List V} {ds:List PyData},iJ K H xs ds->xs.length=ds.length
 |_,_,.nil=>rfl
 |_,_,.cons _ t=>by simp[iJ.len t]
inductive ze (K:Frag)(H:Hp):V->String->Prop
 |non:ze K H .non "NoneType"
 |bl (b:Bool):ze K H (.bl b) "bool"
 |int (i:Int):ze K H (.int i) "int"
 |str (x:Str):ze K H (.str x) "str"
 |tup {a:Addr} {xs:List V}:cP K H a xs->ze K H (.ref a) "tuple"
 |lst {a:Addr} {xs:List V}:fZ K H a xs->ze K H (.ref a) "list"
 |dic {a:Addr} {kvs:List (Key×V)}:H a=some (.dK kvs)->ze K H (.ref a) "dict"
def ED (K:Frag):List V->Hp->VK->Prop:=λxs H Q=>∃x T t b,xs= [x,.ty T]/\ze K H x t/\PySem.W.kitOne K (.type t) (.type T)=some b/\Q (.bl b) H
theorem wW:dw X (.builtin "isinstance") (ED X.K):=by
 intro pins s σ H xs us Q I r h
 obtain⟨x,T,t,b,rfl,ty,e,q⟩:=h
 obtain⟨u,c,rfl,rx,rc⟩:=vals2 r
 cases rc
 have fin:∀tk,EP X pins σ Q (.bool b) {s with toks:=tk}:=λtk=>⟨.bl b,H,I.tok tk,rfl,q⟩
 cases ty with
 |non=>exact gG I rx .non e fin
 |bl b=>exact gG I rx (.bl b) e fin
 |int i=>exact gG I rx (.int i) e fin
 |str z=>exact gG I rx (.str z) e fin
 |dic hk=>exact gG I rx (.dK hk) e fin
 |tup hq=>
  cases rx
  obtain⟨its,rv,⟨o,h1,h2,_⟩,_⟩:=I.tuple hq
  exact GP PySem.W.kitx_tuple I.kIn ⟨o,h1,h2⟩ e (λz=>nomatch z) fin
 |lst hq=>
  cases rx
  obtain⟨its,rv,pl,_⟩:=I.list hq
  obtain⟨o,h1,h2,_⟩:=pl.isList
  exact GP PySem.W.kitx_list I.kIn ⟨o,h1,h2⟩ e (λz=>nomatch z) fin
def qS {A:Around}{its:List Value}{bs:List Bool}(hv:Vals (bs.map V.bl) its):TruthOf X.prog X.w A (λi v=>its[i]? =some v) (λi=>bs.getD i false):=λi v s Q E hi hq=>by
 have hl:=hv.length
 have hi2:i < bs.length:=by
  have:=(Gs.mp hi).1
  rw[<-hl] at this;simpa using this
 obtain⟨u,eu,ru⟩:=hv.get (i:=i) (x:=.bl bs[i]) (by simp[hi2])
 rw[hi] at eu;cases eu
 cases ru
 refine GY ?_
 have:bs.getD i false=bs[i]:=by simp[hi2]
 rw[<-this];exact hq
theorem range_all (bs:List Bool):(List.range bs.length).all (λi=>bs.getD i false)=bs.all id:=by
 induction bs with
 |nil=>rfl
 |cons b bs ih=>
  rw[Gr,List.range_succ_eq_map,List.all_cons,List.all_map,List.all_cons,<-ih]
  rfl
theorem range_any (bs:List Bool):(List.range bs.length).any (λi=>bs.getD i false)=bs.any id:=by
 induction bs with
 |nil=>rfl
 |cons b bs ih=>
  rw[Gr,List.range_succ_eq_map,any_cons,List.any_map,any_cons,<-ih]
  rfl
def rQ (K:Frag)(f:List Bool->Bool):List V->Hp->VK->Prop:=λxs H Q=>∃a bs,xs= [.ref a]/\fZ K H a (bs.map V.bl)/\Q (.bl (f bs)) H
def lI (hc:X.calm=true){a:Addr}{bs:List Bool}{Q:VK}(I:Inv X pins σ H s)(hq:fZ X.K H a (bs.map V.bl)){f:List Bool->Bool}{g:(Nat->Bool)->Nat->Bool}(hfg:g (λi=>bs.getD i false) bs.length=f bs)(q:Q (.bl (f bs)) H) :
  wpAny (model X.prog X.w) X.A.in1 (pyIter (.ref a)) (λit s2=>∃Ii fp wr n P St tr,it=.ref Ii/\Walks X.prog X.w X.A.in1 Ii fp wr n P St/\St 0 s2.heap/\TruthOf X.prog X.w X.A.in1 P tr/\
   ∀h' tk,(∀b o,b∉wr->s2.heap.get? b=some o->h'.get? b=some o)->EP X pins σ Q (.bool (g tr n)) {s2 with heap:=h',toks:=tk}) X.xe s:=by
 obtain⟨its,rv,pl,hz⟩:=I.list hq
 have hh:X.A.in1.handled=none:=I.ok.hd hc
 have hlen:its.length=bs.length:=by rw[<-rv.length];simp
 obtain⟨o,ho,_⟩:=id pl.isList
 refine Ij pl.isList ?_
 have W:=Walks.list (prog:=X.prog) (w:=X.w) hh s.heap.objs.size a (Gx (Ga ho)) its.toArray
 refine⟨s.heap.objs.size,_,_,_,_,_,λi=>bs.getD i false,rfl,W,⟨⟨_,Gb _ rfl,rfl,rfl⟩,pl.isList.push _⟩,?_,λh' tk k=>?_⟩
 ·have:=qS (X:=X) (A:=X.A.in1) rv
  simpa using this
 ·have e:its.toArray.size=bs.length:=by simpa using hlen
  rw[e,hfg]
  have I1:Inv X pins σ H {s with heap:=s.heap.push {cls:=.type "list_iterator",data:=.fields #[.ref a,.int 0 0]}}:=I.kept (t':=s.toks) λb o e=>FT _ e
  have hf:H s.heap.objs.size=none:=I.hok.fresh (FX _)
  have fp:=I.fpOk (H':=H) (b:=s.heap.objs.size) (FX _) hf
  refine⟨.bl _,H,I1.turned (it:=s.heap.objs.size) (t':=tk) (λb o hb e=>k b o (by simpa using hb) e) hf fp.2.1 fp.2.2.2.1 fp.2.2.2.2.1 fp.2.2.2.2.2,rfl,q⟩
def iE (hc:X.calm=true):dw X (.builtin "all") (rQ X.K λbs=>bs.all id):=by
 intro pins s σ H xs us Q I r h
 obtain⟨a,bs,rfl,hq,q⟩:=h
 obtain⟨u,rfl,rx⟩:=vals1 r
 cases rx
 exact call_all_walk (lI hc I hq (f:=λbs=>bs.all id) (g:=λtr n=>(List.range n).all tr) (range_all bs) q)
def wF (hc:X.calm=true):dw X (.builtin "any") (rQ X.K λbs=>bs.any id):=by
 intro pins s σ H xs us Q I r h
 obtain⟨a,bs,rfl,hq,q⟩:=h
 obtain⟨u,rfl,rx⟩:=vals1 r
 cases rx
 exact call_any_walk (lI hc I hq (f:=λbs=>bs.any id) (g:=λtr n=>(List.range n).any tr) (range_any bs) q)
end
def Rc (h:Heap)(e:Addr)(cls:Value)(T:Addr)(fl:Value):Prop:=∃oe vs oT ts,h.get? e=some oe/\oe.cls=cls/\oe.dict=none/\oe.data=.fields vs/\vs[1]? =some (.ref T)/\T≠e/\h.get? T=some oT/\oT.data=.fields ts/\ts[3]? =some fl
abbrev Keeps (F:List Addr)(ch:List Addr)(h h':Heap):Prop:=∀b o,h.get? b=some o->b∉F->b∉ch->h'.get? b=some o
abbrev Slots (F:List Addr)(h h':Heap):Prop:=∀b o,h.get? b=some o->b∈F->∃sl,h'.get? b=some {o with slots:=sl}
section
variable {M:Model}{A:Around}{E:Value->Shared->Prop}{s:Shared}{base:Heap}{env:Env}{outer:List Env}{L e:Addr}{cls:Value}{Q:Unit->Shared->Prop}
def xr {oe:Obj}{vs:Array Value}{head:Value}{hadNext:Bool}(hfr:A.frames=some (env :: outer))(hl:s.heap.FunFrames base (env :: outer))(hf:env.frame=some L)(he:s.heap.get? e=some oe)(hc:oe.cls=cls)(hdd:oe.dict=none)(hd:oe.data=.fields vs)(hsz:1 < vs.size)
  (h:∀h' T,Keeps (gu (env :: outer)) [e] s.heap h'->Slots (gu (env :: outer)) s.heap h'->s.heap.get? T=none->Rc h' e cls T (rawInt L)->Q () {s with heap:=h'}) :
  wpAny M A (do let a <-frameOf env;let pl <-entryPlaceOf L hadNext;let b <-EntryCells.newEntry head a .none (rawInt L) .none pl;setField (.ref e) 1 b) Q E s:=by
 have eF:e∉gu (env :: outer):=λz=>by
  obtain⟨_,o,q,n⟩:=hl.mem z
  rw[he] at q;cases q;exact n _ hd
 refine FQ (wpAny_frameOf_fun hfr hl hf λh1 s1=>?_)
 refine FQ (wpAny_entryPlaceOf λpl hpl=>?_)
 unfold EntryCells.newEntry newFields
 refine FQ (Hz ?_ (hpl.sizeOk5 _ _ _ _ _))
 have e1:h1.get? e=some oe:=(s1.2.1 e eF).trans he
 have e2:=FT (h:=h1) {cls:=.type "traceback",dict:=none,data:=.fields ([head,.ref L,.none,rawInt L,.none] ++ (if pl.isEmpty then List.replicate 6 Value.none else pl)).toArray} e1
 have tn:h1.objs.size≠e:=IA (Ga e1)
 refine HC e2 hd hsz (h _ h1.objs.size (λb o q hb hn=>?_) (λb o q hb=>?_) ?_ ?_)
 ·have hbe:b≠e:=by simpa using hn
  have q1:h1.get? b=some o:=(s1.2.1 b hb).trans q
  rw[G7 _ _ (Ne.symm hbe)]
  exact FT _ q1
 ·obtain⟨sl,q1⟩:=s1.2.2 b o q
  have hbe:b≠e:=λz=>eF (z▸hb)
  refine⟨sl,?_⟩
  rw[G7 _ _ (Ne.symm hbe)]
  exact FT _ q1
 ·cases q:s.heap.get? h1.objs.size with
  |none=>rfl
  |some o=>obtain⟨sl,q1⟩:=s1.2.2 _ o q;exact absurd (Ga q1) (GH _)
 ·have d3:=IG hd (·.setIfInBounds 1 (Value.ref h1.objs.size))
  have e3:=GR (Obj.mapFields (·.setIfInBounds 1 (Value.ref h1.objs.size))) e2 (Obj.isFreed_of_fields d3)
  refine⟨_,_,_,_,e3,(Obj.cls_mapFields _ _).trans hc,?_,d3,by simp[hsz],tn,(G7 _ _ (Ne.symm tn)).trans (Gb h1 rfl),rfl,?_⟩
  ·unfold Obj.mapFields
   split <;> exact hdd
  ·rcases hpl with rfl | ⟨_,_,_,_,_,_,_,rfl⟩ <;> simp
def rT {oe:Obj}{vs:Array Value}(hfr:A.frames=some (env :: outer))(hl:s.heap.FunFrames base (env :: outer))(hf:env.frame=some L)(he:s.heap.get? e=some oe)(hc:oe.cls=cls)(hdd:oe.dict=none)(hd:oe.data=.fields vs)(h1:vs[1]? =some .none)
  (h:∀h' T,Keeps (gu (env :: outer)) [e] s.heap h'->Slots (gu (env :: outer)) s.heap h'->s.heap.get? T=none->Rc h' e cls T (rawInt L)->Q () {s with heap:=h'}):wpAny M A (noteFrame (.ref e) env) Q E s:=by
 unfold noteFrame
 simp only[hf]
 refine FQ (Hf he hd h1 ?_)
 rw[Gd (by decide)]
 exact xr hfr hl hf he hc hdd hd (GS.mp h1).1 h
def vj {T0:Addr}(hfr:A.frames=some (env :: outer))(hl:s.heap.FunFrames base (env :: outer))(hf:env.frame=some L)(r:Rc s.heap e cls T0 .none)
  (h:∀h' T,Keeps (gu (env :: outer)) [e,T0] s.heap h'->Slots (gu (env :: outer)) s.heap h'->(s.heap.get? T=none\/T=T0)->Rc h' e cls T (rawInt L)->Q () {s with heap:=h'}):wpAny M A (noteFrame (.ref e) env) Q E s:=by
 obtain⟨oe,vs,oT,ts,he,hc,hdd,hd,h1,hTe,hT,hdT,h3⟩:=r
 have tF:T0∉gu (env :: outer):=λz=>by
  obtain⟨_,o,q,n⟩:=hl.mem z
  rw[hT] at q;cases q;exact n _ hdT
 unfold noteFrame
 simp only[hf]
 refine FQ (Hf he hd h1 ?_)
 rw[FZ (show (Value.ref T0 != Value.none)=true from by simp)]
 refine FQ (Hf hT hdT h3 ?_)
 rw[Gd (show ¬((Value.none == rawInt L)=true) from by simp[rawInt])]
 refine FQ (HC hT hdT (GS.mp h3).1 ?_)
 have oth:∀b,b≠T0->(s.heap.update T0 (Obj.mapFields (·.setIfInBounds 3 Value.none))).get? b=s.heap.get? b:=λb hb=>G7 _ _ (Ne.symm hb)
 have nf:∀b o,s.heap.get? b=some o->(∀ws,o.data≠.fields ws)->b≠T0:=λb o q n z=>by
  rw[z,hT] at q;cases q;exact n _ hdT
 refine xr (base:=base) hfr (hl.of_keeps λb o q n=>⟨o,(oth b (nf b o q n)).trans q,rfl⟩) hf ((oth e (Ne.symm hTe)).trans he) hc hdd hd (GS.mp h1).1 λh' T kp sl tn rc=>?_
 refine h h' T (λb o q hb hn=>?_) (λb o q hb=>?_) ?_ rc
 ·simp only[FY,GN,HE,not_or] at hn
  exact kp b o ((oth b hn.2).trans q) hb (by simp[hn.1])
 ·exact sl b o ((oth b λz=>tF (z▸hb)).trans q) hb
 ·by_cases z:T=T0
  ·exact .inr z
  ·exact .inl ((oth T z).symm.trans tn)
def sW {T:Addr}{fl:Value}(r:Rc s.heap e cls T fl)(h:∀h',Keeps [] [T] s.heap h'->Rc h' e cls T .none->Q () {s with heap:=h'}):wpAny M A (setFlight (.ref e) none) Q E s:=by
 obtain⟨oe,vs,oT,ts,he,hc,hdd,hd,h1,hTe,hT,hdT,h3⟩:=r
 have sz:3 < ts.size:=(GS.mp h3).1
 unfold setFlight
 refine FQ (Hf he hd h1 ?_)
 rw[FZ (show (Value.ref T != Value.none)=true from by simp)]
 refine HC hT hdT sz (h _ (λb o q _ hn=>?_) ?_)
 ·have hb:b≠T:=by simpa using hn
  exact (G7 _ _ (Ne.symm hb)).trans q
 ·have d3:=IG hdT (·.setIfInBounds 3 ((none:Option Addr).elim Value.none λf=>rawInt f))
  exact⟨oe,vs,_,_,(G7 _ _ hTe).trans he,hc,hdd,hd,h1,hTe,GR _ hT (Obj.isFreed_of_fields d3),d3,by simp[sz]⟩
end
section
variable {P:Program}{w:World}
theorem bW.there {H:Hp}{h:Heap}{a:Addr}{o:HO}(x:bW P w H h a o):∃u,h.get? a=some u:=by
 cases o with
 |lst xs=>obtain⟨_,_,_,_,e⟩:=x;exact⟨_,e⟩
 |tup xs=>obtain⟨_,_,_,u,e,_⟩:=x;exact⟨u,e⟩
 |dK kvs=>obtain⟨_,_,_,_,o,_,_,e,_⟩:=x;exact⟨_,e⟩
 |dT kvs=>obtain⟨_,_,_,_,o,_,_,e,_⟩:=x;exact⟨_,e⟩
 |set S n=>obtain⟨o,_,_,_,e,_⟩:=x;exact⟨_,e⟩
 |ins C dx fs=>obtain⟨_,_,_,e,_⟩:=x;exact⟨_,e⟩
 |own y=>obtain⟨_,e⟩:=x;exact⟨_,e⟩
 |xd fs=>obtain⟨_,⟨_,_,_,e,_⟩,_⟩:=x;exact⟨_,e⟩
 |xG lo hi=>obtain⟨_,_,_,e⟩:=x;exact⟨_,e⟩
 |aX ob u=>obtain⟨e,_⟩:=x;exact⟨_,e⟩
 |tbl ps=>exact⟨_,show h.get? a=some _ from x⟩
 |met f y=>exact⟨_,show h.get? a=some _ from x⟩
 |ext φ=>obtain⟨_,⟨_,e⟩,_⟩:=x;exact⟨_,e⟩
end
structure Lies (h₀:Heap)(H:Hp)(h:Heap)(e:Addr)(cls:Value):Prop where
 free:H e=none
 new:h₀.get? e=none
 ob:∃T,Rc h e cls T .none/\H T=none/\h₀.get? T=none
def kM (P:Program)(w:World):uv:=λouter H s E e s'=>∃ea cls H',e=.ref ea/\s'.os=s.os/\AllBare s'.gens/\Un (gu outer) [] H H' s.heap s'.heap/\iY P w H' s'.heap/\Lies s.heap H' s'.heap ea cls/\E cls none H'
section
variable {P:Program}{w:World}{M:Model}{A:Around}{E':Value->Shared->Prop}{s:Shared}{env:Env}{outer:List Env}{L e:Addr}{cls:Value}{base h₀:Heap}{H:Hp}{Q:Unit->Shared->Prop}
def qP {h h':Heap}(hok:iY P w H h)(k:∀b o,h.get? b=some o->(∃u,H b=some u)->h'.get? b=some o):iY P w H h':=λa o ha=>
 (hok a o ha).stay (λb u hb q=>k b u q (hb.elim (λz=>⟨o,by rw[z];exact ha⟩) λz=>⟨_,z⟩)) (λ_ q=>q) λ_ _ q=>q
def vW (hfr:A.frames=some (env :: outer))(hf:env.frame=some L)(hfn:s.heap.FunFrames base (env :: outer))(hok:iY P w H s.heap)(hff:∀b∈gu (env :: outer),H b=none)(Ly:Lies h₀ H s.heap e cls)(hex:∀b o,h₀.get? b=some o->∃o',s.heap.get? b=some o')
  (hQ:∀h',(∀b o,s.heap.get? b=some o->b∉gu (env :: outer)->((∃o0,h₀.get? b=some o0)\/∃u,H b=some u)->h'.get? b=some o)->(∀b o,s.heap.get? b=some o->b∈gu (env :: outer)->∃sl,h'.get? b=some {o with slots:=sl})->Lies h₀ H h' e cls->iY P w H h'->Q () {s with heap:=h'}) :
  wpAny M A (leaving env (.ref e)) Q E' s:=by
 obtain⟨fr,nw,T0,rc,hHT,hnT⟩:=Ly
 obtain⟨oe,vs,oT,ts,he,hc,hdd,hd,h1,hTe,hT,hdT,h3⟩:=id rc
 have tF:T0∉gu (env :: outer):=λz=>by
  obtain⟨_,o,q,n⟩:=hfn.mem z
  rw[hT] at q;cases q;exact n _ hdT
 unfold leaving
 refine FQ (vj hfr hfn hf rc λh4 T kp sl tn rc4=>sW rc4 λh5 kp5 rc5=>?_)
 have nT:∀b o,s.heap.get? b=some o->b≠T0->b≠T:=λb o q n z=>by
  rcases tn with tn |tn
  ·rw[z,tn] at q;cases q
  ·exact n (z.trans tn)
 have kept:∀b o,s.heap.get? b=some o->b∉gu (env :: outer)->((∃o0,h₀.get? b=some o0)\/∃u,H b=some u)->h5.get? b=some o:=λb o q hb hor=>by
  have be:b≠e:=λz=>by subst z;rcases hor with⟨_,z⟩ | ⟨_,z⟩ <;> simp_all
  have bT:b≠T0:=λz=>by subst z;rcases hor with⟨_,z⟩ | ⟨_,z⟩ <;> simp_all
  exact kp5 b o (kp b o q hb (by simp[be,bT])) (by simp) (by simp[nT b o q bT])
 have slot:∀b o,s.heap.get? b=some o->b∈gu (env :: outer)->∃sl,h5.get? b=some {o with slots:=sl}:=λb o q hb=>by
  obtain⟨x,q4⟩:=sl b o q hb
  exact⟨x,kp5 b _ q4 (by simp) (by simp[nT b o q λz=>tF (z▸hb)])⟩
 have fresh:H T=none/\h₀.get? T=none:=by
  rcases tn with tn |tn
  ·refine⟨?_,?_⟩
   ·cases q:H T with
    |none=>rfl
    |some u=>obtain⟨o,qo⟩:=(hok T u q).there;rw[tn] at qo;cases qo
   ·cases q:h₀.get? T with
    |none=>rfl
    |some u=>obtain⟨o,qo⟩:=hex T u q;rw[tn] at qo;cases qo
  ·rw[tn];exact⟨hHT,hnT⟩
 refine hQ h5 kept slot ⟨fr,nw,T,rc5,fresh.1,fresh.2⟩ (qP hok λb o q hu=>kept b o q (λz=>?_) (.inr hu))
 obtain⟨u,hu⟩:=hu
 rw[hff b z] at hu;cases hu
def rF {h:Heap}{args:List Value}(hfr:A.frames=some (env :: outer))(hf:env.frame=some L)(hfn:h.FunFrames base (env :: outer))(hok:iY P w H h)(hff:∀b∈gu (env :: outer),H b=none)(hex:∀b o,h₀.get? b=some o->∃o',h.get? b=some o')(hx:Heap.MadeExcOf h s.heap e cls args)
  (hQ:∀h',(∀b o,h.get? b=some o->b∉gu (env :: outer)->h'.get? b=some o)->(∀b o,h.get? b=some o->b∈gu (env :: outer)->∃sl,h'.get? b=some {o with slots:=sl})->Lies h₀ H h' e cls->iY P w H h'->Q () {s with heap:=h'}) :
  wpAny M A (leaving env (.ref e)) Q E' s:=by
 obtain⟨t,he,_,_⟩:=hx.there
 unfold leaving
 refine FQ (rT (cls:=cls) hfr (hfn.of_keeps λb o q _=>⟨o,hx.keeps b o q,rfl⟩) hf he rfl rfl rfl rfl λh4 T kp sl tn rc4=>sW rc4 λh5 kp5 rc5=>?_)
 have ne:∀b o,h.get? b=some o->b≠e:=λb o q z=>by rw[z,hx.new] at q;cases q
 have nT:∀b o,h.get? b=some o->b≠T:=λb o q z=>by
  have:=hx.keeps b o q
  rw[z,tn] at this;cases this
 have kept:∀b o,h.get? b=some o->b∉gu (env :: outer)->h5.get? b=some o:=λb o q hb=>kp5 b o (kp b o (hx.keeps b o q) hb (by simp[ne b o q])) (by simp) (by simp[nT b o q])
 have slot:∀b o,h.get? b=some o->b∈gu (env :: outer)->∃sl,h5.get? b=some {o with slots:=sl}:=λb o q hb=>by
  obtain⟨x,q4⟩:=sl b o (hx.keeps b o q) hb
  exact⟨x,kp5 b _ q4 (by simp) (by simp[nT b o q])⟩
 have fresh:∀{b:Addr},h.get? b=none->H b=none/\h₀.get? b=none:=λ{b} hb=>by
  refine⟨?_,?_⟩
  ·cases q:H b with
   |none=>rfl
   |some u=>obtain⟨o,qo⟩:=(hok b u q).there;rw[hb] at qo;cases qo
  ·cases q:h₀.get? b with
   |none=>rfl
   |some u=>obtain⟨o,qo⟩:=hex b u q;rw[hb] at qo;cases qo
 have no:h.get? T=none:=by
  cases q:h.get? T with
  |none=>rfl
  |some o=>exact absurd rfl (nT T o q)
 obtain⟨f1,f2⟩:=fresh hx.new
 obtain⟨g1,g2⟩:=fresh no
 refine hQ h5 kept slot ⟨f1,f2,T,rc5,g1,g2⟩ (qP hok λb o q hu=>kept b o q λz=>?_)
 obtain⟨u,hu⟩:=hu
 rw[hff b z] at hu;cases hu
end
section
variable {P:Program}{w:World}{K:Frag}{mg:Str->Option Value}{base:Heap}{N:List Str}{qual:Str}{scope:Scope}{f:Addr}{cd:Value}{A:Around}{outer:List Env}{s0:Shared}{H0:Hp}{E:XK}
def aQ:Passes (kM P w) (i7 (kM P w) P w K mg base N qual scope f cd A outer s0 H0 E) E:=by
 intro pins σ H s e s' I hcx
 obtain⟨ea,cls,H',rfl,os,bare,un,hok,Ly,q⟩:=hcx
 have I':=I.call' os un hok bare (λb hb=>absurd hb (by simp))
 have old:∀{b:Addr},s.heap.get? b=none->s0.heap.get? b=none:=λ{b} hb=>by
  cases z:s0.heap.get? b with
  |none=>rfl
  |some o=>obtain⟨o',z'⟩:=I.base.there b o z (show b∉([]:List Addr) by simp);rw[hb] at z';cases z'
 have Ly0:Lies s0.heap H' s'.heap ea cls:=by
  obtain⟨fr,nw,T,rc,hHT,hnT⟩:=Ly
  exact⟨fr,old nw,T,rc,hHT,old hnT⟩
 have above:s0.heap.objs.size<=(envOfC qual scope s0.heap.objs.size f cd).locals:=I.ok.above
 refine vW (base:=base) (h₀:=s0.heap) I'.ok.frames rfl I'.stack I'.hok I'.stkFree Ly0 (λb o z=>I'.base.there b o z (show b∉([]:List Addr) by simp)) λh' kept slot Ly' hok'=>?_
 have nL:∀{b:Addr} {o:Obj},s0.heap.get? b=some o->b∉gu outer->b∉gu (envOfC qual scope s0.heap.objs.size f cd :: outer):=λ{b o} z hb hm=>by
  rcases FY.mp (I'.stkSub b hm) with e |e
  ·have:=Ga z
   rw[e] at this
   exact absurd (Gu this above) (GH _)
  ·exact hb e
 have inn:∀{b:Addr},b∈gu outer->b∈gu (envOfC qual scope s0.heap.objs.size f cd :: outer):=λ{b} hb=>by
  obtain⟨en,h1,h2⟩:=Hs.mp hb
  exact Hs.mpr ⟨en,F0 _ h1,h2⟩
 refine⟨ea,cls,H',rfl,os.trans I.os,bare,⟨λb o z n hb _=>?_,λb o z n hb _=>?_,λb o z n _=>I'.base.free b o z n (show b∉([]:List Addr) by simp),λb o z _=>?_,I'.base.tups,I'.base.frzs,I'.base.tbls⟩,hok',Ly',q⟩
 ·exact kept b o (I'.base.keep b o z n hb (show b∉([]:List Addr) by simp)) (nL z hb) (.inl ⟨o,z⟩)
 ·obtain⟨sl,z1⟩:=I'.base.slot b o z n hb (show b∉([]:List Addr) by simp)
  obtain⟨sl2,z2⟩:=slot b _ z1 (inn hb)
  exact⟨sl2,z2⟩
 ·obtain⟨o',z1⟩:=I'.base.there b o z (show b∉([]:List Addr) by simp)
  by_cases hb:b∈gu (envOfC qual scope s0.heap.objs.size f cd :: outer)
  ·obtain⟨sl,z2⟩:=slot b o' z1 hb
   exact⟨_,z2⟩
  ·exact⟨o',kept b o' z1 hb (.inl ⟨o,z⟩)⟩
def Am (C:Addr)(E:XK)(t:TA):TS:=λ_ σ H=>t σ H λvs H1=>vs.length<=sizeLine/\E (.ref C) none H1
def xw {x:Str}{C:Addr}{np cpos pos:Pos}{e0:Expr}{es:List Expr}{t:TA}{Bn newId initId:String}{bmB:List Value}(FB:ExcBaseFacts Bn newId initId bmB)(hbb:bmB.contains (.type "BaseException")=true)(q:PySem.W.excIn K C bmB newId=true)
  (hg:Gl (i7 (kM P w) P w K mg base N qual scope f cd A outer s0 H0 E) x) (hm:mg x=some (.ref C)) (ha:PA (i7 (kM P w) P w K mg base N qual scope f cd A outer s0 H0 E) (e0 :: es) t)
  (he:starEach (e0 :: es) (envOfC qual scope s0.heap.objs.size f cd)=(false,eval e0 (envOfC qual scope s0.heap.objs.size f cd)) :: starEach es (envOfC qual scope s0.heap.objs.size f cd):=by rfl)
  (hpl:(backTo cpos (starEach es (envOfC qual scope s0.heap.objs.size f cd))).any (·.1)=false:=by rfl) (hdb:(x == ("__debug__":Str))=false:=by decide) :
  PS (i7 (kM P w) P w K mg base N qual scope f cd A outer s0 H0 E) (.Raise (some (.Call (.Name x np) (e0 :: es) [] cpos)) none pos) (Am C E t):=by
 intro pins s σ H D I h
 have own:∀{hh:Heap},K.In hh->∃bm Nn nm qn bs hdct sn sub ab col dd k0 k1 k2 k3 k5 mN,hh.get? C=some (excClassObj nm qn C Nn bs bm hdct sn sub ab col dd k0 k1 k2 k3 k5 newId)/\hh.Ns Nn mN/\mN "__init__"=none/\OwnTail hh bmB bm:=λ{hh} X=>by
  have q:=q
  unfold PySem.W.excIn at q
  split at q
  ·rename_i dd cdd sl ho
   split at q
   ·rename_i C' bm k0 k1 k2 k3 n k5 hm hs
    simp only[GV,beq_iff_eq,IQ] at q
    obtain⟨⟨⟨⟨⟨rfl,rfl⟩,hdel⟩,ht⟩,hok⟩,hni⟩:=q
    obtain⟨nm,bs,mro,ns,qn,hd,sn,sub,ab,col,del⟩:=cdd
    dsimp only at hm hdel hok hni
    subst hm hdel
    have hsl:sl=#[k0,k1,k2,k3,some (.builtin n),k5]:=by
     obtain⟨l⟩:=sl
     simp only at hs
     rw[hs]
    subst hsl
    exact⟨bm,ns,nm,qn,bs,hd,sn,sub,ab,col,dd,k0,k1,k2,k3,k5,_,X _ _ ho,.of_isNs (PySem.W.isNs_of_in X hok),PySem.W.nsMap_none_of_in X hok hni,PySem.W.tail_of_in X ht⟩
   ·cases q
  ·cases q
 obtain⟨bm,Nn,nm,qn,bs,hdct,sn,sub,ab,col,dd,k0,k1,k2,k3,k5,mN,hC,hN,hni,TL⟩:=own I.ok.mod.kin
 have hA:=ha cpos pins s σ H _ I h
 refine wpAny_Raise_call_subT (C:=C) (nm:=nm) (q:=qn) (N:=Nn) (bs:=bs) (bm:=bm) (hdct:=hdct) (sn:=sn) (sub:=sub) (ab:=ab) (col:=col) (dd:=dd) (k0:=k0) (k1:=k1) (k2:=k2) (k3:=k3) (k5:=k5) FB (mN:=mN) (TL.hasType hbb) (I.ok.hd rfl) ?_ hni (ot I hg hm ⟨rfl,?_⟩ hdb)
 ·show (backTo cpos (starEach (e0 :: es) (envOfC qual scope s0.heap.objs.size f cd))).any (·.1)=false
  rw[he]
  show (false || (backTo cpos (starEach es (envOfC qual scope s0.heap.objs.size f cd))).any (·.1))=false
  rw[hpl];rfl
 have hA:wpAny _ _ (spliced (backTo cpos (starEach (e0 :: es) (envOfC qual scope s0.heap.objs.size f cd)))) _ _ s:=hA
 show wpAny _ _ (evalArgs (.ref C) true (backTo cpos (starEach (e0 :: es) (envOfC qual scope s0.heap.objs.size f cd))) []) _ _ s
 rw[he] at hA ⊢
 refine Calls.evalArgs_plain (b7 hA λus s2 ⟨vs,H2,I2,r2,hl2,q2⟩=>⟨rfl,by show us.length<=_;rw[<-r2.length];exact hl2,I2.bk _ _ hC,hN.keeps I2.bk,TL.keeps I2.bk,λh' e hx=>?_⟩)
 have above:s0.heap.objs.size<=(envOfC qual scope s0.heap.objs.size f cd).locals:=I2.ok.above
 have nil:∀b:Addr,b∉([]:List Addr):=λb=>by simp
 refine rF (s:={s2 with heap:=h'}) (h:=s2.heap) (base:=base) (h₀:=s0.heap) I2.ok.frames rfl I2.stack I2.hok I2.stkFree (λb o z=>I2.base.there b o z (nil b)) hx λh2 kept slot Ly hok=>?_
 have nL:∀{b:Addr} {o:Obj},s0.heap.get? b=some o->b∉gu outer->b∉gu (envOfC qual scope s0.heap.objs.size f cd :: outer):=λ{b o} z hb hm=>by
  rcases FY.mp (I2.stkSub b hm) with e |e
  ·have:=Ga z
   rw[e] at this
   exact absurd (Gu this above) (GH _)
  ·exact hb e
 have inn:∀{b:Addr},b∈gu outer->b∈gu (envOfC qual scope s0.heap.objs.size f cd :: outer):=λ{b} hb=>by
  obtain⟨en,h1,h2⟩:=Hs.mp hb
  exact Hs.mpr ⟨en,F0 _ h1,h2⟩
 refine⟨e,.ref C,H2,rfl,I2.os,I2.bare,⟨λb o z n hb _=>?_,λb o z n hb _=>?_,λb o z n _=>I2.base.free b o z n (nil b),λb o z _=>?_,I2.base.tups,I2.base.frzs,I2.base.tbls⟩,hok,Ly,q2⟩
 ·exact kept b o (I2.base.keep b o z n hb (nil b)) (nL z hb)
 ·obtain⟨sl,z1⟩:=I2.base.slot b o z n hb (nil b)
  obtain⟨sl2,z2⟩:=slot b _ z1 (inn hb)
  exact⟨sl2,z2⟩
 ·obtain⟨o',z1⟩:=I2.base.there b o z (nil b)
  by_cases hb:b∈gu (envOfC qual scope s0.heap.objs.size f cd :: outer)
  ·obtain⟨sl,z2⟩:=slot b o' z1 hb
   exact⟨_,z2⟩
  ·exact⟨o',kept b o' z1 hb⟩
end
def mroIn (K:Frag)(C:Addr):List Value:=match K.lookup C with
 |some ⟨_,_,.cls cd,_⟩=>cd.mro
 |_=>[]
structure vH (k:Nat)(A:Around):Prop where
 dp:A.depth + 3 * k + 5 < recursionLimit
 un:A.units + 16 * k + 200 < cLine
 gd:A.guards=some []
def eJ.h {k:Nat}{A:Around}(r:eJ k A):vH k A:=⟨r.dp,r.un,r.gd⟩
def vH.units {k:Nat}{A:Around}(r:vH k A):A.units + 64 < cLine:=by have:=r.un;omega
section
variable {P:Program}{w:World}{K:Frag}{mg:Str->Option Value}{base:Heap}
def xP.zC {x qual:Str}{st:Stmt}{f:Addr}{fd:FuncData}{N ps:List Str}{k:Nat}{sp:Sp}(F:xP K x qual st f fd)(S:aH N ps (ar st))(len:∀vs H Q E,sp vs H Q E->vs.length=ps.length)
  (hbody:∀(cdv:Value) (A:Around) (outer:List Env) (s:Shared) (H:Hp) (vs:List V) (Q:VK) (E:XK),eJ k (A.deeper (envOfC qual (ar st) s.heap.objs.size f cdv))->sp vs H Q E->
   ∃t,n5 (i7 (kM P w) P w K mg base N qual (ar st) f cdv A outer s H E) (cT st) t/\t {nx:=λ_ H'=>Q .non H',rt:=Q} (start N vs) H):eB P w K mg base (kM P w) (k + 1) f fd ps sp:=by
 obtain⟨oc,od,kV,doc,pm,an,cdv,ct,osl,rfl,lk,hcd⟩:=F.ex
 exact zL lk hcd S len λA outer s H vs Q E hr hsp=>hbody cdv A outer s H vs Q E hr hsp
end
abbrev D:=PyData
def kD:Key->D
 | .inl i=>.int i
 | .inr x=>.str x
mutual
inductive Rp (K:Frag)(G:Hp):V->D->Prop
 |non:Rp K G .non .none
 |bl (b:Bool):Rp K G (.bl b) (.bool b)
 |int (i:Int):Rp K G (.int i) (.int i)
 |str (x:Str):Rp K G (.str x) (.str x)
 |tup {a:Addr} {xs:List V} {ds:List D}:cP K G a xs->cv K G xs ds->Rp K G (.ref a) (.tuple ds)
 |lst {a:Addr} {xs:List V} {ds:List D}:G a=some (.lst xs)->cv K G xs ds->Rp K G (.ref a) (.list ds)
 |scr {a:Addr} {ns:List Int}:fZ K G a (ns.map V.int)->Rp K G (.ref a) (.dict [(.none,.list (ns.map int))])
 |dK {a:Addr} {kvs:List (Key×V)} {ds:List (D×D)}:G a=some (.dK kvs)->vA K G kvs ds->Rp K G (.ref a) (.dict ds)
 |dT {a:Addr} {kvs:List (List Key×V)} {ds:List (D×D)}:G a=some (.dT kvs)->vC K G kvs ds->Rp K G (.ref a) (.dict ds)
inductive cv (K:Frag)(G:Hp):List V->List D->Prop
 |nil:cv K G [] []
 |cons {x:V} {xs:List V} {d:D} {ds:List D}:Rp K G x d->cv K G xs ds->cv K G (x :: xs) (d :: ds)
inductive vA (K:Frag)(G:Hp):List (Key×V)->List (D×D)->Prop
 |nil:vA K G [] []
 |cons {k:Key} {x:V} {xs:List (Key×V)} {d:D} {ds:List (D×D)}:Rp K G x d->vA K G xs ds->vA K G ((k,x) :: xs) ((kD k,d) :: ds)
inductive vC (K:Frag)(G:Hp):List (List Key×V)->List (D×D)->Prop
 |nil:vC K G [] []
 |cons {k:List Key} {x:V} {xs:List (List Key×V)} {d:D} {ds:List (D×D)}:Rp K G x d->vC K G xs ds->vC K G ((k,x) :: xs) ((.tuple (k.map kD),d) :: ds)
end
section
variable {K:Frag}{G G' H H':Hp}
def Dd {b:Addr}{o:HO}(h:Kt H b o)(hu:∀ps,o≠.tbl ps):H b=some o:=by
 obtain⟨u,e,k,_⟩:=h.some
 rw[e,k hu]
theorem iy {a b:Addr}{o u:HO}(h:Kt H b u)(hb:b≠a)(ha:∀x y,H a≠some (.aX x y)):Kt (upd H a o) b u:=by
 cases u with
 |tbl ps=>
  obtain⟨m,e,k⟩:=h
  refine⟨m,by rw[au hb];exact e,λc hc=>?_⟩
  obtain⟨x,ex,ix⟩:=k c hc
  exact⟨x,by rw[au (λz=>ha x _ (z▸ex))];exact ex,ix⟩
 |_=>exact (au hb).trans h
def Rd.mono {a:Addr}{u:HO}(h:Rd G a u)(s:ah G G')(hu:∀ps,u≠.tbl ps:=by intro _ z;cases z):Rd G' a u:=h.elim (λe=>.inl (Dd (s _ _ e) hu)) λ⟨o,e⟩=>.inr ⟨o,s _ _ e⟩
mutual
theorem Rp.mono (s:ah G G'):∀{x:V} {d:D},Rp K G x d->Rp K G' x d
 |_,_,.non=>.non
 |_,_,.bl b=>.bl b
 |_,_,.int i=>.int i
 |_,_,.str x=>.str x
 |_,_,.tup h hs=>.tup (h.grow s.grow) (cv.mono s hs)
 |_,_,.lst h hs=>.lst (s _ _ h) (cv.mono s hs)
 |_,_,.scr h=>.scr (s.seq h)
 |_,_,.dK h hs=>.dK (s _ _ h) (vA.mono s hs)
 |_,_,.dT h hs=>.dT (s _ _ h) (vC.mono s hs)
theorem cv.mono (s:ah G G'):∀{xs:List V} {ds:List D},cv K G xs ds->cv K G' xs ds
 |_,_,.nil=>.nil
 |_,_,.cons h hs=>.cons (Rp.mono s h) (cv.mono s hs)
theorem vA.mono (s:ah G G'):∀{xs:List (Key×V)} {ds:List (D×D)},vA K G xs ds->vA K G' xs ds
 |_,_,.nil=>.nil
 |_,_,.cons h hs=>.cons (Rp.mono s h) (vA.mono s hs)
theorem vC.mono (s:ah G G'):∀{xs:List (List Key×V)} {ds:List (D×D)},vC K G xs ds->vC K G' xs ds
 |_,_,.nil=>.nil
 |_,_,.cons h hs=>.cons (Rp.mono s h) (vC.mono s hs)
end
theorem cv.len:∀{xs:List V} {ds:List D},cv K G xs ds->xs.length=ds.length
 |_,_,.nil=>rfl
 |_,_,.cons _ t=>by simp[cv.len t]
theorem cv.at:∀{xs:List V} {ds:List D} {i:Nat} {d:D},cv K G xs ds->ds[i]? =some d->∃x,xs[i]? =some x/\Rp K G x d
 |_,_,_,_,.nil,e=>by simp at e
 |_,_,0,_,.cons r _,e=>by simp at e;subst e;exact⟨_,rfl,r⟩
 |_,_,i + 1,x,.cons _ t,e=>by
  obtain⟨u,h1,h2⟩:=cv.at (i:=i) (d:=x) t (by simpa using e)
  exact⟨u,by simpa using h1,h2⟩
theorem cv.at':∀{xs:List V} {ds:List D} {i:Nat} {x:V},cv K G xs ds->xs[i]? =some x->∃d,ds[i]? =some d/\Rp K G x d
 |_,_,_,_,.nil,e=>by simp at e
 |_,_,0,_,.cons r _,e=>by simp at e;subst e;exact⟨_,rfl,r⟩
 |_,_,i + 1,x,.cons _ t,e=>by
  obtain⟨u,h1,h2⟩:=cv.at' (i:=i) (x:=x) t (by simpa using e)
  exact⟨u,by simpa using h1,h2⟩
theorem cv.append:∀{xs ys:List V} {ds es:List D},cv K G xs ds->cv K G ys es->cv K G (xs ++ ys) (ds ++ es)
 |_,_,_,_,.nil,s=>s
 |_,_,_,_,.cons r t,s=>.cons r (cv.append t s)
def cv.snoc {xs:List V}{ds:List D}{x:V}{d:D}(h:cv K G xs ds)(q:Rp K G x d):cv K G (xs ++ [x]) (ds ++ [d]):=h.append (.cons q .nil)
theorem cv.take:∀{xs:List V} {ds:List D} (n:Nat),cv K G xs ds->cv K G (xs.take n) (ds.take n)
 |_,_,0,_=>.nil
 |_,_,_ + 1,.nil=>.nil
 |_,_,n + 1,.cons r t=>.cons r (cv.take n t)
theorem cv.drop:∀{xs:List V} {ds:List D} (n:Nat),cv K G xs ds->cv K G (xs.drop n) (ds.drop n)
 |_,_,0,r=>r
 |_,_,_ + 1,.nil=>.nil
 |_,_,n + 1,.cons _ t=>cv.drop n t
mutual
def xK:D->Bool
 | .dict _=>false
 | .list ds=>pB ds
 | .tuple ds=>pB ds
 |_=>true
def pB:List D->Bool
 | []=>true
 |d :: ds=>xK d && pB ds
end
mutual
theorem Rp.rep:∀{x:V} {d:D},Rp K G x d->xK d=true->Rep K G x d
 |_,_,.non,_=>.non
 |_,_,.bl b,_=>.bl b
 |_,_,.int i,_=>.int i
 |_,_,.str x,_=>.str x
 |_,_,.tup h hs,e=>.tup h (cv.reps hs (by simpa[xK] using e))
 |_,_,.lst h hs,e=>.lst (.inl (.inl h)) (cv.reps hs (by simpa[xK] using e))
 |_,_,.scr _,e=>by simp[xK] at e
 |_,_,.dK _ _,e=>by simp[xK] at e
 |_,_,.dT _ _,e=>by simp[xK] at e
theorem cv.reps:∀{xs:List V} {ds:List D},cv K G xs ds->pB ds=true->iJ K G xs ds
 |_,_,.nil,_=>.nil
 |_,_,.cons h hs,e=>.cons (Rp.rep h (by simp[pB] at e;exact e.1)) (cv.reps hs (by simp[pB] at e;exact e.2))
end
def Own (K:Frag)(G H:Hp)(a:Addr):D->Prop
 | .list ds=>∃xs,H a=some (.lst xs)/\cv K G xs ds
 | .dict ds=>(∃kvs,H a=some (.dK kvs)/\vA K G kvs ds)\/∃kvs,H a=some (.dT kvs)/\vC K G kvs ds
 |_=>False
def Own.obj {a:Addr}{d:D}(h:Own K G H a d):∃o,H a=some o:=by
 cases d <;> first |exact h.elim |skip
 ·obtain⟨xs,e,_⟩:=h;exact⟨_,e⟩
 ·rcases h with⟨_,e,_⟩ | ⟨_,e,_⟩ <;> exact⟨_,e⟩
def Own.mono {a:Addr}{d:D}(h:Own K G H a d)(s:ah G G')(m:∀o,H a=some o->Kt H' a o):Own K G' H' a d:=by
 cases d <;> first |exact h.elim |skip
 ·obtain⟨xs,e,r⟩:=h;exact⟨xs,m _ e,r.mono s⟩
 ·rcases h with⟨k,e,r⟩ | ⟨k,e,r⟩
  ·exact .inl ⟨k,m _ e,r.mono s⟩
  ·exact .inr ⟨k,m _ e,r.mono s⟩
def Own.rp {a:Addr}{d:D}(h:Own K G H a d)(n:G a=none){G':Hp}(s:ah G G')(e:∀o,H a=some o->G' a=some o):Rp K G' (.ref a) d:=by
 cases d <;> first |exact h.elim |skip
 ·obtain⟨xs,q,r⟩:=h;exact .lst (e _ q) (r.mono s)
 ·rcases h with⟨k,q,r⟩ | ⟨k,q,r⟩
  ·exact .dK (e _ q) (r.mono s)
  ·exact .dT (e _ q) (r.mono s)
def je (K:Frag)(B:Option Addr)(G H:Hp)(v:V)(d:D):Prop:=Rp K G v d\/∃a,v=.ref a/\B≠some a/\Own K G H a d
def fE (B:Option Addr)(H H':Hp):Prop:=(∀b o,H b=some o->B≠some b->Kt H' b o)/\∀b o u,H b=some (.aX o u)->H' b=some (.aX o u)
def fE.refl (B:Option Addr)(H:Hp):fE B H H:=⟨λ_ _ h _=>Kt.of h,λ_ _ _ h=>h⟩
theorem lY {B:Option Addr}{b:Addr}{o:HO}(h1:Kt H b o)(y:fE B H H')(n:B≠some b):Kt H' b o:=by
 cases o with
 |tbl ps=>
  obtain⟨m,e,k⟩:=h1
  obtain⟨m2,e2,k2⟩:=y.1 b _ e n
  refine⟨m ++ m2,by rw[e2,Array.append_assoc],λc hc=>?_⟩
  rw[Array.toList_append,GB] at hc
  rcases hc with hc |hc
  ·obtain⟨o,eo,io⟩:=k c hc;exact⟨o,y.2 c _ _ eo,io⟩
  ·exact k2 c hc
 |_=>exact y.1 b _ h1 n
def fE.trans {B:Option Addr}{H1:Hp}(x:fE B H H1)(y:fE B H1 H'):fE B H H':=⟨λb o h n=>lY (x.1 b o h n) y n,λb o u h=>y.2 b o u (x.2 b o u h)⟩
def ah.mov (s:ah H H')(B:Option Addr):fE B H H':=⟨λb o h _=>s b o h,λb o u h=>s b _ h⟩
def je.mono {B:Option Addr}{v:V}{d:D}(h:je K B G H v d)(s:ah G G')(m:fE B H H'):je K B G' H' v d:=by
 rcases h with h | ⟨a,e,n,h⟩
 ·exact .inl (h.mono s)
 ·exact .inr ⟨a,e,n,h.mono s λo q=>m.1 a o q n⟩
def je.rpH {B:Option Addr}{v:V}{d:D}(h:je K B G H v d)(s:ah G H):Rp K H v d:=by
 rcases h with h | ⟨a,rfl,n,h⟩
 ·exact h.mono s
 ·cases d <;> first |exact h.elim |skip
  ·obtain⟨xs,q,r⟩:=h;exact .lst q (r.mono s)
  ·rcases h with⟨k,q,r⟩ | ⟨k,q,r⟩
   ·exact .dK q (r.mono s)
   ·exact .dT q (r.mono s)
def je.list {B:Option Addr}{v:V}{ds:List D}(h:je K B G H v (.list ds))(s:ah G H):∃a xs,v=.ref a/\Rd H a (.lst xs)/\cv K G xs ds:=by
 rcases h with h | ⟨a,rfl,n,xs,q,r⟩
 ·cases h with
  |lst h r=>exact⟨_,_,rfl,.inl (s _ _ h),r⟩
 ·exact⟨a,xs,rfl,.inl q,r⟩
def je.tuple {B:Option Addr}{v:V}{ds:List D}(h:je K B G H v (.tuple ds))(s:ah G H):∃a xs,v=.ref a/\cP K H a xs/\cv K G xs ds:=by
 rcases h with h | ⟨a,rfl,n,h⟩
 ·cases h with
  |tup h r=>exact⟨_,_,rfl,h.grow s.grow,r⟩
 ·exact h.elim
def je.int {B:Option Addr}{v:V}{i:Int}(h:je K B G H v (.int i)):v=.int i:=by
 rcases h with h | ⟨a,rfl,n,h⟩
 ·cases h;rfl
 ·exact h.elim
def je.bool {B:Option Addr}{v:V}{b:Bool}(h:je K B G H v (.bool b)):v=.bl b:=by
 rcases h with h | ⟨a,rfl,n,h⟩
 ·cases h;rfl
 ·exact h.elim
def je.str {B:Option Addr}{v:V}{x:Str}(h:je K B G H v (.str x)):v=.str x:=by
 rcases h with h | ⟨a,rfl,n,h⟩
 ·cases h;rfl
 ·exact h.elim
def je.none {B:Option Addr}{v:V}(h:je K B G H v .none):v=.non:=by
 rcases h with h | ⟨a,rfl,n,h⟩
 ·cases h;rfl
 ·exact h.elim
end
def Fz:HO->Prop
 | .tup _=>True
 | .aX _ _=>True
 |_=>False
def Mx (H:Hp)(b:Addr):Prop:=H b≠none/\∀o,H b=some o->¬Fz o
def Mx.lst {H:Hp}{b:Addr}{xs:List V}(h:H b=some (.lst xs)):Mx H b:=⟨by rw[h];simp,λys z=>by rw[h] at z;cases z;exact λy=>y⟩
theorem Mx.same {H H':Hp}{b:Addr}(h:Mx H b)(m:∀o,H b=some o->Kt H' b o):Mx H' b:=by
 obtain⟨h1,h2⟩:=h
 cases e:H b with
 |none=>exact absurd e h1
 |some o=>
  obtain⟨u,eu,k1,k2⟩:=(m o e).some
  refine⟨by rw[eu];simp,λxs z=>?_⟩
  rw[eu] at z
  cases z
  by_cases c:∃ps,o=.tbl ps
  ·obtain⟨ps,e⟩:=k2 c;rw[e];exact λy=>y
  ·rw[k1 λps e=>c ⟨ps,e⟩];exact h2 o e
def Own.mx {K:Frag}{G H:Hp}{a:Addr}{d:D}(h:Own K G H a d):Mx H a:=by
 cases d <;> first |exact h.elim |skip
 ·obtain⟨xs,e,_⟩:=h;exact Mx.lst e
 ·rcases h with⟨k,e,_⟩ | ⟨k,e,_⟩ <;> exact⟨by rw[e];simp,λys z=>by rw[e] at z;cases z;exact λy=>y⟩
open Classical in
noncomputable def j3 (G H:Hp):Hp:=λb=>match G b with
 |some o=>some o
 |none=>match H b with
  |some o=>if Fz o then some o else none
  |none=>none
def ng {G H:Hp}:ah G (j3 G H):=λb o e=>Kt.of (by unfold j3;rw[e])
theorem sF {G H:Hp}(s:ah G H){b:Addr}{o:HO}(e:H b=some o)(f:Fz o):j3 G H b=some o:=by
 unfold j3
 cases q:G b with
 |some u=>
  obtain⟨u',eu,k1,k2⟩:=(s b u q).some
  rw[e] at eu
  cases eu
  by_cases c:∃ps,u=.tbl ps
  ·obtain⟨ps,z⟩:=k2 c;subst z;exact f.elim
  ·rw[k1 λps z=>c ⟨ps,z⟩]
 |none=>simp only[e];rw[FZ f]
theorem p9 {G H:Hp}(s:ah G H):ah (j3 G H) H:=λb o e=>by
 unfold j3 at e
 cases q:G b with
 |some u=>rw[q] at e;cases e;exact s b _ q
 |none=>
  rw[q] at e
  cases q2:H b with
  |none=>rw[q2] at e;cases e
  |some u=>
   rw[q2] at e
   dsimp only at e
   split at e
   ·cases e;exact Kt.of q2
   ·cases e
theorem sS {G H H':Hp}(hh:ah H H'){b:Addr}(m:Mx H b):j3 G H' b=G b:=by
 unfold j3
 cases q:G b with
 |some u=>rfl
 |none=>
  obtain⟨h1,h2⟩:=m
  cases e:H b with
  |none=>exact absurd e h1
  |some o=>
   have hm:=(show Mx H b from⟨h1,h2⟩).same (hh b)
   cases e2:H' b with
   |none=>rfl
   |some u=>simp only;rw[Gd (hm.2 u e2)]
def jH {K:Frag}{G H:Hp}(s:ah G H){a:Addr}{xs:List V}(h:cP K H a xs):cP K (j3 G H) a xs:=by
 rcases h with (h | ⟨o,h⟩) |h
 ·exact .inl (.inl (sF s h trivial))
 ·exact .inl (.inr ⟨o,sF s h trivial⟩)
 ·exact .inr h
structure Fx where
 K:Frag
 H0:Hp
 G0:Hp
 par:List Addr
 ca:Str->Addr
 br:Nat->Bool
 bx:Option Addr
inductive Sl where
 |no |fz (d:D) |ow (d:D) |bx |br (d:D)
abbrev En:=List Sl
inductive Nv where
 |no |da (d:D) |bx
def Sl.val:Sl->Nv
 | .no=>.no
 | .fz d=>.da d
 | .ow d=>.da d
 | .br d=>.da d
 | .bx=>.bx
def vl (env:En):List Nv:=env.map Sl.val
def Ew (Γ:Fx)(B:Option Addr)(G H:Hp)(i:Nat)(o:Option (Option V)):Sl->Prop
 | .no=>True
 | .fz d=>∃v,o=some (some v)/\Rp Γ.K G v d
 | .ow d=>∃a,o=some (some (.ref a))/\Γ.H0 a=none/\G a=none/\B≠some a/\Own Γ.K G H a d
 | .bx=>∃a,o=some (some (.ref a))/\B=some a
 | .br d=>Γ.br i=true/\∃a,o=some (some (.ref a))/\B≠some a/\a∉Γ.par/\Own Γ.K G H a d
structure SR (Γ:Fx)(B:Option Addr)(G H:Hp)(σ:St)(env:En)(β:Int):Prop where
 sub:ah G H
 old:ah Γ.G0 G
 new:∀b,Mx Γ.H0 b->Γ.G0 b=none->G b=none
 keep:∀b o,Γ.H0 b=some o->b∉Γ.par->Kt H b o
 pin:∀b,b∈Γ.par->Mx H b
 fix:∀b,Γ.bx=some b->B=some b
 box:∀b,B=some b->H b=some (.lst [.int β])/\G b=none/\(b∈Γ.par\/Γ.H0 b=none)
 len:σ.length=env.length
 slot:∀(i:Nat) (s:Sl),env[i]? =some s->Ew Γ B G H i (σ[i]?) s
 sep:∀(i j:Nat) (a:Addr) (d e:D),env[i]? =some (.ow d)->env[j]? =some (.ow e)->σ[i]? =some (some (.ref a))->σ[j]? =some (some (.ref a))->i=j
structure Ext (G H G' H':Hp):Prop where
 hh:ah H H'
 gg:ah G G'
 gh:ah G' H'
 on:∀b,Mx H b->G' b=G b
def Ext.refl {G H:Hp}(s:ah G H):Ext G H G H:=⟨ah.refl _,ah.refl _,s,λ_ _=>rfl⟩
def Ext.tups {G H H':Hp}(s:ah G H)(hh:ah H H'):Ext G H (j3 G H') H':=⟨hh,ng,p9 (s.trans hh),λ_ m=>sS hh m⟩
def Ext.new {G H:Hp}(s:ah G H){p:Addr}{o:HO}(h:H p=none):Ext G H (upd G p o) (upd H p o):=by
 refine⟨ah.new h,ah.new (s.free h),λb u e=>?_,λb hb=>?_⟩
 ·by_cases z:b=p
  ·subst z;rw[av] at e;exact Kt.of (by rw[av];exact e)
  ·rw[au z] at e;exact iy (s b u e) z (λx y w=>by rw[h] at w;cases w)
 ·exact au (λz=>hb.1 (by rw[z];exact h))
def Ext.own {G H:Hp}(s:ah G H){p:Addr}{o:HO}(h:H p=none):Ext G H G (upd H p o):=
 ⟨ah.new h,ah.refl _,s.trans (ah.new h),λ_ _=>rfl⟩
section
variable {Γ:Fx}{B:Option Addr}{G H G' H':Hp}{σ:St}{env:En}{β:Int}
def SR.there (I:SR Γ B G H σ env β){b:Addr}(h:Γ.H0 b≠none):H b≠none:=by
 by_cases hp:b∈Γ.par
 ·exact (I.pin b hp).1
 ·cases e:Γ.H0 b with
  |none=>exact absurd e h
  |some o=>obtain⟨u,eu,_⟩:=(I.keep b o e hp).some;rw[eu];simp
def SR.thereM (I:SR Γ B G H σ env β){b:Addr}(h:Mx Γ.H0 b):Mx H b:=by
 by_cases hp:b∈Γ.par
 ·exact I.pin b hp
 ·exact h.same λo e=>I.keep b o e hp
def SR.ext (I:SR Γ B G H σ env β)(x:Ext G H G' H'):SR Γ B G' H' σ env β:=by
 refine⟨x.gh,I.old.trans x.gg,λb h1 h2=>?_,λb o h1 h2=>(I.keep b o h1 h2).step x.hh,λb hb=>?_,I.fix,λb e=>?_,I.len,λi s e=>?_,I.sep⟩
 ·rw[x.on b (I.thereM h1)];exact I.new b h1 h2
 ·exact (I.pin b hb).same λo e=>x.hh b o e
 ·obtain⟨h1,h2,h3⟩:=I.box b e
  exact⟨x.hh b _ h1,by rw[x.on b (Mx.lst h1)];exact h2,h3⟩
 ·have q:=I.slot i s e
  cases s with
  |no=>trivial
  |fz d=>obtain⟨v,h1,h2⟩:=q;exact⟨v,h1,h2.mono x.gg⟩
  |ow d=>
   obtain⟨a,h1,h2,h3,h4,h5⟩:=q
   exact⟨a,h1,h2,by rw[x.on a h5.mx];exact h3,h4,h5.mono x.gg λo q=>x.hh a o q⟩
  |bx=>exact q
  |br d=>obtain⟨b1,a,h1,h4,hp,h5⟩:=q;exact⟨b1,a,h1,h4,hp,h5.mono x.gg λo q=>x.hh a o q⟩
def gM (env:En)(i:Nat):En:=match env[i]? with
 |some (.ow d)=>env.set i (.fz d)
 |_=>env
def aX (L:List Nat)(env:En):En:=L.foldl gM env
def cJ (L M:List Nat)(env:En):aX (L ++ M) env=aX M (aX L env):=by unfold aX;rw[List.foldl_append]
def qX (env:En)(i:Nat)(s:Sl)(h:∀t,env[i]? =some t->t.val=s.val):vl (env.set i s)=vl env:=by
 unfold vl
 apply Ik
 intro j
 rw[Gf,Gf,List.getElem?_set]
 by_cases e:i=j
 ·subst e
  by_cases hi:i < env.length
  ·simp only[G8,hi]
   have:=h _ (FU hi)
   simp[FU hi,this]
  ·simp only[G8,hi,GJ]
   rw[Hv (by omega)]
 ·simp[e]
def y9 (env:En)(i:Nat):vl (gM env i)=vl env:=by
 unfold gM
 split
 ·rename_i d e
  exact qX _ _ _ λt ht=>by rw[e] at ht;cases ht;rfl
 ·rfl
theorem iQ (L:List Nat)(env:En):vl (aX L env)=vl env:=by
 unfold aX
 induction L generalizing env with
 |nil=>rfl
 |cons i L ih=>rw[foldl_cons,ih,y9]
theorem zR {i:Nat}{d:D}(h:(vl env)[i]? =some (.da d)):env[i]? =some (.fz d)\/env[i]? =some (.ow d)\/env[i]? =some (.br d):=by
 unfold vl at h
 rw[Gf] at h
 cases e:env[i]? with
 |none=>rw[e] at h;simp at h
 |some s=>
  rw[e] at h
  cases s with
  |no=>simp[Sl.val] at h
  |fz d'=>simp[Sl.val] at h;subst h;exact .inl rfl
  |ow d'=>simp[Sl.val] at h;subst h;exact .inr (.inl rfl)
  |bx=>simp[Sl.val] at h
  |br d'=>simp[Sl.val] at h;subst h;exact .inr (.inr rfl)
theorem C4 {i:Nat}(h:(vl env)[i]? =some .bx):env[i]? =some .bx:=by
 unfold vl at h
 rw[Gf] at h
 cases e:env[i]? with
 |none=>rw[e] at h;simp at h
 |some s=>
  rw[e] at h
  cases s with
  |bx=>rfl
  |_=>simp[Sl.val] at h
def SR.freeze (I:SR Γ B G H σ env β)(i:Nat)(hb:Γ.br i=false){d:D}(h:(vl env)[i]? =some (.da d)):∃G' v,SR Γ B G' H σ (gM env i) β/\ah G G'/\σ[i]? =some (some v)/\Rp Γ.K G' v d:=by
 rcases zR h with e |e |e
 ·obtain⟨v,h1,h2⟩:=I.slot i _ e
  exact⟨G,v,by unfold gM;rw[e];exact I,ah.refl _,h1,h2⟩
 rotate_left
 ·obtain⟨z,_⟩:=I.slot i _ e
  rw[hb] at z;cases z
 ·obtain⟨a,h1,h2,h3,h4,h5⟩:=I.slot i _ e
  obtain⟨o,ho⟩:=h5.obj
  have sG:ah G (upd G a o):=ah.new h3
  have hi:i < env.length:=(Gs.mp e).1
  have hr:Rp Γ.K (upd G a o) (.ref a) d:=h5.rp h3 sG λo' q=>by rw[ho] at q;cases q;exact av
  refine⟨upd G a o,.ref a,?_,sG,h1,hr⟩
  unfold gM
  rw[e]
  refine⟨λb u q=>?_,I.old.trans sG,λb n1 n2=>?_,I.keep,I.pin,I.fix,λb q=>?_,by rw[HK];exact I.len,λj s q=>?_,λj k c d1 d2 q1 q2 q3 q4=>?_⟩
  ·by_cases z:b=a
   ·subst z;rw[av] at q;cases q;exact Kt.of ho
   ·rw[au z] at q;exact I.sub b u q
  ·rw[au (λz=>n1.1 (by rw[z];exact h2))];exact I.new b n1 n2
  ·obtain⟨k1,k2,k3⟩:=I.box b q
   exact⟨k1,by rw[au (λz=>h4 (by rw[<-z];exact q))];exact k2,k3⟩
  ·by_cases z:j=i
   ·subst z
    rw[Gq hi] at q
    cases q
    exact⟨.ref a,h1,hr⟩
   ·rw[Gp (Ne.symm z)] at q
    have w:=I.slot j s q
    cases s with
    |no=>trivial
    |fz d'=>obtain⟨v,w1,w2⟩:=w;exact⟨v,w1,w2.mono sG⟩
    |ow d'=>
     obtain⟨c,w1,w2,w3,w4,w5⟩:=w
     have ca:c≠a:=λz2=>z (I.sep j i c d' d q e w1 (by rw[z2];exact h1))
     exact⟨c,w1,w2,by rw[au ca];exact w3,w4,w5.mono sG λo q=>Kt.of q⟩
    |bx=>exact w
    |br d'=>obtain⟨b1,c,w1,w4,wp,w5⟩:=w;exact⟨b1,c,w1,w4,wp,w5.mono sG λo q=>Kt.of q⟩
  ·have ne:∀{j:Nat} {d':D},(env.set i (Sl.fz d))[j]? =some (.ow d')->env[j]? =some (.ow d'):=λ{j d'} q=>by
    by_cases z:j=i
    ·subst z;rw[Gq hi] at q;cases q
    ·rw[Gp (Ne.symm z)] at q;exact q
   exact I.sep j k c d1 d2 (ne q1) (ne q2) q3 q4
theorem SR.aX (I:SR Γ B G H σ env β)(L:List Nat)(hb:∀i,i∈L->Γ.br i=false):∃G',SR Γ B G' H σ (aX L env) β/\ah G G':=by
 induction L generalizing env G with
 |nil=>exact⟨G,I,ah.refl _⟩
 |cons i L ih=>
  show ∃G',SR Γ B G' H σ (L2.aX L (gM env i)) β/\ah G G'
  have key:∃G1,SR Γ B G1 H σ (gM env i) β/\ah G G1:=by
   cases e:env[i]? with
   |none=>exact⟨G,by unfold gM;rw[e];exact I,ah.refl _⟩
   |some s=>
    cases s with
    |ow d=>
     obtain⟨G1,v,h1,h2,_⟩:=I.freeze i (hb i (Gg ..)) (d:=d) (by unfold vl;rw[Gf,e];rfl)
     exact⟨G1,h1,h2⟩
    |_=>exact⟨G,by unfold gM;rw[e];exact I,ah.refl _⟩
  obtain⟨G1,I1,s1⟩:=key
  obtain⟨G2,I2,s2⟩:=ih I1 λj hj=>hb j (F0 _ hj)
  exact⟨G2,I2,s1.trans s2⟩
def SR.set (I:SR Γ B G H σ env β){i:Nat}(hi:i < env.length){v:V}{d:D}(h:Rp Γ.K G v d):SR Γ B G H (σ.set i (some v)) (env.set i (.fz d)) β:=by
 have hs:i < σ.length:=by rw[I.len];exact hi
 refine⟨I.sub,I.old,I.new,I.keep,I.pin,I.fix,I.box,by rw[HK,HK];exact I.len,λj s q=>?_,λj k c d1 d2 q1 q2 q3 q4=>?_⟩
 ·by_cases z:j=i
  ·subst z
   rw[Gq hi] at q
   cases q
   exact⟨v,by rw[Gq hs],h⟩
  ·rw[Gp (Ne.symm z)] at q ⊢
   exact I.slot j s q
 ·have ne:∀{j:Nat} {d':D},(env.set i (Sl.fz d))[j]? =some (.ow d')->j≠i/\env[j]? =some (.ow d'):=λ{j d'} q=>by
   by_cases z:j=i
   ·subst z;rw[Gq hi] at q;cases q
   ·rw[Gp (Ne.symm z)] at q;exact⟨z,q⟩
  obtain⟨n1,e1⟩:=ne q1
  obtain⟨n2,e2⟩:=ne q2
  rw[Gp (Ne.symm n1)] at q3
  rw[Gp (Ne.symm n2)] at q4
  exact I.sep j k c d1 d2 e1 e2 q3 q4
def SR.setOw (I:SR Γ B G H σ env β){i:Nat}(hi:i < env.length){a:Addr}{d:D}(h0:Γ.H0 a=none)(hg:G a=none)(hb:B≠some a)(h:Own Γ.K G H a d)(hn:∀(j:Nat) (d':D),env[j]? =some (.ow d')->j≠i->σ[j]?≠some (some (.ref a))):SR Γ B G H (σ.set i (some (.ref a))) (env.set i (.ow d)) β:=by
 have hs:i < σ.length:=by rw[I.len];exact hi
 refine⟨I.sub,I.old,I.new,I.keep,I.pin,I.fix,I.box,by rw[HK,HK];exact I.len,λj s q=>?_,λj k c d1 d2 q1 q2 q3 q4=>?_⟩
 ·by_cases z:j=i
  ·subst z
   rw[Gq hi] at q
   cases q
   exact⟨a,by rw[Gq hs],h0,hg,hb,h⟩
  ·rw[Gp (Ne.symm z)] at q ⊢
   exact I.slot j s q
 ·by_cases z1:j=i
  ·by_cases z2:k=i
   ·rw[z1,z2]
   ·subst z1
    rw[Gp (Ne.symm z2)] at q2 q4
    rw[Gq hs] at q3
    cases q3
    exact absurd q4 (hn k d2 q2 z2)
  ·by_cases z2:k=i
   ·subst z2
    rw[Gp (Ne.symm z1)] at q1 q3
    rw[Gq hs] at q4
    cases q4
    exact absurd q3 (hn j d1 q1 z1)
   ·rw[Gp (Ne.symm z1)] at q1 q3
    rw[Gp (Ne.symm z2)] at q2 q4
    exact I.sep j k c d1 d2 q1 q2 q3 q4
def SR.fresh (I:SR Γ B G H σ env β){a:Addr}(h:H a=none):Γ.H0 a=none/\G a=none/\B≠some a/\∀(j:Nat) (d:D),env[j]? =some (.ow d)->σ[j]?≠some (some (.ref a)):=by
 have hB:B≠some a:=λz=>by rw[(I.box a z).1] at h;cases h
 refine⟨?_,I.sub.free h,hB,λj d e z=>?_⟩
 ·cases e:Γ.H0 a with
  |none=>rfl
  |some o=>exact absurd h (I.there (by rw[e];simp))
 ·obtain⟨c,h1,_,_,_,h5⟩:=I.slot j _ e
  rw[z] at h1
  cases h1
  obtain⟨o,ho⟩:=h5.obj
  rw[h] at ho;cases ho
def SR.write (I:SR Γ B G H σ env β)(hb:∀j,Γ.br j=false){i:Nat}{a:Addr}{d d':D}{o:HO}(e:env[i]? =some (.ow d))(ea:σ[i]? =some (some (.ref a)))(h:∀H',H' a=some o->ah G H'->Own Γ.K G H' a d'):SR Γ B G (upd H a o) σ (env.set i (.ow d')) β:=by
 obtain⟨a',h1,h2,h3,h4,h5⟩:=I.slot i _ e
 rw[ea] at h1;cases h1
 have hi:i < env.length:=(Gs.mp e).1
 have ha:∀x y,H a≠some (.aX x y):=λx y w=>h5.mx.2 _ w trivial
 have sub:ah G (upd H a o):=λb u q=>iy (I.sub b u q) (λz=>by rw[z,h3] at q;cases q) ha
 refine⟨sub,I.old,I.new,λb u q n=>?_,λb q=>?_,I.fix,λb q=>?_,by rw[HK];exact I.len,λj s q=>?_,λj k c d1 d2 q1 q2 q3 q4=>?_⟩
 ·exact iy (I.keep b u q n) (λz=>by rw[z,h2] at q;cases q) ha
 ·by_cases z:b=a
  ·subst z;exact (h _ av sub).mx
  ·exact (I.pin b q).same λo e=>Kt.of (by rw[au z];exact e)
 ·obtain⟨k1,k2,k3⟩:=I.box b q
  exact⟨by rw[au (λz=>h4 (by rw[<-z];exact q))];exact k1,k2,k3⟩
 ·by_cases z:j=i
  ·subst z
   rw[Gq hi] at q
   cases q
   exact⟨a,ea,h2,h3,h4,h _ av sub⟩
  ·rw[Gp (Ne.symm z)] at q
   have w:=I.slot j s q
   cases s with
   |no=>trivial
   |fz d1=>exact w
   |ow d1=>
    obtain⟨c,w1,w2,w3,w4,w5⟩:=w
    have ca:c≠a:=λz2=>z (I.sep j i c d1 d q e w1 (by rw[z2];exact ea))
    exact⟨c,w1,w2,w3,w4,w5.mono (ah.refl _) λo q=>Kt.of (by rw[au ca];exact q)⟩
   |bx=>exact w
   |br d1=>obtain⟨b1,_⟩:=w;rw[hb j] at b1;cases b1
 ·have back:∀{j:Nat} {d1:D},(env.set i (Sl.ow d'))[j]? =some (.ow d1)->∃d2,env[j]? =some (.ow d2):=λ{j d1} q=>by
   by_cases z:j=i
   ·subst z;exact⟨d,e⟩
   ·rw[Gp (Ne.symm z)] at q;exact⟨d1,q⟩
  obtain⟨_,b1⟩:=back q1
  obtain⟨_,b2⟩:=back q2
  exact I.sep j k c _ _ b1 b2 q3 q4
end
inductive R (α:Type) where
 |ok (a:α) (β:Int)
 |exc (c:Str)
 |bad
def R.bnd {α γ:Type}(r:R α)(k:α->Int->R γ):R γ:=match r with
 | .ok a β=>k a β
 | .exc c=>.exc c
 | .bad=>.bad
def R.of {α:Type}(o:Option α)(β:Int):R α:=match o with
 |some a=>.ok a β
 |none=>.bad
abbrev VF (α:Type):=List Nv->Int->R α
def Kp (Γ:Fx)(H':Hp):Prop:=∀b o,Γ.H0 b=some o->b∉Γ.par->Kt H' b o
def Out {α:Type}(Γ:Fx)(E:XK)(r:R α)(P:α->Int->Prop):Prop:=match r with
 | .ok a β=>P a β
 | .exc c=>∀H',Kp Γ H'->E (.ref (Γ.ca c)) none H'
 | .bad=>False
section
variable {α γ:Type}{Γ:Fx}{E:XK}
theorem Out.bnd {r:R α}{k:α->Int->R γ}{P:γ->Int->Prop}(h:Out Γ E (r.bnd k) P):Out Γ E r λa β=>Out Γ E (k a β) P:=by
 cases r with
 |ok a β=>exact h
 |exc c=>exact h
 |bad=>exact h
theorem Out.imp {r:R α}{P P':α->Int->Prop}(h:Out Γ E r P)(i:∀a β,P a β->P' a β):Out Γ E r P':=by
 cases r with
 |ok a β=>exact i a β h
 |exc c=>exact h
 |bad=>exact h
theorem Out.of {o:Option α}{β:Int}{P:α->Int->Prop}(h:Out Γ E (R.of o β) P):∃a,o=some a/\P a β:=by
 cases o with
 |none=>exact h.elim
 |some a=>exact⟨a,rfl,h⟩
end
inductive Md where
 |b |v |w
def VO (K:Frag)(B:Option Addr)(H G' H':Hp):Md->D->V->Prop
 | .b,d,v=>je K B G' H' v d
 | .v,d,v=>Rp K G' v d
 | .w,d,v=>∃a,v=.ref a/\H a=none/\G' a=none/\Own K G' H' a d
def pT (Γ:Fx)(E:XK)(f:VF D)(L:List Nat)(md:Md):TE:=λσ H Q=>∃env G B β,SR Γ B G H σ env β/\
 Out Γ E (f (vl env) β) λd β'=>∀v G' H',SR Γ B G' H' σ (aX L env) β'->ah G G'->fE B H H'->VO Γ.K B H G' H' md d v->Q v H'
def SE (X:Cx)(Γ:Fx)(E:XK)(e:Expr)(f:VF D)(L:List Nat)(md:Md):Prop:=PE X e (pT Γ E f L md)
def qT (Γ:Fx)(E:XK)(f:VF Bool)(L:List Nat):TT:=λσ H Q=>∃env G B β,SR Γ B G H σ env β/\
 Out Γ E (f (vl env) β) λc β'=>∀G' H',SR Γ B G' H' σ (aX L env) β'->ah G G'->fE B H H'->Q c H'
def uH (X:Cx)(Γ:Fx)(E:XK)(e:Expr)(f:VF Bool)(L:List Nat):Prop:=PT X e (qT Γ E f L)
def mG (X:Cx)(Γ:Fx)(E:XK)(e:Expr)(f:VF Bool)(L:List Nat):Prop:=PW X e (qT Γ E f L)
def aT (Γ:Fx)(E:XK)(f:VF (List D))(L:List Nat):TA:=λσ H Q=>∃env G B β,SR Γ B G H σ env β/\
 Out Γ E (f (vl env) β) λds β'=>∀vs G' H',SR Γ B G' H' σ (aX L env) β'->ah G G'->fE B H H'->cv Γ.K G' vs ds->Q vs H'
def SA (X:Cx)(Γ:Fx)(E:XK)(es:List Expr)(f:VF (List D))(L:List Nat):Prop:=PA X es (aT Γ E f L)
def PE.post' {X:Cx}{e:Expr}{t u:TE}(h:PE X e t)(m:∀σ H Q,u σ H Q->t σ H Q):PE X e u:=λpins s σ H Q I q=>h pins s σ H Q I (m σ H Q q)
def PT.post {X:Cx}{e:Expr}{t u:TT}(h:PT X e t)(m:∀σ H Q,u σ H Q->t σ H Q):PT X e u:=λpins s σ H Q I q=>h pins s σ H Q I (m σ H Q q)
def PW.post {X:Cx}{e:Expr}{t u:TT}(h:PW X e t)(m:∀σ H Q,u σ H Q->t σ H Q):PW X e u:=λwh pins s σ H Q I q=>h wh pins s σ H Q I (m σ H Q q)
def PA.post {X:Cx}{es:List Expr}{t u:TA}(h:PA X es t)(m:∀σ H Q,u σ H Q->t σ H Q):PA X es u:=λpos pins s σ H Q I q=>h pos pins s σ H Q I (m σ H Q q)
def PS.post {X:Cx}{st:Stmt}{t u:TS}(h:PS X st t)(m:∀D σ H,u D σ H->t D σ H):PS X st u:=λpins s σ H D I q=>h pins s σ H D I (m D σ H q)
def dat:Option Nv->Option D
 |some (.da d)=>some d
 |_=>none
def gv (i:Nat):VF D:=λvs β=>R.of (dat vs[i]?) β
def cst (d:D):VF D:=λ_ β=>.ok d β
section
variable {X:Cx}{Γ:Fx}{E:XK}{e a b c:Expr}{f fa fb fc:VF D}{L La Lb Lc:List Nat}{md ma mb mc:Md}{pos:Pos}
theorem join_some {o:Option Nv}{d:D}(h:dat o=some d):o=some (.da d):=by
 cases o with
 |none=>cases h
 |some o=>cases o with
  |da x=>cases h;rfl
  |_=>cases h
def SR.letIn {B:Option Addr}{G H:Hp}{σ:St}{env:En}{β:Int}(I:SR Γ B G H σ env β){p:Addr}{d:D}(h0:Γ.H0 p=none)(hg:G p=none)(hb:B≠some p)(hn:∀(j:Nat) (d':D),env[j]? =some (.ow d')->σ[j]?≠some (some (.ref p)))(h:Own Γ.K G H p d) :
  ∃G',SR Γ B G' H σ env β/\ah G G'/\Rp Γ.K G' (.ref p) d:=by
 obtain⟨o,ho⟩:=h.obj
 have sG:ah G (upd G p o):=ah.new hg
 refine⟨upd G p o,⟨λb u q=>?_,I.old.trans sG,λb n1 n2=>?_,I.keep,I.pin,I.fix,λb q=>?_,I.len,λj s q=>?_,I.sep⟩,sG,h.rp hg sG λo' q=>by rw[ho] at q;cases q;exact av⟩
 ·by_cases z:b=p
  ·subst z;rw[av] at q;cases q;exact Kt.of ho
  ·rw[au z] at q;exact I.sub b u q
 ·rw[au (λz=>n1.1 (by rw[z];exact h0))];exact I.new b n1 n2
 ·obtain⟨k1,k2,k3⟩:=I.box b q
  exact⟨k1,by rw[au (λz=>hb (by rw[<-z];exact q))];exact k2,k3⟩
 ·have w:=I.slot j s q
  cases s with
  |no=>trivial
  |fz d'=>obtain⟨v,w1,w2⟩:=w;exact⟨v,w1,w2.mono sG⟩
  |ow d'=>
   obtain⟨c,w1,w2,w3,w4,w5⟩:=w
   have ca:c≠p:=λz2=>hn j d' q (by rw[<-z2];exact w1)
   exact⟨c,w1,w2,by rw[au ca];exact w3,w4,w5.mono sG λo q=>Kt.of q⟩
  |bx=>exact w
  |br d'=>obtain⟨b1,c,w1,w4,wp,w5⟩:=w;exact⟨b1,c,w1,w4,wp,w5.mono sG λo q=>Kt.of q⟩
def sD {env:En}{i j:Nat}{d:D}(h:(gM env i)[j]? =some (.ow d)):env[j]? =some (.ow d):=by
 unfold gM at h
 split at h
 ·rename_i d' e
  by_cases z:i=j
  ·subst z
   rw[Gq (Gs.mp e).1] at h;cases h
  ·rw[Gp z] at h;exact h
 ·exact h
theorem lF {L:List Nat}{env:En}{j:Nat}{d:D}(h:(aX L env)[j]? =some (.ow d)):env[j]? =some (.ow d):=by
 unfold aX at h
 induction L generalizing env with
 |nil=>exact h
 |cons i L ih=>exact sD (ih h)
def SR.letW {B:Option Addr}{G H G' H':Hp}{σ:St}{env:En}{β β':Int}{L:List Nat}{d:D}{v:V}(I:SR Γ B G H σ env β)(I':SR Γ B G' H' σ (L2.aX L env) β')(h:VO Γ.K B H G' H' .w d v):∃G2,SR Γ B G2 H' σ (L2.aX L env) β'/\ah G' G2/\Rp Γ.K G2 v d:=by
 obtain⟨p,rfl,h1,h2,h3⟩:=h
 obtain⟨q1,q2,q3,q4⟩:=I.fresh h1
 exact I'.letIn q1 h2 q3 (λj d' e=>q4 j d' (lF e)) h3
def SE.wv (h:SE X Γ E e f L .w):SE X Γ E e f L .v:=by
 refine PE.post' h λσ H Q ⟨env,G,B,β,I,o⟩=>⟨env,G,B,β,I,o.imp λd β' k v G' H' I' s m vo=>?_⟩
 obtain⟨G2,I2,s2,r⟩:=I.letW I' vo
 exact k v G2 H' I2 (s.trans s2) m r
theorem VO.brw {B:Option Addr}{H G' H':Hp}{d:D}{v:V}{K:Frag}(h:VO K B H G' H' md d v)(hB:∀x,B=some x->H x≠none):je K B G' H' v d:=by
 cases md with
 |b=>exact h
 |v=>exact .inl h
 |w=>
  obtain⟨p,rfl,h1,h2,h3⟩:=h
  exact .inr ⟨p,rfl,λz=>hB p z h1,h3⟩
def SR.boxThere {B:Option Addr}{G H:Hp}{σ:St}{env:En}{β:Int}(I:SR Γ B G H σ env β):∀x,B=some x->H x≠none:=λx e=>by rw[(I.box x e).1];simp
def af (i:Nat){x:Str}(hN:X.N[i]? =some x:=by rfl)(hv:va X.env.scope x:=by first |exact Or.inl rfl |exact Or.inr (Or.inl rfl) |exact Or.inr (Or.inr rfl))(hd:(x == ("__debug__":Str))=false:=by decide)
  (hcd:(x == ("__classdict__":Str))=false:=by decide):SE X Γ E (.Name x pos) (gv i) [] .b:=by
 refine PE.post' (jo hN hv hd hcd) λσ H Q ⟨env,G,B,β,I,o⟩=>?_
 obtain⟨d,e,k⟩:=o.of
 have e:=join_some e
 rcases zR e with q |q |q
 ·obtain⟨v,h1,h2⟩:=I.slot i _ q
  exact⟨v,h1,k v G H I (ah.refl _) (fE.refl _ _) (.inl h2)⟩
 ·obtain⟨p,h1,h2,h3,h4,h5⟩:=I.slot i _ q
  exact⟨.ref p,h1,k _ G H I (ah.refl _) (fE.refl _ _) (.inr ⟨p,rfl,h4,h5⟩)⟩
 ·obtain⟨_,p,h1,h4,_,h5⟩:=I.slot i _ q
  exact⟨.ref p,h1,k _ G H I (ah.refl _) (fE.refl _ _) (.inr ⟨p,rfl,h4,h5⟩)⟩
def aB (i:Nat)(hb:Γ.br i=false){x:Str}(hN:X.N[i]? =some x:=by rfl)(hv:va X.env.scope x:=by first |exact Or.inl rfl |exact Or.inr (Or.inl rfl) |exact Or.inr (Or.inr rfl))(hd:(x == ("__debug__":Str))=false:=by decide)
  (hcd:(x == ("__classdict__":Str))=false:=by decide):SE X Γ E (.Name x pos) (gv i) [i] .v:=by
 refine PE.post' (jo hN hv hd hcd) λσ H Q ⟨env,G,B,β,I,o⟩=>?_
 obtain⟨d,e,k⟩:=o.of
 obtain⟨G',v,I',s,h1,h2⟩:=I.freeze i hb (join_some e)
 exact⟨v,h1,k v G' H I' s (fE.refl _ _) h2⟩
def wG {v:V}{d:D}(h:PE X e (tC v))(r:∀G,Rp Γ.K G v d):SE X Γ E e (cst d) [] .v:=by
 refine PE.post' h λσ H Q ⟨env,G,B,β,I,o⟩=>?_
 exact o v G H I (ah.refl _) (fE.refl _ _) (r G)
def ak {i:Int}{j}:SE X Γ E (.Constant (.int i) j pos) (cst (.int i)) [] .v:=wG nW λ_=>.int i
def ja {i:Bool}{j}:SE X Γ E (.Constant (.bool i) j pos) (cst (.bool i)) [] .v:=wG tE λ_=>.bl i
def vU {j}:SE X Γ E (.Constant .none j pos) (cst .none) [] .v:=wG Bm λ_=>.non
def cc {x:Str}{j}:SE X Γ E (.Constant (.str x) j pos) (cst (.str x)) [] .v:=wG wK λ_=>.str x
def n6 {x:Str}{i:Int}{t:Tok}(hg:Gl X x)(hm:X.mg x=some (.int i t))(hd:(x == ("__debug__":Str))=false:=by decide):SE X Γ E (.Name x pos) (cst (.int i)) [] .v:=wG (xY hg hm (show RelV (.int i) _ from⟨_,rfl⟩) hd) λ_=>.int i
def two {W:V->V->Hp->Prop}{B:Option Addr}{G H:Hp}{σ:St}{env:En}{β:Int}(I:SR Γ B G H σ env β)
  (h:Out Γ E (fa (vl env) β) λd1 β1=>Out Γ E (fb (vl env) β1) λd2 β2=>∀x y G2 H2,SR Γ B G2 H2 σ (aX (La ++ Lb) env) β2->ah G G2->fE B H H2->je Γ.K B G2 H2 x d1->je Γ.K B G2 H2 y d2->W x y H2) :
  pT Γ E fa La ma σ H λx H1=>pT Γ E fb Lb mb σ H1 λy H2=>W x y H2:=by
 refine⟨env,G,B,β,I,h.imp λd1 β1 h x G1 H1 I1 s1 m1 vx=>⟨aX La env,G1,B,β1,I1,?_⟩⟩
 rw[iQ]
 refine h.imp λd2 β2 k y G2 H2 I2 s2 m2 vy=>?_
 refine k x y G2 H2 (by rw[cJ];exact I2) (s1.trans s2) (m1.trans m2) ((vx.brw I.boxThere).mono s2 m2) (vy.brw I1.boxThere)
def j9 (K:Frag)(r:R2)(g:D->D->Option D)(md:Md):Prop:=∀(B:Option Addr) (G H:Hp) (x y:V) (dx dy d:D) (Q:VK),ah G H->(∀x,B=some x->H x≠none)->je K B G H x dx->je K B G H y dy->g dx dy=some d->
 (∀v G' H',Ext G H G' H'->VO K B H G' H' md d v->Q v H')->r x y H Q
def f2 (fa fb:VF D)(g:D->D->Option D):VF D:=λvs β=>(fa vs β).bnd λx β1=>(fb vs β1).bnd λy β2=>R.of (g x y) β2
theorem gB {B:Option Addr}{H H2:Hp}(m:fE B H H2)(hB:∀x,B=some x->H2 x≠none){p:Addr}(h:H2 p=none):H p=none:=by
 cases e:H p with
 |none=>rfl
 |some o=>obtain⟨u,eu,_⟩:=(m.1 p o e λz=>hB p z h).some;rw[eu] at h;cases h
theorem VO.back {K:Frag}{B:Option Addr}{H H2 G' H':Hp}{d:D}{v:V}(h:VO K B H2 G' H' md d v)(m:fE B H H2)(hB:∀x,B=some x->H2 x≠none):VO K B H G' H' md d v:=by
 cases md with
 |b=>exact h
 |v=>exact h
 |w=>obtain⟨p,e,h1,h2,h3⟩:=h;exact⟨p,e,gB m hB h1,h2,h3⟩
def jK {r:R2}{g:D->D->Option D}{Q:VK}(pr:j9 Γ.K r g md){B:Option Addr}{G H:Hp}{σ:St}{env:En}{β:Int}(I:SR Γ B G H σ env β)
  (h:Out Γ E (f2 fa fb g (vl env) β) λd β'=>∀v G' H',SR Γ B G' H' σ (aX (La ++ Lb) env) β'->ah G G'->fE B H H'->VO Γ.K B H G' H' md d v->Q v H') :
  pT Γ E fa La ma σ H λx H1=>pT Γ E fb Lb mb σ H1 λy H2=>r x y H2 Q:=by
 refine two I (h.bnd.imp λd1 β1 h=>h.bnd.imp λd2 β2 h x y G2 H2 I2 s2 m2 bx by'=>?_)
 obtain⟨d,e,k⟩:=h.of
 refine pr B G2 H2 x y d1 d2 d Q I2.sub I2.boxThere bx by' e λv G' H' x' vo=>?_
 exact k v G' H' (I2.ext x') (s2.trans x'.gg) (m2.trans (x'.hh.mov B)) (vo.back m2 I2.boxThere)
def aS {op:Operator}{r:R2}{g:D->D->Option D}(ho:jh X (binaryOp op) r)(pr:j9 Γ.K r g md)(ha:SE X Γ E a fa La ma)(hb:SE X Γ E b fb Lb mb):SE X Γ E (.BinOp a op b pos) (f2 fa fb g) (La ++ Lb) md:=
 PE.post' (pZ ho ha hb) λσ H Q ⟨env,G,B,β,I,o⟩=>jK pr I o
def ly {op:CmpOp}{r:R2}{g:D->D->Option D}(ho:jh X (compareOp op) r)(pr:j9 Γ.K r g md)(ha:SE X Γ E a fa La ma)(hb:SE X Γ E b fb Lb mb)(hm:behindInMarks op b=false):SE X Γ E (.Compare a [op] [b] pos) (f2 fa fb g) (La ++ Lb) md:=
 PE.post' (za ho ha hb hm) λσ H Q ⟨env,G,B,β,I,o⟩=>jK pr I o
def bg {r:R2}{g:D->D->Option D}(hr:wm X r)(pr:j9 Γ.K r g md)(ha:SE X Γ E a fa La ma)(hb:SE X Γ E b fb Lb mb)(hs:sE b):SE X Γ E (.Subscript a b pos) (f2 fa fb g) (La ++ Lb) md:=
 PE.post' (jk hr ha hb hs) λσ H Q ⟨env,G,B,β,I,o⟩=>jK pr I o
def xN (K:Frag)(r:V->Hp->VK->Prop)(g:D->Option D)(md:Md):Prop:=∀(B:Option Addr) (G H:Hp) (x:V) (dx d:D) (Q:VK),ah G H->(∀x,B=some x->H x≠none)->je K B G H x dx->g dx=some d->
 (∀v G' H',Ext G H G' H'->VO K B H G' H' md d v->Q v H')->r x H Q
def f1 (fa:VF D)(g:D->Option D):VF D:=λvs β=>(fa vs β).bnd λx β1=>R.of (g x) β1
def hW {r:V->Hp->VK->Prop}{g:D->Option D}{Q:VK}(pr:xN Γ.K r g md){B:Option Addr}{G H:Hp}{σ:St}{env:En}{β:Int}(I:SR Γ B G H σ env β)
  (h:Out Γ E (f1 fa g (vl env) β) λd β'=>∀v G' H',SR Γ B G' H' σ (aX La env) β'->ah G G'->fE B H H'->VO Γ.K B H G' H' md d v->Q v H') :
  pT Γ E fa La ma σ H λx H1=>r x H1 Q:=by
 refine⟨env,G,B,β,I,h.bnd.imp λd1 β1 h x G1 H1 I1 s1 m1 vx=>?_⟩
 obtain⟨d,e,k⟩:=h.of
 refine pr B G1 H1 x d1 d Q I1.sub I1.boxThere (vx.brw I.boxThere) e λv G' H' x' vo=>?_
 exact k v G' H' (I1.ext x') (s1.trans x'.gg) (m1.trans (x'.hh.mov B)) (vo.back m1 I1.boxThere)
def Dl {op:UnaryOp}{r:V->Hp->VK->Prop}{g:D->Option D}(ho:Eg X (unaryOp op) r)(pr:xN Γ.K r g md)(ha:SE X Γ E a fa La ma):SE X Γ E (.UnaryOp op a pos) (f1 fa g) La md:=
 PE.post' (CA ho ha) λσ H Q ⟨env,G,B,β,I,o⟩=>hW pr I o
def aJ {id:String}{r:List V->Hp->VK->Prop}{g:D->Option D}{x:Str}{p:Pos}(hc:dw X (.builtin id) r)(pr:xN Γ.K (λx=>r [x]) g md)(hg:Gl X x)(hm:X.mg x=none)(hv:bootBuiltins x=some (.builtin id))(ha:SE X Γ E a fa La ma)(hn:x≠"__name__":=by decide)(hdb:(x == ("__debug__":Str))=false:=by decide)
  (he:starEach [a] X.env=(false,eval a X.env) :: starEach [] X.env:=by rfl):SE X Γ E (.Call (.Name x p) [a] [] pos) (f1 fa g) La md:=
 PE.post' (iR hc hg hm hv (aN ha bK he) hn hdb he) λσ H Q ⟨env,G,B,β,I,o⟩=>hW (r:=λx=>r [x]) pr I o
def iw {id:String}{r:List V->Hp->VK->Prop}{g:D->Option D}{x:Str}{p:Pos}(hc:dw X (.type id) r)(pr:xN Γ.K (λx=>r [x]) g md)(hg:Gl X x)(hm:X.mg x=none)(hv:bootBuiltins x=some (.type id))(ha:SE X Γ E a fa La ma)(hn:x≠"__name__":=by decide)(hdb:(x == ("__debug__":Str))=false:=by decide)
  (he:starEach [a] X.env=(false,eval a X.env) :: starEach [] X.env:=by rfl):SE X Γ E (.Call (.Name x p) [a] [] pos) (f1 fa g) La md:=
 PE.post' (j8 hc hg hm hv (aN ha bK he) hn hdb he) λσ H Q ⟨env,G,B,β,I,o⟩=>hW (r:=λx=>r [x]) pr I o
def pG {id:String}{r:List V->Hp->VK->Prop}{g:D->D->Option D}{x:Str}{p:Pos}(hc:dw X (.builtin id) r)(pr:j9 Γ.K (λx y=>r [x,y]) g md)(hg:Gl X x)(hm:X.mg x=none)(hv:bootBuiltins x=some (.builtin id))(ha:SE X Γ E a fa La ma)(hb:SE X Γ E b fb Lb mb)(hn:x≠"__name__":=by decide)(hdb:(x == ("__debug__":Str))=false:=by decide)
  (he:starEach [a,b] X.env=(false,eval a X.env) :: starEach [b] X.env:=by rfl) (he2:starEach [b] X.env=(false,eval b X.env) :: starEach [] X.env:=by rfl) (hpl:(backTo pos (starEach [b] X.env)).any (·.1)=false:=by rfl):SE X Γ E (.Call (.Name x p) [a,b] [] pos) (f2 fa fb g) (La ++ Lb) md:=
 PE.post' (iR hc hg hm hv (aN ha (aN hb bK he2) he) hn hdb he hpl) λσ H Q ⟨env,G,B,β,I,o⟩=>jK (r:=λx y=>r [x,y]) pr I o
def gc (fa fb:VF D):VF D:=λvs β=>(fa vs β).bnd λx β1=>match x with
 | .bool true=>fb vs β1
 | .bool false=>.ok (.bool false) β1
 |_=>.bad
def D9 (fa fb:VF D):VF D:=λvs β=>(fa vs β).bnd λx β1=>match x with
 | .bool false=>fb vs β1
 | .bool true=>.ok (.bool true) β1
 |_=>.bad
def gf {op}(h:SE X Γ E a fa La md):SE X Γ E (.BoolOp op [a] pos) fa La md:=BW h
theorem gX {rest:List Expr}(ha:SE X Γ E a fa La ma)(hb:SE X Γ E (.BoolOp .And (b :: rest) pos) fb Lb .v)(hbr:∀i,i∈Lb->Γ.br i=false):SE X Γ E (.BoolOp .And (a :: b :: rest) pos) (gc fa fb) (La ++ Lb) .v:=by
 refine PE.post' (AL ha hb) λσ H Q ⟨env,G,B,β,I,o⟩=>?_
 refine⟨env,G,B,β,I,o.bnd.imp λd1 β1 h x G1 H1 I1 s1 m1 vx=>?_⟩
 have bx:=vx.brw I.boxThere
 cases d1 with
 |bool c=>
  obtain rfl:=bx.bool
  refine⟨c,rfl,?_⟩
  cases c with
  |true=>exact nX ⟨_,G1,B,β1,I1,by rw[iQ];exact h.imp λd β' k v G' H' I' s' m' vo=>k v G' H' (by rw[cJ];exact I') (s1.trans s') (m1.trans m') vo⟩
  |false=>
   obtain⟨G2,I2,s2⟩:=I1.aX Lb hbr
   exact oO (h _ G2 H1 (by rw[cJ];exact I2) (s1.trans s2) m1 (.bl false))
 |_=>exact h.elim
theorem Dh {rest:List Expr}(ha:SE X Γ E a fa La ma)(hb:SE X Γ E (.BoolOp .Or (b :: rest) pos) fb Lb .v)(hbr:∀i,i∈Lb->Γ.br i=false):SE X Γ E (.BoolOp .Or (a :: b :: rest) pos) (D9 fa fb) (La ++ Lb) .v:=by
 refine PE.post' (CL ha hb) λσ H Q ⟨env,G,B,β,I,o⟩=>?_
 refine⟨env,G,B,β,I,o.bnd.imp λd1 β1 h x G1 H1 I1 s1 m1 vx=>?_⟩
 have bx:=vx.brw I.boxThere
 cases d1 with
 |bool c=>
  obtain rfl:=bx.bool
  refine⟨c,rfl,?_⟩
  cases c with
  |true=>
   obtain⟨G2,I2,s2⟩:=I1.aX Lb hbr
   exact nX (h _ G2 H1 (by rw[cJ];exact I2) (s1.trans s2) m1 (.bl true))
  |false=>exact oO ⟨_,G1,B,β1,I1,by rw[iQ];exact h.imp λd β' k v G' H' I' s' m' vo=>k v G' H' (by rw[cJ];exact I') (s1.trans s') (m1.trans m') vo⟩
 |_=>exact h.elim
def zj:D->Option D
 | .bool c=>some (.bool (!c))
 |_=>none
theorem vL (ha:SE X Γ E a fa La ma):SE X Γ E (.UnaryOp .Not a pos) (f1 fa zj) La .v:=by
 refine PE.post' (BV ha) λσ H Q ⟨env,G,B,β,I,o⟩=>?_
 refine hW (r:=λx H1 Q=>∃c,x=.bl c/\Q (.bl (!c)) H1) ?_ I o
 intro B G H x dx d Q s hB bx e k
 cases dx with
 |bool c=>
  obtain rfl:=bx.bool
  cases e
  exact⟨c,rfl,k _ G H (Ext.refl s) (.bl _)⟩
 |_=>cases e
def AD:D->Option Bool
 | .none=>some false
 | .bool b=>some b
 | .int i=>some (i != 0)
 | .str y=>if y.length<=sizeLine then some ((y.length:Int) != 0) else none
 | .list ds=>some (!ds.isEmpty)
 | .tuple ds=>some (!ds.isEmpty)
 | .dict _=>none
def nk (fa:VF D):VF Bool:=λvs β=>(fa vs β).bnd λx β1=>R.of (AD x) β1
def kJ {K:Frag}{G:Hp}{xs:List V}{ds:List D}(r:cv K G xs ds):(!ds.isEmpty)= !xs.isEmpty:=by cases r <;> rfl
theorem cD (hK:X.K=Γ.K)(ha:SE X Γ E a fa La ma)(he:∀whole,isTrue a X.env whole=(do let v <-whole;standAt a.pos;holding [v] (truthy v)):=by intro _;rfl):uH X Γ E a (nk fa) La:=by
 refine PT.post (vF ha he) λσ H Q ⟨env,G,B,β,I,o⟩=>?_
 refine⟨env,G,B,β,I,o.bnd.imp λd1 β1 h x G1 H1 I1 s1 m1 vx=>?_⟩
 obtain⟨c,e,k⟩:=h.of
 have bx:=vx.brw I.boxThere
 refine⟨c,?_,k G1 H1 I1 s1 m1⟩
 rw[hK]
 cases d1 with
 |none=>obtain rfl:=bx.none;cases e;rfl
 |bool b=>obtain rfl:=bx.bool;cases e;rfl
 |int i=>obtain rfl:=bx.int;cases e;rfl
 |str y=>
  obtain rfl:=bx.str
  simp only[AD] at e
  split at e
  ·cases e;exact⟨by assumption,rfl⟩
  ·cases e
 |list ds=>obtain⟨p,xs,rfl,hq,r⟩:=bx.list I1.sub;cases e;exact .inl ⟨xs,.inl hq,kJ r⟩
 |tuple ds=>obtain⟨p,xs,rfl,hq,r⟩:=bx.tuple I1.sub;cases e;exact .inr (.inl ⟨xs,hq,kJ r⟩)
 |dict ds=>cases e
def eV (fa:VF D):VF Bool:=λvs β=>(fa vs β).bnd λx β1=>match x with
 | .bool c=>.ok c β1
 |_=>.bad
theorem aV {op:CmpOp}{r:R2}{g:D->D->Option D}(ho:jh X (compareOp op) r)(pr:j9 Γ.K r g .v)(ha:SE X Γ E a fa La ma)(hb:SE X Γ E b fb Lb mb)(hm:behindInMarks op b=false):uH X Γ E (.Compare a [op] [b] pos) (eV (f2 fa fb g)) (La ++ Lb):=by
 refine PT.post (yb ho ha hb hm) λσ H Q ⟨env,G,B,β,I,o⟩=>?_
 refine jK pr I (o.bnd.imp λd β' h v G' H' I' s' m' vo=>?_)
 cases d with
 |bool c=>cases vo;exact⟨c,rfl,h G' H' I' s' m'⟩
 |_=>exact h.elim
def oG (t:VF Bool):VF Bool:=λvs β=>(t vs β).bnd λc β1=>.ok (!c) β1
def zI (t u:VF Bool):VF Bool:=λvs β=>(t vs β).bnd λc β1=>if c=true then u vs β1 else .ok false β1
def ju (t u:VF Bool):VF Bool:=λvs β=>(t vs β).bnd λc β1=>if c=true then .ok true β1 else u vs β1
variable {ta tb tc:VF Bool}
def cL (ha:uH X Γ E a ta La):uH X Γ E (.UnaryOp .Not a pos) (oG ta) La:=by
 refine PT.post (Bp ha) λσ H Q ⟨env,G,B,β,I,o⟩=>?_
 exact⟨env,G,B,β,I,o.bnd.imp λc β1 h=>h⟩
def mG.t (h:mG X Γ E e ta La):uH X Γ E e ta La:=PW.pt h
def jx (ha:uH X Γ E a ta La):mG X Γ E (.BoolOp .And [a] pos) ta La:=tV ha
def hZ (ha:uH X Γ E a ta La):mG X Γ E (.BoolOp .Or [a] pos) ta La:=An ha
theorem lE {rest:List Expr}(ha:uH X Γ E a ta La)(hb:mG X Γ E (.BoolOp .And (b :: rest) pos) tb Lb)(hbr:∀i,i∈Lb->Γ.br i=false):mG X Γ E (.BoolOp .And (a :: b :: rest) pos) (zI ta tb) (La ++ Lb):=by
 refine PW.post (xA ha hb) λσ H Q ⟨env,G,B,β,I,o⟩=>?_
 refine⟨env,G,B,β,I,o.bnd.imp λc β1 h G1 H1 I1 s1 m1=>?_⟩
 cases c with
 |true=>exact nX ⟨_,G1,B,β1,I1,by rw[iQ];exact Out.imp h λd β' k G' H' I' s' m'=>k G' H' (by rw[cJ];exact I') (s1.trans s') (m1.trans m')⟩
 |false=>
  obtain⟨G2,I2,s2⟩:=I1.aX Lb hbr
  exact oO (h G2 H1 (by rw[cJ];exact I2) (s1.trans s2) m1)
theorem iI {rest:List Expr}(ha:uH X Γ E a ta La)(hb:mG X Γ E (.BoolOp .Or (b :: rest) pos) tb Lb)(hbr:∀i,i∈Lb->Γ.br i=false):mG X Γ E (.BoolOp .Or (a :: b :: rest) pos) (ju ta tb) (La ++ Lb):=by
 refine PW.post (Du ha hb) λσ H Q ⟨env,G,B,β,I,o⟩=>?_
 refine⟨env,G,B,β,I,o.bnd.imp λc β1 h G1 H1 I1 s1 m1=>?_⟩
 cases c with
 |true=>
  obtain⟨G2,I2,s2⟩:=I1.aX Lb hbr
  exact nX (h G2 H1 (by rw[cJ];exact I2) (s1.trans s2) m1)
 |false=>exact oO ⟨_,G1,B,β1,I1,by rw[iQ];exact Out.imp h λd β' k G' H' I' s' m'=>k G' H' (by rw[cJ];exact I') (s1.trans s') (m1.trans m')⟩
def FP (t:VF Bool)(fa fb:VF D):VF D:=λvs β=>(t vs β).bnd λc β1=>if c=true then fa vs β1 else fb vs β1
def aw:VF (List D):=λ_ β=>.ok [] β
def aa (fa:VF D)(fr:VF (List D)):VF (List D):=λvs β=>(fa vs β).bnd λx β1=>(fr vs β1).bnd λxs β2=>.ok (x :: xs) β2
variable {fr:VF (List D)}{es:List Expr}
def ag:SA X Γ E [] aw []:=PA.post bK λσ H Q ⟨env,G,B,β,I,o⟩=>o [] G H I (ah.refl _) (fE.refl _ _) .nil
def ae (ha:SE X Γ E a fa La .v)(hr:SA X Γ E es fr Lb)(hs:starEach (a :: es) X.env=(false,eval a X.env) :: starEach es X.env:=by rfl):SA X Γ E (a :: es) (aa fa fr) (La ++ Lb):=by
 refine PA.post (aN ha hr hs) λσ H Q ⟨env,G,B,β,I,o⟩=>?_
 refine⟨env,G,B,β,I,o.bnd.imp λd1 β1 h x G1 H1 I1 s1 m1 vx=>⟨aX La env,G1,B,β1,I1,?_⟩⟩
 rw[iQ]
 refine h.bnd.imp λds β2 k xs G2 H2 I2 s2 m2 r=>?_
 exact k (x :: xs) G2 H2 (by rw[cJ];exact I2) (s1.trans s2) (m1.trans m2) (.cons (vx.mono s2) r)
def aZ (fr:VF (List D)):VF D:=λvs β=>(fr vs β).bnd λds β1=>if ds.length<=sizeLine then .ok (.tuple ds) β1 else .bad
def fF (fr:VF (List D)):VF D:=λvs β=>(fr vs β).bnd λds β1=>if ds.length<=sizeLine then .ok (.list ds) β1 else .bad
def bC {x1}(h:SA X Γ E es fr L):SE X Γ E (.Tuple es x1 pos) (aZ fr) L .v:=by
 refine PE.post' (si h) λσ H Q ⟨env,G,B,β,I,o⟩=>?_
 refine⟨env,G,B,β,I,o.bnd.imp λds β1 k xs G1 H1 I1 s1 m1 r=>?_⟩
 by_cases hz:ds.length<=sizeLine
 ·rw[FZ hz] at k
  refine⟨by rw[r.len];exact hz,λp hp=>?_⟩
  have x:=Ext.new I1.sub (o:=.tup xs) hp
  exact k _ _ _ (I1.ext x) (s1.trans x.gg) (m1.trans (x.hh.mov B)) (.tup (.inl (.inl av)) (r.mono x.gg))
 ·rw[Gd hz] at k;exact k.elim
def dm (h:SA X Γ E es fr L):SE X Γ E (.List es pos) (fF fr) L .w:=by
 refine PE.post' (xh h) λσ H Q ⟨env,G,B,β,I,o⟩=>?_
 refine⟨env,G,B,β,I,o.bnd.imp λds β1 k xs G1 H1 I1 s1 m1 r=>?_⟩
 by_cases hz:ds.length<=sizeLine
 ·rw[FZ hz] at k
  refine⟨by rw[r.len];exact hz,λp hp=>?_⟩
  have x:=Ext.own I1.sub (o:=.lst xs) hp
  exact k _ _ _ (I1.ext x) s1 (m1.trans (x.hh.mov B)) ⟨p,rfl,gB m1 I1.boxThere hp,I1.sub.free hp,xs,av,r⟩
 ·rw[Gd hz] at k;exact k.elim
inductive FR where
 |ok (d:D) (fresh:Bool)
 |exc (c:Str)
 |bad
def FV (K:Frag)(H G' H':Hp)(fr:Bool)(d:D)(v:V):Prop:=if fr=true then ∃a,v=.ref a/\H a=none/\G' a=none/\Own K G' H' a d else Rp K G' v d
def xQ (K:Frag)(ca:Str->Addr)(n:Nat)(F:List D->FR):Sp:=λvs H Q E=>∃G ds,ah G H/\ds.length=n/\cv K G vs ds/\match F ds with
 | .ok d fr=>∀v G' H',ah H H'->ah G G'->ah G' H'->(∀b,Mx H b->G b=none->G' b=none)->FV K H G' H' fr d v->Q v H'
 | .exc c=>∀H',ah H H'->E (.ref (ca c)) none H'
 | .bad=>False
structure cO (P:Program)(w:World)(K:Frag)(mg:Str->Option Value)(base:Heap)(ca:Str->Addr)(x:Str)(ps:List Str)(k:Nat)(F:List D->FR):Prop where
 ex:∃f fd,mg x=some (.ref f)/\PySem.W.keepIn K (.ref f)=true/\Binds K fd ps []/\eB P w K mg base (kM P w) k f fd ps (xQ K ca ps.length F)
 len:∀ds,F ds≠.bad->ds.length=ps.length
def aE (F:List D->FR)(fr:VF (List D)):VF D:=λvs β=>(fr vs β).bnd λds β1=>match F ds with
 | .ok d _=>.ok d β1
 | .exc c=>.exc c
 | .bad=>.bad
def nN (F:List D->FR)(fr:VF (List D)):VF D:=λvs β=>(fr vs β).bnd λds β1=>match F ds with
 | .ok d true=>.ok d β1
 | .ok _ false=>.bad
 | .exc c=>.exc c
 | .bad=>.bad
def SR.called {B:Option Addr}{G1 H1 G2 H2:Hp}{σ:St}{env:En}{β:Int}(I1:SR Γ B G1 H1 σ env β)(h:ah H1 H2)(g:ah G1 G2)(s:ah G2 H2)(n:∀b,Mx H1 b->G1 b=none->G2 b=none):SR Γ B G2 H2 σ env β/\fE B H1 H2:=by
 refine⟨⟨s,I1.old.trans g,λb n1 n2=>?_,λb o e np=>(I1.keep b o e np).step h,λb hb=>?_,I1.fix,λb e=>?_,I1.len,λi t e=>?_,I1.sep⟩,h.mov B⟩
 ·exact n b (I1.thereM n1) (I1.new b n1 n2)
 ·exact (I1.pin b hb).same λo e=>h b o e
 ·obtain⟨h1,h2,h3⟩:=I1.box b e
  exact⟨h b _ h1,n b (Mx.lst h1) h2,h3⟩
 ·have q:=I1.slot i t e
  cases t with
  |no=>trivial
  |fz d=>obtain⟨v,h1,h2⟩:=q;exact⟨v,h1,h2.mono g⟩
  |ow d=>
   obtain⟨p,h1,h2,h3,h4,h5⟩:=q
   exact⟨p,h1,h2,n p h5.mx h3,h4,h5.mono g λo q=>h p o q⟩
  |bx=>exact q
  |br d=>obtain⟨b1,p,h1,h4,hp,h5⟩:=q;exact⟨b1,p,h1,h4,hp,h5.mono g λo q=>h p o q⟩
def SR.kp {B:Option Addr}{G H H':Hp}{σ:St}{env:En}{β:Int}(I:SR Γ B G H σ env β)(h:ah H H'):Kp Γ H':=λb o e n=>(I.keep b o e n).step h
theorem nu {F:List D->FR}{ps:List Str}{Q:VK}{B:Option Addr}{G H:Hp}{σ:St}{env:En}{β:Int}(I:SR Γ B G H σ env β)(hK:X.K=Γ.K){wv:Bool}
  (h:Out Γ E (if wv=true then nN F fr (vl env) β else aE F fr (vl env) β) λd β'=>∀v G' H',SR Γ B G' H' σ (aX L env) β'->ah G G'->fE B H H'->VO Γ.K B H G' H' (if wv=true then .w else .v) d v->Q v H') (hl:∀ds,F ds≠.bad->ds.length=ps.length) :
  aT Γ E fr L σ H λvs H1=>xQ X.K Γ.ca ps.length F vs H1 Q E:=by
 refine⟨env,G,B,β,I,?_⟩
 have h:Out Γ E (fr (vl env) β) λds β1=>Out Γ E (match F ds with
   | .ok d true=>.ok d β1
   | .ok d false=>if wv=true then .bad else .ok d β1
   | .exc c=>.exc c
   | .bad=>.bad) λd β'=>∀v G' H',SR Γ B G' H' σ (aX L env) β'->ah G G'->fE B H H'->VO Γ.K B H G' H' (if wv=true then .w else .v) d v->Q v H':=by
  cases wv with
  |true=>
   simp only[G8] at h ⊢
   refine h.bnd.imp λds β1 h=>?_
   cases q:F ds with
   |ok d b=>rw[q] at h;cases b <;> exact h
   |exc c=>rw[q] at h;exact h
   |bad=>rw[q] at h;exact h
  |false=>
   simp only[Gi,GJ] at h ⊢
   refine h.bnd.imp λds β1 h=>?_
   cases q:F ds with
   |ok d b=>rw[q] at h;cases b <;> exact h
   |exc c=>rw[q] at h;exact h
   |bad=>rw[q] at h;exact h
 refine h.imp λds β1 k vs G1 H1 I1 s1 m1 r=>?_
 refine⟨G1,ds,I1.sub,?_,by rw[hK];exact r,?_⟩
 ·exact hl ds λz=>by rw[z] at k;exact k
 cases q:F ds with
 |bad=>rw[q] at k;exact k
 |exc c=>rw[q] at k;exact λH' s=>k H' (I1.kp s)
 |ok d b=>
  rw[q] at k
  intro v G' H' hh hg hs hn fv
  obtain⟨I2,m2⟩:=I1.called hh hg hs hn
  cases b with
  |true=>
   obtain⟨p,rfl,p1,p2,p3⟩:∃a,v=.ref a/\H1 a=none/\G' a=none/\Own X.K G' H' a d:=fv
   rw[hK] at p3
   have hp:=gB m1 I1.boxThere p1
   cases wv with
   |true=>exact k _ G' H' I2 (s1.trans hg) (m1.trans m2) ⟨p,rfl,hp,p2,p3⟩
   |false=>
    obtain⟨q1,q2,q3,q4⟩:=I1.fresh p1
    obtain⟨G3,I3,s3,r3⟩:=I2.letIn q1 p2 q3 q4 p3
    exact k _ G3 H' I3 ((s1.trans hg).trans s3) (m1.trans m2) r3
  |false=>
   cases wv with
   |true=>exact k.elim
   |false=>
    have fv:Rp X.K G' v d:=fv
    rw[hK] at fv
    exact k _ G' H' I2 (s1.trans hg) (m1.trans m2) fv
def aA {x:Str}{ps:List Str}{k:Nat}{F:List D->FR}{p:Pos}(hf:cO X.prog X.w X.K X.mg X.base Γ.ca x ps k F)(hr:eJ k X.A)(hx:Passes (kM X.prog X.w) X E)(hK:X.K=Γ.K)(hg:Gl X x)(ha:SA X Γ E (a :: es) fr L)(hdb:(x == ("__debug__":Str))=false:=by decide)
  (he:starEach (a :: es) X.env=(false,eval a X.env) :: starEach es X.env:=by rfl) (hpl:(backTo pos (starEach es X.env)).any (·.1)=false:=by rfl):SE X Γ E (.Call (.Name x p) (a :: es) [] pos) (aE F fr) L .v:=by
 obtain⟨f,fd,hm,hk,hb,hF⟩:=hf.ex
 refine PE.post' (jU (dvs:=[]) hF hr hg hm hk hb .nil hx ha hdb he hpl) λσ H Q ⟨env,G,B,β,I,o⟩=>?_
 show aT Γ E fr L σ H λvs H1=>xQ X.K Γ.ca ps.length F (vs ++ []) H1 Q E
 have:=nu (Q:=Q) (wv:=false) (ps:=ps) I hK o hf.len
 simpa using this
def wy {x:Str}{ps:List Str}{k:Nat}{F:List D->FR}{p:Pos}(hf:cO X.prog X.w X.K X.mg X.base Γ.ca x ps k F)(hr:eJ k X.A)(hx:Passes (kM X.prog X.w) X E)(hK:X.K=Γ.K)(hg:Gl X x)(ha:SA X Γ E (a :: es) fr L)(hdb:(x == ("__debug__":Str))=false:=by decide)
  (he:starEach (a :: es) X.env=(false,eval a X.env) :: starEach es X.env:=by rfl) (hpl:(backTo pos (starEach es X.env)).any (·.1)=false:=by rfl):SE X Γ E (.Call (.Name x p) (a :: es) [] pos) (nN F fr) L .w:=by
 obtain⟨f,fd,hm,hk,hb,hF⟩:=hf.ex
 refine PE.post' (jU (dvs:=[]) hF hr hg hm hk hb .nil hx ha hdb he hpl) λσ H Q ⟨env,G,B,β,I,o⟩=>?_
 show aT Γ E fr L σ H λvs H1=>xQ X.K Γ.ca ps.length F (vs ++ []) H1 Q E
 have:=nu (Q:=Q) (wv:=true) (ps:=ps) I hK o hf.len
 simpa using this
end
inductive SO where
 |nx (env:En) (β:Int)
 |bk (env:En) (β:Int)
 |ct (env:En) (β:Int)
 |rt (d:D) (fr:Bool) (β:Int)
 |exc (c:Str)
 |bad
abbrev SF:=En->Int->SO
def RV (Γ:Fx)(G' H':Hp)(fr:Bool)(d:D)(v:V):Prop:=if fr=true then ∃a,v=.ref a/\Γ.H0 a=none/\G' a=none/\Own Γ.K G' H' a d else Rp Γ.K G' v d
def qW (Γ:Fx)(E:XK)(G:Hp)(N:Ends):SO->Prop
 | .nx env β=>∀B G' H' σ,SR Γ B G' H' σ env β->ah G G'->N.nx σ H'
 | .bk env β=>∀B G' H' σ,SR Γ B G' H' σ env β->ah G G'->N.bk σ H'
 | .ct env β=>∀B G' H' σ,SR Γ B G' H' σ env β->ah G G'->N.ct σ H'
 | .rt d fr β=>∀B G' H' σ env v,SR Γ B G' H' σ env β->ah G G'->RV Γ G' H' fr d v->N.rt v H'
 | .exc c=>∀H',Kp Γ H'->E (.ref (Γ.ca c)) none H'
 | .bad=>False
def sT (Γ:Fx)(E:XK)(m:SF):TS:=λN σ H=>∃env G B β,SR Γ B G H σ env β/\qW Γ E G N (m env β)
def SS (X:Cx)(Γ:Fx)(E:XK)(st:Stmt)(m:SF):Prop:=PS X st (sT Γ E m)
def zb (X:Cx)(Γ:Fx)(E:XK)(st:List Stmt)(m:SF):Prop:=n5 X st (sT Γ E m)
def n5.post {X:Cx}{st:List Stmt}{t u:TS}(h:n5 X st t)(m:∀D σ H,u D σ H->t D σ H):n5 X st u:=λpins s σ H D I q=>h pins s σ H D I (m D σ H q)
def aC (m m':SF):SF:=λenv β=>match m env β with
 | .nx env' β'=>m' env' β'
 |r=>r
def iq:SF:=λenv β=>.nx env β
section
variable {X:Cx}{Γ:Fx}{E:XK}{e a b c:Expr}{f fa fb:VF D}{L La Lb:List Nat}{md ma mb:Md}{pos:Pos}{st:Stmt}{sts:List Stmt}{m m':SF}{ta:VF Bool}
theorem qW.weak {G G1:Hp}{N:Ends}{r:SO}(h:qW Γ E G N r)(s:ah G G1):qW Γ E G1 N r:=by
 cases r with
 |nx env β=>exact λB G' H' σ I s'=>h B G' H' σ I (s.trans s')
 |bk env β=>exact λB G' H' σ I s'=>h B G' H' σ I (s.trans s')
 |ct env β=>exact λB G' H' σ I s'=>h B G' H' σ I (s.trans s')
 |rt d fr β=>exact λB G' H' σ env v I s'=>h B G' H' σ env v I (s.trans s')
 |exc c=>exact h
 |bad=>exact h
def aY:zb X Γ E [] iq:=n5.post tI λN σ H ⟨env,G,B,β,I,o⟩=>o B G H σ I (ah.refl _)
theorem aq (h:SS X Γ E st m)(h':zb X Γ E sts m'):zb X Γ E (st :: sts) (aC m m'):=by
 refine n5.post (fB h h') λN σ H ⟨env,G,B,β,I,o⟩=>?_
 refine⟨env,G,B,β,I,?_⟩
 unfold aC at o
 cases q:m env β with
 |nx env' β'=>rw[q] at o;exact λB' G' H' σ' I' s'=>⟨env',G',B',β',I',o.weak s'⟩
 |bk env' β'=>rw[q] at o;exact o
 |ct env' β'=>rw[q] at o;exact o
 |rt d fr β'=>rw[q] at o;exact o
 |exc c=>rw[q] at o;exact o
 |bad=>rw[q] at o;exact o
def ax (h:SS X Γ E st m):zb X Γ E [st] m:=fJ h
def toS {α:Type}(r:R α)(k:α->Int->SO):SO:=match r with
 | .ok x β=>k x β
 | .exc c=>.exc c
 | .bad=>.bad
theorem cI {α:Type}{G:Hp}{N:Ends}{r:R α}{k:α->Int->SO}{P:α->Int->Prop}(h:qW Γ E G N (toS r k))(i:∀x β,qW Γ E G N (k x β)->P x β):Out Γ E r P:=by
 cases r with
 |ok x β=>exact i x β h
 |exc c=>exact h
 |bad=>exact h
def SR.set' {B:Option Addr}{G H:Hp}{σ:St}{env:En}{β:Int}(I:SR Γ B G H σ env β)(i:Nat){v:V}{d:D}(h:Rp Γ.K G v d):SR Γ B G H (σ.set i (some v)) (env.set i (.fz d)) β:=by
 by_cases hi:i < env.length
 ·exact I.set hi h
 ·have h1:env.set i (.fz d)=env:=Hx (by omega)
  have h2:σ.set i (some v)=σ:=Hx (by rw[I.len];omega)
  rw[h1,h2];exact I
def SR.setOw' {B:Option Addr}{G H:Hp}{σ:St}{env:En}{β:Int}(I:SR Γ B G H σ env β)(i:Nat){a:Addr}{d:D}(h0:Γ.H0 a=none)(hg:G a=none)(hb:B≠some a)(h:Own Γ.K G H a d)(hn:∀(j:Nat) (d':D),env[j]? =some (.ow d')->σ[j]?≠some (some (.ref a))):SR Γ B G H (σ.set i (some (.ref a))) (env.set i (.ow d)) β:=by
 by_cases hi:i < env.length
 ·exact I.setOw hi h0 hg hb h λj d' e _=>hn j d' e
 ·have h1:env.set i (.ow d)=env:=Hx (by omega)
  have h2:σ.set i (some (.ref a))=σ:=Hx (by rw[I.len];omega)
  rw[h1,h2];exact I
def cg (i:Nat)(L:List Nat)(f:VF D):SF:=λenv β=>toS (f (vl env) β) λd β'=>.nx ((aX L env).set i (.fz d)) β'
def ba {i:Nat}{x:Str}{pos':Pos}(he:SE X Γ E e f L .v)(hN:X.N.Nodup)(hi:X.N[i]? =some x:=by rfl)(hx:Loc X.env.scope x:=by first |exact Or.inl rfl |exact Or.inr rfl)(hs:swapsWith e (some (.Name x pos')) pos.line X.env=pure false:=by rfl)(hf:X.fn x=true\/X.env.scope.names.lookup x=some .local:=by first |exact .inl rfl |exact .inr rfl |assumption) :
  SS X Γ E (.Assign [.Name x pos'] e pos) (cg i L f):=by
 refine PS.post (nQ hN hi hx he hs hf) λN σ H ⟨env,G,B,β,I,o⟩=>?_
 refine⟨env,G,B,β,I,cI o λd β' k v G' H' I' s' m' vo=>?_⟩
 exact k B G' H' _ (I'.set' i vo) s'
def jj (i:Nat)(L:List Nat)(f:VF D):SF:=λenv β=>toS (f (vl env) β) λd β'=>.nx ((aX L env).set i (.ow d)) β'
def kZ {i:Nat}{x:Str}{pos':Pos}(he:SE X Γ E e f L .w)(hN:X.N.Nodup)(hi:X.N[i]? =some x:=by rfl)(hx:Loc X.env.scope x:=by first |exact Or.inl rfl |exact Or.inr rfl)(hs:swapsWith e (some (.Name x pos')) pos.line X.env=pure false:=by rfl)(hf:X.fn x=true\/X.env.scope.names.lookup x=some .local:=by first |exact .inl rfl |exact .inr rfl |assumption) :
  SS X Γ E (.Assign [.Name x pos'] e pos) (jj i L f):=by
 refine PS.post (nQ hN hi hx he hs hf) λN σ H ⟨env,G,B,β,I,o⟩=>?_
 refine⟨env,G,B,β,I,cI o λd β' k v G' H' I' s' m' vo=>?_⟩
 obtain⟨p,rfl,h1,h2,h3⟩:=vo
 obtain⟨q1,q2,q3,q4⟩:=I.fresh h1
 exact k B G' H' _ (I'.setOw' i q1 h2 q3 h3 λj d' z=>q4 j d' (lF z)) s'
def pE (L:List Nat)(f:VF D):SF:=λenv β=>toS (f (vl env) β) λ_ β'=>.nx (aX L env) β'
def yh (he:SE X Γ E e f L md)(hs:swapsWith e none pos.line X.env=pure false:=by rfl):SS X Γ E (.Expr e pos) (pE L f):=by
 refine PS.post (oC he hs) λN σ H ⟨env,G,B,β,I,o⟩=>?_
 exact⟨env,G,B,β,I,cI o λd β' k v G' H' I' s' m' vo=>k B G' H' _ I' s'⟩
def bH (f:VF D):SF:=λenv β=>toS (f (vl env) β) λd β'=>.rt d false β'
def aO (he:SE X Γ E e f L .v):SS X Γ E (.Return (some e) pos) (bH f):=by
 refine PS.post (ki he) λN σ H ⟨env,G,B,β,I,o⟩=>?_
 exact⟨env,G,B,β,I,cI o λd β' k v G' H' I' s' m' vo=>k B G' H' σ _ v I' s' vo⟩
def iu (f:VF D):SF:=λenv β=>toS (f (vl env) β) λd β'=>.rt d true β'
def ic (he:SE X Γ E e f L .w):SS X Γ E (.Return (some e) pos) (iu f):=by
 refine PS.post (ki he) λN σ H ⟨env,G,B,β,I,o⟩=>?_
 refine⟨env,G,B,β,I,cI o λd β' k v G' H' I' s' m' vo=>?_⟩
 obtain⟨p,rfl,h1,h2,h3⟩:=vo
 obtain⟨q1,_⟩:=I.fresh h1
 exact k B G' H' σ _ _ I' s' ⟨p,rfl,q1,h2,h3⟩
def qN (i:Nat):SF:=λenv β=>match env[i]? with
 |some (.fz d)=>.rt d false β
 |some (.ow d)=>.rt d true β
 |_=>.bad
theorem oN (i:Nat){x:Str}{p:Pos}(hN:X.N[i]? =some x:=by rfl)(hv:va X.env.scope x:=by first |exact Or.inl rfl |exact Or.inr (Or.inl rfl) |exact Or.inr (Or.inr rfl))(hd:(x == ("__debug__":Str))=false:=by decide)
  (hcd:(x == ("__classdict__":Str))=false:=by decide):SS X Γ E (.Return (some (.Name x p)) pos) (qN i):=by
 refine PS.post (ki (jo hN hv hd hcd)) λN σ H ⟨env,G,B,β,I,o⟩=>?_
 unfold qN at o
 cases q:env[i]? with
 |none=>rw[q] at o;exact o.elim
 |some s=>
  rw[q] at o
  cases s with
  |no=>exact o.elim
  |bx=>exact o.elim
  |br d=>exact o.elim
  |fz d=>
   obtain⟨v,h1,h2⟩:=I.slot i _ q
   exact⟨v,h1,o B G H σ env v I (ah.refl _) h2⟩
  |ow d=>
   obtain⟨p,h1,h2,h3,h4,h5⟩:=I.slot i _ q
   exact⟨_,h1,o B G H σ env _ I (ah.refl _) ⟨p,rfl,h2,h3,h5⟩⟩
def gr (L:List Nat)(t:VF Bool)(m m':SF):SF:=λenv β=>toS (t (vl env) β) λc β'=>if c=true then m (aX L env) β' else m' (aX L env) β'
theorem bV {x y:List Stmt}(hc:uH X Γ E c ta L)(ha:zb X Γ E x m)(hb:zb X Γ E y m'):SS X Γ E (.If c x y pos) (gr L ta m m'):=by
 refine PS.post (zF hc ha hb) λN σ H ⟨env,G,B,β,I,o⟩=>?_
 refine⟨env,G,B,β,I,cI o λd β' k G' H' I' s' m'=>?_⟩
 cases d with
 |true=>exact nX ⟨_,G',B,β',I',qW.weak k s'⟩
 |false=>exact oO ⟨_,G',B,β',I',qW.weak k s'⟩
def Walk (K:Frag)(B:Option Addr)(G H1:Hp)(ds:List D)(J:It):Prop:=∀Gc H (i:Nat),ah G Gc->ah Gc H->fE B H1 H->
 (i < ds.length->J.go i H/\∀x H',J.yld i H x H'->∃G' d,Ext Gc H G' H'/\ds[i]? =some d/\Rp K G' x d)/\(ds.length<=i->J.stop i H)
def iT (Γ:Fx)(E:XK)(f:VF (List D))(L:List Nat)(md:Md):TI:=λσ H Rr=>∃env G B β,SR Γ B G H σ env β/\
 Out Γ E (f (vl env) β) λds β'=>∀J G' H',SR Γ B G' H' σ (aX L env) β'->ah G G'->fE B H H'->Walk Γ.K B G' (match md with | .b=>H' |_=>λ_=>none) ds J->Rr J H'
def SI (X:Cx)(Γ:Fx)(E:XK)(tg e:Expr)(f:VF (List D))(L:List Nat)(md:Md):Prop:=PI X tg e (iT Γ E f L md)
def PI.post {X:Cx}{tg e:Expr}{t u:TI}(h:PI X tg e t)(m:∀σ H Q,u σ H Q->t σ H Q):PI X tg e u:=λpins s σ H Q I q=>h pins s σ H Q I (m σ H Q q)
variable {tg:Expr}
def nY:D->Option (List D)
 | .list ds=>some ds
 | .tuple ds=>some ds
 |_=>none
def eI (fa:VF D):VF (List D):=λvs β=>(fa vs β).bnd λx β1=>R.of (nY x) β1
end
def FF (K:Frag)(tl:TE):TI:=λσ H R=>tl σ H λx H1=>∃a xs,x=.ref a/\((fZ K H1 a xs/\R (uq K a) H1)\/(cP K H1 a xs/\R (zK K a) H1))
section
variable {X:Cx}{tg l:Expr}{tl:TE}
def zT (hl:PE X l tl):PI X tg l (FF X.K tl):=by
 intro pins s σ H R I h
 refine b7 (hl pins s σ H _ I h) λv s1 ⟨x,H1,I1,r1,q1⟩=>?_
 obtain⟨a,xs,e,q⟩:=q1
 subst e
 cases r1
 rcases q with⟨hq,q⟩ | ⟨hq,q⟩
 ·obtain⟨its,rv,p,hz⟩:=I1.list hq
  refine Ij p.isList ?_
  refine⟨s1.heap.objs.size,[s1.heap.objs.size],_,_,H1,rfl,I1.kept (t':=s1.toks) λb o e=>FT _ e,km a _,⟨_,Gb _ rfl,rfl,rfl⟩,λb hb=>?_,q⟩
  have e:b=s1.heap.objs.size:=by simpa using hb
  subst e
  exact I1.fpOk (FX _) (I1.hok.fresh (FX _))
 ·obtain⟨its,rv,p,hz⟩:=I1.tuple hq
  refine Hu (show s1.heap.IsTuple a its.toArray from p) ?_
  refine⟨s1.heap.objs.size,[s1.heap.objs.size],_,_,H1,rfl,I1.kept (t':=s1.toks) λb o e=>FT _ e,lN a _,⟨_,Gb _ rfl,rfl,rfl⟩,λb hb=>?_,q⟩
  have e:b=s1.heap.objs.size:=by simpa using hb
  subst e
  exact I1.fpOk (FX _) (I1.hok.fresh (FX _))
end
section
variable {X:Cx}{Γ:Fx}{E:XK}{e a b c:Expr}{f fa fb:VF D}{L La Lb:List Nat}{md ma mb:Md}{pos:Pos}{st:Stmt}{sts:List Stmt}{m m':SF}{ta:VF Bool}{tg:Expr}
def kh {K:Frag}{B:Option Addr}{G H1:Hp}{p:Addr}{xs:List V}{ds:List D}(h:∀Gc H,ah G Gc->ah Gc H->fE B H1 H->fZ K H p xs)(r:cv K G xs ds):Walk K B G H1 ds (uq K p):=λGc H i s1 s2 m=>by
 have hq:=h Gc H s1 s2 m
 refine⟨λhi=>⟨?_,λx H' y=>?_⟩,λhi=>⟨xs,hq,by rw[r.len];exact hi⟩⟩
 ·have hi':i < xs.length:=by rw[r.len];exact hi
  exact⟨xs,xs[i],hq,by simp[hi']⟩
 ·obtain⟨rfl,y⟩:=y
  obtain⟨d,e,q⟩:=r.at' (y xs hq)
  exact⟨Gc,d,Ext.refl s2,e,q.mono s1⟩
def pH {K:Frag}{B:Option Addr}{G H1:Hp}{p:Addr}{xs:List V}{ds:List D}(h:∀Gc H,ah G Gc->ah Gc H->fE B H1 H->cP K H p xs)(r:cv K G xs ds):Walk K B G H1 ds (zK K p):=λGc H i s1 s2 m=>by
 have hq:=h Gc H s1 s2 m
 refine⟨λhi=>⟨?_,λx H' y=>?_⟩,λhi=>⟨xs,hq,by rw[r.len];exact hi⟩⟩
 ·have hi':i < xs.length:=by rw[r.len];exact hi
  exact⟨xs,xs[i],hq,by simp[hi']⟩
 ·obtain⟨rfl,y⟩:=y
  obtain⟨d,e,q⟩:=r.at' (y xs hq)
  exact⟨Gc,d,Ext.refl s2,e,q.mono s1⟩
theorem qf (hK:X.K=Γ.K)(ha:SE X Γ E a fa La .v):SI X Γ E tg a (eI fa) La .v:=by
 refine PI.post (zT ha) λσ H Q ⟨env,G,B,β,I,o⟩=>?_
 refine⟨env,G,B,β,I,o.bnd.imp λd1 β1 h x G1 H1 I1 s1 m1 vx=>?_⟩
 obtain⟨ds,e,k⟩:=h.of
 rw[hK]
 have vx:Rp Γ.K G1 x d1:=vx
 cases d1 with
 |list l=>
  cases e
  cases vx with
  | @lst p xs _ hq r=>exact⟨p,xs,rfl,.inl ⟨.inl (Rd.mono (.inl hq) I1.sub),k _ G1 H1 I1 s1 m1 (kh (λGc H t1 t2 _=>.inl (Rd.mono (.inl hq) (t1.trans t2))) r)⟩⟩
 |tuple l=>
  cases e
  cases vx with
  | @tup p xs _ hq r=>exact⟨p,xs,rfl,.inr ⟨hq.grow I1.sub.grow,k _ G1 H1 I1 s1 m1 (pH (λGc H t1 t2 _=>hq.grow (t1.trans t2).grow) r)⟩⟩
 |_=>cases e
theorem oi (hK:X.K=Γ.K)(ha:SE X Γ E a fa La ma):SI X Γ E tg a (eI fa) La .b:=by
 refine PI.post (zT ha) λσ H Q ⟨env,G,B,β,I,o⟩=>?_
 refine⟨env,G,B,β,I,o.bnd.imp λd1 β1 h x G1 H1 I1 s1 m1 vx=>?_⟩
 obtain⟨ds,e,k⟩:=h.of
 rw[hK]
 have vx:=vx.brw I.boxThere
 cases d1 with
 |list l=>
  cases e
  rcases vx with vx | ⟨p,rfl,hb,xs,q,r⟩
  ·cases vx with
   | @lst p xs _ hq r=>exact⟨p,xs,rfl,.inl ⟨.inl (Rd.mono (.inl hq) I1.sub),k _ G1 H1 I1 s1 m1 (kh (λGc H t1 t2 _=>.inl (Rd.mono (.inl hq) (t1.trans t2))) r)⟩⟩
  ·exact⟨p,xs,rfl,.inl ⟨.inl (.inl q),k _ G1 H1 I1 s1 m1 (kh (λGc H t1 t2 mv=>.inl (.inl (mv.1 p _ q hb))) r)⟩⟩
 |tuple l=>
  cases e
  rcases vx with vx | ⟨p,rfl,hb,q⟩
  ·cases vx with
   | @tup p xs _ hq r=>exact⟨p,xs,rfl,.inr ⟨hq.grow I1.sub.grow,k _ G1 H1 I1 s1 m1 (pH (λGc H t1 t2 _=>hq.grow (t1.trans t2).grow) r)⟩⟩
  ·exact q.elim
 |_=>cases e
def fD (lo:Int)(n:Nat):List D:=(List.range n).map λ(k:Nat)=>int (lo + k)
def uy (lo:Int)(n:Nat):(fD lo n).length=n:=by unfold fD;simp
def vI {K:Frag}{B:Option Addr}{G H1:Hp}(lo:Int)(n:Nat):Walk K B G H1 (fD lo n) (v9 lo n):=λGc H i s1 s2 m=>by
 rw[uy]
 refine⟨λhi=>⟨hi,λx H' y=>?_⟩,λhi=>hi⟩
 obtain⟨rfl,rfl⟩:=y
 refine⟨Gc,.int (lo + i),Ext.refl s2,?_,.int _⟩
 unfold fD
 rw[Gf,Iw hi];rfl
def zC (j:Int):Bool:=Nat.ble j.natAbs 1000000
def we {j:Int}(h:zC j=true): -(2 ^ 62)<=j/\j < 2 ^ 62:=by
 have:=Nat.le_of_ble_eq_true h
 omega
def ve {j:Int}(h: -1000<=j)(h2:j<=10000):zC j=true:=Nat.ble_eq_true_of_le (by omega)
def eT (fa:VF D):VF (List D):=λvs β=>(fa vs β).bnd λx β1=>match x with
 | .int j=>if zC j=true then .ok (fD 0 j.toNat) β1 else .bad
 |_=>.bad
theorem iD {p:Pos}(hg:Gl X "range")(hm:X.mg "range"=none)(ha:SE X Γ E a fa La ma)(hs:starEach [a] X.env= [(false,eval a X.env)]:=by rfl)(hs':starEach [a] X.env=(false,eval a X.env) :: starEach [] X.env:=by rfl):SI X Γ E tg (.Call (.Name "range" p) [a] [] pos) (eT fa) La md:=by
 refine PI.post (i6 hg hm (aN ha bK hs') hs) λσ H Q ⟨env,G,B,β,I,o⟩=>?_
 refine⟨env,G,B,β,I,o.bnd.imp λd1 β1 h x G1 H1 I1 s1 m1 vx=>?_⟩
 have vx:=vx.brw I.boxThere
 cases d1 with
 |int j=>
  obtain rfl:=vx.int
  dsimp only at h
  by_cases hj:zC j=true
  ·rw[FZ hj] at h
   exact⟨j,rfl,(we hj).1,(we hj).2,h _ G1 H1 I1 s1 m1 (vI 0 _)⟩
  ·rw[Gd hj] at h;exact h.elim
 |_=>exact h.elim
inductive Tg where
 |nm (i:Nat)
 |two (i j:Nat)
def pairD:D->Option (D×D)
 | .tuple [x,y]=>some (x,y)
 |_=>none
def wj {d x y:D}(h:pairD d=some (x,y)):d=.tuple [x,y]:=by
 unfold pairD at h
 split at h
 ·cases h;rfl
 ·cases h
def du:Tg->D->En->Option En
 | .nm i,d,env=>some (env.set i (.fz d))
 | .two i j,d,env=>(pairD d).map λp=>(env.set i (.fz p.1)).set j (.fz p.2)
def pM:Tg->D->List Nv->Option (List Nv)
 | .nm i,d,vs=>some (vs.set i (.da d))
 | .two i j,d,vs=>(pairD d).map λp=>(vs.set i (.da p.1)).set j (.da p.2)
def ra (env:En)(i:Nat)(s:Sl):vl (env.set i s)=(vl env).set i s.val:=by unfold vl;rw[List.map_set]
theorem yp (t:Tg)(d:D)(env:En):(du t d env).map vl=pM t d (vl env):=by
 cases t with
 |nm i=>show some (vl _)=some _;rw[ra];rfl
 |two i j=>
  show ((pairD d).map _).map vl=(pairD d).map _
  cases pairD d with
  |none=>rfl
  |some p=>show some (vl _)=some _;rw[ra,ra];rfl
def gT (Γ:Fx)(t:Tg):TG:=λv σ H Q=>∃env G B β d env',SR Γ B G H σ env β/\Rp Γ.K G v d/\du t d env=some env'/\∀σ',SR Γ B G H σ' env' β->Q σ' H
def SG (X:Cx)(Γ:Fx)(tg:Expr)(t:Tg):Prop:=PG X tg (gT Γ t)
def PG.post {X:Cx}{tg:Expr}{t u:TG}(h:PG X tg t)(m:∀v σ H Q,u v σ H Q->t v σ H Q):PG X tg u:=λpins s σ H v uu Q I r q=>h pins s σ H v uu Q I r (m v σ H Q q)
def dz {i:Nat}{x:Str}(hN:X.N.Nodup)(hi:X.N[i]? =some x:=by rfl)(hx:Loc X.env.scope x:=by first |exact Or.inl rfl |exact Or.inr rfl)(hf:X.fn x=true\/X.env.scope.names.lookup x=some .local:=by first |exact .inl rfl |exact .inr rfl |assumption):SG X Γ (.Name x pos) (.nm i):=by
 refine PG.post (cx hN hi hx hf) λv σ H Q ⟨env,G,B,β,d,env',I,r,e,k⟩=>?_
 cases e
 exact k _ (I.set' i r)
theorem dg {i j:Nat}{x y:Str}{px py:Pos}{n:Nat}(hN:X.N.Nodup)(hc:X.calm=true:=by rfl)(hK:X.K=Γ.K:=by rfl)(hi:X.N[i]? =some x:=by rfl)(hj:X.N[j]? =some y:=by rfl)(hx:Loc X.env.scope x:=by first |exact Or.inl rfl |exact Or.inr rfl)(hy:Loc X.env.scope y:=by first |exact Or.inl rfl |exact Or.inr rfl)
  (hf:X.fn x=true\/X.env.scope.names.lookup x=some .local:=by first |exact .inl rfl |exact .inr rfl |assumption) (hf':X.fn y=true\/X.env.scope.names.lookup y=some .local:=by first |exact .inl rfl |exact .inr rfl |assumption):SG X Γ (.Tuple [.Name x px,.Name y py] n pos) (.two i j):=by
 refine PG.post (mz (n:=2) hc (cQ (cx hN hi hx hf) (cQ (cx hN hj hy hf') jF))) λv σ H Q ⟨env,G,B,β,d,env',I,r,e,k⟩=>?_
 rw[hK]
 have e:(pairD d).map (λp=>(env.set i (.fz p.1)).set j (.fz p.2))=some env':=e
 cases q:pairD d with
 |none=>rw[q] at e;cases e
 |some p=>
  obtain⟨dx,dy⟩:=p
  rw[q] at e
  cases e
  obtain rfl:=wj q
  cases r with
  | @tup p xs _ hq r=>
   cases r with
   |cons r1 r=>
    cases r with
    |cons r2 r=>
     cases r
     exact⟨p,_,rfl,hq.grow I.sub.grow,rfl,_,_,rfl,_,_,rfl,rfl,k _ ((I.set' i r1).set' j r2)⟩
def nV (t:Tg)(m:SF):List D->SF
 | []=>λenv β=>.nx env β
 |d :: ds=>λenv β=>match du t d env with
  |none=>.bad
  |some env1=>match m env1 β with
   | .nx env2 β2=>nV t m ds env2 β2
   | .ct env2 β2=>nV t m ds env2 β2
   | .bk env2 β2=>.nx env2 β2
   |r=>r
def dv (t:Tg)(L:List Nat)(fi:VF (List D))(m:SF):SF:=λenv β=>toS (fi (vl env) β) λds β'=>nV t m ds (aX L env) β'
def dM {t:Tg}{fi:VF (List D)}{x:List Stmt}(hp:PassesOwn (model X.prog X.w) X.A X.env X.xe)(hc:X.calm=true)(hi:SI X Γ E tg e fi L .v)(hg:SG X Γ tg t)(hb:zb X Γ E x m)(hs:∀x,foldedSetIterable e X.env x=pure x:=by intro _;rfl):SS X Γ E (.For tg e x [] pos) (dv t L fi m):=by
 refine PS.post (nS hp hc hi hg hb hs) λN σ H ⟨env,G,B,β,I,o⟩=>?_
 refine⟨env,G,B,β,I,cI o λds β' q J G' H' I' s' m' w=>?_⟩
 have w:Walk Γ.K B G' (λ_=>none) ds J:=w
 refine⟨λi n σ H=>n=ds.length - i/\i<=ds.length/\∃env G1 B β,SR Γ B G1 H σ env β/\ah G' G1/\qW Γ E G1 N (nV t m (ds.drop i) env β),⟨ds.length,by simp,GL _,aX L env,G',B,β',I',ah.refl _,by rw[List.drop_zero];exact qW.weak q s'⟩,?_⟩
 rintro i n σ H ⟨rfl,hi,env,G1,B1,β1,I1,s1,q⟩
 obtain⟨w1,w2⟩:=w G1 H i s1 I1.sub ⟨(λb o e=>by cases e),λb o u e=>by cases e⟩
 by_cases hlt:i < ds.length
 ·obtain⟨go,yl⟩:=w1 hlt
  refine .inr ⟨go,λσ H=>∃env G2 B β,SR Γ B G2 H σ env β/\ah G' G2/\qW Γ E G2 N (nV t m (ds.drop (i + 1)) env β),λσ2 H2 h=>⟨ds.length - (i + 1),by omega,rfl,hlt,h⟩,λx H2 y=>?_⟩
  obtain⟨G2,d,x2,ed,rd⟩:=yl x H2 y
  have I2:=I1.ext x2
  have q:=qW.weak q x2.gg
  rw[List.drop_eq_getElem_cons hlt] at q
  have ed':ds[i]=d:=by rw[FU hlt] at ed;exact Option.some.inj ed
  rw[ed'] at q
  unfold nV at q
  cases eb:du t d env with
  |none=>rw[eb] at q;exact q.elim
  |some env1=>
   rw[eb] at q
   refine⟨env,G2,B1,β1,d,env1,I2,rd,eb,λσ3 I3=>⟨env1,G2,B1,β1,I3,?_⟩⟩
   have s2:=s1.trans x2.gg
   dsimp only at q
   cases r:m env1 β1 with
   |nx env2 β2=>rw[r] at q;exact λB2 G3 H3 σ2 I2 s3=>⟨env2,G3,B2,β2,I2,s2.trans s3,qW.weak q s3⟩
   |ct env2 β2=>rw[r] at q;exact λB2 G3 H3 σ2 I2 s3=>⟨env2,G3,B2,β2,I2,s2.trans s3,qW.weak q s3⟩
   |bk env2 β2=>rw[r] at q;exact λB2 G3 H3 σ2 I2 s3=>q B2 G3 H3 σ2 I2 s3
   |rt d fr β2=>rw[r] at q;exact q
   |exc c=>rw[r] at q;exact q
   |bad=>rw[r] at q;exact q
 ·have e:i=ds.length:=by omega
  subst e
  rw[List.drop_length] at q
  exact .inl ⟨w2 (FX _),q B1 G1 H σ I1 (ah.refl _)⟩
end
abbrev Fx.fg (Γ:Fx)(H0 G0:Hp)(par:List Addr)(br:Nat->Bool)(bx:Option Addr):Fx:=⟨Γ.K,H0,G0,par,Γ.ca,br,bx⟩
def fI (own:Nat)(ixs:List Nat)(vs:List Nv):List Nv:=List.replicate own .no ++ ixs.map λi=>(vs[i]?).getD .no
def Cj:Option Sl->Sl
 |some (.ow d)=>.br d
 |some s=>s
 |none=>.no
def benv (own:Nat)(ixs:List Nat)(env:En):En:=List.replicate own .no ++ ixs.map λi=>Cj env[i]?
theorem yd (o:Option Sl):(Cj o).val=(o.map Sl.val).getD .no:=by
 cases o with
 |none=>rfl
 |some s=>cases s <;> rfl
def yY (own:Nat)(ixs:List Nat)(env:En):vl (benv own ixs env)=fI own ixs (vl env):=by
 unfold vl benv fI
 rw[Iz,List.map_replicate,IF]
 congr 1
 refine HW λi _=>?_
 show (Cj env[i]?).val=_
 rw[yd,Gf]
def rR (env:En):Prop:=∀(i:Nat) (d:D),env[i]?≠some (.ow d)
theorem qh {env:En}(h:rR env)(L:List Nat):aX L env=env:=by
 unfold aX
 induction L with
 |nil=>rfl
 |cons i L ih=>
  rw[foldl_cons]
  have:gM env i=env:=by
   unfold gM
   split
   ·rename_i d e;exact absurd e (h i d)
   ·rfl
  rw[this];exact ih
def nI (own:Nat)(ixs:List Nat)(env:En):rR (benv own ixs env):=λi d e=>by
 unfold benv at e
 have hm:=Gy e
 rcases GB.mp hm with h |h
 ·have:=IH h;cases this
 ·obtain⟨k,_,hk⟩:=Gh.mp h
  cases q:env[k]? with
  |none=>rw[q] at hk;cases hk
  |some s=>rw[q] at hk;cases s <;> cases hk
def lT {env:En}(h:rR env)(i:Nat)(d:D):rR (env.set i (.fz d)):=λj d' e=>by
 by_cases z:i=j
 ·subst z
  by_cases hi:i < env.length
  ·rw[Gq hi] at e;cases e
  ·rw[Hx (by omega)] at e;exact h _ _ e
 ·rw[Gp z] at e;exact h _ _ e
theorem uF {env env1:En}{t:Tg}{d:D}(h:rR env)(e:du t d env=some env1):rR env1:=by
 cases t with
 |nm i=>cases e;exact lT h i d
 |two i j=>
  have e:(pairD d).map _=some env1:=e
  cases q:pairD d with
  |none=>rw[q] at e;cases e
  |some p=>rw[q] at e;cases e;exact lT (lT h _ _) _ _
theorem vp {env env1:En}{t:Tg}{d:D}(e:du t d env=some env1)(d':D):du t d' env1=du t d' env:=by
 cases t with
 |nm i=>cases e;show some _=some _;rw[set_set]
 |two i j=>
  have e:(pairD d).map _=some env1:=e
  cases q:pairD d with
  |none=>rw[q] at e;cases e
  |some p=>
   rw[q] at e;cases e
   show (pairD d').map _=(pairD d').map _
   cases pairD d' with
   |none=>rfl
   |some p'=>
    show some _=some _
    congr 1
    dsimp only
    by_cases z:i=j
    ·subst z;simp[set_set]
    ·rw[List.set_comm _ _ (Ne.symm z),set_set,set_set]
def Ext.mov {G H G' H':Hp}(x:Ext G H G' H')(B:Option Addr):fE B H H':=x.hh.mov B
section
variable {Γ:Fx}{B:Option Addr}{G H G1 H1 Gc Hc:Hp}{σ σ':St}{env envb:En}{β β':Int}{own:Nat}{ixs:List Nat}{Da:Addr}{acc:List V}
def su (envb:En):Nat->Bool:=λj=>match envb[j]? with
 |some (.br _)=>true
 |_=>false
def SR.block (I:SR Γ B G H σ env β)(own:Nat)(ixs:List Nat)(hD:H Da=none):SR (Γ.fg (upd H Da (.lst [])) G (Da :: B.toList) (su (benv own ixs env)) B) B G (upd H Da (.lst [])) (om own ixs σ) (benv own ixs env) β:=by
 obtain⟨q1,q2,q3,q4⟩:=I.fresh hD
 have nB:∀b,B=some b->b≠Da:=λb e z=>q3 (by rw[<-z];exact e)
 refine⟨I.sub.trans (ah.new hD),ah.refl _,λb _ h=>h,λb o h _=>Kt.of h,λb hb=>?_,λb e=>e,λb e=>?_,?_,λi s e=>?_,λi j c d d' e=>absurd e (nI own ixs env i d)⟩
 ·rcases FY.mp hb with z |z
  ·subst z;exact Mx.lst av
  ·have z':B=some b:=by simpa using z
   exact Mx.lst (by rw[au (nB b z')];exact (I.box b z').1)
 ·obtain⟨h1,h2,_⟩:=I.box b e
  exact⟨by rw[au (nB b e)];exact h1,h2,.inl (F0 _ (by simpa using e))⟩
 ·unfold om benv;simp
 ·by_cases hi:i < own
  ·unfold benv at e
   rw[GC (by simpa using hi),Hl,FZ hi] at e
   cases e;trivial
  ·have e0:=e
   unfold benv at e
   rw[GA (by simpa using hi),HJ,Gf] at e
   cases ek:ixs[i - own]? with
   |none=>rw[ek] at e;cases e
   |some k=>
    rw[ek] at e
    have e:Cj env[k]? =s:=Option.some.inj e
    have es:(om own ixs σ)[i]? =some ((σ[k]?).join):=by
     unfold om
     rw[GA (by simpa using hi),HJ,Gf,ek];rfl
    rw[es]
    cases q:env[k]? with
    |none=>rw[q] at e;subst e;trivial
    |some t=>
     rw[q] at e
     have w:=I.slot k t q
     cases t with
     |no=>subst e;trivial
     |fz d=>subst e;obtain⟨v,h1,h2⟩:=w;exact⟨v,by rw[h1];rfl,h2⟩
     |bx=>subst e;obtain⟨a,h1,h2⟩:=w;exact⟨a,by rw[h1];rfl,h2⟩
     |ow d=>
      subst e
      obtain⟨a,h1,h2,h3,h4,h5⟩:=w
      obtain⟨o,ho⟩:=h5.obj
      have aD:a≠Da:=az ho hD
      refine⟨by show su _ i=true;unfold su;rw[e0];rfl,a,by rw[h1];rfl,h4,?_,h5.mono (ah.refl _) λo q=>Kt.of (by rw[au aD];exact q)⟩
      intro hm
      rcases FY.mp hm with z |z
      ·exact aD z
      ·exact h4 (by simpa using z)
     |br d=>
      subst e
      obtain⟨b1,a,h1,h4,hp,h5⟩:=w
      obtain⟨o,ho⟩:=h5.obj
      have aD:a≠Da:=az ho hD
      refine⟨by show su _ i=true;unfold su;rw[e0];rfl,a,by rw[h1];rfl,h4,?_,h5.mono (ah.refl _) λo q=>Kt.of (by rw[au aD];exact q)⟩
      intro hm
      rcases FY.mp hm with z |z
      ·exact aD z
      ·exact h4 (by simpa using z)
def SR.unblock (I:SR Γ B G H σ env β){br:Nat->Bool}(hD:H Da=none)(J:SR (Γ.fg (upd H Da (.lst [])) G (Da :: B.toList) br B) B Gc Hc σ' envb β'):SR Γ B Gc Hc σ env β'/\fE B H Hc/\Gc Da=none:=by
 obtain⟨q1,q2,q3,q4⟩:=I.fresh hD
 have up:∀{b:Addr},Mx H b->Mx (upd H Da (.lst [])) b:=λ{b} h=>h.same λo e=>Kt.of (by rw[au (az e hD)];exact e)
 have mv0:∀b o,H b=some o->B≠some b->Kt Hc b o:=λb o e n=>J.keep b o (show upd H Da (.lst []) b=some o by rw[au (az e hD)];exact e) λhm=>by
  rcases FY.mp hm with z |z
  ·rw[z,hD] at e;cases e
  ·exact n (by simpa using z)
 have mv:fE B H Hc:=⟨mv0,λb o u e=>mv0 b _ e λz=>by rw[(I.box b z).1] at e;cases e⟩
 refine⟨⟨J.sub,I.old.trans J.old,λb h1 h2=>J.new b (up (I.thereM h1)) (I.new b h1 h2),λb o h1 h2=>lY (I.keep b o h1 h2) mv λz=>?_,λb hb=>J.thereM (up (I.pin b hb)),I.fix,λb e=>?_,I.len,λi s e=>?_,I.sep⟩,mv,J.new Da (Mx.lst (show upd H Da (.lst []) Da=some (.lst []) from av)) q2⟩
 ·obtain⟨_,_,h3⟩:=I.box b z
  rcases h3 with h3 |h3
  ·exact h2 h3
  ·rw[h1] at h3;cases h3
 ·obtain⟨j1,j2,_⟩:=J.box b e
  exact⟨j1,j2,(I.box b e).2.2⟩
 ·have w:=I.slot i s e
  cases s with
  |no=>trivial
  |fz d=>obtain⟨v,h1,h2⟩:=w;exact⟨v,h1,h2.mono J.old⟩
  |bx=>exact w
  |ow d=>
   obtain⟨a,h1,h2,h3,h4,h5⟩:=w
   exact⟨a,h1,h2,J.new a (up h5.mx) h3,h4,h5.mono J.old λo q=>mv.1 a o q h4⟩
  |br d=>
   obtain⟨b1,a,h1,h4,hp,h5⟩:=w
   exact⟨b1,a,h1,h4,hp,h5.mono J.old λo q=>mv.1 a o q h4⟩
def SR.updD {ys:List V}(J:SR Γ B G H σ env β)(hp:Da∈Γ.par)(h0:Mx Γ.H0 Da)(g0:Γ.G0 Da=none)(hB:B≠some Da):SR Γ B G (upd H Da (.lst ys)) σ env β:=by
 have gD:=J.new Da h0 g0
 have ha:∀x y,H Da≠some (.aX x y):=λx y w=>(J.pin Da hp).2 _ w trivial
 refine⟨λb u q=>iy (J.sub b u q) (λz=>by rw[z,gD] at q;cases q) ha,J.old,J.new,λb u q n=>iy (J.keep b u q n) (λz=>n (by rw[z];exact hp)) ha,λb hb=>?_,J.fix,λb e=>?_,J.len,λi s e=>?_,J.sep⟩
 ·by_cases z:b=Da
  ·subst z;exact Mx.lst av
  ·exact (J.pin b hb).same λo e=>Kt.of (by rw[au z];exact e)
 ·obtain⟨h1,h2⟩:=J.box b e
  exact⟨by rw[au (λz=>hB (by rw[<-z];exact e))];exact h1,h2⟩
 ·have w:=J.slot i s e
  cases s with
  |no=>trivial
  |fz d=>exact w
  |bx=>exact w
  |ow d=>
   obtain⟨a,h1,h2,h3,h4,h5⟩:=w
   have aD:a≠Da:=λz=>h0.1 (by rw[<-z];exact h2)
   exact⟨a,h1,h2,h3,h4,h5.mono (ah.refl _) λo q=>Kt.of (by rw[au aD];exact q)⟩
  |br d=>
   obtain⟨b1,a,h1,h4,hpa,h5⟩:=w
   have aD:a≠Da:=λz=>hpa (by rw[z];exact hp)
   exact⟨b1,a,h1,h4,hpa,h5.mono (ah.refl _) λo q=>Kt.of (by rw[au aD];exact q)⟩
end
def R.okb {α γ:Type}(r:R α)(k:α->Int->R γ):R γ:=match r with
 | .ok a β=>k a β
 |_=>.bad
def gA (t:Tg)(ft:VF Bool)(fe:VF D)(vs:List Nv):List D->Int->R (List D)
 | [],β=>.ok [] β
 |d :: ds,β=>match pM t d vs with
  |none=>.bad
  |some vs1=>(ft vs1 β).okb λc β1=>if c=true then (fe vs1 β1).okb λx β2=>(gA t ft fe vs ds β2).okb λxs β3=>.ok (x :: xs) β3 else gA t ft fe vs ds β1
def bu (own:Nat)(ixs:List Nat)(t:Tg)(fi:VF (List D))(ft:VF Bool)(fe:VF D):VF D:=λvs β=>(fi vs β).bnd λds β1=>if ds.length<=sizeLine then (gA t ft fe (fI own ixs vs) ds β1).okb λxs β2=>.ok (.list xs) β2 else .bad
def pk:VF Bool:=λ_ β=>.ok true β
def xR (own:Nat)(ixs Lc:List Nat)(j:Nat):Bool:=decide (j < own) || (match ixs[j - own]? with
 |some i=>Lc.contains i
 |none=>false)
theorem yR {α γ:Type}{Γ:Fx}{E:XK}{r:R α}{k:α->Int->R γ}{P:γ->Int->Prop}(h:Out Γ E (r.okb k) P):∃a β,r=.ok a β/\Out Γ E (k a β) P:=by
 cases r with
 |ok a β=>exact⟨a,β,rfl,h⟩
 |exc c=>exact h.elim
 |bad=>exact h.elim
section
variable {X:Cx}{Γ:Fx}{E:XK}{tg iter elt:Expr}{ifs:List Expr}{scope:Scope}{NB:List Str}{own:Nat}{ixs Li Lc Lt Le:List Nat}{t:Tg}{fi:VF (List D)}{ft:VF Bool}{fe:VF D}{pos:Pos}
def dP {X:Cx}{Γ:Fx}{E:XK}:vD X [] (qT Γ E pk []):=λpins s σ H Q I ⟨env,G,B,β,J,o⟩=>oP pins s σ H Q I (o G H J (ah.refl _) (fE.refl _ _))
def fR {X:Cx}{Γ:Fx}{E:XK}{c:Expr}{ta:VF Bool}{L:List Nat}(h:uH X Γ E c ta L):vD X [c] (qT Γ E ta L):=sx h
def tM {NB:List Str}{scope:Scope}{C:Addr}{ex:List Addr}{s3:Shared}{H3:Hp}{pn:List (Addr×Obj)}{P:Program}{w:World}:Passes (kM P w) (fg X NB scope C ex s3 H3 pn) E0:=λpins σ H s e s' I h=>by
 obtain⟨_,_,_,_,_,_,_,_,_,q⟩:=h
 exact q.elim
abbrev gU (Γ:Fx)(t:Tg):TG:=λv σ H Q=>∃H0 G0 par br bx,gT (Γ.fg H0 G0 par br bx) t v σ H Q
abbrev tU (Γ:Fx)(own:Nat)(ixs Lc:List Nat)(ft:VF Bool)(Lt:List Nat):TT:=λσ H Q=>∃H0 G0 par br bx,(∀j,xR own ixs Lc j=true->br j=false)/\qT (Γ.fg H0 G0 par br bx) E0 ft Lt σ H Q
abbrev eU (Γ:Fx)(own:Nat)(ixs Lc:List Nat)(fe:VF D)(Le:List Nat):TE:=λσ H Q=>∃H0 G0 par br bx,(∀j,xR own ixs Lc j=true->br j=false)/\pT (Γ.fg H0 G0 par br bx) E0 fe Le .v σ H Q
def xi {σ:St}{H:Hp}{Q:VK}(hLc:∀i,i∈Lc->Γ.br i=false)(h:pT Γ E (bu own ixs t fi ft fe) (Li ++ Lc) .w σ H Q):sh own ixs (iT Γ E fi Li .b) (gU Γ t) (tU Γ own ixs Lc ft Lt) (eU Γ own ixs Lc fe Le) σ H Q:=by
 obtain⟨env,G,B,β,I,o⟩:=h
 refine⟨env,G,B,β,I,o.bnd.imp λds β1 h J G1 H1 I1 s1 m1 wk Da hD=>?_⟩
 have wk:Walk Γ.K B G1 H1 ds J:=wk
 by_cases hz:ds.length<=sizeLine
 case neg=>rw[Gd hz] at h;exact h.elim
 rw[FZ hz] at h
 obtain⟨xs0,β0,e0,h⟩:=yR h
 have h:∀v G' H',SR Γ B G' H' σ (aX (Li ++ Lc) env) β0->ah G G'->fE B H H'->VO Γ.K B H G' H' .w (.list xs0) v->Q v H':=h
 obtain⟨G2,I2,s2⟩:=I1.aX Lc hLc
 rw[<-cJ] at I2
 obtain⟨q1,q2,q3,q4⟩:=I2.fresh hD
 have Ib0:=I2.block own ixs hD
 generalize hbr:su (benv own ixs (aX (Li ++ Lc) env))=br at Ib0
 have hbo:∀j,xR own ixs Lc j=true->br j=false:=by
  intro j hj
  rw[<-hbr]
  unfold su
  split
  ·rename_i d e
   exfalso
   unfold benv at e
   by_cases hjo:j < own
   ·rw[GC (by simpa using hjo),Hl,FZ hjo] at e;cases e
   ·rw[GA (by simpa using hjo),HJ,Gf] at e
    unfold xR at hj
    rw[Gn hjo,Bool.false_or] at hj
    cases ek:ixs[j - own]? with
    |none=>rw[ek] at hj;cases hj
    |some k=>
     rw[ek] at hj e
     have hk:k∈Lc:=by simpa using hj
     have e:Cj (aX (Li ++ Lc) env)[k]? =.br d:=Option.some.inj e
     cases q:(aX (Li ++ Lc) env)[k]? with
     |none=>rw[q] at e;cases e
     |some s=>
      rw[q] at e
      cases s with
      |no=>cases e
      |fz _=>cases e
      |bx=>cases e
      |br d'=>
       obtain⟨b1,_⟩:=I2.slot k _ q
       rw[hLc k hk] at b1;cases b1
      |ow d'=>
       rw[cJ] at q
       have key:∀(M:List Nat) (en:En),k∈M->∀d',(aX M en)[k]?≠some (.ow d'):=by
        intro M
        induction M with
        |nil=>intro en hm;cases hm
        |cons i M ih=>
         intro en hm d' z
         rcases FY.mp hm with y |y
         ·subst y
          have z1:(gM en k)[k]? =some (.ow d'):=lF (L:=M) z
          have z2:=sD z1
          unfold gM at z1
          rw[z2] at z1
          dsimp only at z1
          rw[Gq (Gs.mp z2).1] at z1;cases z1
         ·exact ih (gM en i) y d' z
       exact key Lc _ hk d' q
  ·rfl
 have evb:vl (benv own ixs (aX (Li ++ Lc) env))=fI own ixs (vl env):=by rw[yY,iQ]
 refine⟨λi n σ' H'=>n=ds.length - i/\i<=ds.length/\∃envb Gc β' acc accd,SR (Γ.fg (upd H1 Da (.lst [])) G2 (Da :: B.toList) br B) B Gc H' σ' envb β'/\(envb=benv own ixs (aX (Li ++ Lc) env)\/∃d,du t d (benv own ixs (aX (Li ++ Lc) env))=some envb)/\
   H' Da=some (.lst acc)/\cv Γ.K Gc acc accd/\accd.length<=i/\∃xs,gA t ft fe (fI own ixs (vl env)) (ds.drop i) β'=.ok xs β0/\accd ++ xs=xs0,
  ⟨ds.length,by simp,GL _,_,G2,β1,[],[],Ib0,.inl rfl,av,.nil,GL _,xs0,by rw[List.drop_zero];exact e0,rfl⟩,?_⟩
 rintro i n σ' H' ⟨rfl,hi',envb,Gc,β',acc,accd,Ib,eb,hacc,racc,lacc,xs,ec,exs⟩
 obtain⟨Io,mv,gD⟩:=I2.unblock hD Ib
 obtain⟨w1,w2⟩:=wk Gc H' i (s2.trans Ib.old) Ib.sub mv
 by_cases hlt:i < ds.length
 ·obtain⟨go,yl⟩:=w1 hlt
  refine .inr ⟨go,λσ' H'=>∃envb Gc β' acc accd,SR (Γ.fg (upd H1 Da (.lst [])) G2 (Da :: B.toList) br B) B Gc H' σ' envb β'/\(envb=benv own ixs (aX (Li ++ Lc) env)\/∃d,du t d (benv own ixs (aX (Li ++ Lc) env))=some envb)/\
   H' Da=some (.lst acc)/\cv Γ.K Gc acc accd/\accd.length<=i + 1/\∃xs,gA t ft fe (fI own ixs (vl env)) (ds.drop (i + 1)) β'=.ok xs β0/\accd ++ xs=xs0,λσ2 H2 hh=>⟨ds.length - (i + 1),by omega,rfl,hlt,hh⟩,λx H2 y=>?_⟩
  obtain⟨G3,d,x3,ed,rd⟩:=yl x H2 y
  have I3:=Ib.ext x3
  have ed':ds[i]=d:=by rw[FU hlt] at ed;exact Option.some.inj ed
  rw[List.drop_eq_getElem_cons hlt,ed'] at ec
  unfold gA at ec
  cases ebv:pM t d (fI own ixs (vl env)) with
  |none=>rw[ebv] at ec;cases ec
  |some vs1=>
   rw[ebv] at ec
   dsimp only at ec
   obtain⟨env1,eb1,ev1⟩:∃env1,du t d (benv own ixs (aX (Li ++ Lc) env))=some env1/\vl env1=vs1:=by
    have:=yp t d (benv own ixs (aX (Li ++ Lc) env))
    rw[evb,ebv] at this
    cases q:du t d (benv own ixs (aX (Li ++ Lc) env)) with
    |none=>rw[q] at this;cases this
    |some env1=>rw[q] at this;exact⟨env1,rfl,Option.some.inj this⟩
   have eb2:du t d envb=some env1:=by
    rcases eb with rfl | ⟨d0,eb⟩
    ·exact eb1
    ·rw[vp eb];exact eb1
   have no1:rR env1:=uF (nI _ _ _) eb1
   have a2:H2 Da=some (.lst acc):=x3.hh _ _ hacc
   refine⟨_,_,_,_,_,envb,G3,B,β',d,env1,I3,rd,eb2,λσ3 I4=>?_⟩
   refine⟨_,_,_,_,_,hbo,env1,G3,B,β',I4,?_⟩
   rw[ev1]
   cases et:ft vs1 β' with
   |exc c=>rw[et] at ec;cases ec
   |bad=>rw[et] at ec;cases ec
   |ok c β2=>
    rw[et] at ec
    intro G4 H4 I5 s4 m4
    rw[qh no1] at I5
    have a4:H4 Da=some (.lst acc):=m4.1 _ _ a2 q3
    cases c with
    |false=>
     refine oO ⟨env1,G4,β2,acc,accd,I5,.inr ⟨d,eb1⟩,a4,racc.mono (x3.gg.trans s4),by omega,xs,?_,exs⟩
     exact ec
    |true=>
     refine nX ⟨_,_,_,_,_,hbo,env1,G4,B,β2,I5,?_⟩
     rw[ev1]
     have ec:((fe vs1 β2).okb λx β3=>(gA t ft fe (fI own ixs (vl env)) (ds.drop (i + 1)) β3).okb λxs β4=>R.ok (x :: xs) β4)=R.ok xs β0:=ec
     cases ee:fe vs1 β2 with
     |exc c=>rw[ee] at ec;cases ec
     |bad=>rw[ee] at ec;cases ec
     |ok dx β3=>
      rw[ee] at ec
      intro v G5 H5 I6 s5 m5 vo
      rw[qh no1] at I6
      have a5:H5 Da=some (.lst acc):=m5.1 _ _ a4 q3
      have ec:((gA t ft fe (fI own ixs (vl env)) (ds.drop (i + 1)) β3).okb λxs β4=>R.ok (dx :: xs) β4)=R.ok xs β0:=ec
      cases er:gA t ft fe (fI own ixs (vl env)) (ds.drop (i + 1)) β3 with
      |exc c=>rw[er] at ec;cases ec
      |bad=>rw[er] at ec;cases ec
      |ok ys β4=>
       rw[er] at ec
       cases ec
       refine⟨acc,a5,by rw[racc.len];omega,env1,G5,β3,acc ++ [v],accd ++ [dx],?_,.inr ⟨d,eb1⟩,av,(racc.mono ((x3.gg.trans s4).trans s5)).snoc vo,by rw[GO];simp;omega,ys,er,by rw[<-exs,IM];rfl⟩
       refine I6.updD (Gg ..) (Mx.lst (show upd H1 Da (.lst []) Da=some (.lst []) from av)) (I2.sub.free hD) q3
 ·have e:i=ds.length:=by omega
  subst e
  rw[List.drop_length] at ec
  cases ec
  rw[HZ] at exs
  subst exs
  refine .inl ⟨w2 (FX _),⟨acc,hacc⟩,h _ Gc H' Io ((s1.trans s2).trans Ib.old) (m1.trans mv) ⟨Da,rfl,gB m1 I1.boxThere hD,gD,acc,hacc,racc⟩⟩
def bU (hg:∀H0 G0 par br bx C ex s3 H3 pn,SG (fg X NB scope C ex s3 H3 pn) (Γ.fg H0 G0 par br bx) tg t)(C:Addr)(ex:List Addr)(s3:Shared)(H3:Hp)(pn:List (Addr×Obj)):PG (fg X NB scope C ex s3 H3 pn) tg (gU Γ t):=by
 rintro pins s σ H v u Q I r ⟨H0,G0,par,br,bx,q⟩
 exact hg H0 G0 par br bx C ex s3 H3 pn pins s σ H v u Q I r q
def bX (Lc:List Nat)(hc:X.calm=true)(S:ck X NB own ixs scope)(hLc:∀i,i∈Lc->Γ.br i=false)(hi:SI X Γ E tg iter fi Li .b)
  (hg:∀H0 G0 par br bx C ex s3 H3 pn,SG (fg X NB scope C ex s3 H3 pn) (Γ.fg H0 G0 par br bx) tg t)
  (ht:∀H0 G0 par br bx C ex s3 H3 pn,(∀j,xR own ixs Lc j=true->br j=false)->vD (fg X NB scope C ex s3 H3 pn) ifs (qT (Γ.fg H0 G0 par br bx) E0 ft Lt))
  (he:∀H0 G0 par br bx C ex s3 H3 pn,(∀j,xR own ixs Lc j=true->br j=false)->SE (fg X NB scope C ex s3 H3 pn) (Γ.fg H0 G0 par br bx) E0 elt fe Le .v)
  (hs:∀x,foldedSetIterable iter X.env x=pure x:=by intro _;rfl) :
  SE X Γ E (.ListComp elt [⟨tg,iter,ifs,0⟩] scope pos) (bu own ixs t fi ft fe) (Li ++ Lc) .w:=by
 refine PE.post' (qz (g:=gU Γ t) (tt:=tU Γ own ixs Lc ft Lt) (te:=eU Γ own ixs Lc fe Le) hc S hi (bU hg) (λC ex s3 H3 pn=>?_) (λC ex s3 H3 pn=>?_) hs) λσ H Q h=>xi hLc h
 ·rintro pins s σ H Q I ⟨H0,G0,par,br,bx,b,q⟩
  exact ht H0 G0 par br bx C ex s3 H3 pn b pins s σ H Q I q
 ·rintro pins s σ H Q I ⟨H0,G0,par,br,bx,b,q⟩
  exact he H0 G0 par br bx C ex s3 H3 pn b pins s σ H Q I q
def zf {i:Nat}{y:Str}{py spos:Pos}(Lc:List Nat)(hc:X.calm=true)(S:ck X NB own ixs scope)(hLc:∀i,i∈Lc->Γ.br i=false)(hi:SI X Γ E tg iter fi Li .b)
  (hg:∀H0 G0 par br bx C ex s3 H3 pn,SG (fg X NB scope C ex s3 H3 pn) (Γ.fg H0 G0 par br bx) tg t)
  (ht:∀H0 G0 par br bx C ex s3 H3 pn,(∀j,xR own ixs Lc j=true->br j=false)->vD (fg X NB scope C ex s3 H3 pn) ifs (qT (Γ.fg H0 G0 par br bx) E0 ft Lt))
  (he:∀H0 G0 par br bx C ex s3 H3 pn,(∀j,xR own ixs Lc j=true->br j=false)->SE (fg X NB scope C ex s3 H3 pn) (Γ.fg H0 G0 par br bx) E0 elt fe Le .v)
  (hN:X.N.Nodup) (hy:X.N[i]? =some y:=by rfl) (hl:X.env.scope.names.lookup y=some .local:=by rfl)
  (hsw:swapsWith (.ListComp elt [⟨tg,iter,ifs,0⟩] scope pos) (some (.Name y py)) spos.line X.env=pure true:=by rfl)
  (hs:∀x,foldedSetIterable iter X.env x=pure x:=by intro _;rfl) :
  SS X Γ E (.Assign [.Name y py] (.ListComp elt [⟨tg,iter,ifs,0⟩] scope pos) spos) (cg i (Li ++ Lc) (bu own ixs t fi ft fe)):=by
 refine PS.post (qd (g:=gU Γ t) (tt:=tU Γ own ixs Lc ft Lt) (te:=eU Γ own ixs Lc fe Le) hc S hi (bU hg) (λC ex s3 H3 pn=>?_) (λC ex s3 H3 pn=>?_) hN hy hl hsw hs) λN σ H ⟨env,G,B,β,I,o⟩=>?_
 ·rintro pins s σ H Q I ⟨H0,G0,par,br,bx,b,q⟩
  exact ht H0 G0 par br bx C ex s3 H3 pn b pins s σ H Q I q
 ·rintro pins s σ H Q I ⟨H0,G0,par,br,bx,b,q⟩
  exact he H0 G0 par br bx C ex s3 H3 pn b pins s σ H Q I q
 refine xi hLc ⟨env,G,B,β,I,cI o λd β' k v G' H' I' s' m' vo=>?_⟩
 obtain⟨G2,I2,s2,r⟩:=I.letW I' vo
 exact k B G2 H' _ (I2.set' i r) (s'.trans s2)
def xv {i:Nat}{y:Str}{py spos:Pos}(Lc:List Nat)(hc:X.calm=true)(S:ck X NB own ixs scope)(hLc:∀i,i∈Lc->Γ.br i=false)(hi:SI X Γ E tg iter fi Li .b)
  (hg:∀H0 G0 par br bx C ex s3 H3 pn,SG (fg X NB scope C ex s3 H3 pn) (Γ.fg H0 G0 par br bx) tg t)
  (ht:∀H0 G0 par br bx C ex s3 H3 pn,(∀j,xR own ixs Lc j=true->br j=false)->vD (fg X NB scope C ex s3 H3 pn) ifs (qT (Γ.fg H0 G0 par br bx) E0 ft Lt))
  (he:∀H0 G0 par br bx C ex s3 H3 pn,(∀j,xR own ixs Lc j=true->br j=false)->SE (fg X NB scope C ex s3 H3 pn) (Γ.fg H0 G0 par br bx) E0 elt fe Le .v)
  (hN:X.N.Nodup) (hy:X.N[i]? =some y:=by rfl) (hl:X.env.scope.names.lookup y=some .local:=by rfl)
  (hsw:swapsWith (.ListComp elt [⟨tg,iter,ifs,0⟩] scope pos) (some (.Name y py)) spos.line X.env=pure true:=by rfl)
  (hs:∀x,foldedSetIterable iter X.env x=pure x:=by intro _;rfl) :
  SS X Γ E (.Assign [.Name y py] (.ListComp elt [⟨tg,iter,ifs,0⟩] scope pos) spos) (jj i (Li ++ Lc) (bu own ixs t fi ft fe)):=by
 refine PS.post (qd (g:=gU Γ t) (tt:=tU Γ own ixs Lc ft Lt) (te:=eU Γ own ixs Lc fe Le) hc S hi (bU hg) (λC ex s3 H3 pn=>?_) (λC ex s3 H3 pn=>?_) hN hy hl hsw hs) λN σ H ⟨env,G,B,β,I,o⟩=>?_
 ·rintro pins s σ H Q I ⟨H0,G0,par,br,bx,b,q⟩
  exact ht H0 G0 par br bx C ex s3 H3 pn b pins s σ H Q I q
 ·rintro pins s σ H Q I ⟨H0,G0,par,br,bx,b,q⟩
  exact he H0 G0 par br bx C ex s3 H3 pn b pins s σ H Q I q
 refine xi hLc ⟨env,G,B,β,I,cI o λd β' k v G' H' I' s' m' vo=>?_⟩
 obtain⟨p,rfl,h1,h2,h3⟩:=vo
 obtain⟨q1,q2,q3,q4⟩:=I.fresh h1
 exact k B G' H' _ (I'.setOw' i q1 h2 q3 h3 λj d' z=>q4 j d' (lF z)) s'
end
def fin:SO->FR
 | .nx _ _=>.ok .none false
 | .rt d fr _=>.ok d fr
 | .exc c=>.exc c
 |_=>.bad
def vi (n:Nat)(ds:List D):En:=ds.map Sl.fz ++ List.replicate (n - ds.length) .no
def bo (n p:Nat)(m:SF):List D->FR:=λds=>if ds.length=p then fin (m (vi n ds) 0) else .bad
abbrev Fx.fn (K:Frag)(H G:Hp)(ca:Str->Addr):Fx:=⟨K,H,G,[],ca,λ_=>false,none⟩
def SR.start {K:Frag}{H G:Hp}{ca:Str->Addr}{N:List Str}{vs:List V}{ds:List D}(s:ah G H)(r:cv K G vs ds)(hn:ds.length<=N.length):SR (Fx.fn K H G ca) none G H (start N vs) (vi N.length ds) 0:=by
 have hl:=r.len
 refine⟨s,ah.refl _,λb _ h=>h,λb o h _=>Kt.of h,λb h=>(by cases h),λb h=>(by cases h),λb h=>(by cases h),?_,λi t e=>?_,λi j a d e h=>?_⟩
 ·unfold L2.start vi;simp;omega
 ·unfold vi at e
  by_cases hi:i < ds.length
  ·rw[GC (by simpa using hi),Gf,FU hi] at e
   cases e
   obtain⟨x,hx,rx⟩:=r.at (FU hi)
   refine⟨x,?_,rx⟩
   unfold L2.start
   rw[GC (by simpa[hl] using hi),Gf,hx];rfl
  ·rw[GA (by simpa using hi),Hl] at e
   split at e
   ·cases e;trivial
   ·cases e
 ·unfold vi at h
  have hm:=Gy h
  rcases GB.mp hm with z |z
  ·obtain⟨_,_,z⟩:=Gh.mp z;cases z
  ·have:=IH z;cases this
section
variable {P:Program}{w:World}{K:Frag}{mg:Str->Option Value}{base:Heap}{ca:Str->Addr}
def aW {x qual:Str}{st:Stmt}{f:Addr}{fd:FuncData}{N ps:List Str}{k:Nat}{m:SF}(F:xP K x qual st f fd)(S:aH N ps (ar st))
  (hbody:∀(cdv:Value) (A:Around) (outer:List Env) (s:Shared) (H G:Hp) (E:XK),eJ k (A.deeper (envOfC qual (ar st) s.heap.objs.size f cdv))->zb (i7 (kM P w) P w K mg base N qual (ar st) f cdv A outer s H E) (Fx.fn K H G ca) E (cT st) m) :
  eB P w K mg base (kM P w) (k + 1) f fd ps (xQ K ca ps.length (bo N.length ps.length m)):=by
 have hpn:ps.length<=N.length:=by have:=congrArg List.length S.pre;rw[Hd] at this;omega
 refine F.zC S (λvs H Q E h=>?_) (λcdv A outer s H vs Q E hr h=>?_)
 ·obtain⟨G,ds,sG,hl,r,_⟩:=h
  rw[r.len];exact hl
 ·obtain⟨G,ds,sG,hl,r,h⟩:=h
  refine⟨_,hbody cdv A outer s H G E hr,?_⟩
  have I:=SR.start (ca:=ca) (N:=N) sG r (by omega)
  refine⟨_,G,none,0,I,?_⟩
  unfold bo at h
  rw[FZ hl] at h
  have fin':∀{B G' H' σ env β},SR (Fx.fn K H G ca) B G' H' σ env β->ah H H':=λJ b o e=>J.keep b o e (λz=>by cases z)
  cases q:m (vi N.length ds) 0 with
  |nx env β=>rw[q] at h;exact λB G' H' σ J s'=>h .non G' H' (fin' J) s' J.sub (λb h1 h2=>J.new b h1 h2) Rp.non
  |bk env β=>rw[q] at h;exact h.elim
  |ct env β=>rw[q] at h;exact h.elim
  |rt d fr β=>
   rw[q] at h
   refine λB G' H' σ env v J s' rv=>h v G' H' (fin' J) s' J.sub (λb h1 h2=>J.new b h1 h2) ?_
   cases fr with
   |true=>exact rv
   |false=>exact rv
  |exc c=>rw[q] at h;exact λH' kp=>h H' λb o e=>kp b o e (λz=>by cases z)
  |bad=>rw[q] at h;exact h.elim
def yA {n:Nat}{F F':List D->FR}(h:∀ds,ds.length=n->F' ds≠.bad->F ds=F' ds){vs:List V}{H:Hp}{Q:VK}{E:XK}(q:xQ K ca n F' vs H Q E):xQ K ca n F vs H Q E:=by
 obtain⟨G,ds,s,hl,r,q⟩:=q
 refine⟨G,ds,s,hl,r,?_⟩
 by_cases hb:F' ds=.bad
 ·rw[hb] at q;exact q.elim
 ·rw[h ds hl hb];exact q
def cO.imp {x:Str}{ps:List Str}{k:Nat}{F F':List D->FR}(h:cO P w K mg base ca x ps k F)(i:∀ds,F' ds≠.bad->F ds=F' ds):cO P w K mg base ca x ps k F':=by
 obtain⟨f,fd,a,b,c,d⟩:=h.ex
 exact⟨⟨f,fd,a,b,c,d.imp λvs H Q E q=>yA (λds _=>i ds) q⟩,λds hn=>h.len ds (by rw[i ds hn];exact hn)⟩
def aM {n p:Nat}{m:SF}(ds:List D)(h:bo n p m ds≠.bad):ds.length=p:=by
 unfold bo at h
 by_cases hl:ds.length=p
 ·exact hl
 ·rw[Gd hl] at h;exact absurd rfl h
def jD {N:List Str}{qual:Str}{scope:Scope}{f:Addr}{cd:Value}{A:Around}{outer:List Env}{s0:Shared}{H0:Hp}{E:XK}{Γ:Fx}{x:Str}{C:Addr}{np cpos pos:Pos}{e0:Expr}{es:List Expr}{fr:VF (List D)}{L:List Nat}(q:PySem.W.excIn K C [.type "ValueError",.type "Exception",.type "BaseException",.type "object"] "ValueError.__new__"=true)(hca:Γ.ca x=C)
  (hg:Gl (i7 (kM P w) P w K mg base N qual scope f cd A outer s0 H0 E) x) (hm:mg x=some (.ref C)) (ha:SA (i7 (kM P w) P w K mg base N qual scope f cd A outer s0 H0 E) Γ E (e0 :: es) fr L)
  (he:starEach (e0 :: es) (envOfC qual scope s0.heap.objs.size f cd)=(false,eval e0 (envOfC qual scope s0.heap.objs.size f cd)) :: starEach es (envOfC qual scope s0.heap.objs.size f cd):=by rfl)
  (hpl:(backTo cpos (starEach es (envOfC qual scope s0.heap.objs.size f cd))).any (·.1)=false:=by rfl) (hdb:(x == ("__debug__":Str))=false:=by decide) :
  SS (i7 (kM P w) P w K mg base N qual scope f cd A outer s0 H0 E) Γ E (.Raise (some (.Call (.Name x np) (e0 :: es) [] cpos)) none pos) (λenv β=>toS (fr (vl env) β) λds _=>if ds.length<=sizeLine then .exc x else .bad):=by
 refine PS.post (xw PySem.F.excBase_ValueError (by decide +kernel) q hg hm ha he hpl hdb) λD σ H ⟨env,G,B,β,I,o⟩=>?_
 refine⟨env,G,B,β,I,cI o λds β' k vs G' H' I' s' m' r=>?_⟩
 by_cases hz:ds.length<=sizeLine
 ·rw[FZ hz] at k
  refine⟨by rw[r.len];exact hz,?_⟩
  have:=k H' (I'.kp (ah.refl _))
  rw[hca] at this
  exact this
 ·rw[Gd hz] at k;exact k.elim
end
section
variable {X:Cx}{Γ:Fx}{E:XK}{e a b c:Expr}{f fa fb:VF D}{L La Lb:List Nat}{md ma mb:Md}{pos apos cpos np:Pos}
def wY:Option Sl->Bool
 |some (.ow (.list _))=>true
 |_=>false
theorem sO {o:Option Sl}(h:wY o=true):∃ds,o=some (.ow (.list ds)):=by
 cases o with
 |none=>cases h
 |some s=>
  cases s with
  |ow d=>cases d with
   |list ds=>exact⟨ds,rfl⟩
   |_=>cases h
  |_=>cases h
def B5 (i:Nat)(env:En)(β:Int)(g:List D->Option (List D)):SO:=match env[i]? with
 |some (.ow (.list ds))=>(match g ds with
  |some es=>.nx (env.set i (.ow (.list es))) β
  |none=>.bad)
 |_=>.bad
def oo (i:Nat)(L:List Nat)(f:VF D):SF:=λenv β=>if wY env[i]? =true then toS (f (vl env) β) λd β'=>B5 i (aX L env) β' λds=>if ds.length < sizeLine then some (ds ++ [d]) else none else .bad
def uc {Γ:Fx}{E:XK}{G:Hp}{N:Ends}{i:Nat}{env:En}{β:Int}{g:List D->Option (List D)}(h:qW Γ E G N (B5 i env β g)):∃ds es,env[i]? =some (.ow (.list ds))/\g ds=some es/\qW Γ E G N (.nx (env.set i (.ow (.list es))) β):=by
 unfold B5 at h
 split at h
 ·rename_i ds q
  cases e:g ds with
  |none=>rw[e] at h;exact h.elim
  |some es=>rw[e] at h;exact⟨ds,es,q,e,h⟩
 ·exact h.elim
def ku (i:Nat){x:Str}(hb:∀j,Γ.br j=false)(he:SE X Γ E e f L .v)(hN:X.N[i]? =some x:=by rfl)(hv:va X.env.scope x:=by first |exact Or.inl rfl |exact Or.inr (Or.inl rfl) |exact Or.inr (Or.inr rfl))(hd:(x == ("__debug__":Str))=false:=by decide)
  (hcd:(x == ("__classdict__":Str))=false:=by decide)
  (hbase:attributeBase (.Name x np) "append" X.env (eval (.Name x np) X.env)=eval (.Name x np) X.env:=by rfl)
  (hfew:((backTo cpos (starEach [e] X.env)).all (λx=> !x.1) && (backToKw cpos (keywordEach [] X.env)).all (λx=>x.1.isSome)
   && decide ([e].length + ([]:List Keyword).length + (if ([]:List Keyword).isEmpty then 0 else 1) < 30))=true:=by rfl)
  (hline:(apos.endLine == cpos.line)=true:=by rfl) (hs:starEach [e] X.env=(false,eval e X.env) :: starEach [] X.env:=by rfl)
  (hsw:swapsWith (.Call (.Attribute (.Name x np) "append" apos) [e] [] cpos) none pos.line X.env=pure false:=by rfl) :
  SS X Γ E (.Expr (.Call (.Attribute (.Name x np) "append" apos) [e] [] cpos) pos) (oo i L f):=by
 refine PS.post (oC (zS PySem.F.plainAttrs_list PySem.F.slot_list_append PySem.F.type_list_append nM (jo hN hv hd hcd) (aN he bK hs) hbase hfew hline hs rfl) hsw) λN σ H ⟨env,G,B,β,I,o⟩=>?_
 unfold oo at o
 by_cases hO:wY env[i]? =true
 case neg=>rw[Gd hO] at o;exact o.elim
 rw[FZ hO] at o
 obtain⟨ds0,q0⟩:=sO hO
 obtain⟨p,h1,_,_,_,xs,h5,_⟩:=I.slot i _ q0
 refine⟨_,h1,.inl ⟨rfl,xs,.inl (.inl h5)⟩,?_⟩
 refine⟨env,G,B,β,I,cI o λd β' k v G' H' I' s' m' vo=>?_⟩
 obtain⟨ds,es,q,eg,k⟩:=uc k
 by_cases hz:ds.length < sizeLine
 case neg=>rw[Gd hz] at eg;cases eg
 rw[FZ hz] at eg
 cases eg
 obtain⟨p',g1,_,_,_,ys,g5,g6⟩:=I'.slot i _ q
 rw[h1] at g1;cases g1
 refine⟨p,ys,v,rfl,rfl,g5,by rw[g6.len];exact hz,?_⟩
 exact k B G' _ σ (I'.write hb q h1 λH2 e2 s2=>⟨_,e2,g6.snoc vo⟩) s'
def DN:V->List V->Hp->VK->Prop:=λx vs H Q=>∃l b xs zs,x=.ref l/\vs= [.ref b]/\H l=some (.lst xs)/\Rd H b (.lst zs)/\xs.length + zs.length<=sizeLine/\Q .non (upd H l (.lst (xs ++ zs)))
def Inv.lstR {pins:List (Addr×Obj)}{σ:St}{H:Hp}{s:Shared}{l:Addr}{xs:List V}(I:Inv X pins σ H s)(hH:Rd H l (.lst xs)):xs.length<=sizeLine/\∃(its:List Value) (n:Nat),Vals xs its/\xs.length=its.length/\s.heap.get? l=some {cls:=.type "list",data:=.seq its.toArray n}:=by
 obtain⟨z,its,n,r,e⟩:=hH.ok I.hok
 exact⟨z,its,n,r,r.length,e⟩
def xU:Fp X "list.extend" DN:=by
 intro pins s σ H x vs v us Q I rx rv h
 obtain⟨l,b,xs,zs,rfl,rfl,hH,hB,hz,q⟩:=h
 cases rx
 obtain⟨u,rfl,ru⟩:=rv.one
 cases ru
 obtain⟨z,its,n,r,hl,e⟩:=I.lstM hH
 obtain⟨z2,its2,n2,r2,hl2,e2⟩:=I.lstR hB
 have hsz:its.toArray.size + its2.toArray.size<=sizeLine:=by rw[Gk,Gk];omega
 have hlong:¬(!its.toArray.isEmpty && Builtin.List.listTooLong (its.toArray.size + its2.toArray.size))=true:=by
  rw[pY hsz,Bool.and_false]
  exact GF
 refine call_meets F.slot_list_extend ⟨_,e,rfl⟩ F.entry_list_extend (F.args_list_extend_2 _ _)
  (AutoSeq1.list_extend_list_list_0 l its.toArray n b its2.toArray n2 hlong (by rw[Gk];omega) (by omega)) ⟨e,e2,?_⟩
 refine⟨.non,_,I.lset (its':=its ++ its2) hH e (by simp) (r.append r2) ?_,rfl,q⟩
 rw[GO]
 omega
def Av (i:Nat)(L:List Nat)(f:VF D):SF:=λenv β=>if wY env[i]? =true then toS (f (vl env) β) λd β'=>B5 i (aX L env) β' λds=>match d with
 | .list es=>if ds.length + es.length<=sizeLine then some (ds ++ es) else none
 |_=>none else .bad
theorem vn (i:Nat){x:Str}(hb:∀j,Γ.br j=false)(he:SE X Γ E e f L md)(hN:X.N[i]? =some x:=by rfl)(hv:va X.env.scope x:=by first |exact Or.inl rfl |exact Or.inr (Or.inl rfl) |exact Or.inr (Or.inr rfl))(hd:(x == ("__debug__":Str))=false:=by decide)
  (hcd:(x == ("__classdict__":Str))=false:=by decide)
  (hbase:attributeBase (.Name x np) "extend" X.env (eval (.Name x np) X.env)=eval (.Name x np) X.env:=by rfl)
  (hfew:((backTo cpos (starEach [e] X.env)).all (λx=> !x.1) && (backToKw cpos (keywordEach [] X.env)).all (λx=>x.1.isSome)
   && decide ([e].length + ([]:List Keyword).length + (if ([]:List Keyword).isEmpty then 0 else 1) < 30))=true:=by rfl)
  (hline:(apos.endLine == cpos.line)=true:=by rfl) (hs:starEach [e] X.env=(false,eval e X.env) :: starEach [] X.env:=by rfl)
  (hsw:swapsWith (.Call (.Attribute (.Name x np) "extend" apos) [e] [] cpos) none pos.line X.env=pure false:=by rfl) :
  SS X Γ E (.Expr (.Call (.Attribute (.Name x np) "extend" apos) [e] [] cpos) pos) (Av i L f):=by
 refine PS.post (oC (zS PySem.F.plainAttrs_list PySem.F.slot_list_extend PySem.F.type_list_extend xU (jo hN hv hd hcd) (aN he bK hs) hbase hfew hline hs rfl) hsw) λN σ H ⟨env,G,B,β,I,o⟩=>?_
 unfold Av at o
 by_cases hO:wY env[i]? =true
 case neg=>rw[Gd hO] at o;exact o.elim
 rw[FZ hO] at o
 obtain⟨ds0,q0⟩:=sO hO
 obtain⟨p,h1,_,_,_,xs,h5,_⟩:=I.slot i _ q0
 refine⟨_,h1,.inl ⟨rfl,xs,.inl (.inl h5)⟩,?_⟩
 refine⟨env,G,B,β,I,cI o λd β' k v G' H' I' s' m' vo=>?_⟩
 obtain⟨ds,es,q,eg,k⟩:=uc k
 cases d with
 |list fs=>
  dsimp only at eg
  by_cases hz:ds.length + fs.length<=sizeLine
  case neg=>rw[Gd hz] at eg;cases eg
  rw[FZ hz] at eg
  cases eg
  obtain⟨p',g1,_,_,_,ys,g5,g6⟩:=I'.slot i _ q
  rw[h1] at g1;cases g1
  obtain⟨pb,zs,rfl,hq,rz⟩:=(vo.brw I.boxThere).list I'.sub
  refine⟨p,pb,ys,zs,rfl,rfl,g5,hq,by rw[g6.len,rz.len];exact hz,?_⟩
  exact k B G' _ σ (I'.write hb q h1 λH2 e2 s2=>⟨_,e2,g6.append rz⟩) s'
 |_=>cases eg
end
section
variable {K:Frag}{X:Cx}
def qc {g:Int->Int->V}{gd:D->D->Option D}(h:∀dx dy d,gd dx dy=some d->∃i j,dx=.int i/\dy=.int j/\∀G,Rp K G (g i j) d):j9 K (uT g) gd .v:=by
 intro B G H x y dx dy d Q s hB bx by' e k
 obtain⟨i,j,rfl,rfl,r⟩:=h _ _ _ e
 obtain rfl:=bx.int
 obtain rfl:=by'.int
 exact⟨i,j,rfl,rfl,k _ G H (Ext.refl s) (r G)⟩
def tw {C:Int->Int->Prop}{g:Int->Int->V}{gd:D->D->Option D}(h:∀dx dy d,gd dx dy=some d->∃i j,dx=.int i/\dy=.int j/\C i j/\∀G,Rp K G (g i j) d):j9 K (rI C g) gd .v:=by
 intro B G H x y dx dy d Q s hB bx by' e k
 obtain⟨i,j,rfl,rfl,c,r⟩:=h _ _ _ e
 obtain rfl:=bx.int
 obtain rfl:=by'.int
 exact⟨i,j,rfl,rfl,c,k _ G H (Ext.refl s) (r G)⟩
def gI (c:Int->Int->Bool)(g:Int->Int->D):D->D->Option D
 | .int i,.int j=>if c i j=true then some (g i j) else none
 |_,_=>none
def qY (g:Int->Int->D):D->D->Option D
 | .int i,.int j=>some (g i j)
 |_,_=>none
def tG {c:Int->Int->Bool}{g:Int->Int->D}{dx dy d:D}(h:gI c g dx dy=some d):∃i j,dx=.int i/\dy=.int j/\c i j=true/\d=g i j:=by
 unfold gI at h
 split at h
 ·split at h
  ·cases h;exact⟨_,_,rfl,rfl,by assumption,rfl⟩
  ·cases h
 ·cases h
def jt {g:Int->Int->D}{dx dy d:D}(h:qY g dx dy=some d):∃i j,dx=.int i/\dy=.int j/\d=g i j:=by
 unfold qY at h
 split at h
 ·cases h;exact⟨_,_,rfl,rfl,rfl⟩
 ·cases h
def kP:D->D->Option D:=qY λi j=>.int (i - j)
def sV:j9 K (uT λi j=>.int (i - j)) kP .v:=qc λdx dy d h=>by obtain⟨i,j,rfl,rfl,rfl⟩:=jt h;exact⟨i,j,rfl,rfl,λ_=>.int _⟩
def Ac:D->D->Option D:=gI (λ_ j=>decide (0 < j) && decide (j < 1073741824)) λi j=>.int (i / j)
def By:j9 K (rI yJ λi j=>.int (i / j)) Ac .v:=tw λdx dy d h=>by obtain⟨i,j,rfl,rfl,c,rfl⟩:=tG h;exact⟨i,j,rfl,rfl,by simpa[yJ] using c,λ_=>.int _⟩
def gx:D->D->Option D:=gI (λ_ j=>decide (0 < j)) λi j=>.int (i % j)
def kC:j9 K (rI (λ_ j=>0 < j) λi j=>.int (i % j)) gx .v:=tw λdx dy d h=>by obtain⟨i,j,rfl,rfl,c,rfl⟩:=tG h;exact⟨i,j,rfl,rfl,by simpa using c,λ_=>.int _⟩
def Bq (i j:Int):Bool:=decide (0<=j) && decide (j<=1000000) && decide (i.natAbs < 2 ^ 64)
def DM:D->D->Option D:=gI Bq λi j=>.int (i ^ j.toNat)
def zk {i j:Int}(h:Bq i j=true):Ag i j:=by
 unfold Bq at h
 simp only[GV,G9] at h
 exact⟨h.1.1,h.1.2,h.2⟩
def CP:j9 K (rI Ag λi j=>.int (i ^ j.toNat)) DM .v:=tw λdx dy d h=>by obtain⟨i,j,rfl,rfl,c,rfl⟩:=tG h;exact⟨i,j,rfl,rfl,zk c,λ_=>.int _⟩
def xT:D->D->Option D:=qY λi j=>.bool (decide (i < j))
def p6:D->D->Option D:=qY λi j=>.bool (decide (i<=j))
def B6:D->D->Option D:=qY λi j=>.bool (decide (j < i))
def A5:j9 K (uT λi j=>.bl (decide (i < j))) xT .v:=qc λdx dy d h=>by obtain⟨i,j,rfl,rfl,rfl⟩:=jt h;exact⟨i,j,rfl,rfl,λ_=>.bl _⟩
def oB:j9 K (uT λi j=>.bl (decide (i<=j))) p6 .v:=qc λdx dy d h=>by obtain⟨i,j,rfl,rfl,rfl⟩:=jt h;exact⟨i,j,rfl,rfl,λ_=>.bl _⟩
def BF:j9 K (uT λi j=>.bl (decide (j < i))) B6 .v:=qc λdx dy d h=>by obtain⟨i,j,rfl,rfl,rfl⟩:=jt h;exact⟨i,j,rfl,rfl,λ_=>.bl _⟩
mutual
theorem tu:∀d:D,d.canLay0=true->xK d=true
 | .none,_=>rfl
 | .bool _,_=>rfl
 | .int _,_=>rfl
 | .str _,_=>rfl
 | .list ds,h=>by simp only[PyData.canLay0] at h;simp only[xK];exact ll ds h
 | .tuple ds,h=>by simp only[PyData.canLay0] at h;simp only[xK];exact ll ds h
 | .dict _,h=>by simp[PyData.canLay0] at h
theorem ll:∀ds:List D,PyData.canLayAll0 ds=true->pB ds=true
 | [],_=>rfl
 |d :: ds,h=>by
  simp only[PyData.canLayAll0,GV] at h
  simp only[pB,GV]
  exact⟨tu d h.1,ll ds h.2⟩
end
def wu {d:D}(h:SeqAt.shaped d=true):xK d=true:=tu d (SeqAt.canLay_of_shaped h)
def fG (neg:Bool)(x y:D):Option D:=if (SeqAt.shaped x && SeqAt.shaped y)=true then some (.bool (if neg then !PyData.eqv x y else PyData.eqv x y)) else none
def cU {neg:Bool}:j9 K (Bs K neg) (fG neg) .v:=by
 intro B G H x y dx dy d Q s hB bx by' e k
 unfold fG at e
 split at e
 ·rename_i h
  rw[GV] at h
  cases e
  exact⟨dx,dy,(bx.rpH s).rep (wu h.1),(by'.rpH s).rep (wu h.2),h.1,h.2,k _ G H (Ext.refl s) (.bl _)⟩
 ·cases e
theorem je.seq {B:Option Addr}{G H:Hp}{v:V}{d:D}{ds:List D}(h:je K B G H v d)(e:nY d=some ds)(s:ah G H):∃a xs,v=.ref a/\(fZ K H a xs\/cP K H a xs)/\cv K G xs ds:=by
 cases d with
 |list l=>cases e;obtain⟨a,xs,e,q,r⟩:=h.list s;exact⟨a,xs,e,.inl (.inl q),r⟩
 |tuple l=>cases e;obtain⟨a,xs,e,q,r⟩:=h.tuple s;exact⟨a,xs,e,.inr q,r⟩
 |_=>cases e
def mM:D->Bool
 | .none=>true
 |_=>false
def BU {a:Expr}{fa:VF D}{La:List Nat}{ma:Md}{Γ:Fx}{E:XK}{j pos' pos}(ha:SE X Γ E a fa La ma):SE X Γ E (.Compare a [.Is] [.Constant .none j pos'] pos) (f1 fa λd=>some (.bool (mM d))) La .v:=by
 refine PE.post' (BB (Bo ha)) λσ H Q ⟨env,G,B,β,I,o⟩=>?_
 refine hW (r:=λx H1 Q=>Q (.bl (decide (x=.non))) H1) ?_ I o
 intro B G H x dx d Q s hB bx e k
 cases e
 have:decide (x=.non)=mM dx:=by
  cases dx with
  |none=>obtain rfl:=bx.none;rfl
  |bool b=>obtain rfl:=bx.bool;rfl
  |int b=>obtain rfl:=bx.int;rfl
  |str b=>obtain rfl:=bx.str;rfl
  |list b=>obtain⟨a,xs,rfl,_⟩:=bx.list s;rfl
  |tuple b=>obtain⟨a,xs,rfl,_⟩:=bx.tuple s;rfl
  |dict b=>
   rcases bx with bx | ⟨a,rfl,_⟩
   ·cases bx <;> rfl
   ·rfl
 show Q (.bl (decide (x=.non))) H
 rw[this]
 exact k _ G H (Ext.refl s) (.bl _)
theorem cv.ints {G:Hp}:∀ns:List Int,cv K G (ns.map V.int) (ns.map int)
 | []=>.nil
 |n :: ns=>.cons (.int n) (cv.ints ns)
theorem vA.noNone {G:Hp}{kvs:List (Key×V)}{d:D}{r:List (D×D)}(h:vA K G kvs ((.none,d) :: r)):False:=by
 generalize e:(PyData.none,d) :: r=l at h
 cases h with
 |nil=>cases e
 | @cons k x xs d' ds _ _=>
  injection e with e1 _
  injection e1 with e2 _
  cases k <;> cases e2
theorem vC.noNone {G:Hp}{kvs:List (List Key×V)}{d:D}{r:List (D×D)}(h:vC K G kvs ((.none,d) :: r)):False:=by
 generalize e:(PyData.none,d) :: r=l at h
 cases h with
 |nil=>cases e
 | @cons k x xs d' ds _ _=>
  injection e with e1 _
  injection e1 with e2 _
  cases e2
def je.scr {B:Option Addr}{G H:Hp}{v:V}{ds:List D}(h:je K B G H v (.dict [(.none,.list ds)]))(s:ah G H):∃a xs,v=.ref a/\fZ K H a xs/\cv K G xs ds:=by
 rcases h with h | ⟨a,rfl,n,h⟩
 ·cases h with
  | @scr a ns q=>exact⟨a,_,rfl,s.seq q,cv.ints ns⟩
  |dK _ r=>exact r.noNone.elim
  |dT _ r=>exact r.noNone.elim
 ·rcases h with⟨_,_,r⟩ | ⟨_,_,r⟩
  ·exact r.noNone.elim
  ·exact r.noNone.elim
def eY:D->D->Option D
 | .list ds,.int i=>kX ds i
 | .tuple ds,.int i=>kX ds i
 | .str z,.int i=>if z.length<=sizeLine then (kX z.cps.toList i).map λc=>.str ⟨#[c]⟩ else none
 | .dict [(.none,.list ds)],.int i=>kX ds i
 |_,_=>none
theorem nU {G:Hp}{xs:List V}{ds:List D}{i:Int}{d:D}(r:cv K G xs ds)(h:kX ds i=some d):∃x,kX xs i=some x/\Rp K G x d:=by
 unfold kX at h ⊢
 rw[r.len]
 cases e:vB ds.length i with
 |none=>rw[e] at h;cases h
 |some j=>rw[e] at h;exact r.at h
theorem cz:j9 K (Fl K) eY .v:=by
 intro B G H x y dx dy d Q s hB bx by' e k
 cases dx with
 |list ds=>
  cases dy with
  |int i=>
   obtain rfl:=by'.int
   obtain⟨a,xs,rfl,q,r⟩:=bx.list s
   obtain⟨v,ev,rv⟩:=nU r e
   exact .inl ⟨a,xs,i,v,rfl,rfl,.inl q,ev,k _ G H (Ext.refl s) rv⟩
  |_=>cases e
 |tuple ds=>
  cases dy with
  |int i=>
   obtain rfl:=by'.int
   obtain⟨a,xs,rfl,q,r⟩:=bx.tuple s
   obtain⟨v,ev,rv⟩:=nU r e
   exact .inr (.inl ⟨a,xs,i,v,rfl,rfl,q,ev,k _ G H (Ext.refl s) rv⟩)
  |_=>cases e
 |str z=>
  cases dy with
  |int i=>
   obtain rfl:=by'.int
   obtain rfl:=bx.str
   simp only[eY] at e
   split at e
   ·rename_i hz
    cases q:kX z.cps.toList i with
    |none=>rw[q] at e;cases e
    |some c=>rw[q] at e;cases e;exact .inr (.inr ⟨z,i,c,rfl,rfl,hz,q,k _ G H (Ext.refl s) (.str _)⟩)
   ·cases e
  |_=>cases e
 |none=>cases dy <;> cases e
 |bool b=>cases dy <;> cases e
 |int b=>cases dy <;> cases e
 |dict b=>
  obtain⟨ds,i,rfl,rfl,e⟩:∃ds i,b= [(.none,.list ds)]/\dy=.int i/\kX ds i=some d:=by
   unfold eY at e
   split at e
   ·contradiction
   ·contradiction
   ·contradiction
   ·rename_i h;cases h;exact⟨_,_,rfl,rfl,e⟩
   ·cases e
  obtain rfl:=by'.int
  obtain⟨a,xs,rfl,q,r⟩:=bx.scr s
  obtain⟨v,ev,rv⟩:=nU r e
  exact .inl ⟨a,xs,i,v,rfl,rfl,q,ev,k _ G H (Ext.refl s) rv⟩
def c7:D->Option D
 | .list ds=>some (.int ds.length)
 | .tuple ds=>some (.int ds.length)
 | .str z=>if z.length<=sizeLine then some (.int z.length) else none
 | .dict [(.none,.list ds)]=>some (.int ds.length)
 |_=>none
def ET (K:Frag):List V->Hp->VK->Prop:=λxs H Q=>∃x n,xs= [x]/\CW K x H n/\Q (.int n) H
def dr:xN K (λx=>ET K [x]) c7 .v:=by
 intro B G H x dx d Q s hB bx e k
 unfold c7 at e
 split at e
 ·cases e;obtain⟨a,xs,rfl,q,r⟩:=bx.list s;exact⟨_,_,rfl,.inl ⟨xs,.inl q,r.len.symm⟩,k _ G H (Ext.refl s) (.int _)⟩
 ·cases e;obtain⟨a,xs,rfl,q,r⟩:=bx.tuple s;exact⟨_,_,rfl,.inr ⟨xs,q,r.len.symm⟩,k _ G H (Ext.refl s) (.int _)⟩
 ·obtain rfl:=bx.str
  split at e
  ·rename_i hz;cases e;exact⟨_,_,rfl,⟨hz,rfl⟩,k _ G H (Ext.refl s) (.int _)⟩
  ·cases e
 ·cases e;obtain⟨a,xs,rfl,q,r⟩:=bx.scr s;exact⟨_,_,rfl,.inl ⟨xs,q,r.len.symm⟩,k _ G H (Ext.refl s) (.int _)⟩
 ·cases e
def kg:D->Option D
 | .list ds=>some (.tuple ds)
 | .tuple ds=>some (.tuple ds)
 |_=>none
theorem j4:xN K (λx H Q=>∃p ys,[x]= [.ref p]/\((fZ K H p ys/\∀l,H l=none->Q (.ref l) (upd H l (.tup ys)))\/(cP K H p ys/\Q (.ref p) H))) kg .v:=by
 intro B G H x dx d Q s hB bx e k
 cases dx with
 |list ds=>
  cases e
  obtain⟨a,xs,rfl,q,r⟩:=bx.list s
  refine⟨a,xs,rfl,.inl ⟨.inl q,λl hl=>?_⟩⟩
  have x:=Ext.new s (o:=.tup xs) hl
  exact k _ _ _ x (.tup (.inl (.inl av)) (r.mono x.gg))
 |tuple ds=>
  cases e
  rcases bx with bx | ⟨_,_,_,z⟩
  ·cases bx with
   | @tup a xs _ hq r=>exact⟨a,xs,rfl,.inr ⟨hq.grow s.grow,k _ G H (Ext.refl s) (.tup hq r)⟩⟩
  ·exact z.elim
 |_=>cases e
def iz:List D->Option (List Bool)
 | []=>some []
 | .bool b :: ds=>(iz ds).map (b :: ·)
 |_=>none
theorem nv {G:Hp}:∀{ds:List D} {bs:List Bool} {xs:List V},iz ds=some bs->cv K G xs ds->xs=bs.map V.bl
 | [],bs,xs,e,r=>by cases e;cases r;rfl
 | .bool b :: ds,bs,xs,e,r=>by
  cases r with
  |cons r1 r2=>
   cases r1
   simp only[iz] at e
   cases q:iz ds with
   |none=>rw[q] at e;cases e
   |some cs=>rw[q] at e;cases e;rw[nv q r2];rfl
 | .none :: _,_,_,e,_=>by cases e
 | .int _ :: _,_,_,e,_=>by cases e
 | .str _ :: _,_,_,e,_=>by cases e
 | .list _ :: _,_,_,e,_=>by cases e
 | .tuple _ :: _,_,_,e,_=>by cases e
 | .dict _ :: _,_,_,e,_=>by cases e
def dF (f:List Bool->Bool):D->Option D
 | .list ds=>(iz ds).map λbs=>.bool (f bs)
 |_=>none
theorem iX {f:List Bool->Bool}:xN K (λx=>rQ K f [x]) (dF f) .v:=by
 intro B G H x dx d Q s hB bx e k
 cases dx with
 |list ds=>
  simp only[dF] at e
  cases q:iz ds with
  |none=>rw[q] at e;cases e
  |some bs=>
   rw[q] at e
   cases e
   obtain⟨a,xs,rfl,hq,r⟩:=bx.list s
   obtain rfl:=nv q r
   exact⟨a,bs,rfl,.inl hq,k _ G H (Ext.refl s) (.bl _)⟩
 |_=>cases e
def zU:R2:=λx y H Q=>∃l b xs zs,x=.ref l/\y=.ref b/\Rd H l (.lst xs)/\Rd H b (.lst zs)/\xs.length + zs.length<=sizeLine/\∀p,H p=none->Q (.ref p) (upd H p (.lst (xs ++ zs)))
def k7:jh X (binaryOp .Add) zU:=by
 intro pins s σ H x y v u Q I rx ry h
 obtain⟨l,b,xs,zs,rfl,rfl,hH,hB,hz,q⟩:=h
 cases rx
 cases ry
 obtain⟨z,its,n,r,hl,e⟩:=I.lstR hH
 obtain⟨z2,its2,n2,r2,hl2,e2⟩:=I.lstR hB
 refine PySem.P.add_list e e2 ?_ (by rw[Gk,Gk];omega)
 have ea:its.toArray ++ its2.toArray=(its ++ its2).toArray:=by simp
 rw[ea]
 exact⟨.ref _,_,I.lnew (t':=s.toks) (r.append r2) (by rw[GO];omega),rfl,q _ I.fresh⟩
def oJ:D->D->Option D
 | .list a,.list b=>if a.length + b.length<=sizeLine then some (.list (a ++ b)) else none
 |_,_=>none
def tW:j9 K zU oJ .w:=by
 intro B G H x y dx dy d Q s hB bx by' e k
 cases dx <;> cases dy <;> first | (cases e;done) |skip
 rename_i a b
 simp only[oJ] at e
 split at e
 ·rename_i hz
  cases e
  obtain⟨p,xs,rfl,q1,r1⟩:=bx.list s
  obtain⟨p2,ys,rfl,q2,r2⟩:=by'.list s
  refine⟨p,p2,xs,ys,rfl,rfl,q1,q2,by rw[r1.len,r2.len];exact hz,λl hl=>?_⟩
  exact k _ _ _ (Ext.own s (o:=.lst (xs ++ ys)) hl) ⟨l,rfl,hl,s.free hl,_,av,r1.append r2⟩
 ·cases e
def b4:D->D->Option D:=qY λi j=>.int (i + j)
def df:j9 K (uT λi j=>.int (i + j)) b4 .v:=qc λdx dy d h=>by obtain⟨i,j,rfl,rfl,rfl⟩:=jt h;exact⟨i,j,rfl,rfl,λ_=>.int _⟩
def cj:D->D->Option D:=gI (λi j=>(decide (-(2 ^ 64) < i) && decide (i < 2 ^ 64)) || (decide (-(2 ^ 64) < j) && decide (j < 2 ^ 64))) λi j=>.int (i * j)
def h9:j9 K (rI xC λi j=>.int (i * j)) cj .v:=tw λdx dy d h=>by obtain⟨i,j,rfl,rfl,c,rfl⟩:=tG h;exact⟨i,j,rfl,rfl,by simpa[xC] using c,λ_=>.int _⟩
def E8:D->Option D
 | .int i=>some (.int (-i))
 |_=>none
theorem DG:xN K (rU λi=>.int (-i)) E8 .v:=by
 intro B G H x dx d Q s hB bx e k
 cases dx with
 |int i=>cases e;obtain rfl:=bx.int;exact⟨i,rfl,k _ G H (Ext.refl s) (.int _)⟩
 |_=>cases e
def Co:D->String
 | .none=>"NoneType"
 | .bool _=>"bool"
 | .int _=>"int"
 | .str _=>"str"
 | .list _=>"list"
 | .tuple _=>"tuple"
 | .dict _=>"dict"
def vV (d:D)(T:String):Bool:=Co d == T || (T == "int" && Co d == "bool")
def eH:D->Bool
 | .dict ((.none,_) :: _)=>true
 |_=>false
def gp (T:String)(d:D):Option D:=if eH d=true then none else some (.bool (vV d T))
def Fu (K:Frag)(H:Hp)(x:V)(t:String):Prop:=ze K H x t\/(t="dict"/\∃a kvs,x=.ref a/\H a=some (.dT kvs))
def Dt (K:Frag):List V->Hp->VK->Prop:=λxs H Q=>∃x T t b,xs= [x,.ty T]/\Fu K H x t/\PySem.W.kitOne K (.type t) (.type T)=some b/\Q (.bl b) H
def wL:dw X (.builtin "isinstance") (Dt X.K):=by
 intro pins s σ H xs us Q I r h
 obtain⟨x,T,t,b,rfl,ty,e,q⟩:=h
 rcases ty with ty | ⟨rfl,a,kvs,rfl,hk⟩
 ·exact wW pins s σ H _ us Q I r ⟨x,T,t,b,rfl,ty,e,q⟩
 ·obtain⟨u,c,rfl,rx,rc⟩:=vals2 r
  cases rc
  cases rx
  obtain⟨_,_,_,_,o,_,_,e2,ex,_⟩:=I.hok a _ hk
  exact GP PySem.W.kitx_dict I.kIn ⟨o,e2,ex.1⟩ e (λz=>nomatch z) λtk=>⟨.bl b,H,I.tok tk,rfl,q⟩
theorem je.ty {B:Option Addr}{G H:Hp}{v:V}{d:D}(h:je K B G H v d)(s:ah G H)(n:eH d=false):Fu K H v (Co d):=by
 cases d with
 |none=>obtain rfl:=h.none;exact .inl .non
 |bool b=>obtain rfl:=h.bool;exact .inl (.bl b)
 |int b=>obtain rfl:=h.int;exact .inl (.int b)
 |str b=>obtain rfl:=h.str;exact .inl (.str b)
 |list b=>obtain⟨a,xs,rfl,q,_⟩:=h.list s;exact .inl (.lst (.inl q))
 |tuple b=>obtain⟨a,xs,rfl,q,_⟩:=h.tuple s;exact .inl (.tup q)
 |dict b=>
  rcases h with h | ⟨a,rfl,_,h⟩
  ·cases h with
   |scr _=>cases n
   |dK q _=>exact .inl (.dic (s _ _ q))
   |dT q _=>exact .inr ⟨rfl,_,_,rfl,s _ _ q⟩
  ·rcases h with⟨_,q,_⟩ | ⟨_,q,_⟩
   ·exact .inl (.dic q)
   ·exact .inr ⟨rfl,_,_,rfl,q⟩
theorem CF {d:D}{T:String}(hT:T∈ ["int","bool","str","list","tuple","dict"]):PySem.W.kitOne K (.type (Co d)) (.type T)=some (vV d T):=by
 simp only[FY,GN,HE] at hT
 cases d with
 |dict l=>rcases hT with rfl |rfl |rfl |rfl |rfl |rfl <;> rfl
 |none=>rcases hT with rfl |rfl |rfl |rfl |rfl |rfl <;> rfl
 |bool _=>rcases hT with rfl |rfl |rfl |rfl |rfl |rfl <;> rfl
 |int _=>rcases hT with rfl |rfl |rfl |rfl |rfl |rfl <;> rfl
 |str _=>rcases hT with rfl |rfl |rfl |rfl |rfl |rfl <;> rfl
 |list _=>rcases hT with rfl |rfl |rfl |rfl |rfl |rfl <;> rfl
 |tuple _=>rcases hT with rfl |rfl |rfl |rfl |rfl |rfl <;> rfl
def eQ {a:Expr}{fa:VF D}{La:List Nat}{ma:Md}{Γ:Fx}{E:XK}{pos p p2:Pos}(T:String){y:Str}(hT:T∈ ["int","bool","str","list","tuple","dict"])(hK:X.K=Γ.K)(hg:Gl X "isinstance")(hm:X.mg "isinstance"=none)(hgT:Gl X y)(hmT:X.mg y=none)(hvT:bootBuiltins y=some (.type T))(ha:SE X Γ E a fa La ma)
  (hnT:y≠"__name__":=by decide) (hdT:(y == ("__debug__":Str))=false:=by decide)
  (he:starEach [a,.Name y p2] X.env=(false,eval a X.env) :: starEach [.Name y p2] X.env:=by rfl) (he2:starEach [.Name y p2] X.env=(false,eval (.Name y p2) X.env) :: starEach [] X.env:=by rfl) (hpl:(backTo pos (starEach [.Name y p2] X.env)).any (·.1)=false:=by rfl) :
  SE X Γ E (.Call (.Name "isinstance" p) [a,.Name y p2] [] pos) (f1 fa (gp T)) La .v:=by
 refine PE.post' (iR wL hg hm (by decide +kernel) (aN ha (aN (zc hgT hmT hvT (show RelV (.ty T) _ from rfl) hnT hdT) bK he2) he) (by decide) (by decide) he hpl) λσ H Q ⟨env,G,B,β,I,o⟩=>?_
 refine hW (r:=λx H1 Q=>Dt X.K [x,.ty T] H1 Q) ?_ I o
 intro B G H x dx d Q s hB bx e k
 unfold gp at e
 split at e
 ·cases e
 ·rename_i hn
  cases e
  rw[hK]
  exact⟨x,T,Co dx,vV dx T,rfl,bx.ty s (by simpa using hn),CF hT,k _ G H (Ext.refl s) (.bl _)⟩
def eN (fa fb fc:VF D)(g g':D->D->Option D):VF D:=λvs β=>(fa vs β).bnd λx β1=>(fb vs β1).bnd λy β2=>match g x y with
 |some (.bool true)=>(fc vs β2).bnd λz β3=>R.of (g' y z) β3
 |some (.bool false)=>.ok (.bool false) β2
 |_=>.bad
theorem mr {a b c:Expr}{fa fb fc:VF D}{ma mb mc:Md}{Γ:Fx}{E:XK}{pos:Pos}{op op':CmpOp}{r r':R2}{g g':D->D->Option D}(ho:jh X (compareOp op) r)(ho':jh X (compareOp op') r')(pr:j9 Γ.K r g .v)(pr':j9 Γ.K r' g' .v)(ha:SE X Γ E a fa [] ma)(hb:SE X Γ E b fb [] mb)(hc:SE X Γ E c fc [] mc)
  (hm:lastMarks [op,op'] [b,c]=false:=by with_unfolding_all rfl):SE X Γ E (.Compare a [op,op'] [b,c] pos) (eN fa fb fc g g') [] .v:=by
 refine PE.post' (xg ho ho' ha hb hc hm) λσ H Q ⟨env,G,B,β,I,o⟩=>?_
 refine two (W:=λx y H2=>r x y H2 λz H3=>∃k,z=.bl k/\(if k=true then pT Γ E fc [] mc σ H3 λw' H4=>r' y w' H4 Q else Q (.bl false) H3)) I (o.bnd.imp λd1 β1 h=>h.bnd.imp λd2 β2 h x y G2 H2 I2 s2 m2 bx by'=>?_)
 obtain⟨cb,ec,h⟩:∃cb,g d1 d2=some (.bool cb)/\Out Γ E (if cb=true then (fc (vl env) β2).bnd λz β3=>R.of (g' d2 z) β3 else .ok (.bool false) β2) λd β'=>∀v G' H',SR Γ B G' H' σ (aX [] env) β'->ah G G'->fE B H H'->VO Γ.K B H G' H' .v d v->Q v H':=by
  split at h
  ·rename_i q;exact⟨true,q,by rw[FZ rfl];exact h⟩
  ·rename_i q;exact⟨false,q,by rw[Gd GF];exact h⟩
  ·exact h.elim
 refine pr B G2 H2 x y d1 d2 _ _ I2.sub I2.boxThere bx by' ec λv G' H' x' vo=>?_
 cases vo
 refine⟨cb,rfl,?_⟩
 have I3:=I2.ext x'
 cases cb with
 |false=>rw[Gd GF] at h;exact oO (h _ G' H' I3 (s2.trans x'.gg) (m2.trans (x'.mov B)) (.bl false))
 |true=>
  rw[FZ rfl] at h
  refine nX ⟨env,G',B,β2,I3,h.bnd.imp λd3 β3 h z G4 H4 I4 s4 m4 vz=>?_⟩
  obtain⟨d,e,k⟩:=h.of
  refine pr' B G4 H4 y z d2 d3 d Q I4.sub I4.boxThere (by'.mono (x'.gg.trans s4) ((x'.mov B).trans m4)) (vz.brw I3.boxThere) e λv G5 H5 x5 vo=>?_
  exact k v G5 H5 (I4.ext x5) (((s2.trans x'.gg).trans s4).trans x5.gg) (((m2.trans (x'.mov B)).trans m4).trans (x5.mov B)) vo
end
def Fw (N:List Str)(sc:Scope)(NB:List Str)(own:Nat)(ixs:List Nat)(scope:Scope):Bool:=
 decide (scope.kind=.function) && (scope.names.all λy=>decide (y.2≠.cell)) && (scope.names.all λy=>decide (scope.names.lookup y.1=some y.2)) &&
 (scope.names.all λy=>decide (y.2=.free->(sc.names.lookup y.1=some .cell\/sc.names.lookup y.1=some .free))) && decide NB.Nodup && decide (NB.length=own + ixs.length) &&
 ((List.range ixs.length).all λk=>decide (NB[own + k]? =N[ixs.getD k 0]?) && (match NB[own + k]? with |some x=>decide ((x,NameKind.free)∈scope.names) |none=>true))
def cu {X:Cx}{NB:List Str}{own:Nat}{ixs:List Nat}{scope:Scope}(h:Fw X.N X.env.scope NB own ixs scope=true):ck X NB own ixs scope:=by
 unfold Fw at h
 simp only[GV,Hk,G9,Gm] at h
 obtain⟨⟨⟨⟨⟨⟨h1,h2⟩,h3⟩,h4⟩,h5⟩,h6⟩,h7⟩:=h
 refine⟨h1,h2,h3,h4,h5,h6,λk hk=>⟨(h7 k hk).1,λx hx=>?_⟩⟩
 have:=(h7 k hk).2
 rw[hx] at this
 simpa using this
section
variable {X:Cx}{Γ:Fx}{E:XK}{e a b c:Expr}{f fa fb fc:VF D}{L La Lb:List Nat}{md ma mb mc:Md}{pos:Pos}{K:Frag}
theorem v3 {op op':CmpOp}{r r':R2}{g g':D->D->Option D}(ho:jh X (compareOp op) r)(ho':jh X (compareOp op') r')(pr:j9 Γ.K r g .v)(pr':j9 Γ.K r' g' .v)(ha:SE X Γ E a fa [] ma)(hb:SE X Γ E b fb [] mb)(hc:SE X Γ E c fc [] mc)
  (hm:lastMarks [op,op'] [b,c]=false:=by with_unfolding_all rfl):uH X Γ E (.Compare a [op,op'] [b,c] pos) (eV (eN fa fb fc g g')) []:=by
 refine PT.post (xk ho ho' ha hb hc hm) λσ H Q ⟨env,G,B,β,I,o⟩=>?_
 refine two (W:=λx y H2=>r x y H2 λz H3=>∃k,z=.bl k/\(if k=true then pT Γ E fc [] mc σ H3 λw' H4=>r' y w' H4 (λx H'=>∃k,x=.bl k/\Q k H') else ∃k,V.bl false=.bl k/\Q k H3)) I (o.bnd.bnd.imp λd1 β1 h=>h.bnd.imp λd2 β2 h x y G2 H2 I2 s2 m2 bx by'=>?_)
 obtain⟨cb,ec,h⟩:∃cb,g d1 d2=some (.bool cb)/\Out Γ E (if cb=true then (fc (vl env) β2).bnd λz β3=>R.of (g' d2 z) β3 else .ok (.bool false) β2) λd β'=>Out Γ E (match d with | .bool c=>R.ok c β' |_=>.bad) λc β'=>∀G' H',SR Γ B G' H' σ (aX [] env) β'->ah G G'->fE B H H'->Q c H':=by
  split at h
  ·rename_i q;exact⟨true,q,by rw[FZ rfl];exact h⟩
  ·rename_i q;exact⟨false,q,by rw[Gd GF];exact h⟩
  ·exact h.elim
 refine pr B G2 H2 x y d1 d2 _ _ I2.sub I2.boxThere bx by' ec λv G' H' x' vo=>?_
 cases vo
 refine⟨cb,rfl,?_⟩
 have I3:=I2.ext x'
 cases cb with
 |false=>rw[Gd GF] at h;exact oO ⟨false,rfl,h G' H' I3 (s2.trans x'.gg) (m2.trans (x'.mov B))⟩
 |true=>
  rw[FZ rfl] at h
  refine nX ⟨env,G',B,β2,I3,h.bnd.imp λd3 β3 h z G4 H4 I4 s4 m4 vz=>?_⟩
  obtain⟨d,e,k⟩:=h.of
  refine pr' B G4 H4 y z d2 d3 d _ I4.sub I4.boxThere (by'.mono (x'.gg.trans s4) ((x'.mov B).trans m4)) (vz.brw I3.boxThere) e λv G5 H5 x5 vo=>?_
  cases d with
  |bool c=>cases vo;exact⟨c,rfl,k G5 H5 (I4.ext x5) (((s2.trans x'.gg).trans s4).trans x5.gg) (((m2.trans (x'.mov B)).trans m4).trans (x5.mov B))⟩
  |_=>exact k.elim
theorem A8 {B:Option Addr}{G H:Hp}{x:V}{dx:D}(bx:je K B G H x dx)(s:ah G H):decide (x=.non)=mM dx:=by
 cases dx with
 |none=>obtain rfl:=bx.none;rfl
 |bool b=>obtain rfl:=bx.bool;rfl
 |int b=>obtain rfl:=bx.int;rfl
 |str b=>obtain rfl:=bx.str;rfl
 |list b=>obtain⟨a,xs,rfl,_⟩:=bx.list s;rfl
 |tuple b=>obtain⟨a,xs,rfl,_⟩:=bx.tuple s;rfl
 |dict b=>
  rcases bx with bx | ⟨a,rfl,_⟩
  ·cases bx <;> rfl
  ·rfl
def tN (fa:VF D)(neg:Bool):VF Bool:=λvs β=>(fa vs β).bnd λx β1=>.ok (if neg then !mM x else mM x) β1
def tO {j pos'}(ha:SE X Γ E a fa La ma):uH X Γ E (.Compare a [.IsNot] [.Constant .none j pos'] pos) (tN fa true) La:=by
 refine PT.post (Ai (yH ha)) λσ H Q ⟨env,G,B,β,I,o⟩=>?_
 refine⟨env,G,B,β,I,o.bnd.imp λd1 β1 h x G1 H1 I1 s1 m1 vx=>?_⟩
 refine⟨!mM d1,?_,h G1 H1 I1 s1 m1⟩
 rw[A8 (vx.brw I.boxThere) I1.sub]
def oT (Γ:Fx)(E:XK)(f:VF (Option Int))(L:List Nat):TO:=λσ H Q=>∃env G B β,SR Γ B G H σ env β/\
 Out Γ E (f (vl env) β) λd β'=>∀G' H',SR Γ B G' H' σ (aX L env) β'->ah G G'->fE B H H'->Q d H'
def BO:j9 K (λx y H Q=>∃i j,[x,y]= [.int i,.int j]/\Q (.int (if j > i then j else i)) H) (qY λi j=>.int (if j > i then j else i)) .v:=by
 intro B G H x y dx dy d Q s hB bx by' e k
 obtain⟨i,j,rfl,rfl,rfl⟩:=jt e
 obtain rfl:=bx.int
 obtain rfl:=by'.int
 exact⟨i,j,rfl,k _ G H (Ext.refl s) (.int _)⟩
def AG:j9 K (λx y H Q=>∃i j,[x,y]= [.int i,.int j]/\Q (.int (if j < i then j else i)) H) (qY λi j=>.int (if j < i then j else i)) .v:=by
 intro B G H x y dx dy d Q s hB bx by' e k
 obtain⟨i,j,rfl,rfl,rfl⟩:=jt e
 obtain rfl:=bx.int
 obtain rfl:=by'.int
 exact⟨i,j,rfl,k _ G H (Ext.refl s) (.int _)⟩
end
structure i9 (K:Frag)(mg:Str->Option Value)(x:Str)(st:Stmt)(ps:List Str)(f:Addr)(fd:FuncData):Prop where
 mg:mg x=some (.ref f)
 F:xP K x x st f fd
 b:Binds K fd ps []
structure Exc (K:Frag)(mg:Str->Option Value)(ca:Str->Addr)(x:Str):Prop where
 mg:mg x=some (.ref (ca x))
 ex:PySem.W.excIn K (ca x) [.type "ValueError",.type "Exception",.type "BaseException",.type "object"] "ValueError.__new__"=true
def Exc.ca {K:Frag}{mg:Str->Option Value}{ca:Str->Addr}{x:Str}(h:Exc K mg ca x):ca x=ca x:=rfl
structure jr (mg:Str->Option Value):Prop where
 len:mg "len"=none
 range:mg "range"=none
 enumerate:mg "enumerate"=none
 zip:mg "zip"=none
 min:mg "min"=none
 max:mg "max"=none
 sum:mg "sum"=none
 abs:mg "abs"=none
 sorted:mg "sorted"=none
 reversed:mg "reversed"=none
 int:mg "int"=none
 str:mg "str"=none
 bool:mg "bool"=none
 list:mg "list"=none
 tuple:mg "tuple"=none
 dict:mg "dict"=none
 set:mg "set"=none
 isinstance:mg "isinstance"=none
 repr:mg "repr"=none
 any:mg "any"=none
 all:mg "all"=none
 divmod:mg "divmod"=none
inductive FB where
 |ok (d:D) (fresh:Bool) (β:Int)
 |bad
def BG (K:Frag)(n:Nat)(F:List D->Int->FB):Sp:=λvs H Q _=>∃b rest G ds β,vs=.ref b :: rest/\H b=some (.lst [.int β])/\G b=none/\ah G H/\ds.length=n/\cv K G rest ds/\match F ds β with
 | .ok d fr β'=>∀v G' H',fE (some b) H H'->H' b=some (.lst [.int β'])->ah G G'->ah G' H'->(∀c,Mx H c->G c=none->G' c=none)->FV K H G' H' fr d v->Q v H'
 | .bad=>False
structure uj (P:Program)(w:World)(K:Frag)(mg:Str->Option Value)(base:Heap)(x:Str)(ps:List Str)(k:Nat)(F:List D->Int->FB):Prop where
 ex:∃f fd,mg x=some (.ref f)/\PySem.W.keepIn K (.ref f)=true/\Binds K fd ps []/\eB P w K mg base (kM P w) k f fd ps (BG K (ps.length - 1) F)
 len:∀ds β,F ds β≠.bad->ds.length=ps.length - 1
def qB (vs:List Nv)(i:Nat):Bool:=match vs[i]? with
 |some .bx=>true
 |_=>false
def td (i:Nat)(F:List D->Int->FB)(fr:VF (List D)):VF D:=λvs β=>if qB vs i=true then (fr vs β).bnd λds β1=>match F ds β1 with
 | .ok d _ β2=>.ok d β2
 | .bad=>.bad else .bad
def EN (i:Nat)(F:List D->Int->FB)(fr:VF (List D)):VF D:=λvs β=>if qB vs i=true then (fr vs β).bnd λds β1=>match F ds β1 with
 | .ok d true β2=>.ok d β2
 |_=>.bad else .bad
section
variable {X:Cx}{Γ:Fx}{E:XK}{e a b c:Expr}{f fa fb fc:VF D}{L La Lb:List Nat}{md ma mb mc:Md}{pos:Pos}{K:Frag}{es:List Expr}{fr:VF (List D)}
def yX {env:En}{i:Nat}(h:qB (vl env) i=true):env[i]? =some .bx:=by
 unfold qB at h
 split at h
 ·exact C4 (by assumption)
 ·cases h
def yI {env:En}{i j:Nat}{d:D}(h:(gM env i)[j]? =some (.br d)):env[j]? =some (.br d):=by
 unfold gM at h
 split at h
 ·rename_i d' e
  by_cases z:i=j
  ·subst z
   rw[Gq (Gs.mp e).1] at h;cases h
  ·rw[Gp z] at h;exact h
 ·exact h
theorem Az {L:List Nat}{env:En}{j:Nat}{d:D}(h:(aX L env)[j]? =some (.br d)):env[j]? =some (.br d):=by
 unfold aX at h
 induction L generalizing env with
 |nil=>exact h
 |cons i L ih=>exact yI (ih h)
def SR.calledB {p:Addr}{β β':Int}{G1 H1 G2 H2:Hp}{σ:St}{env:En}(I1:SR Γ (some p) G1 H1 σ env β)(h:fE (some p) H1 H2)(hp:H2 p=some (.lst [.int β']))(g:ah G1 G2)(s:ah G2 H2)(n:∀b,Mx H1 b->G1 b=none->G2 b=none):SR Γ (some p) G2 H2 σ env β':=by
 obtain⟨b1,b2,b3⟩:=I1.box p rfl
 refine⟨s,I1.old.trans g,λb n1 n2=>n b (I1.thereM n1) (I1.new b n1 n2),λb o e np=>lY (I1.keep b o e np) h λz=>?_,λb hb=>?_,I1.fix,λb e=>?_,I1.len,λi t e=>?_,I1.sep⟩
 ·cases z
  rcases b3 with b3 |b3
  ·exact np b3
  ·rw[e] at b3;cases b3
 ·by_cases z:p=b
  ·subst z;exact Mx.lst hp
  ·exact (I1.pin b hb).same λo q=>h.1 b o q λy=>z (Option.some.inj y)
 ·cases e
  exact⟨hp,n p (Mx.lst b1) b2,b3⟩
 ·have q:=I1.slot i t e
  cases t with
  |no=>trivial
  |fz d=>obtain⟨v,h1,h2⟩:=q;exact⟨v,h1,h2.mono g⟩
  |ow d=>
   obtain⟨c,h1,h2,h3,h4,h5⟩:=q
   exact⟨c,h1,h2,n c h5.mx h3,h4,h5.mono g λo q=>h.1 c o q h4⟩
  |bx=>exact q
  |br d=>obtain⟨b1,c,h1,h4,hpp,h5⟩:=q;exact⟨b1,c,h1,h4,hpp,h5.mono g λo q=>h.1 c o q h4⟩
theorem zg {F:List D->Int->FB}{ps:List Str}{Q:VK}{B:Option Addr}{G H:Hp}{σ:St}{env:En}{β:Int}{i:Nat}{p:Addr}(I:SR Γ B G H σ env β)(hK:X.K=Γ.K)(hp:B=some p){wv:Bool}
  (h:Out Γ E (fr (vl env) β) λds β1=>Out Γ E (match F ds β1 with
   | .ok d true β2=>.ok d β2
   | .ok d false β2=>if wv=true then .bad else .ok d β2
   | .bad=>.bad) λd β'=>∀v G' H',SR Γ B G' H' σ (aX L env) β'->ah G G'->fE B H H'->VO Γ.K B H G' H' (if wv=true then .w else .v) d v->Q v H') (hl:∀ds β,F ds β≠.bad->ds.length=ps.length - 1) :
  aT Γ E fr L σ H λvs H1=>BG X.K (ps.length - 1) F (.ref p :: vs) H1 Q E:=by
 subst hp
 refine⟨env,G,_,β,I,h.imp λds β1 k vs G1 H1 I1 s1 m1 r=>?_⟩
 obtain⟨b1,b2,b3⟩:=I1.box p rfl
 refine⟨p,vs,G1,ds,β1,rfl,b1,b2,I1.sub,hl ds β1 λz=>by rw[z] at k;exact k,by rw[hK];exact r,?_⟩
 cases q:F ds β1 with
 |bad=>rw[q] at k;exact k
 |ok d fr' β2=>
  rw[q] at k
  intro v G' H' hh hb hg hs hn fv
  have I2:=I1.calledB hh hb hg hs hn
  cases fr' with
  |true=>
   obtain⟨c,rfl,p1,p2,p3⟩:∃a,v=.ref a/\H1 a=none/\G' a=none/\Own X.K G' H' a d:=fv
   rw[hK] at p3
   have hp:=gB m1 I1.boxThere p1
   cases wv with
   |true=>exact k _ G' H' I2 (s1.trans hg) (m1.trans hh) ⟨c,rfl,hp,p2,p3⟩
   |false=>
    obtain⟨q1,q2,q3,q4⟩:=I1.fresh p1
    obtain⟨G3,I3,s3,r3⟩:=I2.letIn q1 p2 q3 q4 p3
    exact k _ G3 H' I3 ((s1.trans hg).trans s3) (m1.trans hh) r3
  |false=>
   cases wv with
   |true=>exact k.elim
   |false=>
    have fv:Rp X.K G' v d:=fv
    rw[hK] at fv
    exact k _ G' H' I2 (s1.trans hg) (m1.trans hh) fv
theorem BA {F:List D->Int->FB}{ps:List Str}{Q:VK}{i:Nat}{σ:St}{H:Hp}(hK:X.K=Γ.K){wv:Bool}(hl:∀ds β,F ds β≠.bad->ds.length=ps.length - 1)(h:pT Γ E (if wv=true then EN i F fr else td i F fr) L (if wv=true then .w else .v) σ H Q) :
  xV i σ H λx H1=>aT Γ E fr L σ H1 λvs H2=>BG X.K (ps.length - 1) F (x :: vs) H2 Q E:=by
 obtain⟨env,G,B,β,I,o⟩:=h
 have hi:qB (vl env) i=true:=by
  by_cases hi:qB (vl env) i=true
  ·exact hi
  ·exfalso
   cases wv with
   |true=>simp only[G8] at o;unfold EN at o;rw[Gd hi] at o;exact o
   |false=>simp only[Gi,GJ] at o;unfold td at o;rw[Gd hi] at o;exact o
 obtain⟨p,e1,e2⟩:=I.slot i _ (yX hi)
 refine⟨.ref p,e1,zg (i:=i) (ps:=ps) I hK e2 (wv:=wv) ?_ hl⟩
 cases wv with
 |true=>
  simp only[G8] at o ⊢
  unfold EN at o
  rw[FZ hi] at o
  refine o.bnd.imp λds β1 h=>?_
  cases q:F ds β1 with
  |bad=>rw[q] at h;exact h
  |ok d b β2=>rw[q] at h;cases b <;> exact h
 |false=>
  simp only[Gi,GJ] at o ⊢
  unfold td at o
  rw[FZ hi] at o
  refine o.bnd.imp λds β1 h=>?_
  cases q:F ds β1 with
  |bad=>rw[q] at h;exact h
  |ok d b β2=>rw[q] at h;cases b <;> exact h
def lj {x y:Str}{ps:List Str}{k:Nat}{F:List D->Int->FB}{p np:Pos}(i:Nat)(hf:uj X.prog X.w X.K X.mg X.base x ps k F)(hr:eJ k X.A)(hx:Passes (kM X.prog X.w) X E)(hK:X.K=Γ.K)(hg:Gl X x)(ha:SA X Γ E es fr L)(hN:X.N[i]? =some y:=by rfl)(hv:va X.env.scope y:=by first |exact Or.inl rfl |exact Or.inr (Or.inl rfl) |exact Or.inr (Or.inr rfl))(hd:(y == ("__debug__":Str))=false:=by decide)
  (hcd:(y == ("__classdict__":Str))=false:=by decide) (hdb:(x == ("__debug__":Str))=false:=by decide)
  (he:starEach (.Name y np :: es) X.env=(false,eval (.Name y np) X.env) :: starEach es X.env:=by rfl) (hpl:(backTo pos (starEach es X.env)).any (·.1)=false:=by rfl):SE X Γ E (.Call (.Name x p) (.Name y np :: es) [] pos) (td i F fr) L .v:=by
 obtain⟨f,fd,hm,hk,hb,hF⟩:=hf.ex
 refine PE.post' (jU (dvs:=[]) hF hr hg hm hk hb .nil hx (aN (jo hN hv hd hcd) ha he) hdb he hpl) λσ H Q h=>?_
 have:=BA (Q:=Q) (wv:=false) (ps:=ps) hK hf.len (by simpa using h)
 show xV i σ H λx H1=>aT Γ E fr L σ H1 λvs H2=>BG X.K (ps.length - 1) F ((x :: vs) ++ []) H2 Q E
 simpa using this
def xa:D->Option Int
 | .list [.int z]=>some z
 |_=>none
def yT {d:D}{z:Int}(h:xa d=some z):d=.list [.int z]:=by
 unfold xa at h
 split at h
 ·cases h;rfl
 ·cases h
end
section
variable {P:Program}{w:World}{K:Frag}{mg:Str->Option Value}{base:Heap}{ca:Str->Addr}
def Bx:SO->FB
 | .nx _ β=>.ok .none false β
 | .rt d fr β=>.ok d fr β
 |_=>.bad
def rY (n:Nat)(ds:List D):En:=.bx :: ds.map Sl.fz ++ List.replicate (n - 1 - ds.length) .no
def uW (n p:Nat)(m:SF):List D->Int->FB:=λds β=>if ds.length=p then Bx (m (rY n ds) β) else .bad
abbrev Fx.fb (K:Frag)(H G:Hp)(ca:Str->Addr)(b:Addr):Fx:=⟨K,H,G,[b],ca,λ_=>false,some b⟩
def SR.startB {H G:Hp}{N:List Str}{b:Addr}{vs:List V}{ds:List D}{β:Int}(s:ah G H)(hb:H b=some (.lst [.int β]))(gb:G b=none)(r:cv K G vs ds)(hn:ds.length + 1<=N.length):SR (Fx.fb K H G ca b) (some b) G H (L2.start N (.ref b :: vs)) (rY N.length ds) β:=by
 have hl:=r.len
 refine⟨s,ah.refl _,λc _ h=>h,λc o h _=>Kt.of h,λc h=>?_,λc h=>h,λc h=>?_,?_,λi t e=>?_,λi j a d e h=>?_⟩
 ·have:c=b:=by simpa using h
  subst this;exact Mx.lst hb
 ·cases h;exact⟨hb,gb,.inl (by simp)⟩
 ·unfold L2.start rY;simp;omega
 ·cases i with
  |zero=>
   unfold rY at e
   cases e
   exact⟨b,rfl,rfl⟩
  |succ i=>
   unfold rY at e
   have e:(ds.map Sl.fz ++ List.replicate (N.length - 1 - ds.length) Sl.no)[i]? =some t:=by simpa using e
   by_cases hi:i < ds.length
   ·rw[GC (by simpa using hi),Gf,FU hi] at e
    cases e
    obtain⟨x,hx,rx⟩:=r.at (FU hi)
    refine⟨x,?_,rx⟩
    unfold L2.start
    have hi':i < vs.length:=by rw[hl];exact hi
    rw[GC (by simp;exact hi'),Gf,List.getElem?_cons_succ,hx];rfl
   ·rw[GA (by simpa using hi),Hl] at e
    split at e
    ·cases e;trivial
    ·cases e
 ·unfold rY at h
  have hm:=Gy h
  rcases FY.mp hm with z |hm
  ·cases z
  rcases GB.mp hm with z |z
  ·obtain⟨_,_,z⟩:=Gh.mp z;cases z
  ·have:=IH z;cases this
def wb {x qual:Str}{st:Stmt}{f:Addr}{fd:FuncData}{N:List Str}{ps:List Str}{k:Nat}{m:SF}(F:xP K x qual st f fd)(S:aH N ps (ar st))(hp:1<=ps.length)
  (hbody:∀(cdv:Value) (A:Around) (outer:List Env) (s:Shared) (H G:Hp) (b:Addr) (E:XK),eJ k (A.deeper (envOfC qual (ar st) s.heap.objs.size f cdv))->zb (i7 (kM P w) P w K mg base N qual (ar st) f cdv A outer s H E) (Fx.fb K H G ca b) E (cT st) m) :
  eB P w K mg base (kM P w) (k + 1) f fd ps (BG K (ps.length - 1) (uW N.length (ps.length - 1) m)):=by
 have hpn:ps.length<=N.length:=by have:=congrArg List.length S.pre;rw[Hd] at this;omega
 refine F.zC S (λvs H Q E h=>?_) (λcdv A outer s H vs Q E hr h=>?_)
 ·obtain⟨b,rest,G,ds,β,rfl,hb,gb,sG,hl,r,_⟩:=h
  rw[Gr,r.len];omega
 ·obtain⟨b,rest,G,ds,β,rfl,hb,gb,sG,hl,r,h⟩:=h
  refine⟨_,hbody cdv A outer s H G b E hr,?_⟩
  have I:=SR.startB (ca:=ca) (N:=N) sG hb gb r (by omega)
  refine⟨_,G,some b,β,I,?_⟩
  unfold uW at h
  rw[FZ hl] at h
  have fin':∀{B G' H' σ env β},SR (Fx.fb K H G ca b) B G' H' σ env β->fE (some b) H H'/\H' b=some (.lst [.int β]):=λJ=>by
   have e:=J.fix b rfl
   have k:∀c o,H c=some o->some b≠some c->Kt _ c o:=λc o ec n=>J.keep c o ec λz=>n (show some b=some c by rw[show c=b by simpa using z])
   exact⟨⟨k,λc o u ec=>k c _ ec λz=>by cases z;rw[hb] at ec;cases ec⟩,(J.box b e).1⟩
  cases q:m (rY N.length ds) β with
  |nx env β'=>rw[q] at h;exact λB G' H' σ J s'=>h .non G' H' (fin' J).1 (fin' J).2 s' J.sub (λc h1 h2=>J.new c h1 h2) Rp.non
  |bk env β'=>rw[q] at h;exact h.elim
  |ct env β'=>rw[q] at h;exact h.elim
  |rt d fr β'=>
   rw[q] at h
   refine λB G' H' σ env v J s' rv=>h v G' H' (fin' J).1 (fin' J).2 s' J.sub (λc h1 h2=>J.new c h1 h2) ?_
   cases fr with
   |true=>exact rv
   |false=>exact rv
  |exc c=>rw[q] at h;exact h.elim
  |bad=>rw[q] at h;exact h.elim
def wc {n p:Nat}{m:SF}(ds:List D)(β:Int)(h:uW n p m ds β≠.bad):ds.length=p:=by
 unfold uW at h
 by_cases hl:ds.length=p
 ·exact hl
 ·rw[Gd hl] at h;exact absurd rfl h
end
def bI (p:Pr):D:=.tuple [.int p.1,.int p.2]
def lP:D->Option Pr
 | .tuple [.int a,.int b]=>some (a,b)
 |_=>none
def pD {d:D}{p:Pr}(h:lP d=some p):d=bI p:=by
 unfold lP at h
 split at h
 ·cases h;rfl
 ·cases h
def vd (p:Pr):lP (bI p)=some p:=rfl
def dB:List D->Option (List Pr)
 | []=>some []
 |d :: ds=>match lP d,dB ds with
  |some p,some ps=>some (p :: ps)
  |_,_=>none
theorem gC:∀{ds:List D} {ps:List Pr},dB ds=some ps->ds=ps.map bI
 | [],ps,h=>by cases h;rfl
 |d :: ds,ps,h=>by
  unfold dB at h
  split at h
  ·rename_i p qs h1 h2;cases h;rw[pD h1,gC h2];rfl
  ·cases h
theorem dE:∀ps:List Pr,dB (ps.map bI)=some ps
 | []=>rfl
 |p :: ps=>by
  show (match lP (bI p),dB (ps.map bI) with
   |some p,some ps=>some (p :: ps)
   |_,_=>none)=_
  rw[vd,dE ps]
section
variable {K:Frag}{X:Cx}{G H:Hp}
theorem cv.pairs:∀{ps:List Pr} {xs:List V},cv K G xs (ps.map bI)->aF K G xs ps
 | [],_,.nil=>.nil
 |p :: ps,_,.cons r t=>by
  cases r with
  |tup hq r=>
   cases r with
   |cons r1 r=>
    cases r with
    |cons r2 r=>cases r;cases r1;cases r2;exact .cons ⟨_,rfl,hq⟩ (cv.pairs t)
theorem aF.rps:∀{ps:List Pr} {xs:List V},aF K G xs ps->cv K G xs (ps.map bI)
 | [],_,.nil=>.nil
 |p :: ps,_,.cons r t=>by
  obtain⟨a,rfl,q⟩:=r
  exact .cons (.tup q (.cons (.int _) (.cons (.int _) .nil))) (aF.rps t)
def BZ (p:Pr):Bool:=decide (0<=p.1) && decide (p.1 < 8) && decide (0<=p.2) && decide (p.2 < 8)
def v5 {p:Pr}(h:BZ p=true):Sm p:=by
 unfold BZ at h
 simp only[GV,G9] at h
 exact⟨⟨h.1.1.1,h.1.1.2⟩,h.1.2,h.2⟩
noncomputable def fA (d:D):Option D:=match nY d with
 |some ds=>(match dB ds with
  |some ps=>if ps.all BZ=true/\(OM.b6 8 (OM.Mem ps)).length < 64 then some (.list ((OM.b6 8 (OM.Mem ps)).map bI)) else none
  |none=>none)
 |none=>none
variable {Γ:Fx}{E:XK}{e a b c:Expr}{f fa fb fc:VF D}{L La Lb:List Nat}{md ma mb mc:Md}{pos:Pos}
theorem l4 {p1 p2 pos2:Pos}(hc:X.calm=true)(hu:X.A.units + 64 < cLine)(hK:X.K=Γ.K)(hg:Gl X "sorted")(hm:X.mg "sorted"=none)(hg2:Gl X "set")(hm2:X.mg "set"=none)(ha:SE X Γ E a fa La ma)
  (he:starEach [a] X.env=(false,eval a X.env) :: starEach [] X.env:=by rfl)
  (he2:starEach [.Call (.Name "set" p2) [a] [] pos2] X.env=(false,eval (.Call (.Name "set" p2) [a] [] pos2) X.env) :: starEach [] X.env:=by rfl) :
  SE X Γ E (.Call (.Name "sorted" p1) [.Call (.Name "set" p2) [a] [] pos2] [] pos) (f1 fa fA) La .w:=by
 refine PE.post' (iR (oD hc) hg hm (by decide +kernel) (aN (j8 (wQ hc hu) hg2 hm2 (by decide +kernel) (aN ha bK he) (by decide) (by decide) he) bK he2) (by decide) (by decide) he2) λσ H Q ⟨env,G,B,β,I,o⟩=>?_
 refine hW (r:=λx H1 Q=>CT X.prog X.w X.K [x] H1 λy H2=>pV X.prog X.w X.K [y] H2 Q) ?_ I o
 intro B G H x dx d Q s hB bx e k
 rw[hK]
 unfold fA at e
 cases q:nY dx with
 |none=>rw[q] at e;cases e
 |some ds=>
  rw[q] at e
  dsimp only at e
  cases q2:dB ds with
  |none=>rw[q2] at e;cases e
  |some ps=>
   rw[q2] at e
   dsimp only at e
   split at e
   ·rename_i hh
    obtain⟨h1,h2⟩:=hh
    cases e
    obtain⟨p,xs,rfl,hq,r⟩:=bx.seq q s
    rw[gC q2] at r
    have pv:=(r.mono s).pairs
    have sm:∀p,p∈ps->Sm p:=λp hp=>v5 (Hk.mp h1 p hp)
    refine⟨p,xs,ps,rfl,hq,pv,sm,λS qs hS hpv nd hm=>?_⟩
    have qsl:qs.length < 64:=by
     have:(pq qs).length<=(OM.b6 8 (OM.Mem ps)).length:=OM.oI nd λx hx=>by
      have hx':=(hm x).mp hx
      have hs:=sm x hx'
      exact OM.aR.mpr ⟨⟨⟨hs.1.1,hs.1.2⟩,hs.2.1,hs.2.2⟩,hx'⟩
     simp only[Gv] at this
     omega
    have xS:=Ext.own s (o:=uX X.prog X.w S qs) hS
    refine⟨S,qs,rfl,av,hpv.grow (eS.new hS),λp hp=>sm p ((hm p).mp hp),nd,qsl,λl ws rs hl hpw hr hmem=>?_⟩
    have ers:rs=OM.b6 8 (OM.Mem ps):=OM.fS hr (OM.cA _ _) λx=>by
     rw[hmem x,hm x,OM.aR]
     constructor
     ·intro hx;have hs:=sm x hx;exact⟨⟨⟨hs.1.1,hs.1.2⟩,hs.2.1,hs.2.2⟩,hx⟩
     ·intro hx;exact hx.2
    subst ers
    have hlH:H l=none:=by
     by_cases z:l=S
     ·subst z;exact hS
     ·rw[au z] at hl;exact hl
    have lS:l≠S:=λz=>by subst z;rw[av] at hl;cases hl
    have hh:ah H (upd (upd H S (uX X.prog X.w S qs)) l (.lst ws)):=(ah.new hS).trans (ah.new hl)
    have xx:=Ext.tups s hh
    refine k _ _ _ xx ⟨l,rfl,hlH,?_,ws,av,?_⟩
    ·unfold j3
     rw[s.free hlH,av]
     exact Gd λy=>y
    ·refine aF.rps (Paired.mapP hpw λv p ⟨a,ea,qa⟩=>⟨a,ea,jH (s.trans hh) ?_⟩)
     exact qa.grow (eS.new hl)
   ·cases e
end
section
variable {K:Frag}{X:Cx}{G H:Hp}{Γ:Fx}{E:XK}{e a b c:Expr}{f fa fb fc:VF D}{L La Lb:List Nat}{md ma mb mc:Md}{pos apos cpos np:Pos}
def CZ:D->Option D
 | .int n=>if 0<=n/\n<=1000 then some (.list (fD 0 n.toNat)) else none
 |_=>none
def CC:D->Option D
 | .int i=>some (.int (if i < 0 then -i else i))
 |_=>none
theorem Cn:xN K (λx H Q=>∃i,[x]= [.int i]/\Q (.int (if i < 0 then -i else i)) H) CC .v:=by
 intro B G H x dx d Q s hB bx e k
 cases dx with
 |int i=>cases e;obtain rfl:=bx.int;exact⟨i,rfl,k _ G H (Ext.refl s) (.int _)⟩
 |_=>cases e
noncomputable def mf (d:D):Option D:=match d with
 | .list ds=>(match dB ds with
  |some ps=>if ps.all BZ=true/\ps.Nodup/\ps.length < 64 then some (.list ((OM.b6 8 (OM.Mem ps)).map bI)) else none
  |none=>none)
 |_=>none
theorem yx:xN K (λx=>tf K [x]) mf .w:=by
 intro B G H x dx d Q s hB bx e k
 cases dx with
 |list ds=>
  simp only[mf] at e
  cases q2:dB ds with
  |none=>rw[q2] at e;cases e
  |some ps=>
   rw[q2] at e
   dsimp only at e
   split at e
   ·rename_i hh
    obtain⟨h1,h2,h3⟩:=hh
    cases e
    obtain⟨p,xs,rfl,hq,r⟩:=bx.list s
    rw[gC q2] at r
    have pv:=(r.mono s).pairs
    have sm:∀p,p∈ps->Sm p:=λp hp=>v5 (Hk.mp h1 p hp)
    refine⟨p,xs,ps,rfl,.inl hq,pv,sm,h2,h3,λl ws rs hl hpw hr hmem=>?_⟩
    have ers:rs=OM.b6 8 (OM.Mem ps):=OM.fS hr (OM.cA _ _) λx=>by
     rw[hmem x,OM.aR]
     constructor
     ·intro hx;have hs:=sm x hx;exact⟨⟨⟨hs.1.1,hs.1.2⟩,hs.2.1,hs.2.2⟩,hx⟩
     ·intro hx;exact hx.2
    subst ers
    have hh:ah H (upd H l (.lst ws)):=ah.new hl
    refine k _ _ _ (Ext.tups s hh) ⟨l,rfl,hl,?_,ws,av,?_⟩
    ·unfold j3
     rw[s.free hl,av]
     exact Gd λy=>y
    ·refine aF.rps (Paired.mapP hpw λv p ⟨a,ea,qa⟩=>⟨a,ea,jH (s.trans hh) ?_⟩)
     exact qa.grow (eS.new hl)
   ·cases e
 |_=>cases e
theorem cv.eraseIdx:∀{xs:List V} {ds:List D} (i:Nat),cv K G xs ds->cv K G (xs.eraseIdx i) (ds.eraseIdx i)
 |_,_,_,.nil=>.nil
 |_,_,0,.cons _ t=>t
 |_,_,i + 1,.cons r t=>.cons r (cv.eraseIdx i t)
end
def jZ:List D->Int->FB
 | [.int m],β=>if 0 < m/\m < 1073741824 then .ok (.int (β % m)) false (β / m) else .bad
 |_,_=>.bad
def sU {ds:List D}{β:Int}(h:jZ ds β≠.bad):∃m,ds= [.int m]/\0 < m/\m < 1073741824:=by
 unfold jZ at h
 split at h
 ·rename_i m
  by_cases hh:0 < m/\m < 1073741824
  ·exact⟨m,rfl,hh.1,hh.2⟩
  ·rw[Gd hh] at h;exact absurd rfl h
 ·exact absurd rfl h
def tx {m β:Int}(h0:0 < m)(h1:m < 1073741824):jZ [.int m] β=.ok (.int (β % m)) false (β / m):=FZ ⟨h0,h1⟩
section
variable {P:Program}{w:World}{K:Frag}{mg:Str->Option Value}{base:Heap}
def zh {X:Cx}{i j:Nat}{x y:Str}{px py pos:Pos}{k:Nat}(hN:X.N.Nodup)(hi:X.N[i]? =some x)(hj:X.N[j]? =some y)(hx:X.env.scope.names.lookup x=some .local)(hy:X.env.scope.names.lookup y=some .local)(hc:X.calm=true) :
  PG X (.Tuple [.Name x px,.Name y py] k pos) (zw X.K 2 (lJ (jc i) (lJ (jc j) zv))):=
 mz hc (cQ (cx hN hi (Or.inl hx) (Or.inr hx)) (cQ (cx hN hj (Or.inl hy) (Or.inr hy)) jF))
def vS {b:Addr}{β m:Int}{H:Hp}{Q:VK}{G:Hp}(hb:H b=some (.lst [.int β]))(s:ah G H){p:Addr}(hp:H p=none)
  (kk:∀v G' H',fE (some b) H H'->H' b=some (.lst [.int (β / m)])->ah G G'->ah G' H'->(∀c,Mx H c->G c=none->G' c=none)->FV K H G' H' false (.int (β % m)) v->Q v H') (gb:G b=none) :
  Q (.int (β % m)) (upd (upd H p (.tup [.int (β / m),.int (β % m)])) b (.lst [.int (β / m)])):=by
 have hbp:b≠p:=az hb hp
 refine kk _ G _ ⟨λc o e n=>Kt.of (by rw[au (λz=>n (by rw[z])),au (az e hp)];exact e),λc o u e=>by rw[au (λz=>by rw[z,hb] at e;cases e),au (az e hp)];exact e⟩ av (ah.refl _) (λc o e=>?_) (λc _ h=>h) (.int _)
 obtain⟨u,eu,_⟩:=(s c o e).some
 exact iy (iy (s c o e) (az eu hp) λx y w=>by rw[hp] at w;cases w) (λz=>by rw[z,gb] at e;cases e) λx y w=>by rw[au hbp,hb] at w;cases w
end
end L2
namespace L2
open PySem PySem.SeqAt PySem.Spec PyProof.Rows
section
variable {K:Frag}{X:Cx}{G H:Hp}{Γ:Fx}{E:XK}{e a b c:Expr}{f fa fb fc:VF D}{L La Lb:List Nat}{md ma mb mc:Md}{pos apos cpos np:Pos}
def sQ (t:Tg)(L:List Nat)(f:VF D):SF:=λenv β=>toS (f (vl env) β) λd β'=>match du t d (aX L env) with
 |some env'=>.nx env' β'
 |none=>.bad
theorem BN {t:Tg}{tg:Expr}(he:SE X Γ E e f L .v)(hg:SG X Γ tg t)(hs:swapsWithSole [tg] e pos.line X.env=pure false:=by rfl)(hw:swappedStores [tg] e X.env=pure none:=by rfl)
  (h1:(assignEach [tg] X.env).map (·.2)= [assign tg X.env]:=by rfl):SS X Γ E (.Assign [tg] e pos) (sQ t L f):=by
 refine PS.post (lq he hg hs hw h1) λN σ H ⟨env,G,B,β,I,o⟩=>?_
 refine⟨env,G,B,β,I,cI o λd β' k v G' H' I' s' m' vo=>?_⟩
 cases q:du t d (aX L env) with
 |none=>rw[q] at k;exact k.elim
 |some env'=>
  rw[q] at k
  exact⟨_,G',B,β',d,env',I',vo,q,λσ' J=>k B G' H' σ' J s'⟩
abbrev Fx.at (Γ:Fx)(H0:Hp):Fx:=⟨Γ.K,H0,Γ.G0,Γ.par,Γ.ca,Γ.br,Γ.bx⟩
end
end L2
namespace L2
open PySem PySem.Spec PyProof.Rows
def oU:En->Bool
 | []=>true
 | .no :: env=>oU env
 | .fz _ :: env=>oU env
 |_=>false
theorem i3:∀{env:En} {i:Nat} {s:Sl},oU env=true->env[i]? =some s->s=.no\/∃d,s=.fz d
 | [],_,_,_,e=>by simp at e
 | .no :: env,0,_,_,e=>by simp at e;exact .inl e.symm
 | .fz d :: env,0,_,_,e=>by simp at e;exact .inr ⟨d,e.symm⟩
 | .no :: env,i + 1,s,h,e=>i3 (env:=env) h (by simpa using e)
 | .fz d :: env,i + 1,s,h,e=>i3 (env:=env) h (by simpa using e)
 | .ow _ :: _,_,_,h,_=>by cases h
 | .br _ :: _,_,_,h,_=>by cases h
 | .bx :: _,_,_,h,_=>by cases h
section
variable {X:Cx}{Γ:Fx}{E:XK}{m:SF}
def SR.drop {B:Option Addr}{G H:Hp}{σ:St}{env:En}{β:Int}(I:SR Γ B G H σ env β)(hf:oU env=true):SR (Fx.fn Γ.K H G Γ.ca) none G H σ env 0:=by
 refine⟨I.sub,ah.refl _,λb _ h=>h,λb o h _=>Kt.of h,λb h=>(by cases h),λb h=>(by cases h),λb h=>(by cases h),I.len,λi s e=>?_,λi j a d e h=>?_⟩
 ·rcases i3 hf e with rfl | ⟨d,rfl⟩
  ·trivial
  ·exact I.slot i _ e
 ·rcases i3 hf h with z | ⟨_,z⟩ <;> cases z
end
end L2
namespace L2
open PySem
section
variable {α γ:Type}
@[simp] theorem lV (a:α)(β:Int)(k:α->Int->R γ):(R.ok a β).bnd k=k a β:=rfl
@[simp] theorem D1 (c:Str)(k:α->Int->R γ):(R.exc c:R α).bnd k=.exc c:=rfl
@[simp] theorem DW (k:α->Int->R γ):(R.bad:R α).bnd k=.bad:=rfl
@[simp] theorem Ej (a:α)(β:Int)(k:α->Int->R γ):(R.ok a β).okb k=k a β:=rfl
@[simp] theorem oj (a:α)(β:Int):R.of (some a) β=.ok a β:=rfl
@[simp] theorem of_none (β:Int):(R.of none β:R α)=.bad:=rfl
@[simp] theorem Eo (a:α)(β:Int)(k:α->Int->SO):toS (.ok a β) k=k a β:=rfl
@[simp] theorem Ec (c:Str)(k:α->Int->SO):toS (.exc c:R α) k=.exc c:=rfl
@[simp] theorem DX (k:α->Int->SO):toS (.bad:R α) k=.bad:=rfl
end
section
variable (f fa fb fc:VF D)(t u:VF Bool)(m m':SF)(vs:List Nv)(β:Int)(env:En)(i j:Nat)(L:List Nat)
@[simp] theorem zN:gv i vs β=R.of (dat vs[i]?) β:=rfl
@[simp] theorem rV (d:D):dat (some (.da d))=some d:=rfl
@[simp] theorem E5 (d:D):cst d vs β=.ok d β:=rfl
@[simp] theorem Fq (g:D->Option D):f1 fa g vs β=(fa vs β).bnd λx β1=>R.of (g x) β1:=rfl
@[simp] theorem Fj (g:D->D->Option D):f2 fa fb g vs β=(fa vs β).bnd λx β1=>(fb vs β1).bnd λy β2=>R.of (g x y) β2:=rfl
@[simp] theorem sN:aw vs β=.ok [] β:=rfl
@[simp] theorem iG (fr:VF (List D)):aa fa fr vs β=(fa vs β).bnd λx β1=>(fr vs β1).bnd λxs β2=>.ok (x :: xs) β2:=rfl
@[simp] theorem BC:nk fa vs β=(fa vs β).bnd λx β1=>R.of (AD x) β1:=rfl
@[simp] theorem AB:oG t vs β=(t vs β).bnd λc β1=>.ok (!c) β1:=rfl
@[simp] theorem xu:zI t u vs β=(t vs β).bnd λc β1=>if c=true then u vs β1 else .ok false β1:=rfl
@[simp] theorem zo:ju t u vs β=(t vs β).bnd λc β1=>if c=true then .ok true β1 else u vs β1:=rfl
@[simp] theorem CI (n:Bool):tN fa n vs β=(fa vs β).bnd λx β1=>.ok (if n then !mM x else mM x) β1:=rfl
@[simp] theorem EL:FP t fa fb vs β=(t vs β).bnd λc β1=>if c=true then fa vs β1 else fb vs β1:=rfl
@[simp] theorem oW (c:Bool){β1:Int}(h:fa vs β=.ok (.bool c) β1):eV fa vs β=.ok c β1:=by unfold eV;rw[h];rfl
@[simp] theorem r6:vl []= []:=rfl
@[simp] theorem pd (s:Sl):vl (s :: env)=s.val :: vl env:=rfl
@[simp] theorem rh (d:D):(Sl.fz d).val=.da d:=rfl
@[simp] theorem EC (d:D):(Sl.ow d).val=.da d:=rfl
@[simp] theorem EO:Sl.no.val=.no:=rfl
@[simp] theorem Fc:Sl.bx.val=.bx:=rfl
@[simp] theorem D8:aX [] env=env:=rfl
@[simp] theorem Ce:aX (i :: L) env=aX L (gM env i):=rfl
@[simp] theorem D7:aC m m' env β=(match m env β with
 | .nx env' β'=>m' env' β'
 |r=>r):=rfl
@[simp] theorem Es:gr L t m m' env β=toS (t (vl env) β) λc β'=>if c=true then m (aX L env) β' else m' (aX L env) β':=rfl
@[simp] theorem Ef:bH f env β=toS (f (vl env) β) λd β'=>.rt d false β':=rfl
@[simp] theorem DO:iu f env β=toS (f (vl env) β) λd β'=>.rt d true β':=rfl
@[simp] theorem E4:iq env β=.nx env β:=rfl
@[simp] theorem n8:cg i L f env β=toS (f (vl env) β) λd β'=>.nx ((aX L env).set i (.fz d)) β':=rfl
@[simp] theorem Cu:jj i L f env β=toS (f (vl env) β) λd β'=>.nx ((aX L env).set i (.ow d)) β':=rfl
@[simp] theorem Cp:pE L f env β=toS (f (vl env) β) λ_ β'=>.nx (aX L env) β':=rfl
end
def fU {m m':SF}{env env':En}{β β':Int}(h:m env β=.nx env' β'):aC m m' env β=m' env' β':=by unfold aC;rw[h]
def yi {m m':SF}{env:En}{β β':Int}{d:D}{b:Bool}(h:m env β=.rt d b β'):aC m m' env β=.rt d b β':=by unfold aC;rw[h]
def t7 {L:List Nat}{t:VF Bool}{m m':SF}{env:En}{β β':Int}(h:t (vl env) β=.ok true β'):gr L t m m' env β=m (aX L env) β':=by unfold gr;rw[h];rfl
def qy {L:List Nat}{t:VF Bool}{m m':SF}{env:En}{β β':Int}(h:t (vl env) β=.ok false β'):gr L t m m' env β=m' (aX L env) β':=by unfold gr;rw[h];rfl
def aI {F:List D->FR}{fr:VF (List D)}{vs:List Nv}{β β1:Int}{ds:List D}{d:D}{b:Bool}(h:fr vs β=.ok ds β1)(e:F ds=.ok d b):aE F fr vs β=.ok d β1:=by unfold aE;rw[h];dsimp only[R.bnd];rw[e]
def vZ {F:List D->FR}{fr:VF (List D)}{vs:List Nv}{β β1:Int}{ds:List D}{d:D}(h:fr vs β=.ok ds β1)(e:F ds=.ok d true):nN F fr vs β=.ok d β1:=by unfold nN;rw[h];dsimp only[R.bnd];rw[e]
def gE {fa:VF D}{g:D->Option D}{vs:List Nv}{β β1:Int}{x d:D}(h:fa vs β=.ok x β1)(e:g x=some d):f1 fa g vs β=.ok d β1:=by unfold f1;rw[h];dsimp only[R.bnd];rw[e];rfl
def bA {fa fb:VF D}{g:D->D->Option D}{vs:List Nv}{β β1 β2:Int}{x y d:D}(h:fa vs β=.ok x β1)(h':fb vs β1=.ok y β2)(e:g x y=some d):f2 fa fb g vs β=.ok d β2:=by unfold f2;rw[h];dsimp only[R.bnd];rw[h'];dsimp only[R.bnd];rw[e];rfl
def AR {i:Nat}{F:List D->Int->FB}{fr:VF (List D)}{vs:List Nv}{β β1 β2:Int}{ds:List D}{d:D}{b:Bool}(hi:qB vs i=true)(h:fr vs β=.ok ds β1)(e:F ds β1=.ok d b β2):td i F fr vs β=.ok d β2:=by unfold td;rw[FZ hi,h];dsimp only[R.bnd];rw[e]
def sz (n:Nat)(h:n<=1000):n<=sizeLine:=by rw[Gz];omega
def E9 (n:Nat)(h:n<=1000):n < sizeLine:=by rw[Gz];omega
def jE {fr:VF (List D)}{vs:List Nv}{β β1:Int}{ds:List D}(h:fr vs β=.ok ds β1)(hz:ds.length<=1000):aZ fr vs β=.ok (.tuple ds) β1:=by unfold aZ;rw[h];exact FZ (sz _ hz)
def o8 {fr:VF (List D)}{vs:List Nv}{β β1:Int}{ds:List D}(h:fr vs β=.ok ds β1)(hz:ds.length<=1000):fF fr vs β=.ok (.list ds) β1:=by unfold fF;rw[h];exact FZ (sz _ hz)
def BP {i:Nat}{env:En}{β:Int}{g:List D->Option (List D)}{ds es:List D}(h:env[i]? =some (.ow (.list ds)))(e:g ds=some es):B5 i env β g=.nx (env.set i (.ow (.list es))) β:=by unfold B5;rw[h];dsimp only;rw[e]
def x6 {i:Nat}{L:List Nat}{f:VF D}{env:En}{β β':Int}{ds:List D}{d:D}(hi:env[i]? =some (.ow (.list ds)))(hf:f (vl env) β=.ok d β')(hL:(aX L env)[i]? =some (.ow (.list ds)))(hz:ds.length<=1000):oo i L f env β=.nx ((aX L env).set i (.ow (.list (ds ++ [d])))) β':=by
 unfold oo
 rw[FZ (by rw[hi];rfl),hf]
 exact BP hL (FZ (E9 _ hz))
def gR {α:Type}{own:Nat}{ixs:List Nat}{t:Tg}{fi:VF (List D)}{fe:VF D}{vs:List Nv}{β β1:Int}{l:List α}{e:α->D}(h:α->D)(hi:fi vs β=.ok (l.map e) β1)(hz:l.length<=1000)
  (hh:∀x,x∈l->∃vs1,pM t (e x) (fI own ixs vs)=some vs1/\fe vs1 β1=.ok (h x) β1):bu own ixs t fi pk fe vs β=.ok (.list (l.map h)) β1:=by
 unfold bu
 rw[hi]
 dsimp only[R.bnd]
 rw[FZ (sz _ (by rw[Gv];exact hz))]
 have key:∀m:List α,(∀x,x∈m->x∈l)->gA t pk fe (fI own ixs vs) (m.map e) β1=.ok (m.map h) β1:=by
  intro m
  induction m with
  |nil=>intro _;rfl
  |cons x m ih=>
   intro hm
   obtain⟨vs1,e1,e2⟩:=hh x (hm x (Gg ..))
   rw[He]
   unfold gA
   rw[e1]
   dsimp only
   show (R.ok true β1).okb _=_
   dsimp only[R.okb]
   rw[FZ rfl,e2]
   dsimp only
   rw[ih λy hy=>hm y (F0 _ hy)];rfl
 rw[key l λ_ h=>h];rfl
def jn {α:Type}{own:Nat}{ixs:List Nat}{t:Tg}{fi:VF (List D)}{ft:VF Bool}{fe:VF D}{vs:List Nv}{β β1:Int}{l:List α}{e:α->D}(g:α->Bool)(h:α->D)(hi:fi vs β=.ok (l.map e) β1)(hz:l.length<=1000)
  (hh:∀x,x∈l->∃vs1,pM t (e x) (fI own ixs vs)=some vs1/\ft vs1 β1=.ok (g x) β1/\(g x=true->fe vs1 β1=.ok (h x) β1)):bu own ixs t fi ft fe vs β=.ok (.list ((l.filter g).map h)) β1:=by
 unfold bu
 rw[hi]
 dsimp only[R.bnd]
 rw[FZ (sz _ (by rw[Gv];exact hz))]
 have key:∀m:List α,(∀x,x∈m->x∈l)->gA t ft fe (fI own ixs vs) (m.map e) β1=.ok ((m.filter g).map h) β1:=by
  intro m
  induction m with
  |nil=>intro _;rfl
  |cons x m ih=>
   intro hm
   obtain⟨vs1,e1,e2,e3⟩:=hh x (hm x (Gg ..))
   have ih:=ih λy hy=>hm y (F0 _ hy)
   rw[He]
   unfold gA
   rw[e1]
   dsimp only
   rw[e2]
   dsimp only[R.okb]
   cases q:g x with
   |true=>
    rw[FZ rfl,e3 q]
    dsimp only
    rw[ih,List.filter_cons_of_pos q];rfl
   |false=>
    rw[Gd GF,ih,List.filter_cons_of_neg (by rw[q];exact GF)]
 rw[key l λ_ h=>h];rfl
theorem lK {t:Tg}{m:SF}(Pv:Nat->En->Int->Prop):∀{ds:List D} {k:Nat} {env:En} {β:Int},Pv k env β->
  (∀i d env β,ds[i]? =some d->Pv (k + i) env β->∃env1,du t d env=some env1/\∃env2 β2,m env1 β=.nx env2 β2/\Pv (k + i + 1) env2 β2)->∃env' β',nV t m ds env β=.nx env' β'/\Pv (k + ds.length) env' β'
 | [],k,env,β,h0,_=>⟨env,β,rfl,h0⟩
 |d :: ds,k,env,β,h0,hs=>by
  obtain⟨env1,e1,env2,β2,e2,h1⟩:=hs 0 d env β rfl h0
  obtain⟨env',β',e3,h2⟩:=lK Pv (t:=t) (m:=m) (ds:=ds) (k:=k + 1) h1 λi d' en be hi hp=>by
   have:=hs (i + 1) d' en be (by simpa using hi) (by rw[show k + (i + 1)=k + 1 + i by omega];exact hp)
   rw[show k + (i + 1) + 1=k + 1 + i + 1 by omega] at this
   exact this
  refine⟨env',β',?_,by rw[Gr,show k + (ds.length + 1)=k + 1 + ds.length by omega];exact h2⟩
  unfold nV
  rw[e1]
  dsimp only
  rw[e2]
  exact e3
end L2
namespace RM
open PySem L2
def l0:SF:=(bH (gc (f1 (gv 0) (gp "int")) (f1 (f1 (gv 0) (gp "bool")) zj)))
def lH (aU:List D->FR):SF:=(bH (gc (aE aU (aa (gv 0) aw)) (eN (cst (.int 0)) (gv 0) (gv 1) p6 xT)))
def nD (aU:List D->FR):SF:=(bH (gc (aE aU (aa (gv 0) aw)) (eN (cst (.int 1)) (gv 0) (cst (.int 8)) p6 p6)))
def nJ (bB:List D->FR):SF:=(aC (gr ([] ++ ([] ++ [])) (ju (oG (nk (f1 (gv 0) (gp "tuple")))) (eV (f2 (f1 (gv 0) c7) (cst (.int 2)) (fG true))))
 (bH (cst (.bool false)))
 iq)
 (bH (gc (aE bB (aa (f2 (gv 0) (cst (.int 0)) eY) (aa (gv 1) aw))) (aE bB (aa (f2 (gv 0) (cst (.int 1)) eY) (aa (gv 1) aw))))))
def jO:SF:=(iu (bu 1 [0] (.nm 0) (eT (f2 (gv 0) (gv 0) cj)) pk (aZ (aa (f2 (gv 0) (gv 1) Ac) (aa (f2 (gv 0) (gv 1) gx) aw)))))
def mB:SF:=(bH (f1 (bu 2 [] (.two 0 1) (eI (gv 0)) pk (f2 (gv 0) (gv 1) (fG false))) (dF λbs=>bs.any id)))
def hV (aL fw gF dC:List D->FR):SF:=(aC (gr ([0] ++ []) (oG (nk (aE aL (aa (gv 0) aw))))
 (λenv β=>toS ((aa (cst (.str "this is no number of things")) aw) (vl env) β) λds _=>if ds.length<=sizeLine then .exc "NoMany" else .bad)
 iq)
 (aC (gr ([] ++ ([] ++ [0])) (ju (oG (nk (f1 (gv 1) (gp "list")))) (oG (nk (f1 (bu 1 [0] (.nm 0) (eI (gv 1)) pk (aE fw (aa (gv 0) (aa (gv 1) aw)))) (dF λbs=>bs.all id)))))
 (λenv β=>toS ((aa (cst (.str "this is no list of pairs of things")) aw) (vl env) β) λds _=>if ds.length<=sizeLine then .exc "NoPairs" else .bad)
 iq)
 (aC (cg 2 ([0] ++ ([1] ++ [])) (aE gF (aa (gv 0) (aa (gv 1) aw))))
 (aC (gr ([2] ++ []) (nk (aE dC (aa (gv 2) aw)))
 (λenv β=>toS ((aa (cst (.str "these pairs lead from a thing to itself")) aw) (vl env) β) λds _=>if ds.length<=sizeLine then .exc "Ring" else .bad)
 iq)
 (bH (aZ (aa (gv 0) (aa (gv 2) aw))))))))
def AM:D->Bool
 | .int _=>true
 |_=>false
def gj:List D->FR
 | [d]=>if eH d=true then .bad else .ok (.bool (AM d)) false
 |_=>.bad
def jI {d:D}(h:eH d=false):gj [d]=.ok (.bool (AM d)) false:=Gd (by rw[h];exact GF)
def tL (ds:List D)(h:gj ds≠.bad):bo 1 1 l0 ds=gj ds:=by
 unfold gj at h
 split at h
 ·rename_i d
  cases q:eH d with
  |true=>rw[q] at h;exact absurd rfl h
  |false=>
   rw[jI q]
   have e1:gp "int" d=some (.bool (vV d "int")):=by unfold gp;rw[q];rfl
   have e2:gp "bool" d=some (.bool (vV d "bool")):=by unfold gp;rw[q];rfl
   show fin (bH (gc (f1 (gv 0) (gp "int")) (f1 (f1 (gv 0) (gp "bool")) zj)) [.fz d] 0)=_
   unfold bH gc f1 gv
   simp only[pd,r6,rh,List.getElem?_cons_zero,rV,oj,lV,e1,e2]
   cases d <;> rfl
 ·exact absurd rfl h
def vM (d:D)(n:Int):Bool:=match d with
 | .int i=>decide (0<=i/\i < n)
 |_=>false
def dD:List D->FR
 | [d,.int n]=>if eH d=true then .bad else .ok (.bool (vM d n)) false
 |_=>.bad
def tP {d:D}{n:Int}(h:eH d=false):dD [d,.int n]=.ok (.bool (vM d n)) false:=Gd (by rw[h];exact GF)
def p8 {i lo n:Int}{vs:List Nv}{β:Int}{fa fb fc:VF D}{g':D->D->Option D}{q:Bool}(ha:fa vs β=.ok (.int lo) β)(hb:fb vs β=.ok (.int i) β)(hc:fc vs β=.ok (.int n) β)(hq:g' (.int i) (.int n)=some (.bool q)):eN fa fb fc p6 g' vs β=.ok (.bool (decide (lo<=i) && q)) β:=by
 unfold eN
 rw[ha];dsimp only[R.bnd];rw[hb];dsimp only[R.bnd]
 show (match (some (PyData.bool (decide (lo<=i))):Option D) with
  |some (.bool true)=>_
  |some (.bool false)=>_
  |_=>_)=_
 by_cases h:lo<=i
 ·rw[Gj h]
  dsimp only
  rw[hc]
  dsimp only[R.bnd]
  rw[hq];rfl
 ·rw[Gn h];rfl
def yO (ds:List D)(h:dD ds≠.bad):bo 2 2 (lH gj) ds=dD ds:=by
 unfold dD at h
 split at h
 ·rename_i d n
  cases q:eH d with
  |true=>rw[q] at h;exact absurd rfl h
  |false=>
   rw[tP q]
   show fin (bH (gc (aE gj (aa (gv 0) aw)) (eN (cst (.int 0)) (gv 0) (gv 1) p6 xT)) [.fz d,.fz (.int n)] 0)=_
   unfold bH gc aE
   simp only[pd,r6,rh,iG,sN,zN,List.getElem?_cons_zero,rV,oj,lV,jI q]
   cases d with
   |int i=>
    show fin (toS (eN (cst (.int 0)) (gv 0) (gv 1) p6 xT [.da (.int i),.da (.int n)] 0) _)=_
    rw[p8 (lo:=0) (i:=i) (n:=n) rfl rfl rfl rfl]
    show FR.ok (.bool (decide (0<=i) && decide (i < n))) false=.ok (.bool (decide (0<=i/\i < n))) false
    rw[Bool.decide_and]
   |_=>rfl
 ·exact absurd rfl h
def zO (d:D):Bool:=match d with
 | .int i=>decide (1<=i/\i<=8)
 |_=>false
def il:List D->FR
 | [d]=>if eH d=true then .bad else .ok (.bool (zO d)) false
 |_=>.bad
def w8 {d:D}(h:eH d=false):il [d]=.ok (.bool (zO d)) false:=Gd (by rw[h];exact GF)
def Bd (ds:List D)(h:il ds≠.bad):bo 1 1 (nD gj) ds=il ds:=by
 unfold il at h
 split at h
 ·rename_i d
  cases q:eH d with
  |true=>rw[q] at h;exact absurd rfl h
  |false=>
   rw[w8 q]
   show fin (bH (gc (aE gj (aa (gv 0) aw)) (eN (cst (.int 1)) (gv 0) (cst (.int 8)) p6 p6)) [.fz d] 0)=_
   unfold bH gc aE
   simp only[pd,r6,rh,iG,sN,zN,List.getElem?_cons_zero,rV,oj,lV,jI q]
   cases d with
   |int i=>
    show fin (toS (eN (cst (.int 1)) (gv 0) (cst (.int 8)) p6 p6 [.da (.int i)] 0) _)=_
    rw[p8 (lo:=1) (i:=i) (n:=8) rfl rfl rfl rfl]
    show FR.ok (.bool (decide (1<=i) && decide (i<=8))) false=.ok (.bool (decide (1<=i/\i<=8))) false
    rw[Bool.decide_and]
   |_=>rfl
 ·exact absurd rfl h
def pairF:List D->FR
 | [d,.int n]=>(match lP d with
  |some p=>.ok (.bool (decide ((0<=p.1/\p.1 < n)/\(0<=p.2/\p.2 < n)))) false
  |none=>.bad)
 |_=>.bad
def vO (p:Pr)(n:Int):pairF [bI p,.int n]=.ok (.bool (decide ((0<=p.1/\p.1 < n)/\(0<=p.2/\p.2 < n)))) false:=rfl
def Ba (ds:List D)(h:pairF ds≠.bad):bo 2 2 (nJ dD) ds=pairF ds:=by
 unfold pairF at h
 split at h
 ·rename_i d n
  cases q:lP d with
  |none=>rw[q] at h;exact absurd rfl h
  |some p=>
   obtain rfl:=pD q
   rw[vO]
   obtain⟨a,b⟩:=p
   show fin (toS (gc (aE dD (aa (f2 (gv 0) (cst (.int 0)) eY) (aa (gv 1) aw))) (aE dD (aa (f2 (gv 0) (cst (.int 1)) eY) (aa (gv 1) aw))) [.da (.tuple [.int a,.int b]),.da (.int n)] 0) λd β'=>.rt d false β')=_
   have e1:aE dD (aa (f2 (gv 0) (cst (.int 0)) eY) (aa (gv 1) aw)) [.da (.tuple [.int a,.int b]),.da (.int n)] 0=.ok (.bool (decide (0<=a/\a < n))) 0:=rfl
   have e2:aE dD (aa (f2 (gv 0) (cst (.int 1)) eY) (aa (gv 1) aw)) [.da (.tuple [.int a,.int b]),.da (.int n)] 0=.ok (.bool (decide (0<=b/\b < n))) 0:=rfl
   unfold gc
   rw[e1]
   dsimp only[R.bnd]
   by_cases c:0<=a/\a < n
   ·rw[Gj c,e2]
    show FR.ok (.bool (decide (0<=b/\b < n))) false=.ok (.bool (decide ((0<=a/\a < n)/\(0<=b/\b < n)))) false
    simp[c]
   ·rw[Gn c]
    show FR.ok (.bool false) false=.ok (.bool (decide ((0<=a/\a < n)/\(0<=b/\b < n)))) false
    simp[c]
 ·exact absurd rfl h
def cM (n:Nat)(l:List Pr):D:=.tuple [.int n,.tuple (l.map bI)]
noncomputable def dS:List D->FR
 | [.int n,d]=>(match nY d with
  |some ds=>(match dB ds with
   |some ps=>(open Classical in if 1<=n/\n<=8/\OM.Wn n.toNat ps then .ok (.tuple ((OM.b6 n.toNat (OM.Tr (OM.Mem ps))).map bI)) false else .bad)
   |none=>.bad)
  |none=>.bad)
 |_=>.bad
def jw:List D->FR
 | [.tuple ds]=>(match dB ds with
  |some ps=>if ps.length<=1000 then .ok (.bool (ps.any λp=>decide (p.1=p.2))) false else .bad
  |none=>.bad)
 |_=>.bad
theorem gz {α:Type}(f:α->Bool):∀l:List α,iz (l.map λx=>PyData.bool (f x))=some (l.map f)
 | []=>rfl
 |x :: l=>by
  show (iz (l.map λx=>PyData.bool (f x))).map (f x :: ·)=_
  rw[gz f l];rfl
def Ad (ds:List D)(h:jw ds≠.bad):bo 1 1 mB ds=jw ds:=by
 unfold jw at h
 split at h
 ·rename_i ds
  cases q:dB ds with
  |none=>rw[q] at h;exact absurd rfl h
  |some ps=>
   rw[q] at h
   dsimp only at h
   by_cases hz:ps.length<=1000
   case neg=>rw[Gd hz] at h;exact absurd rfl h
   obtain rfl:=gC q
   have e:jw [.tuple (ps.map bI)]=.ok (.bool (ps.any λp=>decide (p.1=p.2))) false:=by
    unfold jw;simp only[dE];rw[FZ hz]
   rw[e]
   have ec:bu 2 [] (.two 0 1) (eI (gv 0)) pk (f2 (gv 0) (gv 1) (fG false)) [.da (.tuple (ps.map bI))] 0=.ok (.list (ps.map λp=>PyData.bool (decide (p.1=p.2)))) 0:=by
    exact gR (l:=ps) (e:=bI) (λp=>PyData.bool (decide (p.1=p.2))) rfl hz λp hp=>⟨_,rfl,rfl⟩
   show fin (toS ((bu 2 [] (.two 0 1) (eI (gv 0)) pk (f2 (gv 0) (gv 1) (fG false)) [.da (.tuple (ps.map bI))] 0).bnd λx β1=>R.of (dF (λbs=>bs.any id) x) β1) λd β'=>.rt d false β')=_
   rw[ec]
   simp only[lV,dF]
   rw[gz]
   simp[fin,List.any_map]
 ·exact absurd rfl h
theorem sP:∀l:List Pr,PyData.canLayAll0 (l.map bI)=true
 | []=>rfl
 |p :: l=>by
  show ((bI p).canLay0 && PyData.canLayAll0 (l.map bI))=true
  rw[sP l];rfl
theorem tH:∀l:List Pr,PyData.depthAll (l.map bI)<=1
 | []=>by show (0:Nat)<=1;omega
 |p :: l=>by
  show max (bI p).depth (PyData.depthAll (l.map bI))<=1
  have h1:(bI p).depth=1:=by simp[bI,PyData.depth,PyData.depthAll]
  have h2:=tH l
  omega
def Aj (p q:Pr):PyData.eqv (bI p) (bI q)=decide (p=q):=by
 obtain⟨a,b⟩:=p
 obtain⟨c,d⟩:=q
 simp only[bI,PyData.eqv,PyData.eqvAll,Bool.and_true]
 rw[Bool.eq_iff_iff]
 simp
theorem ub:∀l m:List Pr,PyData.eqvAll (l.map bI) (m.map bI)=decide (l=m)
 | [],[]=>rfl
 | [],_ :: _=>rfl
 |_ :: _,[]=>rfl
 |p :: l,q :: m=>by
  show (PyData.eqv (bI p) (bI q) && PyData.eqvAll (l.map bI) (m.map bI))=_
  rw[Aj,ub l m,Bool.eq_iff_iff]
  simp
def oz {n:Nat}{l:List Pr}(O:OM.Ord n l):l.length < 64:=by
 have h8:=O.hi
 have e:=O.closed
 by_cases h:l.length < 64
 ·exact h
 ·exfalso
  have h1:l.length<=n * n:=by rw[<-e];exact OM.vT _ _
  have h2:n * n<=64:=HF h8 h8
  have hn:n=8:=by
   by_cases h7:n<=7
   ·have:n * n<=7 * 7:=HF h7 h7
    omega
   ·omega
  have hlen:l.length=n * n:=by subst hn;omega
  have hg:l=OM.e9 n:=by
   refine OM.sub_eq O.ris (OM.lR n) (λx hx=>OM.dY.mpr (O.wn x hx)) ?_
   rw[hlen];unfold OM.e9;simp
  have:((0:Int),(0:Int))∈l:=by rw[hg];exact OM.dY.mpr ⟨⟨by omega,by omega⟩,by omega,by omega⟩
  exact O.irr 0 this
def qH {n:Nat}(h1:1<=n)(h8:n<=8):il [.int n]=.ok (.bool true) false:=by
 rw[w8 rfl]
 show FR.ok (.bool (decide (1<=(n:Int)/\(n:Int)<=8))) false=_
 rw[Gj (by omega)]
def zu {n:Nat}{l:List Pr}(O:OM.Ord n l):jw [.tuple (l.map bI)]=.ok (.bool false) false:=by
 have hl:=oz O
 unfold jw
 simp only[dE]
 rw[FZ (by omega)]
 have:(l.any λp=>decide (p.1=p.2))=false:=by
  rw[List.any_eq_false]
  intro p hp
  simp only[G9]
  intro e
  obtain⟨a,b⟩:=p
  simp only at e
  subst e
  exact O.irr a hp
 rw[this]
abbrev cw (ns:List Int):D:=.dict [(.none,.list (ns.map int))]
def oQ {i j:Int}(h: -(2 ^ 64) < i/\i < 2 ^ 64):cj (.int i) (.int j)=some (.int (i * j)):=FZ (by dsimp only;rw[Gj h.1,Gj h.2];rfl)
def xb {i j:Int}(h: -(2 ^ 64) < j/\j < 2 ^ 64):cj (.int i) (.int j)=some (.int (i * j)):=FZ (by dsimp only;rw[Gj h.1,Gj h.2,Bool.and_self,Bool.or_true])
def lB {i j:Int}(h:0 < j):gx (.int i) (.int j)=some (.int (i % j)):=FZ (Gj h)
def Df {i j:Int}(h:0 < j)(h2:j < 1073741824):Ac (.int i) (.int j)=some (.int (i / j)):=FZ (by dsimp only;rw[Gj h,Gj h2];rfl)
theorem yu {α β:Type}(f:α->β)(l:List α)(i:Int):kX (l.map f) i=(kX l i).map f:=by
 unfold kX
 rw[Gv]
 cases vB l.length i with
 |none=>rfl
 |some j=>simp
def BX {α:Type}{l:List α}{k:Nat}(h:k < l.length):kX l (k:Int)=some l[k]:=ox (FU h)
def Bz {fa fb:VF D}{vs:List Nv}{β β1 β2:Int}{i j:Int}(h:fa vs β=.ok (.int i) β1)(h':fb vs β1=.ok (.int j) β2):eV (f2 fa fb xT) vs β=.ok (decide (i < j)) β2:=oW _ _ _ _ (bA h h' rfl)
def jG {neg:Bool}{fa fb:VF D}{vs:List Nv}{β β1 β2:Int}{i j:Int}(h:fa vs β=.ok (.int i) β1)(h':fb vs β1=.ok (.int j) β2):eV (f2 fa fb (fG neg)) vs β=.ok (if neg then !decide (i=j) else decide (i=j)) β2:=by
 refine oW _ _ _ _ (bA h h' ?_)
 cases neg <;> rfl
theorem gS {α:Type}:∀{l:List α} {k:Nat} {x:α},l[k]? =some x->(x :: l.eraseIdx k).Perm l
 | [],_,_,h=>by simp at h
 |y :: l,0,x,h=>by simp at h;subst h;exact List.Perm.refl _
 |y :: l,k + 1,x,h=>by
  have h:l[k]? =some x:=by simpa using h
  have ih:=gS h
  show (x :: y :: l.eraseIdx k).Perm (y :: l)
  exact (List.Perm.swap y x _).trans (ih.cons y)
def zZ {n:Nat}{l:List Pr}(h8:n<=8)(w:OM.Wn n l):OM.b6 8 (OM.Mem l)=OM.b6 n (OM.Mem l):=by
 refine OM.fS (OM.cA _ _) (OM.cA _ _) λx=>?_
 rw[OM.aR,OM.aR]
 constructor
 ·rintro⟨_,h⟩;exact⟨w x h,h⟩
 ·rintro⟨h1,h⟩;exact⟨⟨⟨h1.1.1,by omega⟩,h1.2.1,by omega⟩,h⟩
def sL {n:Nat}{l:List Pr}(h1:1<=n)(h8:n<=8)(w:OM.Wn n l)(nd:l.Nodup)(irr:∀a,(a,a)∉l):l.length < 64:=by
 have:=OM.oI (l:=(0,0) :: l) (m:=OM.e9 n) (GQ.mpr ⟨irr 0,nd⟩) (λx hx=>by
  rcases FY.mp hx with e |e
  ·subst e;exact OM.dY.mpr ⟨⟨by simp,by simp;omega⟩,by simp,by simp;omega⟩
  ·exact OM.dY.mpr (w x e))
 have hg:(OM.e9 n).length=n * n:=by unfold OM.e9;simp
 have hn:n * n<=64:=HF h8 h8
 rw[hg,Gr] at this
 omega
def xy {n:Nat}{l:List Pr}(h8:n<=8)(w:OM.Wn n l):l.all BZ=true:=by
 rw[Hk]
 intro p hp
 have:=w p hp
 unfold BZ
 rw[Gj this.1.1,Gj (by omega:p.1 < 8),Gj this.2.1,Gj (by omega:p.2 < 8)];rfl
def kF {n:Nat}{l:List Pr}{d:D}(h8:n<=8)(w:OM.Wn n l)(hl:(OM.b6 n (OM.Mem l)).length < 64)(hd:nY d=some (l.map bI)):fA d=some (.list ((OM.b6 n (OM.Mem l)).map bI)):=by
 unfold fA
 rw[hd]
 simp only[dE]
 rw[zZ h8 w,FZ ⟨xy h8 w,hl⟩]
def wq (l:List Pr)(p:Pr):List Pr:=(l.filter λq=>decide (q.1=p.2)).map λq=>(p.1,q.2)
def t9 (l:List Pr)(p:Pr):(wq l p).length<=l.length:=by unfold wq;rw[Gv];exact Im ..
theorem qK (l m:List Pr):(m.flatMap (wq l)).length<=m.length * l.length:=by
 induction m with
 |nil=>simp
 |cons p m ih=>
  rw[List.flatMap_cons,GO,Gr,Nat.succ_mul]
  have:=t9 l p
  omega
def sR {a b:List D}(h:a.length + b.length<=10000):oJ (.list a) (.list b)=some (.list (a ++ b)):=FZ (by rw[Gz];omega)
def xG (n:Nat):List Int:=(List.range n).map λ(k:Nat)=>(k:Int)
def yZ (n:Nat):(xG n).length=n:=by unfold xG;simp
def yP {n:Nat}{x:Int}:x∈xG n↔0<=x/\x < n:=by
 unfold xG
 rw[Gh]
 constructor
 ·rintro⟨k,hk,rfl⟩
  have:=Gm.mp hk
  omega
 ·intro h
  exact⟨x.toNat,Gm.mpr (by omega),by omega⟩
theorem lu {lo:Int}{n i:Nat}{d:D}(h:(fD lo n)[i]? =some d):i < n/\d=.int (lo + i):=by
 unfold fD at h
 rw[Gf] at h
 cases q:(List.range n)[i]? with
 |none=>rw[q] at h;cases h
 |some j=>
  rw[q] at h
  cases h
  obtain⟨hi,ej⟩:=Gs.mp q
  rw[Hh] at hi
  rw[List.getElem_range] at ej
  subst ej
  exact⟨hi,rfl⟩
def jP {fa:VF D}{vs:List Nv}{β β1:Int}{n:Nat}(h:fa vs β=.ok (.int n) β1)(hn:n<=1000):eT fa vs β=.ok (fD 0 n) β1:=by
 unfold eT
 rw[h]
 simp only[lV]
 rw[FZ (ve (by omega) (by omega)),GX]
def vR {t:Tg}{L:List Nat}{fi:VF (List D)}{m:SF}{env:En}{β β1:Int}{ds:List D}(h:fi (vl env) β=.ok ds β1):dv t L fi m env β=nV t m ds (aX L env) β1:=by unfold dv;rw[h];rfl
def vN {m:Nat}(h:1<=m)(h2:m<=1000)(β:Int):∃j:Nat,j < m/\jZ [.int m] β=.ok (.int (j:Int)) false (β / m):=by
 refine⟨(β % m).toNat,?_,?_⟩
 ·have h0:=Ic β (b:=(m:Int)) (by omega)
  have h3:=Ia β (b:=(m:Int)) (by omega)
  omega
 ·rw[tx (by omega) (by omega)]
  have h0:=Ic β (b:=(m:Int)) (by omega)
  rw[show ((β % m).toNat:Int)=β % m by omega]
theorem tZ {fa fb:VF D}{vs:List Nv}{β:Int}{a b:Bool}(h:fa vs β=.ok (.bool a) β)(h':fb vs β=.ok (.bool b) β):gc fa fb vs β=.ok (.bool (a && b)) β:=by
 unfold gc
 rw[h]
 dsimp only[R.bnd]
 cases a with
 |true=>exact h'
 |false=>rfl
def sg:List D->FR:=bo 1 1 jO
def iN (n:Nat):(OM.e9 n).length=n * n:=by unfold OM.e9;simp
def fP {fa:VF D}{vs:List Nv}{β:Int}{c:Bool}(h:fa vs β=.ok (.bool c) β):nk fa vs β=.ok c β:=by rw[BC,h];rfl
theorem wX {c:Nat}:∀(ts:List Str) (k:Nat) (acc:Str),(∀t∈ts,t.length + 2<=c)->(textFrom k acc ts).length<=acc.length + c * ts.length
 | [],k,acc,_=>by show acc.length<=_;omega
 |t :: r,k,acc,h=>by
  have ih:=wX r (k + 1) (acc ++ (if k > 0 then ", " else "":String) ++ t) λu hu=>h u (F0 _ hu)
  have e:(acc ++ (if k > 0 then ", " else "":String) ++ t).length=acc.length + (if k > 0 then 2 else 0) + t.length:=by
   rw[HY,HY]
   split <;> rfl
  rw[e] at ih
  have ht:=h t (Gg ..)
  show (textFrom (k + 1) _ r).length<=_
  have e2:c * (t :: r).length=c * r.length + c:=by rw[Gr,Nat.mul_succ]
  rw[e2]
  have:(if k > 0 then 2 else 0:Nat)<=2:=by split <;> omega
  omega
end RM
namespace L2
open PySem PySem.Spec PyProof.Rows
section
variable {X:Cx}{pins:List (Addr×Obj)}{σ:St}{H:Hp}{s:Shared}
def Inv.turnedL {t':Nat}{ch:List Addr}{h':Heap}(I:Inv X pins σ H s)(k:∀b o,b∉ch->s.heap.get? b=some o->h'.get? b=some o)(hf:∀b∈ch,kA X pins H b):Inv X pins σ H {s with heap:=h',toks:=t'}:=by
 have nit:∀b u,H b=some u->b∉ch:=λb u e z=>by rw[(hf b z).1] at e;cases e
 have nL:X.env.locals∉ch:=λz=>(hf _ z).2.1 rfl
 refine I.step (g':=s.gens) (d':=s.drawn) (ch:=ch) (λb hb=>?_) (λb o _ _ hc e _=>k b o hc e) (λb o _ _ hc e _=>⟨o.slots,k b o hc e⟩) (λ_ _ _ _ n=>n)
  (λb o hc e=>⟨o,k b o hc e⟩) (λ_ _ e=>e) (λ_ _ _ e=>e) (λb ps e=>⟨#[],by rw[e];simp⟩) (λm hm=>?_) (λb u e=>?_) I.bare
 ·obtain⟨f0,f1,f2,f3,f4,f5⟩:=hf b hb
  exact⟨f3,f1,f4,f5⟩
 ·obtain⟨o,es,ep,ho,r⟩:=hm
  exact⟨o,es,ep,k _ o nL ho,r⟩
 ·refine (I.hok b u e).stay (λc v hc q=>k c v ?_ q) (λ_ q=>q) λ_ _ q=>q
  rcases hc with z |z
  ·rw[z];exact nit b u e
  ·exact nit c _ z
end
abbrev xM (n:Nat):List Nat:=[n + 4,n + 2,n + 3,n,n + 1]
def mO {n:Nat}(i j:Nat)(h:(i == j)=false):(n + i:Nat)≠n + j:=by
 have:i≠j:=by simpa using h
 omega
def boot_zip:bootBuiltins "zip"=some (.type "zip"):=by decide +kernel
section
variable {X:Cx}{Γ:Fx}{E:XK}{e a b c:Expr}{f fa fb:VF D}{L La Lb:List Nat}{md ma mb:Md}{pos:Pos}
def xF (ds es:List D):List D:=List.zipWith (λd e=>.tuple [d,e]) ds es
end
end L2
namespace RM
open PySem L2
def fm:SF:=(aC (cg 2 (([] ++ []) ++ []) (f2 (f2 (cst (.int 7919)) (gv 1) cj) (cst (.int 13)) b4))
 (aC (gr ([] ++ []) (eV (f2 (gv 1) (f1 (gv 0) c7) xT))
 (cg 2 ([] ++ []) (f2 (gv 0) (gv 1) eY))
 iq)
 (aC (gr (([] ++ []) ++ []) (eV (f2 (f2 (gv 2) (cst (.int 2)) gx) (cst (.int 0)) (fG false)))
 (iu (fF (aa (f2 (gv 2) (cst (.int 2)) Ac) aw)))
 iq)
 (aC (cg 3 [] (cst (.int 0)))
 (aC (dv (.nm 4) [] (eT (cst (.int 16)))
 (aC (cg 5 ((((([] ++ []) ++ []) ++ ([] ++ [])) ++ []) ++ []) (f2 (f2 (f2 (f2 (f2 (gv 2) (cst (.int 2147483647)) gx) (cst (.int 48271)) cj) (f2 (cst (.int 7919)) (gv 4) cj) b4) (cst (.int 1)) b4) (cst (.int 2147483647)) gx))
 (aC (cg 5 (([] ++ []) ++ []) (f2 (f2 (gv 5) (gv 5) cj) (cst (.int 2147483629)) gx))
 (cg 3 (([] ++ []) ++ (([] ++ ([] ++ [])) ++ [])) (f2 (f2 (gv 3) (cst (.int 2147483647)) cj) (f2 (f2 (gv 5) (f2 (gv 5) (cst (.int 13)) b4) cj) (cst (.int 2147483647)) gx) b4)))))
 (iu (fF (aa (gv 3) aw))))))))
end RM
namespace L2
open PySem PySem.Spec PyProof.Rows
section
variable {κ:Type}[DecidableEq κ]
def yF (kvs:List (κ×V))(k:κ):Option V:=(kvs.find? λkv=>decide (kv.1=k)).map (·.2)
def putK (kvs:List (κ×V))(k:κ)(v:V):List (κ×V):=
 if (kvs.any λkv=>decide (kv.1=k))=true then kvs.map (λkv=>if kv.1=k then (kv.1,v) else kv) else kvs ++ [(k,v)]
def z9 (kvs:List (κ×V))(k:κ):List (κ×V):=kvs.filter λkv=>decide (kv.1≠k)
def qE (kvs:List (κ×V))(k:κ)(v:V):(putK kvs k v).length<=kvs.length + 1:=by
 unfold putK
 split
 ·rw[Gv];omega
 ·rw[GO,Gr,length_nil];omega
theorem KV.any {kvs:List (κ×V)}{vs:List (κ×Value)}(r:KV kvs vs)(k:κ):(kvs.any λkv=>decide (kv.1=k))=vs.any λkv=>decide (kv.1=k):=by
 unfold KV at r
 induction r with
 |nil=>rfl
 |cons h t ih=>rw[any_cons,any_cons,ih,h.1]
theorem KV.repl {kvs:List (κ×V)}{vs:List (κ×Value)}(r:KV kvs vs)(k:κ){y:V}{u:Value}(ry:RelV y u) :
  KV (kvs.map λkv=>if kv.1=k then (kv.1,y) else kv) (vs.map λkv=>if kv.1=k then (kv.1,u) else kv):=by
 unfold KV at r ⊢
 induction r with
 |nil=>exact .nil
 | @cons p q ps qs h t ih=>
  rw[He,He]
  refine .cons ?_ ih
  obtain⟨h1,h2⟩:=h
  by_cases e:p.1=k
  ·rw[FZ e,FZ (h1.symm.trans e)];exact⟨h1,ry⟩
  ·rw[Gd e,Gd (λz=>e (h1.trans z))];exact⟨h1,h2⟩
def KV.put {kvs:List (κ×V)}{vs:List (κ×Value)}(r:KV kvs vs)(k:κ){y:V}{u:Value}(ry:RelV y u):KV (putK kvs k y) (stored vs k u):=by
 unfold putK stored
 rw[r.any k]
 by_cases e:(vs.any λkv=>decide (kv.1=k))=true
 ·rw[FZ e,FZ e];exact r.repl k ry
 ·rw[Gd e,Gd e];exact Paired.snoc r ⟨rfl,ry⟩
theorem KV.drop {kvs:List (κ×V)}{vs:List (κ×Value)}(r:KV kvs vs)(k:κ):KV (z9 kvs k) (without vs k):=by
 unfold KV at r ⊢
 unfold z9 without
 induction r with
 |nil=>exact .nil
 | @cons p q ps qs h t ih=>
  obtain⟨h1,h2⟩:=h
  rw[List.filter_cons,List.filter_cons]
  by_cases e:p.1=k
  ·have a:¬decide (p.1≠k)=true:=by simp[e]
   have b:¬decide (q.1≠k)=true:=by simp[h1.symm.trans e]
   rw[Gd a,Gd b];exact ih
  ·have e':¬q.1=k:=λz=>e (h1.trans z)
   have a:decide (p.1≠k)=true:=by simp[e]
   have b:decide (q.1≠k)=true:=by simp[e']
   rw[FZ a,FZ b];exact .cons ⟨h1,h2⟩ ih
end
theorem CN {P:Program}{w:World}{k:Key}{u:Value}(r:RelV (kV k) u):(dj P w).is k u=true:=by
 cases k with
 |inl i=>obtain⟨t,e⟩:=(show ∃t,u=Value.int i t from r);subst e;exact qi P w i t
 |inr x=>obtain⟨t,e⟩:=(show ∃t,u=Value.str x t from r);subst e;exact qQ P w x t
section
variable {P:Program}{w:World}{H:Hp}{h:Heap}{a:Addr}
def Dy {u:HO}(ok:iY P w H h)(e:Rd H a u):bW P w H h a u:=e.ok ok
def Ct {kvs:List (Key×V)}(ok:iY P w H h)(e:Rd H a (.dK kvs)):kvs.length<=sizeLine/\(a == sysModules)=false/\∃vs,KV kvs vs/\h.DictOf (dj P w) a vs:=
 show bW P w H h a (.dK kvs) from Dy ok e
def Cc {kvs:List (Key×V)}(ok:iY P w H h)(e:H a=some (.dK kvs)):kvs.length<=sizeLine/\(a == sysModules)=false/\∃vs,KV kvs vs/\h.DictOf (dj P w) a vs:=Ct ok (.inl e)
end
def yy (H:Hp)(a:Addr)(y:V)(r:Option V):Prop:=
 (∃kvs k,Rd H a (.dK kvs)/\y=kV k/\r=yF kvs k)\/∃kvs k b,Rd H a (.dT kvs)/\y=.ref b/\Rd H b (.tup (k.map kV))/\r=yF kvs k
def yG (H:Hp)(a:Addr)(y v:V)(H':Hp):Prop:=
 (∃kvs k,H a=some (.dK kvs)/\y=kV k/\kvs.length < sizeLine/\H'=upd H a (.dK (putK kvs k v)))\/
 ∃kvs k b,H a=some (.dT kvs)/\y=.ref b/\Rd H b (.tup (k.map kV))/\kvs.length < sizeLine/\H'=upd H a (.dT (putK kvs k v))
def yy.k {H:Hp}{a:Addr}{kvs:List (Key×V)}{k:Key}(e:H a=some (.dK kvs)):yy H a (kV k) (yF kvs k):=.inl ⟨kvs,k,.inl e,rfl,rfl⟩
def yy.t {H:Hp}{a b:Addr}{kvs:List (List Key×V)}{k:List Key}(e:H a=some (.dT kvs))(eb:Rd H b (.tup (k.map kV))):yy H a (.ref b) (yF kvs k):=.inr ⟨kvs,k,b,.inl e,rfl,eb,rfl⟩
def yG.k {H:Hp}{a:Addr}{kvs:List (Key×V)}{k:Key}{v:V}(e:H a=some (.dK kvs))(hl:kvs.length < sizeLine):yG H a (kV k) v (upd H a (.dK (putK kvs k v))):=.inl ⟨kvs,k,e,rfl,hl,rfl⟩
def yG.t {H:Hp}{a b:Addr}{kvs:List (List Key×V)}{k:List Key}{v:V}(e:H a=some (.dT kvs))(eb:Rd H b (.tup (k.map kV)))(hl:kvs.length < sizeLine) :
  yG H a (.ref b) v (upd H a (.dT (putK kvs k v))):=.inr ⟨kvs,k,b,e,rfl,eb,hl,rfl⟩
section
variable {X:Cx}{pins:List (Addr×Obj)}{σ:St}{H:Hp}{s:Shared}{a:Addr}{y v:V}{u r:Value}{o:Option V}{A:Around}{E:Value->Shared->Prop}
def Inv.big (I:Inv X pins σ H s):sysModules < s.heap.objs.size:=by
 have h:mainGlobals < s.heap.objs.size:=(I.mod.glob.keeps I.bk).lt
 exact Nat.lt_trans (by decide) h
def yk {h':Heap}{t':Nat}{ob:HO}(I:Inv X pins σ H s)(mu:C3 (H a))(hs:Heap.SameBut a s.heap h')(he:∃q,h'.get? a=some q)(new:bW X.prog X.w (upd H a ob) h' a ob) :
  Inv X pins σ (upd H a ob) {s with heap:=h',toks:=t'}:=
 I.write (x:=a) (e:=a) mu (.inl rfl) (λb q hb z=>(hs.2 b hb).trans z) he new
def A7 {P:Program}{w:World}{H':Hp}{h':Heap}{kvs:List (Key×V)}{vs:List (Key×Value)}(z:kvs.length<=sizeLine)(hd:(a == sysModules)=false)(rel:KV kvs vs)(dd:h'.DictOf (dj P w) a vs) :
  bW P w H' h' a (.dK kvs):=⟨z,hd,vs,rel,dd⟩
end
def vG {P:Program}{w:World}{H:Hp}(h:Heap)(hb:sysModules < h.objs.size):bW P w H (h.push {cls:=.type "dict",data:=.dict #[]}) h.objs.size (.dK []):=
 ⟨GL _,beq_eq_false_iff_ne.mpr (Ne.symm (Gx hb)),[],.nil,Heap.DictOf.new h⟩
def so:List (TE×TE)->St->Hp->(List (V×V)->Hp->Prop)->Prop
 | [],_,H,Q=>Q [] H
 | (tk,tv) :: r,σ,H,Q=>tk σ H λx H1=>tv σ H1 λy H2=>so r σ H2 λps H3=>Q ((x,y) :: ps) H3
abbrev VV:List (V×V)->List (Value×Value)->Prop:=Paired λp q=>RelV p.1 q.1/\RelV p.2 q.2
def D3 (X:Cx)(pos:Pos)(keys:List (Option Expr))(values:List Expr)(trs:List (TE×TE)):Prop:=
 ∀(pins:List (Addr×Obj)) (s:Shared) (σ:St) (H:Hp) (Q:List (V×V)->Hp->Prop),Inv X pins σ H s->so trs σ H Q->
  wpAny (model X.prog X.w) X.A (evalPairs (pairTrees keys values X.env pos)) (λvs s'=>∃ps H',Inv X pins σ H' s'/\VV ps vs/\Q ps H') X.xe s
def zt {X:Cx}{pos:Pos}:D3 X pos [] [] []:=λpins s σ H Q I h=>pairTrees_nil_walk ⟨[],H,I,.nil,h⟩
def wz {X:Cx}{pos:Pos}{k v:Expr}{ks:List (Option Expr)}{vs:List Expr}{tk tv:TE}{trs:List (TE×TE)}(hk:PE X k tk)(hv:PE X v tv)(hr:D3 X pos ks vs trs) :
  D3 X pos (some k :: ks) (v :: vs) ((tk,tv) :: trs):=λpins s σ H Q I h=>
 pairTrees_cons_walk (b7 (hk pins s σ H _ I h) λu s1 ⟨x,H1,I1,rx,q1⟩=>b7 (hv pins s1 σ H1 _ I1 q1) λw2 s2 ⟨y,H2,I2,ry,q2⟩=>
  b7 (hr pins s2 σ H2 _ I2 q2) λws s3 ⟨ps,H3,I3,rel,q3⟩=>⟨(x,y) :: ps,H3,I3,.cons ⟨rx,ry⟩ rel,q3⟩)
def mF (kvs more:List (Key×V)):List (Key×V):=more.foldl (λacc kv=>putK acc kv.1 kv.2) kvs
theorem KV.merge:∀{more:List (Key×V)} {rs:List (Key×Value)} {kvs:List (Key×V)} {vs:List (Key×Value)},KV more rs->KV kvs vs->KV (mF kvs more) (merged vs rs):=by
 intro more rs kvs vs r
 unfold KV at r
 induction r generalizing kvs vs with
 |nil=>intro q;exact q
 | @cons p q ps qs h t ih=>
  intro r0
  have e:KV (putK kvs p.1 p.2) (stored vs q.1 q.2):=by
   have:=r0.put p.1 h.2
   rw[<-h.1];exact this
  exact ih e
theorem jf:∀(more kvs:List (Key×V)),(mF kvs more).length<=kvs.length + more.length
 | [],kvs=>by show kvs.length<=kvs.length + 0;omega
 |p :: r,kvs=>by
  have h1:=jf r (putK kvs p.1 p.2)
  have h2:=qE kvs p.1 p.2
  show (mF (putK kvs p.1 p.2) r).length<=_
  rw[Gr];omega
theorem mC {P:Program}{w:World}:∀{kvs:List (Key×V)} {ws:List (Value×Value)},VV (kvs.map λkv=>(kV kv.1,kv.2)) ws->∃rs,Carries (dj P w) ws rs/\KV kvs rs
 | [],_,r=>by rw[List.map_nil] at r;cases r;exact⟨[],True.intro,.nil⟩
 |p :: kvs,_,r=>by
  rw[He] at r
  cases r with
  | @cons a b as bs h t=>
   obtain⟨rs,c,q⟩:=mC (P:=P) (w:=w) t
   obtain⟨b1,b2⟩:=b
   exact⟨(p.1,b2) :: rs,⟨CN h.1,rfl,c⟩,.cons ⟨rfl,h.2⟩ q⟩
def Dc (trs:List (TE×TE)):TE:=λσ H Q=>∀p,H p=none->so trs σ (upd H p (.dK [])) λps H2=>H2 p=some (.dK [])/\∃kvs:List (Key×V),ps=kvs.map (λkv=>(kV kv.1,kv.2))/\kvs.length<=15/\Q (.ref p) (upd H2 p (.dK (mF [] kvs)))
def yD {X:Cx}{pos:Pos}{keys:List (Option Expr)}{values:List Expr}{trs:List (TE×TE)}(h:D3 X pos keys values trs)(hall:keys.all (·.isSome)=true)(hl:keys.length=values.length)(h0:keys≠ [])
  (h15:keys.length<=15):PE X (.Dict keys values pos) (Dc trs):=by
 intro pins s σ H Q I q
 have hn:=I.hok.fresh (FX s.heap.objs.size)
 have I1:=I.laid (a:=s.heap.objs.size) (o:=.dK []) (h':=s.heap.push {cls:=.type "dict",data:=.dict #[]}) (t':=s.toks) (λ_ _ q=>FT _ q) (FX _) (vG s.heap I.big)
 refine wpAny_Dict_walk (knd:=dj X.prog X.w) hall hl h0 h15 (b7 (h pins _ σ _ _ I1 (q _ hn)) λws s2 ⟨ps,H2,I2,rel,e,kvs,ep,lk,q2⟩=>?_)
 subst ep
 obtain⟨rs,c,rk⟩:=mC (P:=X.prog) (w:=X.w) rel
 obtain⟨z,hd,vs0,r0,dd⟩:=Cc I2.hok e
 cases r0
 refine⟨rs,c,dd,λh' dd' hs=>⟨.ref s.heap.objs.size,_,?_,rfl,q2⟩⟩
 have hz:(mF [] kvs).length<=sizeLine:=by
  have h1:=jf kvs []
  rw[length_nil] at h1
  rw[Gz];omega
 have he:∃q,h'.get? s.heap.objs.size=some q:=let ⟨q,_,_,hq,_⟩:=dd';⟨q,hq⟩
 exact yk I2 (by rw[e];exact True.intro) hs he (A7 hz hd (rk.merge .nil) dd')
section
variable {X:Cx}{Γ:Fx}{E:XK}{pos:Pos}
def yr {k:Str}{i:Int}{j j'}{p p':Pos}:SE X Γ E (.Dict [some (.Constant (.str k) j p)] [.Constant (.int i) j' p'] pos) (cst (.dict [(.str k,.int i)])) [] .v:=by
 refine PE.post' (yD (wz wK nW zt) rfl rfl (by simp) (by simp)) ?_
 rintro σ H Q ⟨env,G,B,β,I,o⟩ p hp
 have o:∀v G' H',SR Γ B G' H' σ (aX [] env) β->ah G G'->fE B H H'->Rp Γ.K G' v (.dict [(.str k,.int i)])->Q v H':=o
 refine⟨av,[(.inr k,.int i)],rfl,by simp,?_⟩
 rw[zq]
 have xn:=Ext.new I.sub (o:=.dK [((.inr k:Key),V.int i)]) hp
 exact o _ _ _ (I.ext xn) xn.gg (xn.hh.mov B) (.dK (kvs:=[((.inr k:Key),V.int i)]) av (.cons (.int i) .nil))
end
mutual
def BJ:D->Bool
 | .list ds=>xq ds
 | .tuple ds=>xq ds
 | .dict kvs=> !kvs.isEmpty && kvs.all λkv=>match kv.1,kv.2 with
  | .str _,.int _=>true
  |_,_=>false
 |_=>true
def xq:List D->Bool
 | []=>true
 |d :: ds=>BJ d && xq ds
end
section
variable {prog:Program}{w:World}{A:Around}{E:Value->Shared->Prop}{s:Shared}{it t:Addr}{i:Nat}{xs:Array Value}{Q:Value->Shared->Prop}
theorem CM (hi:s.heap.IsTupleIter it t i)(ht:s.heap.IsTuple t xs)
  (k1:∀x,xs[i]? =some x->∀h',h'.IsTupleIter it t (i + 1)->Heap.SameBut it s.heap h'->Q x {s with heap:=h'})
  (k2:xs[i]? =none->A.handled=none/\∀h' e,Heap.ExtBut it s.heap h'->(∃o,h'.get? e=some o/\o.cls=.type "StopIteration")->E (.ref e) {s with heap:=h'}) :
  wpAny (model prog w) A (Builtin.SmallTypes.nextOf (.ref it)) Q E s:=by
 obtain⟨o,ho,hc,hd⟩:=id hi
 obtain⟨ol,hol, -,nl,hdl⟩:=ht
 refine FQ (HA (name:=Str.ofString "__next__") hi.typeIs F.slot_tuple_iterator_next (Hr F.slot_tuple_iterator_next hi.typeIs F.entry_tuple_iterator_next ?_ (F.args_tuple_iterator_next_1 _)))
 refine (show wpAny _ _ (field (.ref it) 0 >>= _) _ _ s from FQ (Hf ho hd (x:=.ref t) rfl ?_))
 refine (show wpAny _ _ (if (Value.ref t == Value.none)=true then _ else _) _ _ s from ?_)
 rw[Gd (by exact GF)]
 refine (show wpAny _ _ (field (.ref it) 1 >>= _) _ _ s from FQ (Hf ho hd (x:=.int i 0) rfl ?_))
 refine (show wpAny _ _ (seqItems? (.ref t) >>= _) _ _ s from FQ (Ht hol hdl ?_))
 cases hx:xs[i]? with
 |some x=>
  simp only[GX,hx]
  refine FQ (HC ho hd (by simp) (FW ⟨x,rfl,FW (k1 x hx _ ?_ (Heap.SameBut.update ..))⟩))
  refine⟨_,GR _ ho (Obj.isFreed_of_fields (IG hd _)),(Obj.cls_mapFields ..).trans hc,?_⟩
  rw[IG hd]
  simp[rawInt]
 |none=>
  obtain⟨hh,hE⟩:=k2 hx
  simp only[GX,hx]
  refine FQ (wpAny_rule (FQ (HC ho hd (by simp) (show wpAny _ _ (newExc (.type "StopIteration") [] >>= _) _ _ _ from FQ ?_))))
  simp only[newExc,newTuple]
  refine FQ (Hz (FQ (m:=firstArgMember _ _) (wpAny_of_eq (a:=Value.none) (by first |rfl | (simp only[firstArgMember];rfl)) (Hz ?_ (by size_fits)))) (by size_fits))
  simp only[raiseNew]
  refine FQ (wpAny_handled ?_)
  have hh':A.in1.handled=none:=hh
  first |rw[hh'] |rw[hh]
  exact FQ (FW (wpAny_throw (hE _ _ (((Heap.SameBut.update ..).extBut.push _).push _) ⟨_,Gb _ rfl,rfl⟩)))
def BI (hh:A.handled=none)(hne:t≠it)(xs:Array Value):Draws prog w A it [it,t] xs.size (λi v=>xs[i]? =some v) (λi h=>h.IsTupleIter it t i/\h.IsTuple t xs) where
 live:=λ_ _ st=>let ⟨o,ho,_⟩:=st.1;⟨o,ho⟩
 frame:=λ_ _ _ st hk=>⟨st.1.at λo e=>hk it (by simp) o e,st.2.at λo e=>hk t (by simp) o e⟩
 item:=λi s Q E hi st k=>CM st.1 st.2 (λx hx h' q1 q2=>k x h' s.toks hx ⟨q1,st.2.extBut q2.extBut hne⟩ q2) λz=>by simp at z;omega
 done:=λs Q E st k=>CM st.1 st.2 (λx hx=>by simp at hx) λ_=>⟨hh,k⟩
end
abbrev x9 (t:Addr):Obj:={cls:=.type "tuple_iterator",data:=.fields #[.ref t,.int 0 0]}
abbrev Ei (it:Addr):Obj:={cls:=.type "enumerate",data:=.fields #[.none,.bool false,.ref it,rawInt 0,.none,.none]}
def xc (t:Addr)(xs:Array Value)(n:Nat)(dc:Option Addr)(sl:Array (Option Value)) :
  Meets (Builtin.«enumerate.__new__» ⟨[.type "enumerate",.ref t],[]⟩) (λ_ R s=>s.heap.get? t=some ⟨.type "tuple",dc,.seq xs n,sl⟩/\
   R (.ok (.ret (.ref (s.heap.push (x9 t)).objs.size))) {s with heap:=(s.heap.push (x9 t)).push (Ei s.heap.objs.size)}):=by
 refine .of_wp λprog w A R s h=>?_
 obtain⟨hp,g,d,tk,os⟩:=s
 obtain⟨hl,h⟩:=h
 have sb:=sub_enumerate
 have hT:Heap.IsTuple (Shared.heap ⟨hp,g,d,tk,os⟩) t xs:=⟨_,hl,rfl,n,rfl⟩
 wp_walk using II hl
 refine wpAny_stack_any λst=>FW ?_
 split
 ·rename_i c _ _ _ _ _
  cases (c == Value.type "enumerate") <;> (wp_walk using II hl,Hu hT;exact⟨_,rfl,h⟩)
 ·wp_walk using II hl,Hu hT
  exact⟨_,rfl,h⟩
section
variable {prog:Program}{w:World}{A:Around}{E:Value->Shared->Prop}{s:Shared}
def rE {t:Addr}{xs:Array Value}{Q:Value->Shared->Prop}(hT:s.heap.IsTuple t xs)
  (k:∀h',IsEnum h' (s.heap.objs.size + 1) s.heap.objs.size 0 .none->h'.IsTupleIter s.heap.objs.size t 0->(∀b o,s.heap.get? b=some o->h'.get? b=some o)->Q (.ref (s.heap.objs.size + 1)) {s with heap:=h'}) :
  wpAny (model prog w) A (call (.type "enumerate") [.ref t]) Q E s:=by
 obtain⟨⟨c,dc,dt,sl⟩,hl,hc,n,hd⟩:=hT
 have hc:c=.type "tuple":=hc
 have hd:dt=.seq xs n:=hd
 subst hc hd
 refine callType_new F.called_enumerate (by decide) (F.typeCall_enumerate_1 _) (F.newCall_enumerate_1 _) (λob=>F.args_object_init_2 ob _) F.entry_enumerate_new (xc t xs n dc sl) ⟨hl,?_⟩
 have hz:(s.heap.push (x9 t)).objs.size=s.heap.objs.size + 1:=Ha ..
 have g2:((s.heap.push (x9 t)).push (Ei s.heap.objs.size)).get? (s.heap.push (x9 t)).objs.size=some (Ei s.heap.objs.size):=Gb _ rfl
 have g1:((s.heap.push (x9 t)).push (Ei s.heap.objs.size)).get? s.heap.objs.size=some (x9 t):=FT _ (Gb _ rfl)
 rw[hz] at g2
 show _/\_
 rw[hz]
 exact⟨⟨_,g2,rfl⟩,k _ g2 ⟨_,g1,rfl,rfl⟩ λb o e=>FT _ (FT _ e)⟩
end
def Bv {prog:Program}{w:World}{A:Around}{it t:Addr}{xs:Array Value}(hh:A.handled=none)(i:Nat)(hx:xs[i]? =none):Draws prog w A it [it,t] i (λ_ _=>False) (λj h=>j=i/\h.IsTupleIter it t i/\h.IsTuple t xs) where
 live:=λ_ _ st=>let ⟨o,ho,_⟩:=st.2.1;⟨o,ho⟩
 frame:=λ_ _ _ st hk=>⟨st.1,st.2.1.at λo e=>hk it (by simp) o e,st.2.2.at λo e=>hk t (by simp) o e⟩
 item:=λj s Q E hi st k=>absurd st.1 (by omega)
 done:=λs Q E st k=>CM st.2.1 st.2.2 (λx h=>by rw[hx] at h;cases h) λ_=>⟨hh,k⟩
def Et (K:Frag)(a:Addr):It:=
 ⟨λi H=>∃xs x,cP K H a xs/\xs[i]? =some x,
  λi H v H'=>∃x t,H t=none/\(∀xs,cP K H a xs->xs[i]? =some x)/\v=.ref t/\H'=upd H t (.tup [.int i,x]),
  λi H=>∃xs,cP K H a xs/\xs.length<=i⟩
abbrev xO (n:Nat):List Nat:=[n + 1,n]
def gJ {h:Heap}{a n:Addr}{i:Nat}{its:Array Value}{b:Addr}(p:h.IsTuple a its)(q:h.IsTupleIter n b i):a≠n:=λz=>by
 subst z
 obtain⟨o,e,c,_⟩:=p
 obtain⟨o',e',c',_⟩:=q
 rw[e] at e';cases e'
 rw[c] at c'
 simp at c'
def ug {h:Heap}{a n it:Addr}{i:Int}{its:Array Value}{old:Value}(p:h.IsTuple a its)(q:IsEnum h n it i old):n≠a:=λz=>by
 subst z
 obtain⟨o,e,c,_⟩:=p
 rw[q] at e;cases e
 simp at c
def sd {P:Program}{w:World}{K:Frag}{elts:List Expr}{x1}{pos:Pos}(a:Addr)(n:Nat):Turn P w K (.Tuple elts x1 pos) (Et K a) (xO n) (n + 1)
  (λi h=>(∃old,IsEnum h (n + 1) n i old)/\h.IsTupleIter n a i) where
 mem:=by simp
 obj:=λi h st c hc=>by
  obtain⟨⟨old,z1⟩,⟨o2,z2,_,d2⟩⟩:=st
  simp only[xO,FY,GN,HE] at hc
  rcases hc with rfl |rfl
  ·exact⟨_,z1,λv z=>by
    have z':Data.fields _=Data.cell v:=z
    cases z'⟩
  ·exact⟨o2,z2,λv z=>by rw[d2] at z;cases z⟩
 keep:=λi h h' st k=>by
  obtain⟨⟨old,z1⟩,z2⟩:=st
  exact⟨⟨old,k _ (by simp) _ z1⟩,z2.at λo e=>k _ (by simp) o e⟩
 item:=by
  intro X hP hw hK hc i pins s σ H E I hf st hg
  subst hP hw hK
  obtain⟨xs,x,ha,hx⟩:=hg
  obtain⟨its,rv,p,hz⟩:=I.tuple ha
  have p:s.heap.IsTuple a its.toArray:=p
  obtain⟨u0,hu0,ru0⟩:=rv.get hx
  obtain⟨⟨old,z1⟩,z2⟩:=st
  have hh:X.A.in1.handled=none:=I.ok.hd hc
  have hlt:i < its.toArray.size:=by
   have:=Gs.mp hu0
   simpa using this.1
  refine wpAny_pyNext_enum_itemD (BI hh (gJ p z2) its.toArray) z1 ⟨z2,p⟩ hlt (mO 1 0 rfl) (by
   simp only[FY,GN,HE,not_or]
   exact⟨mO 1 0 rfl,ug p z1⟩) λu h' tk hu q1 q2 q3 q4 q5=>?_
  have eu:u0=u:=by
   have hu:its.toArray[i]? =some u:=hu
   rw[Il,hu0] at hu
   exact Option.some.inj hu
  subst eu
  refine⟨_,rfl,wpAny_letOwnedTupleGo_enum (s:={s with heap:=h',toks:=tk + 1}) q1 λh2 r1 r2=>?_⟩
  have r2:∀c,c≠n + 1->h2.get? c=h'.get? c:=r2.2
  have lz:n + 1 < s.heap.objs.size:=Ga z1
  have hT:H s.heap.objs.size=none:=I.hok.fresh (FX _)
  have I1:Inv X pins σ (upd H s.heap.objs.size (.tup [.int i,x])) {s with heap:=s.heap.push {cls:=.type "tuple",data:=.seq #[.int i tk,u0]},toks:=s.toks}:=
   I.laid (λb o e=>FT _ e) (FX _) ⟨by show 2<=sizeLine;rw[Gz];omega,[.int i tk,u0],.cons ⟨tk,rfl⟩ (.cons ru0 .nil),mR.new _ _⟩
  have hf':∀c∈xO n,kA X pins (upd H s.heap.objs.size (.tup [.int i,x])) c:=λc hc=>⟨by
   rw[au (λz=>?_)]
   ·exact (hf c hc).1
   ·subst z
    simp only[xO,FY,GN,HE] at hc
    omega,(hf c hc).2⟩
  have I2:Inv X pins σ (upd H s.heap.objs.size (.tup [.int i,x])) {s with heap:=h2,toks:=tk + 1}:=by
   refine I1.turnedL (ch:=xO n) (λc o hc e=>?_) hf'
   have e:(s.heap.push {cls:=.type "tuple",data:=.seq #[.int i tk,u0]}).get? c=some o:=e
   simp only[xO,FY,GN,HE,not_or] at hc
   rw[r2 c hc.1]
   by_cases z:c=s.heap.objs.size
   ·subst z
    rw[Gb _ rfl] at e
    rw[<-e];exact q3
   ·refine q5 c o hc.1 hc.2 ?_
    rw[Heap.get?_push_ne _ _ _ z] at e
    exact e
  refine⟨.ref s.heap.objs.size,_,I2,rfl,⟨x,_,hT,λxs' h'=>?_,rfl,rfl⟩,⟨⟨u0,r1⟩,q2.1.at λo e=>(r2 _ (mO 0 1 rfl)).trans e⟩,λc hc=>(hf' c hc).1⟩
  rw[I.tuple_inj h' ha];exact hx
 done:=by
  intro X hP hw hK hc i pins s σ H E I hf st hg
  subst hP hw hK
  obtain⟨xs,ha,hl⟩:=hg
  obtain⟨its,rv,p,hz⟩:=I.tuple ha
  obtain⟨⟨old,z1⟩,z2⟩:=st
  have hh:X.A.in1.handled=none:=I.ok.hd hc
  have l1:=rv.length
  refine wpAny_pyNext_enum_endD (Bv hh i (xs:=its.toArray) (by simp;omega)) z1 ⟨rfl,z2,p⟩ λh' q=>⟨rfl,?_⟩
  refine I.turnedL (t':=s.toks) (ch:=xO n) (λc o hc e=>?_) hf
  simp only[xO,FY,GN,HE,not_or] at hc
  exact q c o hc.2 e
 self:=λ_ _ _ _ _ st h=>by
  obtain⟨⟨old,z1⟩,_⟩:=st
  exact wpAny_pyIter_enum z1 h
def FG (K:Frag)(ta:TA):TI:=λσ H R=>ta σ H λvs H2=>∃a xs,vs= [.ref a]/\cP K H2 a xs/\R (Et K a) H2
def u4:bootBuiltins "enumerate"=some (.type "enumerate"):=by decide +kernel
section
variable {X:Cx}
theorem Ao {a:Expr}{ta:TA}{p pos pt:Pos}{elts:List Expr}{x1}(hg:Gl X "enumerate")(hm:X.mg "enumerate"=none)(ha:PA X [a] ta)(hs:starEach [a] X.env= [(false,eval a X.env)]:=by rfl) :
  PI X (.Tuple elts x1 pt) (.Call (.Name "enumerate" p) [a] [] pos) (FG X.K ta):=by
 intro pins s σ H R I h
 refine Call_ (kc I hg hm u4 (HG (b7 (ha pos pins s σ H _ I h) λus s1 ⟨vs,H1,I1,r1,q1⟩=>?_) hs rfl))
 obtain⟨a,xs,e,h1,q⟩:=q1
 subst e
 cases r1 with
 |cons r rr=>
  cases rr
  cases r
  obtain⟨its,rv,p1,hz⟩:=I1.tuple h1
  refine rE (show s1.heap.IsTuple a its.toArray from p1) λh' z1 z2 z3=>?_
  refine wpAny_pyIter_enum z1 ⟨_,xO s1.heap.objs.size,_,_,H1,rfl,I1.kept (t':=s1.toks) z3,sd a s1.heap.objs.size,⟨⟨_,z1⟩,z2⟩,λc hc=>?_,q⟩
  have:s1.heap.objs.size<=c:=by
   simp only[xO,FY,GN,HE] at hc
   rcases hc with rfl |rfl <;> first |exact FX _ |exact Nat.le_add_right _ _
  exact I1.fpOk this (I1.hok.fresh this)
end
section
variable {X:Cx}{Γ:Fx}{E:XK}{e a b c:Expr}{f fa fb:VF D}{L La Lb:List Nat}{md ma mb:Md}{pos:Pos}
def j5 (ds:List D):List D:=ds.mapIdx λi d=>.tuple [.int i,d]
def qt (fa:VF D):VF (List D):=λvs β=>(fa vs β).bnd λx β1=>match x with
 | .tuple ds=>.ok (j5 ds) β1
 |_=>.bad
def wN {K:Frag}{B:Option Addr}{G H1:Hp}{p:Addr}{xs:List V}{ds:List D}(hp:cP K G p xs)(r:cv K G xs ds):Walk K B G H1 (j5 ds) (Et K p):=λGc H i s1 s2 m=>by
 have hp':=hp.grow (s1.trans s2).grow
 have l1:=r.len
 have lz:(j5 ds).length=ds.length:=by unfold j5;rw[List.length_mapIdx]
 refine⟨λhi=>⟨?_,λx H' y=>?_⟩,λhi=>⟨xs,hp',by omega⟩⟩
 ·have h1:i < xs.length:=by omega
  exact⟨xs,xs[i],hp',by simp[h1]⟩
 ·obtain⟨x,t,ht,hx,rfl,rfl⟩:=y
  obtain⟨d,ed,rd⟩:=r.at' (hx xs hp')
  have xn:=Ext.new s2 (o:=.tup [.int i,x]) ht
  refine⟨upd Gc t (.tup [.int i,x]),.tuple [.int i,d],xn,?_,.tup (.inl (.inl av)) (.cons (.int i) (.cons (rd.mono (s1.trans xn.gg)) .nil))⟩
  unfold j5
  rw[List.getElem?_mapIdx,ed];rfl
theorem qk {p pt:Pos}{elts:List Expr}{x1}(hK:X.K=Γ.K)(hg:Gl X "enumerate")(hm:X.mg "enumerate"=none)(ha:SE X Γ E a fa La ma)(hs:starEach [a] X.env= [(false,eval a X.env)]:=by rfl)(hs':starEach [a] X.env=(false,eval a X.env) :: starEach [] X.env:=by rfl) :
  SI X Γ E (.Tuple elts x1 pt) (.Call (.Name "enumerate" p) [a] [] pos) (qt fa) La md:=by
 refine PI.post (Ao hg hm (aN ha bK hs') hs) ?_
 rintro σ H Q ⟨env,G,B,β,I,o⟩
 refine⟨env,G,B,β,I,o.bnd.imp λd1 β1 h x G1 H1 I1 s1 m1 vx=>?_⟩
 have vx:=vx.brw I.boxThere
 rw[hK]
 cases d1 with
 |tuple ds=>
  rcases vx with vx | ⟨p,rfl,hb,q⟩
  ·cases vx with
   | @tup p xs _ hq r=>exact⟨p,xs,rfl,hq.grow I1.sub.grow,h _ G1 H1 I1 s1 m1 (wN hq r)⟩
  ·exact q.elim
 |_=>exact h.elim
end
end L2
namespace L2
open PySem PySem.Spec PyProof.Rows PySem.MeetsSeq PySem.MeetsSeq2 PySem.MeetsSeq3
def zH (K:Frag):R2:=λx y H Q=>∃a b xs ys,x=.ref a/\y=.ref b/\cP K H a xs/\cP K H b ys/\xs.length + ys.length<=sizeLine/\
 (xs= []->Q (.ref b) H)/\(xs≠ []->ys= []->Q (.ref a) H)/\(xs≠ []->ys≠ []->∀p,H p=none->Q (.ref p) (upd H p (.tup (xs ++ ys))))
section
variable {X:Cx}
def qL:jh X (binaryOp .Add) (zH X.K):=by
 intro pins s σ H x y v u Q I rx ry h
 obtain⟨a,b,xs,ys,rfl,rfl,ha,hb,hz,q0,q1,q2⟩:=h
 by_cases hx:xs= []
 ·cases rx
  cases ry
  obtain⟨its,r1,p1,_⟩:=I.tuple ha
  obtain⟨its2,r2,p2,_⟩:=I.tuple hb
  obtain⟨⟨cls,dd,data,sl⟩,ho,hc,n,hd⟩:=id p1
  obtain⟨⟨cls2,dd2,data2,sl2⟩,ho2,hc2,n2,hd2⟩:=id p2
  simp only at hc hd hc2 hd2
  subst hc hd hc2 hd2
  have he:its= []:=r1.nil_iff.mpr hx
  exact concat_meets ⟨_,ho,rfl⟩ ⟨_,ho2,rfl⟩ noFill_tuple_add seq_tuple_add PySem.F.slot_tuple_add PySem.F.entry_tuple_add (IC _ _)
   (tuple_addW0 a b its.toArray its2.toArray n n2 dd dd2 sl sl2 (by simp[he])) ⟨ho,ho2,.ref b,H,I,rfl,q0 hx⟩
 ·exact ya pins s σ H _ _ v u Q I rx ry ⟨a,b,xs,ys,rfl,rfl,ha,hb,hx,hz,q1 hx,q2 hx⟩
end
def sH:D->D->Option D
 | .tuple a,.tuple b=>if a.length + b.length<=sizeLine then some (.tuple (a ++ b)) else none
 |_,_=>none
def vP {K:Frag}:j9 K (zH K) sH .v:=by
 intro B G H x y dx dy d Q s hB bx by' e k
 cases dx <;> cases dy <;> first | (cases e;done) |skip
 rename_i a b
 simp only[sH] at e
 split at e
 ·rename_i hz
  cases e
  rcases bx with bx | ⟨_,_,_,q⟩
  case inr=>exact q.elim
  rcases by' with by' | ⟨_,_,_,q⟩
  case inr=>exact q.elim
  cases bx with
  | @tup p xs _ hp r1=>
   cases by' with
   | @tup q ys _ hq r2=>
    refine⟨p,q,xs,ys,rfl,rfl,hp.grow s.grow,hq.grow s.grow,by rw[r1.len,r2.len];exact hz,λz=>?_,λz z'=>?_,λ_ _ l hl=>?_⟩
    ·subst z
     cases r1
     exact k _ G H (Ext.refl s) (.tup hq r2)
    ·subst z'
     cases r2
     rw[HZ] at k
     exact k _ G H (Ext.refl s) (.tup hp r1)
    ·have xn:=Ext.new s (o:=.tup (xs ++ ys)) hl
     exact k _ _ _ xn (.tup (.inl (.inl av)) ((r1.append r2).mono xn.gg))
 ·cases e
end L2
namespace L2
open PySem PySem.Spec PyProof.Rows
def isStar:Expr->Bool
 | .Starred _ _=>true
 |_=>false
def uK {a:Expr}{es:List Expr}{env:Env}(h:isStar a=false):starEach (a :: es) env=(false,eval a env) :: starEach es env:=by
 cases a <;> first |rfl |cases h
def Aw (sc:Scope)(x:Str):Bool:=match sc.names.lookup x with
 |some .local=>true
 |some .cell=>true
 |some .free=>true
 |_=>false
def yc {sc:Scope}{x:Str}(h:Aw sc x=true):va sc x:=by
 unfold Aw at h
 unfold va
 split at h
 ·exact .inl (by assumption)
 ·exact .inr (.inl (by assumption))
 ·exact .inr (.inr (by assumption))
 ·cases h
def sq (N:List Str)(sc:Scope):List (Str×Nat)->Bool
 | []=>true
 | (x,i) :: r=>decide (N[i]? =some x) && (Aw sc x && ((!(x == ("__debug__":Str))) && ((!(x == ("__classdict__":Str))) && sq N sc r)))
theorem sC {N:List Str}{sc:Scope}:∀{l:List (Str×Nat)} {x:Str} {i:Nat},sq N sc l=true->l.lookup x=some i->N[i]? =some x/\va sc x/\(x == ("__debug__":Str))=false/\(x == ("__classdict__":Str))=false
 | [],_,_,_,h=>by cases h
 | (y,j) :: r,x,i,h,e=>by
  simp only[sq,GV,G9,IQ] at h
  obtain⟨h1,h2,h3,h4,h5⟩:=h
  rw[Ir] at e
  split at e
  ·rename_i q
   have q:x=y:=by simpa using q
   subst q
   cases e
   exact⟨h1,yc h2,h3,h4⟩
  ·exact sC h5 e
def uQ:Expr->Option Int
 | .Constant (.int i) _ _=>some i
 |_=>none
theorem la {e:Expr}{i:Int}(h:uQ e=some i):∃j p,e=.Constant (.int i) j p:=by
 cases e with
 |Constant c j p=>cases c <;> first | (cases h;exact⟨_,_,rfl⟩) |cases h
 |_=>cases h
def EX (op:UnaryOp)(e:Expr):Option Int:=match op with
 | .USub=>uQ e
 |_=>none
def z0:Operator->Bool
 | .Pow=>true
 |_=>false
def wO {o:Operator}(h:z0 o=true):o=.Pow:=by cases o <;> first |rfl |cases h
def AO (ks:List (Option Expr))(vs:List Expr):Option (Str×Int):=match ks,vs with
 | [some (.Constant (.str k) _ _)],[v]=>(uQ v).map λi=>(k,i)
 |_,_=>none
def y1 {ks:List (Option Expr)}{vs:List Expr}{r:Str×Int}(h:AO ks vs=some r):∃j p j' p',ks= [some (.Constant (.str r.1) j p)]/\vs= [.Constant (.int r.2) j' p']:=by
 unfold AO at h
 split at h
 ·rename_i k j p v
  cases q:uQ v with
  |none=>rw[q] at h;cases h
  |some i=>
   rw[q] at h
   cases h
   obtain⟨j',p',rfl⟩:=la q
   exact⟨_,_,_,_,rfl,rfl⟩
 ·cases h
def EY:Const->Option D
 | .int i=>some (.int i)
 | .bool b=>some (.bool b)
 | .none=>some .none
 | .str x=>some (.str x)
 |_=>none
mutual
def rD (nm:List (Str×Nat)):Expr->Option (VF D×List Nat)
 | .Name x _=>(nm.lookup x).map λi=>(gv i,[i])
 | .Constant c _ _=>(EY c).map λd=>(cst d,[])
 | .UnaryOp op a _=>(EX op a).map λi=>(cst (.int (-i)),[])
 | .BinOp a o b _=>if z0 o=true then (uQ a).bind λi=>(uQ b).map λj=>(f2 (cst (.int i)) (cst (.int j)) DM,[]) else none
 | .Dict ks vs _=>(AO ks vs).map λr=>(cst (.dict [(.str r.1,.int r.2)]),[])
 | .Tuple es _ _=>(zX nm es).map λr=>(aZ r.1,r.2)
 | .List es _=>(zX nm es).map λr=>(fF r.1,r.2)
 | .BoolOp ..=>none
 | .NamedExpr ..=>none
 | .Lambda ..=>none
 | .IfExp ..=>none
 | .Set ..=>none
 | .ListComp ..=>none
 | .SetComp ..=>none
 | .DictComp ..=>none
 | .GeneratorExp ..=>none
 | .Await ..=>none
 | .Yield ..=>none
 | .YieldFrom ..=>none
 | .Compare ..=>none
 | .Call ..=>none
 | .FormattedValue ..=>none
 | .JoinedStr ..=>none
 | .Attribute ..=>none
 | .Subscript ..=>none
 | .Starred ..=>none
 | .Slice ..=>none
def zX (nm:List (Str×Nat)):List Expr->Option (VF (List D)×List Nat)
 | []=>some (aw,[])
 |e :: es=>(rD nm e).bind λr=>(zX nm es).map λq=>(aa r.1 q.1,r.2 ++ q.2)
end
section
variable {X:Cx}{Γ:Fx}{E:XK}{nm:List (Str×Nat)}
theorem ir {α β:Type}{o:Option α}{f:α->β}{b:β}(h:o.map f=some b):∃a,o=some a/\f a=b:=by
 cases o with
 |none=>cases h
 |some a=>exact⟨a,rfl,Option.some.inj h⟩
theorem sX {α β:Type}{o:Option α}{f:α->Option β}{b:β}(h:o.bind f=some b):∃a,o=some a/\f a=some b:=by
 cases o with
 |none=>cases h
 |some a=>exact⟨a,rfl,h⟩
mutual
theorem Cb (hc:sq X.N X.env.scope nm=true)(hb:∀i,Γ.br i=false):∀{e:Expr} {f:VF D} {L:List Nat},rD nm e=some (f,L)->SE X Γ E e f L .v/\isStar e=false
 | .Name x p,f,L,h=>by
  rw[rD] at h
  obtain⟨i,q,e⟩:=ir h
  cases e
  obtain⟨h1,h2,h3,h4⟩:=sC hc q
  exact⟨aB i (hb i) h1 h2 h3 h4,rfl⟩
 | .Constant c j p,f,L,h=>by
  rw[rD] at h
  obtain⟨d,q,e⟩:=ir h
  cases e
  cases c <;> first | (cases q;first |exact⟨ak,rfl⟩ |exact⟨ja,rfl⟩ |exact⟨vU,rfl⟩ |exact⟨cc,rfl⟩) |cases q
 | .UnaryOp op a p,f,L,h=>by
  rw[rD] at h
  obtain⟨i,q,e⟩:=ir h
  cases e
  cases op <;> first | (cases q;done) |skip
  obtain⟨j,p,rfl⟩:=la q
  exact⟨Dl AZ DG ak,rfl⟩
 | .BinOp a op b p,f,L,h=>by
  rw[rD] at h
  split at h
  ·rename_i ho
   obtain rfl:=wO ho
   obtain⟨i,q,h⟩:=sX h
   obtain⟨j,q2,e⟩:=ir h
   cases e
   obtain⟨j1,p1,rfl⟩:=la q
   obtain⟨j2,p2,rfl⟩:=la q2
   exact⟨aS BH CP ak ak,rfl⟩
  ·cases h
 | .Dict ks vs p,f,L,h=>by
  rw[rD] at h
  obtain⟨r,q,e⟩:=ir h
  cases e
  obtain⟨_,_,_,_,rfl,rfl⟩:=y1 q
  exact⟨yr,rfl⟩
 | .Tuple es c p,f,L,h=>by
  rw[rD] at h
  obtain⟨r,q,e⟩:=ir h
  cases e
  exact⟨bC (oE hc hb q),rfl⟩
 | .List es p,f,L,h=>by
  rw[rD] at h
  obtain⟨r,q,e⟩:=ir h
  cases e
  exact⟨SE.wv (dm (oE hc hb q)),rfl⟩
 | .BoolOp ..,_,_,h=>by rw[rD] at h;cases h
 | .NamedExpr ..,_,_,h=>by rw[rD] at h;cases h
 | .Lambda ..,_,_,h=>by rw[rD] at h;cases h
 | .IfExp ..,_,_,h=>by rw[rD] at h;cases h
 | .Set ..,_,_,h=>by rw[rD] at h;cases h
 | .ListComp ..,_,_,h=>by rw[rD] at h;cases h
 | .SetComp ..,_,_,h=>by rw[rD] at h;cases h
 | .DictComp ..,_,_,h=>by rw[rD] at h;cases h
 | .GeneratorExp ..,_,_,h=>by rw[rD] at h;cases h
 | .Await ..,_,_,h=>by rw[rD] at h;cases h
 | .Yield ..,_,_,h=>by rw[rD] at h;cases h
 | .YieldFrom ..,_,_,h=>by rw[rD] at h;cases h
 | .Compare ..,_,_,h=>by rw[rD] at h;cases h
 | .Call ..,_,_,h=>by rw[rD] at h;cases h
 | .FormattedValue ..,_,_,h=>by rw[rD] at h;cases h
 | .JoinedStr ..,_,_,h=>by rw[rD] at h;cases h
 | .Attribute ..,_,_,h=>by rw[rD] at h;cases h
 | .Subscript ..,_,_,h=>by rw[rD] at h;cases h
 | .Starred ..,_,_,h=>by rw[rD] at h;cases h
 | .Slice ..,_,_,h=>by rw[rD] at h;cases h
theorem oE (hc:sq X.N X.env.scope nm=true)(hb:∀i,Γ.br i=false):∀{es:List Expr} {f:VF (List D)} {L:List Nat},zX nm es=some (f,L)->SA X Γ E es f L
 | [],f,L,h=>by rw[zX] at h;cases h;exact ag
 |e :: es,f,L,h=>by
  rw[zX] at h
  obtain⟨r,q,h⟩:=sX h
  obtain⟨r2,q2,e⟩:=ir h
  cases e
  obtain⟨a,b⟩:=Cb hc hb q
  exact ae a (oE hc hb q2) (uK b)
end
def yj {es:List Expr}{p:Pos}{t:Option Expr}{l:Nat}{env:Env}:swapsWith (.List es p) t l env=pure false:=rfl
def Cq {es:List Expr}{f:VF (List D)}{L:List Nat}{pos:Pos}(nm:List (Str×Nat))(hc:sq X.N X.env.scope nm=true)(hb:∀i,Γ.br i=false)(h:zX nm es=some (f,L)):SE X Γ E (.List es pos) (fF f) L .w:=dm (oE hc hb h)
def Dv {i:Nat}{x:Str}{es:List Expr}{f:VF (List D)}{L:List Nat}{pos' p pos:Pos}(nm:List (Str×Nat))(hc:sq X.N X.env.scope nm=true)(hb:∀i,Γ.br i=false)(h:zX nm es=some (f,L))(hN:X.N.Nodup)(hi:X.N[i]? =some x)(hx:Loc X.env.scope x)(hf:X.fn x=true\/X.env.scope.names.lookup x=some .local) :
  SS X Γ E (.Assign [.Name x pos'] (.List es p) pos) (cg i L (fF f)):=ba (SE.wv (Cq nm hc hb h)) hN hi hx yj hf
end
end L2
namespace L2
open PySem
section
variable {K:Frag}{h:Heap}{mg:Str->Option Value}
theorem oF {α:Type}{P:List α->Prop}(q:∀a,P [a]):∀us:List α,us.length=1->P us
 | [a],_=>q a
theorem ln2 {α:Type}{P:List α->Prop}(q:∀a b,P [a,b]):∀us:List α,us.length=2->P us
 | [a,b],_=>q a b
def a9 (x:Str)(st:Stmt)(ps:List Str):Prop:=∀(kV doc pm:Value) (an:Option Addr) (cdv ct:Value) (us:List Value),us.length=ps.length->bindArgs (PySem.W.fnOf x x (fT st) (cT st) (ar st) .none kV doc pm an cdv ct) ⟨us,[]⟩=pure (ps.zip us)
structure Fo (K:Frag)(mg:Str->Option Value)(x:Str)(st:Stmt)(ps:List Str):Prop where
 ex:∃f fd,i9 K mg x st ps f fd
def b5 {x:Str}{st:Stmt}{ps:List Str}{f:Addr}{oc:Value}{od an:Option Addr}{sl:Array (Option Value)}{kV doc pm cdv ct:Value}(X:K.In h)(G:h.Ns mainGlobals mg)(b:a9 x st ps)(a:PySem.W.nsIn K mainGlobals x=some (some (.ref f)))
  (l:K.lookup f=some ⟨oc,od,.func (PySem.W.fnOf x x (fT st) (cT st) (ar st) .none kV doc pm an cdv ct),sl⟩) (c:PySem.W.codeIn K cdv x=true) (k:PySem.W.keepIn K (.ref f)=true):Fo K mg x st ps:=
 ⟨⟨f,_,HM X G a,rC l c k,(rC l c k).binds b⟩⟩
def Em:List Str:=["len","range","enumerate","zip","min","max","sum","abs","sorted","reversed","int","str","bool","list","tuple","dict","set","isinstance","repr","any","all","divmod"]
def Ez (K:Frag):Bool:=Em.all λx=>match PySem.W.nsIn K mainGlobals x with
 |some none=>true
 |_=>false
def Bu (q:Ez K=true){x:Str}(hx:x∈Em):PySem.W.nsIn K mainGlobals x=some none:=by
 have:=Hk.mp q x hx
 split at this
 ·assumption
 ·cases this
def DR (X:K.In h)(G:h.Ns mainGlobals mg)(q:Ez K=true):jr mg:=by
 have key:∀{x:Str},x∈Em->mg x=none:=λhx=>PySem.W.mg_none_of X G (Bu q hx)
 constructor <;> exact key (by decide)
end
end L2
namespace RM
open PySem L2
def jT:SF:=(bH (gc (f1 (gv 0) (gp "int")) (f1 (f1 (gv 0) (gp "bool")) zj)))
end RM
namespace L2
open PySem PySem.Spec PyProof.Rows
section
variable {prog:Program}{w:World}{A:Around}{E:Value->Shared->Prop}{s:Shared}{z TI TO i1 i2 l1 l2:Addr}{k1 k2:Nat}{xs ys:Array Value}{x y a b:Value}
def Ak {it t:Addr}{i:Nat}{Q:Value->Shared->Prop}(hi:s.heap.IsTupleIter it t i)(ht:s.heap.IsTuple t xs)(hx:xs[i]? =some x)(k:∀h',h'.IsTupleIter it t (i + 1)->Heap.SameBut it s.heap h'->Q x {s with heap:=h'}) :
  wpAny (model prog w) A (Builtin.SmallTypes.nextOf (.ref it)) Q E s:=CM hi ht (λx' e h' q1 q2=>by rw[hx] at e;cases e;exact k h' q1 q2) λe=>by rw[hx] at e;cases e
def C9 {it t:Addr}{i:Nat}{Q:Value->Shared->Prop}(hh:A.handled=none)(hi:s.heap.IsTupleIter it t i)(ht:s.heap.IsTuple t xs)(hx:xs[i]? =none)(k:∀h' e,Heap.ExtBut it s.heap h'->(∃o,h'.get? e=some o/\o.cls=.type "StopIteration")->E (.ref e) {s with heap:=h'}) :
  wpAny (model prog w) A (Builtin.SmallTypes.nextOf (.ref it)) Q E s:=CM hi ht (λx' e=>by rw[hx] at e;cases e) λ_=>⟨hh,k⟩
def Dz {Q:Value->Shared->Prop}(D:ZipApart z TI TO i1 i2 l1 l2)(hz:IsZip s.heap z TI TO .none)(hTI:IsPair s.heap TI (.ref i1) (.ref i2))(hTO:IsPair s.heap TO a b)
  (h1:s.heap.IsTupleIter i1 l1 k1) (h2:s.heap.IsTupleIter i2 l2 k2) (hl1:s.heap.IsTuple l1 xs) (hl2:s.heap.IsTuple l2 ys) (hx:xs[k1]? =some x) (hy:ys[k2]? =some y)
  (hQ:∀h',IsZip h' z TI TO (rawInt s.heap.objs.size)->IsPair h' TO x y->h'.IsTupleIter i1 l1 (k1 + 1)->h'.IsTupleIter i2 l2 (k2 + 1)->IsPair h' s.heap.objs.size x y->h'.objs.size=s.heap.objs.size + 1->
   (∀c o,c≠z->c≠TO->c≠i1->c≠i2->s.heap.get? c=some o->h'.get? c=some o)->Q (.ref s.heap.objs.size) {s with heap:=h'}) :
  wpAny (model prog w) A (Builtin.«zip.__next__» ⟨[.ref z],[]⟩) (λfin s'=>∃v,fin=.done (.ret v)/\Q v s') E s:=by
 show wpAny _ _ (field (.ref z) 2 >>= _) _ _ _
 refine FQ (Hf hz rfl (x:=.bool false) rfl ?_)
 show wpAny _ _ (field (.ref z) 3 >>= _) _ _ _
 refine FQ (Hf hz rfl (x:=.ref TI) rfl (FQ (Ht hTI rfl ?_)))
 show wpAny _ _ (Builtin.SmallTypes.ownedTupleIsFree (.ref z) >>= _) _ _ _
 refine FQ ?_
 unfold Builtin.SmallTypes.ownedTupleIsFree
 refine FQ (Hf hz rfl (x:=.none) rfl (FW ?_))
 simp only[G8]
 refine FQ (wpAny_rule (FQ (Hf hz rfl (x:=.ref TO) rfl (FQ (HI hz (by simp) λq1 (z1:IsZip q1 z TI TO .ellipsis) e1=>FQ ?_)))))
 simp only[List.zipIdx_cons,List.zipIdx_nil,List.forIn_cons,List.forIn_nil]
 refine FQ (FQ (wpAny_onRaise ?_))
 show wpAny _ _ (Builtin.SmallTypes.nextOf (.ref i1) >>= _) _ _ _
 refine FQ (Ak (h1.extBut e1.extBut D.i1z) (hl1.extBut e1.extBut D.l1z) hx λq2 j1 e2=>FW ?_)
 have o2:IsPair q2 TO a b:=e2.extBut _ _ D.TOi1 (e1.extBut _ _ D.TOz hTO)
 refine FQ (Ht o2 rfl (FQ (wpAny_updateSeq_pair o2 λq3 (o3:IsPair q3 TO x b) e3=>FQ (wpAny_letGo (FW ?_)))))
 refine FQ (FQ (wpAny_onRaise ?_))
 show wpAny _ _ (Builtin.SmallTypes.nextOf (.ref i2) >>= _) _ _ _
 refine FQ (Ak (((h2.extBut e1.extBut D.i2z).extBut e2.extBut D.i12.symm).extBut e3.extBut D.TOi2.symm) (((hl2.extBut e1.extBut D.l2z).extBut e2.extBut D.l2i1).extBut e3.extBut D.l2TO) hy λq4 j2 e4=>FW ?_)
 have o4:IsPair q4 TO x b:=e4.extBut _ _ D.TOi2 o3
 refine FQ (Ht o4 rfl (FQ (wpAny_updateSeq_pair o4 λq5 (o5:IsPair q5 TO x y) e5=>FQ (wpAny_letGo (FW (FW ?_))))))
 refine FQ (Ht o5 rfl (FQ (wpAny_newTuple ?_)))
 have hsz:q5.objs.size=s.heap.objs.size:=by rw[e5.1,e4.1,e3.1,e2.1,e1.1]
 have z5:IsZip q5 z TI TO .ellipsis:=e5.extBut _ _ D.TOz.symm (e4.extBut _ _ D.i2z.symm (e3.extBut _ _ D.TOz.symm (e2.extBut _ _ D.i1z.symm z1)))
 have k5:∀c o,c≠z->c≠TO->c≠i1->c≠i2->s.heap.get? c=some o->q5.get? c=some o:=λc o c1 c2 c3 c4 e=>e5.extBut _ _ c2 (e4.extBut _ _ c4 (e3.extBut _ _ c2 (e2.extBut _ _ c3 (e1.extBut _ _ c1 e))))
 have p1:q5.IsTupleIter i1 l1 (k1 + 1):=((j1.extBut e3.extBut D.TOi1.symm).extBut e4.extBut D.i12).extBut e5.extBut D.TOi1.symm
 have p2:q5.IsTupleIter i2 l2 (k2 + 1):=j2.extBut e5.extBut D.TOi2.symm
 have lz:z < q5.objs.size:=Ga z5
 show wpAny _ _ (Builtin.SmallTypes.ownedTupleHandOut (.ref z) (.ref q5.objs.size) >>= _) _ _ _
 refine FQ ?_
 unfold Builtin.SmallTypes.ownedTupleHandOut
 have z6:IsZip (q5.push {cls:=.type "tuple",data:=.seq #[x,y]}) z TI TO .ellipsis:=FT _ z5
 refine FQ (HI z6 (by simp) λq7 (z7:IsZip q7 z TI TO (rawInt q5.objs.size)) e7=>HI z7 (by simp) λq8 (z8:IsZip q8 z TI TO (rawInt q5.objs.size)) e8=>?_)
 have up:∀c o,c≠z->q5.get? c=some o->q8.get? c=some o:=λc o c1 e=>e8.extBut _ _ c1 (e7.extBut _ _ c1 (FT _ e))
 have t8:IsPair q8 q5.objs.size x y:=e8.extBut _ _ (IA lz) (e7.extBut _ _ (IA lz) (Gb _ rfl))
 have s8:q8.objs.size=q5.objs.size + 1:=by rw[e8.1,e7.1,Ha]
 rw[hsz] at z8 t8 s8
 refine FW ⟨_,rfl,?_⟩
 show Q (.ref q5.objs.size) _
 rw[hsz]
 exact hQ q8 z8 (up _ _ D.TOz o5) (p1.at λo e=>up _ o D.i1z e) (p2.at λo e=>up _ o D.i2z e) t8 s8 λc o c1 c2 c3 c4 e=>up c o c1 (k5 c o c1 c2 c3 c4 e)
theorem Dg {Q:Fin->Shared->Prop}(hh:A.handled=none)(D:ZipApart z TI TO i1 i2 l1 l2)(hz:IsZip s.heap z TI TO .none)(hTI:IsPair s.heap TI (.ref i1) (.ref i2))(hTO:IsPair s.heap TO a b)
  (h1:s.heap.IsTupleIter i1 l1 k1) (h2:s.heap.IsTupleIter i2 l2 k2) (hl1:s.heap.IsTuple l1 xs) (hl2:s.heap.IsTuple l2 ys) (hend:xs[k1]? =none\/ys[k2]? =none)
  (hE:∀h' e,(∀c o,c≠z->c≠TO->c≠i1->c≠i2->s.heap.get? c=some o->h'.get? c=some o)->(∃o,h'.get? e=some o/\o.cls=.type "StopIteration")->E (.ref e) {s with heap:=h'}) :
  wpAny (model prog w) A (Builtin.«zip.__next__» ⟨[.ref z],[]⟩) Q E s:=by
 show wpAny _ _ (field (.ref z) 2 >>= _) _ _ _
 refine FQ (Hf hz rfl (x:=.bool false) rfl ?_)
 show wpAny _ _ (field (.ref z) 3 >>= _) _ _ _
 refine FQ (Hf hz rfl (x:=.ref TI) rfl (FQ (Ht hTI rfl ?_)))
 show wpAny _ _ (Builtin.SmallTypes.ownedTupleIsFree (.ref z) >>= _) _ _ _
 refine FQ ?_
 unfold Builtin.SmallTypes.ownedTupleIsFree
 refine FQ (Hf hz rfl (x:=.none) rfl (FW ?_))
 simp only[G8]
 refine FQ (wpAny_rule (FQ (Hf hz rfl (x:=.ref TO) rfl (FQ (HI hz (by simp) λq1 (z1:IsZip q1 z TI TO .ellipsis) e1=>FQ ?_)))))
 simp only[List.zipIdx_cons,List.zipIdx_nil,List.forIn_cons,List.forIn_nil]
 refine FQ (FQ (wpAny_onRaise ?_))
 show wpAny _ _ (Builtin.SmallTypes.nextOf (.ref i1) >>= _) _ _ _
 have fin:∀{e:Addr} {q:Heap},IsZip q z TI TO .ellipsis->(∃o,q.get? e=some o/\o.cls=.type "StopIteration")->e≠z:=λ{e q} hq he x=>by
  obtain⟨o,ho,hc⟩:=he
  subst x;rw[hq] at ho;cases ho;simp at hc
 cases hx:xs[k1]? with
 |none=>
  refine FQ (C9 hh (h1.extBut e1.extBut D.i1z) (hl1.extBut e1.extBut D.l1z) hx λq2 e e2 he=>?_)
  have z2:IsZip q2 z TI TO .ellipsis:=e2 _ _ D.i1z.symm z1
  have hez:=fin z2 he
  obtain⟨oe,hoe,hce⟩:=he
  exact HI z2 (by simp) λq3 _ e3=>hE q3 e (λc o c1 _ c3 _ x=>e3.extBut _ _ c1 (e2 _ _ c3 (e1.extBut _ _ c1 x))) ⟨oe,e3.extBut _ _ hez hoe,hce⟩
 |some x=>
  have hy:ys[k2]? =none:=by rcases hend with h |h;rw[hx] at h;cases h;exact h
  refine FQ (Ak (h1.extBut e1.extBut D.i1z) (hl1.extBut e1.extBut D.l1z) hx λq2 j1 e2=>FW ?_)
  have o2:IsPair q2 TO a b:=e2.extBut _ _ D.TOi1 (e1.extBut _ _ D.TOz hTO)
  refine FQ (Ht o2 rfl (FQ (wpAny_updateSeq_pair o2 λq3 o3 e3=>FQ (wpAny_letGo (FW ?_)))))
  refine FQ (FQ (wpAny_onRaise ?_))
  show wpAny _ _ (Builtin.SmallTypes.nextOf (.ref i2) >>= _) _ _ _
  refine FQ (C9 hh (((h2.extBut e1.extBut D.i2z).extBut e2.extBut D.i12.symm).extBut e3.extBut D.TOi2.symm) (((hl2.extBut e1.extBut D.l2z).extBut e2.extBut D.l2i1).extBut e3.extBut D.l2TO) hy λq4 e e4 he=>?_)
  have z4:IsZip q4 z TI TO .ellipsis:=e4 _ _ D.i2z.symm (e3.extBut _ _ D.TOz.symm (e2.extBut _ _ D.i1z.symm z1))
  have hez:=fin z4 he
  obtain⟨oe,hoe,hce⟩:=he
  exact HI z4 (by simp) λq5 _ e5=>hE q5 e (λc o c1 c2 c3 c4 x=>e5.extBut _ _ c1 (e4 _ _ c4 (e3.extBut _ _ c2 (e2.extBut _ _ c3 (e1.extBut _ _ c1 x))))) ⟨oe,e5.extBut _ _ hez hoe,hce⟩
def EM {Q:Option Value->Shared->Prop}(D:ZipApart z TI TO i1 i2 l1 l2)(hz:IsZip s.heap z TI TO .none)(hTI:IsPair s.heap TI (.ref i1) (.ref i2))(hTO:IsPair s.heap TO a b)
  (h1:s.heap.IsTupleIter i1 l1 k1) (h2:s.heap.IsTupleIter i2 l2 k2) (hl1:s.heap.IsTuple l1 xs) (hl2:s.heap.IsTuple l2 ys) (hx:xs[k1]? =some x) (hy:ys[k2]? =some y)
  (hQ:∀h',IsZip h' z TI TO (rawInt s.heap.objs.size)->IsPair h' TO x y->h'.IsTupleIter i1 l1 (k1 + 1)->h'.IsTupleIter i2 l2 (k2 + 1)->IsPair h' s.heap.objs.size x y->h'.objs.size=s.heap.objs.size + 1->
   (∀c o,c≠z->c≠TO->c≠i1->c≠i2->s.heap.get? c=some o->h'.get? c=some o)->Q (some (.ref s.heap.objs.size)) {s with heap:=h'}) :
  wpAny (model prog w) A (pyNext (.ref z)) Q E s:=by
 have hT:s.TypeIs (.ref z) "zip":=⟨_,hz,rfl⟩
 unfold pyNext
 exact FQ (wpAny_attempt (HA (name:=Str.ofString "__next__") hT F.slot_zip_next
  (Hr F.slot_zip_next hT F.entry_zip_next (Dz D hz hTI hTO h1 h2 hl1 hl2 hx hy λh' a1 a2 a3 a4 a5 a6 a7=>FW (hQ h' a1 a2 a3 a4 a5 a6 a7)) (F.args_zip_next_1 _))))
def EU {Q:Option Value->Shared->Prop}(hh:A.handled=none)(D:ZipApart z TI TO i1 i2 l1 l2)(hz:IsZip s.heap z TI TO .none)(hTI:IsPair s.heap TI (.ref i1) (.ref i2))(hTO:IsPair s.heap TO a b)
  (h1:s.heap.IsTupleIter i1 l1 k1) (h2:s.heap.IsTupleIter i2 l2 k2) (hl1:s.heap.IsTuple l1 xs) (hl2:s.heap.IsTuple l2 ys) (hend:xs[k1]? =none\/ys[k2]? =none)
  (hQ:∀h',(∀c o,c≠z->c≠TO->c≠i1->c≠i2->s.heap.get? c=some o->h'.get? c=some o)->Q none {s with heap:=h'}):wpAny (model prog w) A (pyNext (.ref z)) Q E s:=by
 have hT:s.TypeIs (.ref z) "zip":=⟨_,hz,rfl⟩
 unfold pyNext
 refine FQ (wpAny_attempt (HA (name:=Str.ofString "__next__") hT F.slot_zip_next
  (Hr F.slot_zip_next hT F.entry_zip_next (Dg hh D hz hTI hTO h1 h2 hl1 hl2 hend λh' e hk he=>?_) (F.args_zip_next_1 _))))
 obtain⟨o,ho,hc⟩:=he
 exact FQ (wpAny_isInstance (T:="StopIteration") (b:=true) ⟨o,ho,hc⟩ isSubtype_stop (FW (hQ _ hk)))
end
abbrev Eh (h:Heap)(l1:Addr):Heap:=h.push (x9 l1)
abbrev D4 (h:Heap)(l1 l2:Addr):Heap:=(Eh h l1).push (x9 l2)
abbrev DY (h:Heap)(l1 l2:Addr):Heap:=(D4 h l1 l2).push {cls:=.type "tuple",data:=.seq #[.ref h.objs.size,.ref (Eh h l1).objs.size]}
abbrev Ee (h:Heap)(l1 l2:Addr):Heap:=(DY h l1 l2).push {cls:=.type "tuple",data:=.seq #[.none,.none]}
abbrev B9 (h:Heap)(l1 l2:Addr):Heap:=(Ee h l1 l2).push {cls:=.type "zip",data:=.fields #[.none,.bool false,.bool false,.ref (D4 h l1 l2).objs.size,.ref (DY h l1 l2).objs.size]}
def yo (l1 l2:Addr)(xs ys:Array Value) :
  Meets (Builtin.«zip.__new__» ⟨[.type "zip",.ref l1,.ref l2],[]⟩) (λ_ R s=>s.heap.IsTuple l1 xs/\s.heap.IsTuple l2 ys/\R (.ok (.ret (.ref (Ee s.heap l1 l2).objs.size))) {s with heap:=B9 s.heap l1 l2}):=
 .of_wp λprog w A R s h=>by
  obtain⟨hp,g,d,tk,os⟩:=s;obtain⟨hl1,hl2,h⟩:=h
  have hsub:=sub_zip
  have hL1:Heap.IsTuple (Shared.heap ⟨hp,g,d,tk,os⟩) l1 xs:=hl1
  have hL2:Heap.IsTuple (Shared.heap ⟨hp.push {cls:=.type "tuple_iterator",data:=.fields #[.ref l1,.int 0 0]},g,d,tk,os⟩) l2 ys:=hl2.at λo e=>FT _ e
  wp_walk using Hu hL1,Hu hL2
  exact⟨_,rfl,h⟩
def uk {prog:Program}{w:World}{A:Around}{E:Value->Shared->Prop}{s:Shared}{l1 l2:Addr}{xs ys:Array Value}{Q:Value->Shared->Prop}(hl1:s.heap.IsTuple l1 xs)(hl2:s.heap.IsTuple l2 ys)
  (h:∀h',IsZip h' (s.heap.objs.size + 4) (s.heap.objs.size + 2) (s.heap.objs.size + 3) .none->IsPair h' (s.heap.objs.size + 2) (.ref s.heap.objs.size) (.ref (s.heap.objs.size + 1))->
   IsPair h' (s.heap.objs.size + 3) .none .none->h'.IsTupleIter s.heap.objs.size l1 0->h'.IsTupleIter (s.heap.objs.size + 1) l2 0->
   (∀c o,s.heap.get? c=some o->h'.get? c=some o)->Q (.ref (s.heap.objs.size + 4)) {s with heap:=h'}) :
  wpAny (model prog w) A (call (.type "zip") [.ref l1,.ref l2]) Q E s:=by
 refine callType_new F.called_zip (by decide) (F.typeCall_zip_2 _ _) (F.newCall_zip_2 _ _) (λobj=>F.args_object_init_3 obj _ _) F.entry_zip_new (yo l1 l2 xs ys) ⟨hl1,hl2,?_⟩
 have z1:(Eh s.heap l1).objs.size=s.heap.objs.size + 1:=Ha ..
 have z2:(D4 s.heap l1 l2).objs.size=s.heap.objs.size + 2:=by rw[Ha,z1]
 have z3:(DY s.heap l1 l2).objs.size=s.heap.objs.size + 3:=by rw[Ha,z2]
 have z4:(Ee s.heap l1 l2).objs.size=s.heap.objs.size + 4:=by rw[Ha,z3]
 have g5:(B9 s.heap l1 l2).get? (Ee s.heap l1 l2).objs.size=some _:=Gb _ rfl
 have g4:(B9 s.heap l1 l2).get? (DY s.heap l1 l2).objs.size=some _:=FT _ (Gb _ rfl)
 have g3:(B9 s.heap l1 l2).get? (D4 s.heap l1 l2).objs.size=some _:=FT _ (FT _ (Gb _ rfl))
 have g2:(B9 s.heap l1 l2).get? (Eh s.heap l1).objs.size=some _:=FT _ (FT _ (FT _ (Gb _ rfl)))
 have g1:(B9 s.heap l1 l2).get? s.heap.objs.size=some _:=FT _ (FT _ (FT _ (FT _ (Gb _ rfl))))
 show _/\_
 rw[z2,z3,z4] at g5
 rw[z1,z2] at g3
 rw[z3] at g4
 rw[z1] at g2
 rw[z4]
 exact⟨⟨_,g5,rfl⟩,h _ g5 g3 g4 ⟨_,g1,rfl,rfl⟩ ⟨_,g2,rfl,rfl⟩ λc o x=>
  FT _ (FT _ (FT _ (FT _ (FT _ x))))⟩
def AY (K:Frag)(a b:Addr):It:=
 ⟨λi H=>∃xs ys x y,cP K H a xs/\cP K H b ys/\xs[i]? =some x/\ys[i]? =some y,
  λi H v H'=>∃x y t,H t=none/\(∀xs,cP K H a xs->xs[i]? =some x)/\(∀ys,cP K H b ys->ys[i]? =some y)/\v=.ref t/\H'=upd H t (.tup [x,y]),
  λi H=>∃xs ys,cP K H a xs/\cP K H b ys/\(xs.length<=i\/ys.length<=i)⟩
def sI {h:Heap}{n:Nat}{a b:Addr}{xs ys:Array Value}{k l:Nat}(hz:IsZip h (n + 4) (n + 2) (n + 3) .none)(h1:h.IsTupleIter n a k)(h2:h.IsTupleIter (n + 1) b l)(p:h.IsTuple a xs)(q:h.IsTuple b ys)(ha:a≠n + 3)(hb:b≠n + 3):ZipApart (n + 4) (n + 2) (n + 3) n (n + 1) a b:=by
 have kz:∀{c:Addr} {xs:Array Value},h.IsTuple c xs->c≠n + 4:=λ{c xs} p e=>by
  obtain⟨o,e1,e2,_⟩:=p
  subst e;rw[hz] at e1;cases e1;simp at e2
 exact⟨mO 2 4 rfl,mO 3 4 rfl,mO 0 4 rfl,mO 1 4 rfl,mO 2 3 rfl,mO 2 0 rfl,mO 2 1 rfl,mO 3 0 rfl,mO 3 1 rfl,mO 0 1 rfl,kz p,ha,gJ p h1,gJ p h2,kz q,hb,gJ q h1,gJ q h2⟩
def u9 {P:Program}{w:World}{K:Frag}{elts:List Expr}{x1}{pos:Pos}(a b:Addr)(n:Nat):Turn P w K (.Tuple elts x1 pos) (AY K a b) (xM n) (n + 4)
  (λi h=>IsZip h (n + 4) (n + 2) (n + 3) .none/\IsPair h (n + 2) (.ref n) (.ref (n + 1))/\(∃u v,IsPair h (n + 3) u v)/\h.IsTupleIter n a i/\h.IsTupleIter (n + 1) b i/\a≠n + 3/\b≠n + 3) where
 mem:=by simp
 obj:=λi h st c hc=>by
  obtain⟨z1,z2,⟨u,v,z3⟩,⟨o4,z4,_,d4⟩,⟨o5,z5,_,d5⟩,_⟩:=st
  simp only[xM,FY,GN,HE] at hc
  rcases hc with rfl |rfl |rfl |rfl |rfl
  ·exact⟨_,z1,λv z=>by
    have z':Data.fields _=Data.cell v:=z
    cases z'⟩
  ·exact⟨_,z2,λv z=>by
    have z':Data.seq _ _=Data.cell v:=z
    cases z'⟩
  ·exact⟨_,z3,λv z=>by
    have z':Data.seq _ _=Data.cell v:=z
    cases z'⟩
  ·exact⟨o4,z4,λv z=>by rw[d4] at z;cases z⟩
  ·exact⟨o5,z5,λv z=>by rw[d5] at z;cases z⟩
 keep:=λi h h' st k=>by
  obtain⟨z1,z2,⟨u,v,z3⟩,z4,z5,na,nb⟩:=st
  exact⟨k _ (by simp) _ z1,k _ (by simp) _ z2,⟨u,v,k _ (by simp) _ z3⟩,z4.at λo e=>k _ (by simp) o e,z5.at λo e=>k _ (by simp) o e,na,nb⟩
 item:=by
  intro X hP hw hK hc i pins s σ H E I hf st hg
  subst hP hw hK
  obtain⟨xs,ys,x,y,ha,hb,hx,hy⟩:=hg
  obtain⟨its,rv,p,hz⟩:=I.tuple ha
  have p:s.heap.IsTuple a its.toArray:=p
  obtain⟨its2,rv2,p2,hz2⟩:=I.tuple hb
  have p2:s.heap.IsTuple b its2.toArray:=p2
  obtain⟨u,hu,ru⟩:=rv.get hx
  obtain⟨u2,hu2,ru2⟩:=rv2.get hy
  obtain⟨z1,z2,⟨c1,c2,z3⟩,z4,z5,na,nb⟩:=st
  have D:=sI z1 z4 z5 p p2 na nb
  refine EM D z1 z2 z3 z4 z5 p p2 (x:=u) (y:=u2) (by simpa using hu) (by simpa using hu2) λh' q1 q2 q3 q4 q5 q6 q7=>?_
  refine⟨_,rfl,wpAny_letOwnedTupleGo_zip (s:={s with heap:=h'}) q1 λh2 r1 r2=>?_⟩
  have r2:∀c,c≠n + 4->h2.get? c=h'.get? c:=r2.2
  have lz:n + 4 < s.heap.objs.size:=Ga z1
  have hT:H s.heap.objs.size=none:=I.hok.fresh (FX _)
  have hpair:h2.get? s.heap.objs.size=some {cls:=.type "tuple",data:=.seq #[u,u2]}:=(r2 _ (IA lz)).trans q5
  have I1:Inv X pins σ (upd H s.heap.objs.size (.tup [x,y])) {s with heap:=s.heap.push {cls:=.type "tuple",data:=.seq #[u,u2]},toks:=s.toks}:=
   I.laid (λb o e=>FT _ e) (FX _) ⟨by show 2<=sizeLine;rw[Gz];omega,[u,u2],.cons ru (.cons ru2 .nil),mR.new _ _⟩
  have hf':∀c∈xM n,kA X pins (upd H s.heap.objs.size (.tup [x,y])) c:=λc hc=>⟨by
   rw[au (λz=>?_)]
   ·exact (hf c hc).1
   ·subst z
    simp only[xM,FY,GN,HE] at hc
    omega,(hf c hc).2⟩
  have I2:Inv X pins σ (upd H s.heap.objs.size (.tup [x,y])) {s with heap:=h2,toks:=s.toks}:=by
   refine I1.turnedL (ch:=xM n) (λc o hc e=>?_) hf'
   have e:(s.heap.push {cls:=.type "tuple",data:=.seq #[u,u2]}).get? c=some o:=e
   simp only[xM,FY,GN,HE,not_or] at hc
   rw[r2 c hc.1]
   by_cases z:c=s.heap.objs.size
   ·subst z
    rw[Gb _ rfl] at e
    rw[<-e];exact q5
   ·refine q7 c o hc.1 hc.2.2.1 hc.2.2.2.1 hc.2.2.2.2 ?_
    rw[Heap.get?_push_ne _ _ _ z] at e
    exact e
  refine⟨.ref s.heap.objs.size,_,I2,rfl,⟨x,y,_,hT,λxs' h'=>?_,λys' h'=>?_,rfl,rfl⟩,⟨r1,?_,⟨u,u2,?_⟩,?_,?_,na,nb⟩,λc hc=>(hf' c hc).1⟩
  ·rw[I.tuple_inj h' ha];exact hx
  ·rw[I.tuple_inj h' hb];exact hy
  ·exact (r2 _ (mO 2 4 rfl)).trans (q7 _ _ (mO 2 4 rfl) (mO 2 3 rfl) (mO 2 0 rfl) (mO 2 1 rfl) z2)
  ·exact (r2 _ (mO 3 4 rfl)).trans q2
  ·exact q3.at λo e=>(r2 _ (mO 0 4 rfl)).trans e
  ·exact q4.at λo e=>(r2 _ (mO 1 4 rfl)).trans e
 done:=by
  intro X hP hw hK hc i pins s σ H E I hf st hg
  subst hP hw hK
  obtain⟨xs,ys,ha,hb,hl⟩:=hg
  obtain⟨its,rv,p,hz⟩:=I.tuple ha
  have p:s.heap.IsTuple a its.toArray:=p
  obtain⟨its2,rv2,p2,hz2⟩:=I.tuple hb
  have p2:s.heap.IsTuple b its2.toArray:=p2
  obtain⟨z1,z2,⟨c1,c2,z3⟩,z4,z5,na,nb⟩:=st
  have D:=sI z1 z4 z5 p p2 na nb
  have l1:=rv.length
  have l2:=rv2.length
  refine EU (I.ok.hd hc) D z1 z2 z3 z4 z5 p p2 (hl.imp (λh=>by simp;omega) λh=>by simp;omega) λh' q=>⟨rfl,?_⟩
  refine I.turnedL (t':=s.toks) (ch:=xM n) (λc o hc e=>?_) hf
  simp only[xM,FY,GN,HE,not_or] at hc
  exact q c o hc.1 hc.2.2.1 hc.2.2.2.1 hc.2.2.2.2 e
 self:=λ_ _ _ _ _ st h=>wpAny_pyIter_zip st.1 h
def CV (K:Frag)(ta:TA):TI:=λσ H R=>ta σ H λvs H2=>∃a b xs ys,vs= [.ref a,.ref b]/\cP K H2 a xs/\cP K H2 b ys/\R (AY K a b) H2
section
variable {X:Cx}
theorem yn {a b:Expr}{ta:TA}{p pos pt:Pos}{elts:List Expr}{x1}(hg:Gl X "zip")(hm:X.mg "zip"=none)(ha:PA X [a,b] ta)(hs:starEach [a,b] X.env= [(false,eval a X.env),(false,eval b X.env)]:=by rfl)(hs2:starEach [b] X.env= [(false,eval b X.env)]:=by rfl) :
  PI X (.Tuple elts x1 pt) (.Call (.Name "zip" p) [a,b] [] pos) (CV X.K ta):=by
 intro pins s σ H R I h
 refine Call_ (kc I hg hm boot_zip (HG (b7 (ha pos pins s σ H _ I h) λus s1 ⟨vs,H1,I1,r1,q1⟩=>?_) (by rw[hs,hs2]) (by rw[hs2];rfl)))
 obtain⟨a,b,xs,ys,e,h1,h2,q⟩:=q1
 subst e
 cases r1 with
 |cons r rr=>
  cases rr with
  |cons r' rr=>
   cases rr
   cases r
   cases r'
   obtain⟨its,rv,p1,hz⟩:=I1.tuple h1
   obtain⟨its2,rv2,p2,hz2⟩:=I1.tuple h2
   have p1:s1.heap.IsTuple a its.toArray:=p1
   have p2:s1.heap.IsTuple b its2.toArray:=p2
   have ne:∀{c:Addr} {xs:Array Value},s1.heap.IsTuple c xs->c≠s1.heap.objs.size + 3:=λ{c xs} p=>by
    obtain⟨o,e1,_⟩:=p
    have:=Ga e1
    exact Gx (Gu this (Nat.le_add_right _ _))
   refine uk p1 p2 λh' z1 z2 z3 z4 z5 z7=>?_
   refine wpAny_pyIter_zip z1 ⟨_,xM s1.heap.objs.size,_,_,H1,rfl,I1.kept (t':=s1.toks) z7,u9 a b s1.heap.objs.size,⟨z1,z2,⟨_,_,z3⟩,z4,z5,ne p1,ne p2⟩,λc hc=>?_,q⟩
   have:s1.heap.objs.size<=c:=by
    simp only[xM,FY,GN,HE] at hc
    rcases hc with rfl |rfl |rfl |rfl |rfl <;> first |exact FX _ |exact Nat.le_add_right _ _
   exact I1.fpOk this (I1.hok.fresh this)
end
section
variable {X:Cx}{Γ:Fx}{E:XK}{e a b c:Expr}{f fa fb:VF D}{L La Lb:List Nat}{md ma mb:Md}{pos:Pos}
def zY (fa fb:VF D):VF (List D):=λvs β=>(fa vs β).bnd λx β1=>(fb vs β1).bnd λy β2=>match x,y with
 | .tuple ds,.tuple es=>.ok (xF ds es) β2
 |_,_=>.bad
def uZ {K:Frag}{B:Option Addr}{G H1:Hp}{p q:Addr}{xs ys:List V}{ds es:List D}(hp:cP K G p xs)(hq:cP K G q ys)(r:cv K G xs ds)(r':cv K G ys es):Walk K B G H1 (xF ds es) (AY K p q):=λGc H i s1 s2 m=>by
 have hp':=hp.grow (s1.trans s2).grow
 have hq':=hq.grow (s1.trans s2).grow
 have l1:=r.len
 have l2:=r'.len
 have lz:(xF ds es).length=min ds.length es.length:=by unfold xF;rw[List.length_zipWith]
 refine⟨λhi=>⟨?_,λx H' y=>?_⟩,λhi=>⟨xs,ys,hp',hq',?_⟩⟩
 ·have h1:i < xs.length:=by omega
  have h2:i < ys.length:=by omega
  exact⟨xs,ys,xs[i],ys[i],hp',hq',by simp[h1],by simp[h2]⟩
 ·obtain⟨x,y,t,ht,hx,hy,rfl,rfl⟩:=y
  obtain⟨d,ed,rd⟩:=r.at' (hx xs hp')
  obtain⟨d2,ed2,rd2⟩:=r'.at' (hy ys hq')
  have xn:=Ext.new s2 (o:=.tup [x,y]) ht
  refine⟨upd Gc t (.tup [x,y]),.tuple [d,d2],xn,?_,.tup (.inl (.inl av)) (.cons (rd.mono (s1.trans xn.gg)) (.cons (rd2.mono (s1.trans xn.gg)) .nil))⟩
  unfold xF
  rw[List.getElem?_zipWith,ed,ed2]
 ·omega
def ym {p pt:Pos}{elts:List Expr}{x1}(hK:X.K=Γ.K)(hg:Gl X "zip")(hm:X.mg "zip"=none)(ha:SE X Γ E a fa La ma)(hb:SE X Γ E b fb Lb mb)(hs:starEach [a,b] X.env= [(false,eval a X.env),(false,eval b X.env)]:=by rfl)(hs2:starEach [b] X.env= [(false,eval b X.env)]:=by rfl)(hs':starEach [a,b] X.env=(false,eval a X.env) :: starEach [b] X.env:=by rfl)(hs3:starEach [b] X.env=(false,eval b X.env) :: starEach [] X.env:=by rfl) :
  SI X Γ E (.Tuple elts x1 pt) (.Call (.Name "zip" p) [a,b] [] pos) (zY fa fb) (La ++ Lb) md:=by
 refine PI.post (yn hg hm (aN ha (aN hb bK hs3) hs') hs hs2) λσ H Q ⟨env,G,B,β,I,o⟩=>?_
 refine⟨env,G,B,β,I,o.bnd.imp λd1 β1 h x G1 H1 I1 s1 m1 vx=>⟨aX La env,G1,B,β1,I1,?_⟩⟩
 rw[iQ]
 refine h.bnd.imp λd2 β2 h y G2 H2 I2 s2 m2 vy=>?_
 have bx:=(vx.brw I.boxThere).mono s2 m2
 have by':=vy.brw I1.boxThere
 obtain⟨ds,es,rfl,rfl⟩:∃ds es,d1=.tuple ds/\d2=.tuple es:=by
  cases d1 <;> cases d2 <;> first |exact h.elim |exact⟨_,_,rfl,rfl⟩
 rcases bx with bx | ⟨_,_,_,q⟩
 rotate_left
 ·exact q.elim
 rcases by' with by' | ⟨_,_,_,q⟩
 rotate_left
 ·exact q.elim
 obtain⟨p,xs,rfl,hp,r⟩:∃p xs,x=.ref p/\cP Γ.K G2 p xs/\cv Γ.K G2 xs ds:=by
  cases bx with
  |tup h1 h2=>exact⟨_,_,rfl,h1,h2⟩
 obtain⟨q,ys,rfl,hq,r'⟩:∃p xs,y=.ref p/\cP Γ.K G2 p xs/\cv Γ.K G2 xs es:=by
  cases by' with
  |tup h1 h2=>exact⟨_,_,rfl,h1,h2⟩
 rw[hK]
 exact⟨p,q,xs,ys,rfl,hp.grow I2.sub.grow,hq.grow I2.sub.grow,h _ G2 H2 (by rw[cJ];exact I2) (s1.trans s2) (m1.trans m2) (uZ hp hq r r')⟩
def yB (f0:VF D)(F:List D->Int->FB):VF D:=λvs β=>(f0 vs β).bnd λd0 β1=>match xa d0 with
 |some z=>(match F [] z with
  | .ok d _ _=>.ok d β1
  | .bad=>.bad)
 |none=>.bad
theorem Ah {x:Str}{ps:List Str}{k:Nat}{F:List D->Int->FB}{p:Pos}(hf:uj X.prog X.w X.K X.mg X.base x ps k F)(hr:eJ k X.A)(hx:Passes (kM X.prog X.w) X E)(hK:X.K=Γ.K)(hg:Gl X x)(h0:SE X Γ E a fa La .w)(hdb:(x == ("__debug__":Str))=false:=by decide)
  (he:starEach [a] X.env=(false,eval a X.env) :: starEach [] X.env:=by rfl) (hpl:(backTo pos (starEach [] X.env)).any (·.1)=false:=by rfl):SE X Γ E (.Call (.Name x p) [a] [] pos) (yB fa F) La .v:=by
 obtain⟨f,fd,hm,hk,hb,hF⟩:=hf.ex
 refine PE.post' (jU (dvs:=[]) hF hr hg hm hk hb .nil hx (aN h0 bK he) hdb he hpl) λσ H Q ⟨env,G,B,β,I,o⟩=>?_
 show pT Γ E fa La .w σ H λx H1=>BG X.K (ps.length - 1) F ([x] ++ []) H1 Q E
 refine⟨env,G,B,β,I,o.bnd.imp λd0 β1 h x G1 H1 I1 s1 m1 vx=>?_⟩
 obtain⟨c,rfl,c1,c2,c3⟩:=vx
 cases q:xa d0 with
 |none=>rw[q] at h;exact h.elim
 |some z=>
  rw[q] at h
  obtain rfl:=yT q
  obtain⟨xs,c3,rx⟩:=c3
  obtain⟨q1,q2,q3,q4⟩:=I.fresh c1
  have hx2:H1 c=some (.lst [.int z]):=by
   cases rx with
   |cons r1 r2=>
    cases r1
    cases r2
    exact c3
  refine⟨c,[],G1,[],z,rfl,hx2,c2,I1.sub,hf.len [] z λy=>?_,.nil,?_⟩
  ·dsimp only at h;rw[y] at h;exact h
  cases qF:F [] z with
  |bad=>dsimp only at h;rw[qF] at h;exact h
  |ok d fr' β2=>
   dsimp only at h
   rw[qF] at h
   intro v G' H' hh hb' hg' hs hn fv
   have I2:SR Γ B G' H' σ (aX La env) β1:=by
    refine⟨hs,I1.old.trans hg',λb n1 n2=>hn b (I1.thereM n1) (I1.new b n1 n2),λb o e np=>lY (I1.keep b o e np) hh λz=>?_,λb hb=>?_,I1.fix,λb e=>?_,I1.len,λi t e=>?_,I1.sep⟩
    ·cases z;rw[q1] at e;cases e
    ·by_cases z:c=b
     ·subst z;exact Mx.lst hb'
     ·exact (I1.pin b hb).same λo qq=>hh.1 b o qq λy=>z (Option.some.inj y)
    ·obtain⟨b1,b2,b3⟩:=I1.box b e
     have bc:b≠c:=λz=>q3 (by rw[<-z];exact e)
     exact⟨hh.1 b _ b1 λy=>bc (Option.some.inj y).symm,hn b (Mx.lst b1) b2,b3⟩
    ·have w:=I1.slot i t e
     cases t with
     |no=>trivial
     |fz d=>obtain⟨v,h1,h2⟩:=w;exact⟨v,h1,h2.mono hg'⟩
     |ow d=>
      obtain⟨a',h1,h2,h3,h4,h5⟩:=w
      have ac:a'≠c:=λz=>q4 i d (lF e) (by rw[<-z];exact h1)
      exact⟨a',h1,h2,hn a' h5.mx h3,h4,h5.mono hg' λo q=>hh.1 a' o q λy=>ac (Option.some.inj y).symm⟩
     |bx=>exact w
     |br d=>
      obtain⟨b1,a',h1,h4,hpp,h5⟩:=w
      have e0:env[i]? =some (.br d):=Az e
      obtain⟨_,a2,g1,_,_,g5⟩:=I.slot i _ e0
      rw[h1] at g1;cases g1
      obtain⟨o,ho⟩:=g5.obj
      have ac:a'≠c:=az ho c1
      exact⟨b1,a',h1,h4,hpp,h5.mono hg' λo q=>hh.1 a' o q λy=>ac (Option.some.inj y).symm⟩
   have m2:fE B H H':=⟨λb o e nb=>lY (m1.1 b o e nb) hh λy=>(by cases y;rw[c1] at e;cases e),λb o u e=>hh.2 b o u (m1.2 b o u e)⟩
   cases fr' with
   |true=>
    obtain⟨c',rfl,p1,p2,p3⟩:∃a,v=.ref a/\H1 a=none/\G' a=none/\Own X.K G' H' a d:=fv
    rw[hK] at p3
    obtain⟨w1,w2,w3,w4⟩:=I1.fresh p1
    obtain⟨G3,I3,s3,r3⟩:=I2.letIn w1 p2 w3 w4 p3
    exact h _ G3 H' I3 ((s1.trans hg').trans s3) m2 r3
   |false=>
    have fv:Rp X.K G' v d:=fv
    rw[hK] at fv
    exact h _ G' H' I2 (s1.trans hg') m2 fv
end
end L2
namespace RM
open PySem L2
def iB:SF:=(aC (jj 2 [] (fF aw))
 (aC (dv (.nm 3) [0] (eI (gv 0))
 (Av 2 ([] ++ []) (bu 1 [3] (.nm 0) (eT (gv 1)) pk (f2 (gv 1) (aZ (aa (gv 0) aw)) sH))))
 (qN 2)))
def tR (bZ:List D->FR):SF:=(aC (cg 1 ([] ++ []) (fF (aa (aZ aw) aw)))
 (aC (dv (.nm 2) [0] (eI (gv 0))
 (cg 1 ([1] ++ ([2] ++ [])) (aE bZ (aa (gv 1) (aa (gv 2) aw)))))
 (qN 1)))
def kK (aL bY:List D->FR):SF:=(aC (gr ([] ++ []) (ju (oG (nk (f1 (gv 0) (gp "tuple")))) (oG (eV (eN (cst (.int 1)) (f1 (gv 0) c7) (cst (.int 3)) p6 p6))))
 (bH (cst (.bool false)))
 iq)
 (bH (gc (f1 (bu 1 [] (.nm 0) (eI (gv 0)) pk (aE aL (aa (gv 0) aw))) (dF λbs=>bs.all id)) (f2 (f1 (aE bY (aa (gv 0) aw)) c7) (cst (.int 8)) p6))))
def iZ (aL bB:List D->FR):SF:=(aC (gr ([] ++ ([] ++ [])) (ju (oG (nk (f1 (gv 0) (gp "tuple")))) (oG (nk (aE aL (aa (f1 (gv 0) c7) aw)))))
 (bH (cst (.bool false)))
 iq)
 (bH (f1 (bu 2 [0] (.two 0 1) (qt (gv 0)) pk (D9 (f1 (gv 1) λd=>some (.bool (mM d))) (gc (aE bB (aa (gv 1) (aa (f1 (gv 2) c7) aw))) (f2 (gv 1) (gv 0) B6)))) (dF λbs=>bs.all id))))
def i5 (aU c5 aL fu:List D->FR):SF:=(aC (gr ([] ++ ([] ++ [])) (ju (oG (nk (f1 (gv 0) (gp "tuple")))) (eV (f2 (f1 (gv 0) c7) (cst (.int 2)) (fG true))))
 (bH (cst (.bool false)))
 iq)
 (aC (gr (([] ++ []) ++ []) (eV (f2 (f2 (gv 0) (cst (.int 0)) eY) (cst (.str "crown")) (fG false)))
 (bH (gc (aE aU (aa (f2 (gv 0) (cst (.int 1)) eY) aw)) (eN (cst (.int 2)) (f2 (gv 0) (cst (.int 1)) eY) (f2 (cst (.int 8)) (cst (.int 2)) Ac) p6 p6)))
 iq)
 (aC (gr (([] ++ []) ++ []) (eV (f2 (f2 (gv 0) (cst (.int 0)) eY) (cst (.str "grid")) (fG false)))
 (bH (aE c5 (aa (f2 (gv 0) (cst (.int 1)) eY) aw)))
 iq)
 (aC (gr (([] ++ []) ++ []) (eV (f2 (f2 (gv 0) (cst (.int 0)) eY) (cst (.str "fence")) (fG false)))
 (bH (aE aL (aa (f2 (gv 0) (cst (.int 1)) eY) aw)))
 iq)
 (bH (gc (f2 (f2 (gv 0) (cst (.int 0)) eY) (cst (.str "bush")) (fG false)) (aE fu (aa (f2 (gv 0) (cst (.int 1)) eY) aw))))))))
def fO (fx:List D->FR):SF:=(gr ([0] ++ []) (oG (nk (aE fx (aa (gv 0) aw))))
 (λenv β=>toS ((aa (cst (.str "this is no kind of orders")) aw) (vl env) β) λds _=>if ds.length<=sizeLine then .exc "NoKind" else .bad)
 iq)
def fq:SF:=(iu (bu 2 [] (.two 0 1) (qt (gv 0)) (tN (gv 1) true) (aZ (aa (gv 0) (aa (gv 1) aw)))))
def ji (aG:List D->FR):SF:=(iu (bu 2 [0] (.two 0 1) (eI (aE aG (aa (gv 0) aw))) (eV (f2 (gv 0) (gv 1) (fG true))) (aZ (aa (gv 0) (aa (f2 (gv 2) (gv 1) b4) aw)))))
def kI:SF:=(bH (f1 (bu 2 [] (.two 0 1) (zY (gv 0) (gv 1)) pk (f2 (gv 0) (gv 1) p6)) (dF λbs=>bs.all id)))
def jN (bY aG cY:List D->FR):SF:=(aC (cg 1 ([0] ++ []) (aE bY (aa (gv 0) aw)))
 (iu (bu 2 [1] (.two 0 1) (eI (aE aG (aa (f1 (gv 1) c7) aw))) (zI (eV (f2 (gv 0) (gv 1) (fG true))) (nk (aE cY (aa (f2 (gv 2) (gv 0) eY) (aa (f2 (gv 2) (gv 1) eY) aw))))) (aZ (aa (gv 0) (aa (gv 1) aw))))))
def jl (aG:List D->FR):SF:=(iu (bu 2 [] (.two 0 1) (eI (aE aG (aa (gv 0) aw))) (zI (eV (f2 (f2 (gv 0) (cst (.int 2)) gx) (cst (.int 0)) (fG false))) (eV (f2 (f1 (f2 (gv 0) (gv 1) kP) CC) (cst (.int 1)) (fG false)))) (aZ (aa (gv 0) (aa (gv 1) aw)))))
def bF (cZ b9 cq bY cK cp cF:List D->FR):SF:=(aC (pE ([0] ++ []) (aE cZ (aa (gv 0) aw)))
 (aC (gr (([] ++ []) ++ []) (eV (f2 (f2 (gv 0) (cst (.int 0)) eY) (cst (.str "crown")) (fG false)))
 (bH (aE b9 (aa (f2 (cst (.int 2)) (f2 (gv 0) (cst (.int 1)) eY) cj) (aa (aE cq (aa (f2 (gv 0) (cst (.int 1)) eY) aw)) aw))))
 iq)
 (aC (gr (([] ++ []) ++ []) (eV (f2 (f2 (gv 0) (cst (.int 0)) eY) (cst (.str "grid")) (fG false)))
 (bH (aE b9 (aa (f1 (aE bY (aa (f2 (gv 0) (cst (.int 1)) eY) aw)) c7) (aa (aE cK (aa (f2 (gv 0) (cst (.int 1)) eY) aw)) aw))))
 iq)
 (aC (gr (([] ++ []) ++ []) (eV (f2 (f2 (gv 0) (cst (.int 0)) eY) (cst (.str "fence")) (fG false)))
 (bH (aE b9 (aa (f2 (gv 0) (cst (.int 1)) eY) (aa (aE cp (aa (f2 (gv 0) (cst (.int 1)) eY) aw)) aw))))
 iq)
 (bH (aE b9 (aa (f1 (f2 (gv 0) (cst (.int 1)) eY) c7) (aa (aE cF (aa (f2 (gv 0) (cst (.int 1)) eY) aw)) aw))))))))
noncomputable def cG:SF:=(aC (cg 2 [] (f1 (gv 1) fA))
 (aC (dv (.nm 3) [] (eT (gv 0))
 (aC (cg 4 [] (fF aw))
 (aC (dv (.two 5 6) [2] (eI (gv 2))
 (cg 4 ([] ++ ([] ++ [5])) (f2 (gv 4) (bu 2 [6,5] (.two 0 1) (eI (gv 2)) (eV (f2 (gv 0) (gv 2) (fG false))) (aZ (aa (gv 3) (aa (gv 1) aw)))) oJ)))
 (cg 2 ([] ++ []) (f1 (f2 (gv 2) (gv 4) oJ) fA)))))
 (bH (f1 (gv 2) kg))))
def eG (a8:List D->Int->FB):SF:=(aC (cg 1 ([] ++ []) (td 0 a8 (aa (cst (.int 4)) aw)))
 (aC (gr ([] ++ []) (eV (f2 (gv 1) (cst (.int 0)) (fG false)))
 (bH (aZ (aa (cst (.str "crown")) (aa (f2 (cst (.int 2)) (td 0 a8 (aa (cst (.int 3)) aw)) b4) aw))))
 iq)
 (aC (gr ([] ++ []) (eV (f2 (gv 1) (cst (.int 1)) (fG false)))
 (aC (cg 2 [] (fF (aa (aZ (aa (cst (.int 1)) aw)) (aa (aZ (aa (cst (.int 8)) aw)) (aa (aZ (aa (cst (.int 2)) (aa (cst (.int 2)) aw))) (aa (aZ (aa (cst (.int 2)) (aa (cst (.int 3)) aw))) (aa (aZ (aa (cst (.int 3)) (aa (cst (.int 2)) aw))) (aa (aZ (aa (cst (.int 2)) (aa (cst (.int 4)) aw))) (aa (aZ (aa (cst (.int 4)) (aa (cst (.int 2)) aw))) (aa (aZ (aa (cst (.int 1)) (aa (cst (.int 7)) aw))) (aa (aZ (aa (cst (.int 2)) (aa (cst (.int 2)) (aa (cst (.int 2)) aw)))) (aa (aZ (aa (cst (.int 1)) (aa (cst (.int 2)) (aa (cst (.int 3)) aw)))) (aa (aZ (aa (cst (.int 2)) (aa (cst (.int 1)) (aa (cst (.int 2)) aw)))) (aa (aZ (aa (cst (.int 1)) (aa (cst (.int 1)) (aa (cst (.int 1)) aw)))) aw))))))))))))))
 (bH (aZ (aa (cst (.str "grid")) (aa (f2 (gv 2) (td 0 a8 (aa (cst (.int 12)) aw)) eY) aw)))))
 iq)
 (aC (gr ([] ++ []) (eV (f2 (gv 1) (cst (.int 2)) (fG false)))
 (bH (aZ (aa (cst (.str "fence")) (aa (f2 (cst (.int 1)) (td 0 a8 (aa (cst (.int 8)) aw)) b4) aw))))
 iq)
 (aC (jj 3 [] (fF aw))
 (aC (cg 4 ([] ++ ([] ++ [])) (f2 (cst (.int 1)) (td 0 a8 (aa (cst (.int 8)) aw)) b4))
 (aC (dv (.nm 5) [] (eT (gv 4))
 (aC (cg 6 [] (cst .none))
 (aC (gr ((([] ++ []) ++ []) ++ (([] ++ []) ++ [])) (zI (eV (f2 (f2 (gv 5) (cst (.int 1)) b4) (gv 4) xT)) (eV (f2 (td 0 a8 (aa (cst (.int 4)) aw)) (cst (.int 0)) B6)))
 (cg 6 (([] ++ []) ++ ((([] ++ []) ++ []) ++ [])) (f2 (f2 (gv 5) (cst (.int 1)) b4) (td 0 a8 (aa (f2 (f2 (gv 4) (cst (.int 1)) kP) (gv 5) kP) aw)) b4))
 iq)
 (oo 3 [6] (gv 6)))))
 (bH (aZ (aa (cst (.str "bush")) (aa (f1 (gv 3) kg) aw)))))))))))
def iM:SF:=(aC (cg 1 [] (fF aw))
 (aC (dv (.nm 2) [] (eT (gv 0))
 (cg 1 ([] ++ ([] ++ [2])) (f2 (gv 1) (bu 1 [2] (.nm 0) (eT (gv 0)) pk (aZ (aa (gv 1) (aa (gv 0) aw)))) oJ)))
 (qN 1)))
noncomputable def bw (bt cn:List D->FR):SF:=(aC (sQ (.two 1 2) [0] (gv 0))
 (aC (gr ([] ++ []) (eV (f2 (gv 1) (cst (.str "crown")) (fG false)))
 (bH (aZ (aa (f2 (cst (.int 2)) (gv 2) cj) (aa (f1 (bu 2 [2] (.two 0 1) (eI (aE bt (aa (gv 2) aw))) (eV (f2 (gv 0) (gv 1) (fG true))) (aZ (aa (gv 0) (aa (f2 (gv 2) (gv 1) b4) aw)))) kg) aw))))
 iq)
 (aC (gr ([] ++ []) (eV (f2 (gv 1) (cst (.str "fence")) (fG false)))
 (aC (jj 3 [] (fF aw))
 (aC (dv (.two 4 5) ([2] ++ []) (eI (aE bt (aa (gv 2) aw)))
 (gr ((([] ++ []) ++ []) ++ (([] ++ ([] ++ [])) ++ ([] ++ ([] ++ [])))) (zI (eV (f2 (f2 (gv 4) (cst (.int 2)) gx) (cst (.int 0)) (fG false))) (ju (eV (f2 (gv 5) (f2 (gv 4) (cst (.int 1)) b4) (fG false))) (eV (f2 (gv 5) (f2 (gv 4) (cst (.int 1)) kP) (fG false)))))
 (oo 3 ([4] ++ ([5] ++ [])) (aZ (aa (gv 4) (aa (gv 5) aw))))
 iq))
 (bH (aZ (aa (gv 2) (aa (f1 (f1 (gv 3) mf) kg) aw))))))
 iq)
 (aC (gr ([] ++ []) (eV (f2 (gv 1) (cst (.str "bush")) (fG false)))
 (aC (jj 3 ([] ++ []) (bu 1 [2] (.nm 0) (eT (f1 (gv 2) c7)) (tN (f2 (gv 1) (gv 0) eY) true) (aZ (aa (gv 0) (aa (f2 (gv 1) (gv 0) eY) aw)))))
 (bH (aZ (aa (f1 (gv 2) c7) (aa (aE cn (aa (f1 (gv 2) c7) (aa (gv 3) aw))) aw)))))
 iq)
 (aC (cg 6 ([] ++ []) (fF (aa (aZ aw) aw)))
 (aC (dv (.nm 7) [2] (eI (gv 2))
 (aC (cg 8 [] (fF aw))
 (aC (dv (.nm 9) [6] (eI (gv 6))
 (cg 8 ([] ++ ([] ++ [])) (f2 (gv 8) (bu 1 [9] (.nm 0) (eT (gv 7)) pk (f2 (gv 1) (aZ (aa (gv 0) aw)) sH)) oJ)))
 (cg 6 [8] (gv 8)))))
 (aC (jj 3 [] (fF aw))
 (aC (dv (.two 4 5) ([] ++ []) (eI (aE bt (aa (f1 (gv 6) c7) aw)))
 (aC (cg 10 ([] ++ []) (bu 1 [6,4,5] (.nm 0) (eT (f1 (gv 2) c7)) (eV (f2 (f2 (f2 (gv 1) (gv 2) eY) (gv 0) eY) (f2 (f2 (gv 1) (gv 3) eY) (gv 0) eY) B6)) (gv 0)))
 (gr (([] ++ []) ++ ([] ++ [])) (zI (eV (f2 (gv 4) (gv 5) (fG true))) (eV (f2 (gv 10) (fF aw) (fG false))))
 (oo 3 ([4] ++ ([5] ++ [])) (aZ (aa (gv 4) (aa (gv 5) aw))))
 iq)))
 (bH (aZ (aa (f1 (gv 6) c7) (aa (f1 (gv 3) kg) aw))))))))))))
def ua (dH cC bz bR:List D->FR)(cX:List D->Int->FB):SF:=(aC (dv (.nm 1) ([] ++ ([] ++ [])) (eT (f2 (cst (.int 1)) (f2 (f1 (gv 0) c7) (cst (.int 4)) (qY λi j=>.int (if j < i then j else i))) (qY λi j=>.int (if j > i then j else i))))
 (aC (cg 2 ([0] ++ ([1] ++ [])) (yB (nN dH (aa (gv 0) (aa (gv 1) aw))) cX))
 (aC (cg 3 ([2] ++ []) (aE cC (aa (gv 2) aw)))
 (aC (cg 4 ([2] ++ []) (aE bz (aa (gv 2) aw)))
 (aC (gr ([] ++ (([] ++ []) ++ ((([] ++ []) ++ []) ++ ([] ++ [])))) (ju (oG (nk (f1 (gv 3) (gp "tuple")))) (ju (eV (f2 (f1 (gv 3) c7) (cst (.int 2)) (fG true))) (ju (oG (nk (aE bR (aa (f2 (gv 3) (cst (.int 0)) eY) aw)))) (eV (f2 (gv 3) (gv 4) (fG true))))))
 (bH (cst (.bool false)))
 iq)
 (aC (gr (([] ++ []) ++ (([] ++ []) ++ [])) (ju (oG (nk (f1 (f2 (gv 3) (cst (.int 1)) eY) (gp "tuple")))) (oG (nk (f1 (bu 1 [] (.nm 0) (eI (f2 (gv 3) (cst (.int 1)) eY)) pk (f1 (gv 0) (gp "tuple"))) (dF λbs=>bs.all id)))))
 (bH (cst (.bool false)))
 iq)
 (aC (dv (.two 5 6) ([] ++ []) (eI (f2 (gv 3) (cst (.int 1)) eY))
 (gr (([5] ++ []) ++ ([6] ++ [])) (ju (oG (nk (aE bR (aa (gv 5) aw)))) (oG (nk (aE bR (aa (gv 6) aw)))))
 (bH (cst (.bool false)))
 iq))
 (gr (([2] ++ []) ++ []) (eV (f2 (aE cC (aa (gv 2) aw)) (gv 4) (fG true)))
 (bH (cst (.bool false)))
 iq))))))))
 (bH (cst (.bool true))))
end RM
namespace RQ
open PySem L2 RM
def top (i:Nat):Stmt:=PySem.Challenge.pw_rowsorder_k52_orders_of_kinds.main.body.getD i (.Pass ⟨0,0,0,0⟩)
section
variable {P:Program}{w:World}{K:Frag}{mg:Str->Option Value}{base:Heap}{ca:Str->Addr}
abbrev gN:Stmt:=top 2
def pL:aH ["thing"] ["thing"] (ar gN):=⟨rfl,rfl,rfl,by decide +kernel,rfl,by decide +kernel,by decide +kernel⟩
def oK {f:Addr}{fd:FuncData}(F:i9 K mg "is_whole" gN ["thing"] f fd)(B:jr mg):cO P w K mg base ca "is_whole" ["thing"] 1 (bo 1 1 (l0)):=
 ⟨⟨f,fd,F.mg,F.F.kp,F.b,aW (N:=["thing"]) (k:=0) F.F pL λcdv A outer s H G E hr=>
  (ax (aO (gX (eQ "int" (by decide) rfl rfl B.isinstance rfl B.int (by decide +kernel) (af 0)) (gf (vL (eQ "bool" (by decide) rfl rfl B.isinstance rfl B.bool (by decide +kernel) (af 0)))) (λ_ _=>rfl))))⟩,λds h=>aM ds h⟩
abbrev hX:Stmt:=top 3
def ql:aH ["thing","bound"] ["thing","bound"] (ar hX):=⟨rfl,rfl,rfl,by decide +kernel,rfl,by decide +kernel,by decide +kernel⟩
def oV {f:Addr}{fd:FuncData}{aU:List D->FR}(F:i9 K mg "is_below" hX ["thing","bound"] f fd)(B:jr mg)(cf:cO P w K mg base ca "is_whole" ["thing"] 1 aU):cO P w K mg base ca "is_below" ["thing","bound"] 2 (bo 2 2 (lH aU)):=
 ⟨⟨f,fd,F.mg,F.F.kp,F.b,aW (N:=["thing","bound"]) (k:=1) F.F ql λcdv A outer s H G E hr=>
  (ax (aO (gX (aA cf (hr.mono (by decide)) aQ rfl rfl (ae (aB 0 rfl) ag)) (gf (mr jV wM oB A5 ak (af 0) (af 1))) (λ_ _=>rfl))))⟩,λds h=>aM ds h⟩
abbrev iV:Stmt:=top 4
def rA:aH ["thing"] ["thing"] (ar iV):=⟨rfl,rfl,rfl,by decide +kernel,rfl,by decide +kernel,by decide +kernel⟩
def qw {f:Addr}{fd:FuncData}{aU:List D->FR}(F:i9 K mg "is_many" iV ["thing"] f fd)(B:jr mg)(cf:cO P w K mg base ca "is_whole" ["thing"] 1 aU){cN:Tok}(bh:mg "MOST_THINGS"=some (.int 8 cN)):cO P w K mg base ca "is_many" ["thing"] 2 (bo 1 1 (nD aU)):=
 ⟨⟨f,fd,F.mg,F.F.kp,F.b,aW (N:=["thing"]) (k:=1) F.F rA λcdv A outer s H G E hr=>
  (ax (aO (gX (aA cf (hr.mono (by decide)) aQ rfl rfl (ae (aB 0 rfl) ag)) (gf (mr jV jV oB oB ak (af 0) (n6 (by rfl) bh))) (λ_ _=>rfl))))⟩,λds h=>aM ds h⟩
abbrev iW:Stmt:=top 5
def rO:aH ["thing","many"] ["thing","many"] (ar iW):=⟨rfl,rfl,rfl,by decide +kernel,rfl,by decide +kernel,by decide +kernel⟩
def qr {f:Addr}{fd:FuncData}{bB:List D->FR}(F:i9 K mg "is_pair" iW ["thing","many"] f fd)(B:jr mg)(cV:cO P w K mg base ca "is_below" ["thing","bound"] 2 bB):cO P w K mg base ca "is_pair" ["thing","many"] 3 (bo 2 2 (nJ bB)):=
 ⟨⟨f,fd,F.mg,F.F.kp,F.b,aW (N:=["thing","many"]) (k:=2) F.F rO λcdv A outer s H G E hr=>
  (aq (bV (mG.t (iI (cL (cD rfl (eQ "tuple" (by decide) rfl rfl B.isinstance rfl B.tuple (by decide +kernel) (af 0)))) (hZ (aV (gV hr.units) cU (aJ bf dr rfl B.len GK (af 0)) ak (aK _))) (λ_ _=>rfl)))
  (ax (aO ja))
  aY)
  (ax (aO (gX (aA cV (hr.mono (by decide)) aQ rfl rfl (ae (bg aP cz (af 0) ak (λ_ _=>rfl)) (ae (aB 1 rfl) ag))) (gf (aA cV (hr.mono (by decide)) aQ rfl rfl (ae (bg aP cz (af 0) ak (λ_ _=>rfl)) (ae (aB 1 rfl) ag)))) (λ_ _=>rfl)))))⟩,λds h=>aM ds h⟩
abbrev dk:Stmt:=top 6
def mU:aH ["many"] ["many"] (ar dk):=⟨rfl,rfl,rfl,by decide +kernel,rfl,by decide +kernel,by decide +kernel⟩
def l8 {f:Addr}{fd:FuncData}(F:i9 K mg "every_pair" dk ["many"] f fd)(B:jr mg):cO P w K mg base ca "every_pair" ["many"] 1 (bo 1 1 (jO)):=
 ⟨⟨f,fd,F.mg,F.F.kp,F.b,aW (N:=["many"]) (k:=0) F.F mU λcdv A outer s H G E hr=>
  (ax (ic (bX (NB:=["number","many"]) (own:=1) (ixs:=[0]) [] rfl (cu (by kernel_rfl)) (λ_ _=>rfl) (iD rfl B.range (aS gi h9 (af 0) (af 0))) (λH0 G0 par br bx C ex s3 H3 pn=>(dz (i:=0) (show (["number","many"]:List Str).Nodup by decide +kernel))) (λH0 G0 par br bx C ex s3 H3 pn hB1=>dP) (λH0 G0 par br bx C ex s3 H3 pn hB1=>(bC (ae (aS kY By (af 0) (af 1)) (ae (aS gY kC (af 0) (af 1)) ag)))))))⟩,λds h=>aM ds h⟩
abbrev hJ:Stmt:=top 16
def qM:aH ["pairs"] ["pairs"] (ar hJ):=⟨rfl,rfl,rfl,by decide +kernel,rfl,by decide +kernel,by decide +kernel⟩
def oq {f:Addr}{fd:FuncData}(F:i9 K mg "has_ring" hJ ["pairs"] f fd)(B:jr mg):cO P w K mg base ca "has_ring" ["pairs"] 1 (bo 1 1 (mB)):=
 ⟨⟨f,fd,F.mg,F.F.kp,F.b,aW (N:=["pairs"]) (k:=0) F.F qM λcdv A outer s H G E hr=>
  (ax (aO (aJ (wF rfl) iX rfl B.any (by decide +kernel) (bX (NB:=["a","b"]) (own:=2) (ixs:=[]) [] rfl (cu (by kernel_rfl)) (λ_ _=>rfl) (oi rfl (af 0)) (λH0 G0 par br bx C ex s3 H3 pn=>(dg (i:=0) (j:=1) (show (["a","b"]:List Str).Nodup by decide +kernel))) (λH0 G0 par br bx C ex s3 H3 pn hB1=>dP) (λH0 G0 par br bx C ex s3 H3 pn hB1=>(ly (bL hr.units) cU (af 0) (af 1) (aK _)))))))⟩,λds h=>aM ds h⟩
abbrev gZ:Stmt:=top 14
def kL:aH ["many","pairs","whole"] ["many","pairs"] (ar gZ):=⟨rfl,rfl,rfl,by decide +kernel,rfl,by decide +kernel,by decide +kernel⟩
def pj {f:Addr}{fd:FuncData}{aL fw gF dC:List D->FR}(F:i9 K mg "order_of" gZ ["many","pairs"] f fd)(B:jr mg)(bN:cO P w K mg base ca "is_many" ["thing"] 2 aL)(kf:cO P w K mg base ca "is_pair" ["thing","many"] 3 fw)(l5:cO P w K mg base ca "closed" ["many","pairs"] 3 gF)(js:cO P w K mg base ca "has_ring" ["pairs"] 1 dC)(iO:Exc K mg ca "NoMany")(gL:Exc K mg ca "NoPairs")(lZ:Exc K mg ca "Ring"):cO P w K mg base ca "order_of" ["many","pairs"] 4 (bo 3 2 (hV aL fw gF dC)):=
 ⟨⟨f,fd,F.mg,F.F.kp,F.b,aW (N:=["many","pairs","whole"]) (k:=3) F.F kL λcdv A outer s H G E hr=>
  (aq (bV (cL (cD rfl (aA bN (hr.mono (by decide)) aQ rfl rfl (ae (aB 0 rfl) ag))))
  (ax (jD iO.ex iO.ca rfl iO.mg (ae cc ag)))
  aY)
  (aq (bV (mG.t (iI (cL (cD rfl (eQ "list" (by decide) rfl rfl B.isinstance rfl B.list (by decide +kernel) (af 1)))) (hZ (cL (cD rfl (aJ (iE rfl) iX rfl B.all (by decide +kernel) (bX (NB:=["pair","many"]) (own:=1) (ixs:=[0]) [0] rfl (cu (by kernel_rfl)) (λ_ _=>rfl) (oi rfl (af 1)) (λH0 G0 par br bx C ex s3 H3 pn=>(dz (i:=0) (show (["pair","many"]:List Str).Nodup by decide +kernel))) (λH0 G0 par br bx C ex s3 H3 pn hB1=>dP) (λH0 G0 par br bx C ex s3 H3 pn hB1=>(aA kf (hr.mono (by decide)) tM rfl rfl (ae (aB 0 (hB1 0 (by decide))) (ae (aB 1 (hB1 1 (by decide))) ag))))))))) (λ_ _=>rfl)))
  (ax (jD gL.ex gL.ca rfl gL.mg (ae cc ag)))
  aY)
  (aq (ba (i:=2) (aA l5 (hr.mono (by decide)) aQ rfl rfl (ae (aB 0 rfl) (ae (aB 1 rfl) ag))) kL.nd)
  (aq (bV (cD rfl (aA js (hr.mono (by decide)) aQ rfl rfl (ae (aB 2 rfl) ag)))
  (ax (jD lZ.ex lZ.ca rfl lZ.mg (ae cc ag)))
  aY)
  (ax (aO (bC (ae (aB 0 rfl) (ae (aB 2 rfl) ag)))))))))⟩,λds h=>aM ds h⟩
abbrev c8:Stmt:=top 26
def eR:aH ["made","size","longer","cell"] ["made","size"] (ar c8):=⟨rfl,rfl,rfl,by decide +kernel,rfl,by decide +kernel,by decide +kernel⟩
def ky {f:Addr}{fd:FuncData}(F:i9 K mg "longer_cells" c8 ["made","size"] f fd)(B:jr mg):cO P w K mg base ca "longer_cells" ["made","size"] 1 (bo 4 2 (iB)):=
 ⟨⟨f,fd,F.mg,F.F.kp,F.b,aW (N:=["made","size","longer","cell"]) (k:=0) F.F eR λcdv A outer s H G E hr=>
  (aq (kZ (i:=2) (dm ag) eR.nd)
  (aq (dM PassesOwn.leaving rfl (qf rfl (aB 0 rfl)) (dz (i:=3) eR.nd)
  (ax (vn 2 (λ_=>rfl) (bX (NB:=["number","cell"]) (own:=1) (ixs:=[3]) [] rfl (cu (by kernel_rfl)) (λ_ _=>rfl) (iD rfl B.range (af 1)) (λH0 G0 par br bx C ex s3 H3 pn=>(dz (i:=0) (show (["number","cell"]:List Str).Nodup by decide +kernel))) (λH0 G0 par br bx C ex s3 H3 pn hB1=>dP) (λH0 G0 par br bx C ex s3 H3 pn hB1=>(aS qL vP (af 1) (bC (ae (aB 0 (hB1 0 (by decide))) ag))))))))
  (ax (oN 2))))⟩,λds h=>aM ds h⟩
abbrev lg:Stmt:=top 25
def jM:aH ["sizes","made","size"] ["sizes"] (ar lg):=⟨rfl,rfl,rfl,by decide +kernel,rfl,by decide +kernel,by decide +kernel⟩
def ux {f:Addr}{fd:FuncData}{bZ:List D->FR}(F:i9 K mg "cells" lg ["sizes"] f fd)(B:jr mg)(fC:cO P w K mg base ca "longer_cells" ["made","size"] 1 bZ):cO P w K mg base ca "cells" ["sizes"] 2 (bo 3 1 (tR bZ)):=
 ⟨⟨f,fd,F.mg,F.F.kp,F.b,aW (N:=["sizes","made","size"]) (k:=1) F.F jM λcdv A outer s H G E hr=>
  (aq (ba (i:=1) (SE.wv (dm (ae (bC ag) ag))) jM.nd)
  (aq (dM PassesOwn.leaving rfl (qf rfl (aB 0 rfl)) (dz (i:=2) jM.nd)
  (ax (ba (i:=1) (aA fC (hr.mono (by decide)) aQ rfl rfl (ae (aB 1 rfl) (ae (aB 2 rfl) ag))) jM.nd)))
  (ax (oN 1))))⟩,λds h=>aM ds h⟩
abbrev fX:Stmt:=top 19
def nZ:aH ["thing"] ["thing"] (ar fX):=⟨rfl,rfl,rfl,by decide +kernel,rfl,by decide +kernel,by decide +kernel⟩
def mS {f:Addr}{fd:FuncData}{aL bY:List D->FR}(F:i9 K mg "are_sizes" fX ["thing"] f fd)(B:jr mg)(bN:cO P w K mg base ca "is_many" ["thing"] 2 aL)(fo:cO P w K mg base ca "cells" ["sizes"] 2 bY){cN:Tok}(bh:mg "MOST_THINGS"=some (.int 8 cN)):cO P w K mg base ca "are_sizes" ["thing"] 3 (bo 1 1 (kK aL bY)):=
 ⟨⟨f,fd,F.mg,F.F.kp,F.b,aW (N:=["thing"]) (k:=2) F.F nZ λcdv A outer s H G E hr=>
  (aq (bV (mG.t (iI (cL (cD rfl (eQ "tuple" (by decide) rfl rfl B.isinstance rfl B.tuple (by decide +kernel) (af 0)))) (hZ (cL (v3 jV jV oB oB ak (aJ bf dr rfl B.len GK (af 0)) ak))) (λ_ _=>rfl)))
  (ax (aO ja))
  aY)
  (ax (aO (gX (aJ (iE rfl) iX rfl B.all (by decide +kernel) (bX (NB:=["size"]) (own:=1) (ixs:=[]) [] rfl (cu (by kernel_rfl)) (λ_ _=>rfl) (oi rfl (af 0)) (λH0 G0 par br bx C ex s3 H3 pn=>(dz (i:=0) (show (["size"]:List Str).Nodup by decide +kernel))) (λH0 G0 par br bx C ex s3 H3 pn hB1=>dP) (λH0 G0 par br bx C ex s3 H3 pn hB1=>(aA bN (hr.mono (by decide)) tM rfl rfl (ae (aB 0 (hB1 0 (by decide))) ag))))) (gf (ly jV oB (aJ bf dr rfl B.len GK (aA fo (hr.mono (by decide)) aQ rfl rfl (ae (aB 0 rfl) ag))) (n6 (by rfl) bh) (aK _))) (λ_ _=>rfl)))))⟩,λds h=>aM ds h⟩
abbrev i0:Stmt:=top 20
def rN:aH ["thing"] ["thing"] (ar i0):=⟨rfl,rfl,rfl,by decide +kernel,rfl,by decide +kernel,by decide +kernel⟩
def qj {f:Addr}{fd:FuncData}{aL bB:List D->FR}(F:i9 K mg "is_over" i0 ["thing"] f fd)(B:jr mg)(bN:cO P w K mg base ca "is_many" ["thing"] 2 aL)(cV:cO P w K mg base ca "is_below" ["thing","bound"] 2 bB):cO P w K mg base ca "is_over" ["thing"] 3 (bo 1 1 (iZ aL bB)):=
 ⟨⟨f,fd,F.mg,F.F.kp,F.b,aW (N:=["thing"]) (k:=2) F.F rN λcdv A outer s H G E hr=>
  (aq (bV (mG.t (iI (cL (cD rfl (eQ "tuple" (by decide) rfl rfl B.isinstance rfl B.tuple (by decide +kernel) (af 0)))) (hZ (cL (cD rfl (aA bN (hr.mono (by decide)) aQ rfl rfl (ae (aJ bf dr rfl B.len GK (af 0)) ag))))) (λ_ _=>rfl)))
  (ax (aO ja))
  aY)
  (ax (aO (aJ (iE rfl) iX rfl B.all (by decide +kernel) (bX (NB:=["at","one","thing"]) (own:=2) (ixs:=[0]) [] rfl (cu (by kernel_rfl)) (λ_ _=>rfl) (qk rfl rfl B.enumerate (af 0)) (λH0 G0 par br bx C ex s3 H3 pn=>(dg (i:=0) (j:=1) (show (["at","one","thing"]:List Str).Nodup by decide +kernel))) (λH0 G0 par br bx C ex s3 H3 pn hB1=>dP) (λH0 G0 par br bx C ex s3 H3 pn hB1=>(Dh (BU (af 1)) (gf (gX (aA cV (hr.mono (by decide)) tM rfl rfl (ae (aB 1 (hB1 1 (by decide))) (ae (aJ bf dr rfl B.len GK (af 2)) ag))) (gf (ly xD BF (af 1) (af 0) (aK _))) (λi hi=>hB1 i (by revert i hi;decide)))) (λi hi=>hB1 i (by revert i hi;decide)))))))))⟩,λds h=>aM ds h⟩
abbrev iU:Stmt:=top 18
def se:aH ["thing"] ["thing"] (ar iU):=⟨rfl,rfl,rfl,by decide +kernel,rfl,by decide +kernel,by decide +kernel⟩
def qm {f:Addr}{fd:FuncData}{aU c5 aL fu:List D->FR}(F:i9 K mg "is_kind" iU ["thing"] f fd)(B:jr mg)(cf:cO P w K mg base ca "is_whole" ["thing"] 1 aU)(iL:cO P w K mg base ca "are_sizes" ["thing"] 3 c5)(bN:cO P w K mg base ca "is_many" ["thing"] 2 aL)(kj:cO P w K mg base ca "is_over" ["thing"] 3 fu){cN:Tok}(bh:mg "MOST_THINGS"=some (.int 8 cN)):cO P w K mg base ca "is_kind" ["thing"] 4 (bo 1 1 (i5 aU c5 aL fu)):=
 ⟨⟨f,fd,F.mg,F.F.kp,F.b,aW (N:=["thing"]) (k:=3) F.F se λcdv A outer s H G E hr=>
  (aq (bV (mG.t (iI (cL (cD rfl (eQ "tuple" (by decide) rfl rfl B.isinstance rfl B.tuple (by decide +kernel) (af 0)))) (hZ (aV (gV hr.units) cU (aJ bf dr rfl B.len GK (af 0)) ak (aK _))) (λ_ _=>rfl)))
  (ax (aO ja))
  aY)
  (aq (bV (aV (bL hr.units) cU (bg aP cz (af 0) ak (λ_ _=>rfl)) cc (aK _))
  (ax (aO (gX (aA cf (hr.mono (by decide)) aQ rfl rfl (ae (bg aP cz (af 0) ak (λ_ _=>rfl)) ag)) (gf (mr jV jV oB oB ak (bg aP cz (af 0) ak (λ_ _=>rfl)) (aS kY By (n6 (by rfl) bh) ak))) (λ_ _=>rfl))))
  aY)
  (aq (bV (aV (bL hr.units) cU (bg aP cz (af 0) ak (λ_ _=>rfl)) cc (aK _))
  (ax (aO (aA iL (hr.mono (by decide)) aQ rfl rfl (ae (bg aP cz (af 0) ak (λ_ _=>rfl)) ag))))
  aY)
  (aq (bV (aV (bL hr.units) cU (bg aP cz (af 0) ak (λ_ _=>rfl)) cc (aK _))
  (ax (aO (aA bN (hr.mono (by decide)) aQ rfl rfl (ae (bg aP cz (af 0) ak (λ_ _=>rfl)) ag))))
  aY)
  (ax (aO (gX (ly (bL hr.units) cU (bg aP cz (af 0) ak (λ_ _=>rfl)) cc (aK _)) (gf (aA kj (hr.mono (by decide)) aQ rfl rfl (ae (bg aP cz (af 0) ak (λ_ _=>rfl)) ag))) (λ_ _=>rfl))))))))⟩,λds h=>aM ds h⟩
abbrev fM:Stmt:=top 21
def pf:aH ["thing"] ["thing"] (ar fM):=⟨rfl,rfl,rfl,by decide +kernel,rfl,by decide +kernel,by decide +kernel⟩
def mZ {f:Addr}{fd:FuncData}{fx:List D->FR}(F:i9 K mg "need_kind" fM ["thing"] f fd)(B:jr mg)(j6:cO P w K mg base ca "is_kind" ["thing"] 4 fx)(iA:Exc K mg ca "NoKind"):cO P w K mg base ca "need_kind" ["thing"] 5 (bo 1 1 (fO fx)):=
 ⟨⟨f,fd,F.mg,F.F.kp,F.b,aW (N:=["thing"]) (k:=4) F.F pf λcdv A outer s H G E hr=>
  (ax (bV (cL (cD rfl (aA j6 (hr.mono (by decide)) aQ rfl rfl (ae (aB 0 rfl) ag))))
  (ax (jD iA.ex iA.ca rfl iA.mg (ae cc ag)))
  aY))⟩,λds h=>aM ds h⟩
abbrev fh:Stmt:=top 29
def mP:aH ["over"] ["over"] (ar fh):=⟨rfl,rfl,rfl,by decide +kernel,rfl,by decide +kernel,by decide +kernel⟩
def lD {f:Addr}{fd:FuncData}(F:i9 K mg "bush_pairs" fh ["over"] f fd)(B:jr mg):cO P w K mg base ca "bush_pairs" ["over"] 1 (bo 1 1 (fq)):=
 ⟨⟨f,fd,F.mg,F.F.kp,F.b,aW (N:=["over"]) (k:=0) F.F mP λcdv A outer s H G E hr=>
  (ax (ic (bX (NB:=["thing","upper"]) (own:=2) (ixs:=[]) [] rfl (cu (by kernel_rfl)) (λ_ _=>rfl) (qk rfl rfl B.enumerate (af 0)) (λH0 G0 par br bx C ex s3 H3 pn=>(dg (i:=0) (j:=1) (show (["thing","upper"]:List Str).Nodup by decide +kernel))) (λH0 G0 par br bx C ex s3 H3 pn hB1=>(fR (tO (af 1)))) (λH0 G0 par br bx C ex s3 H3 pn hB1=>(bC (ae (aB 0 (hB1 0 (by decide))) (ae (aB 1 (hB1 1 (by decide))) ag)))))))⟩,λds h=>aM ds h⟩
abbrev dQ:Stmt:=top 23
def lQ:aH ["half"] ["half"] (ar dQ):=⟨rfl,rfl,rfl,by decide +kernel,rfl,by decide +kernel,by decide +kernel⟩
def kR {f:Addr}{fd:FuncData}{aG:List D->FR}(F:i9 K mg "crown_pairs" dQ ["half"] f fd)(B:jr mg)(bD:cO P w K mg base ca "every_pair" ["many"] 1 aG):cO P w K mg base ca "crown_pairs" ["half"] 2 (bo 1 1 (ji aG)):=
 ⟨⟨f,fd,F.mg,F.F.kp,F.b,aW (N:=["half"]) (k:=1) F.F lQ λcdv A outer s H G E hr=>
  (ax (ic (bX (NB:=["a","b","half"]) (own:=2) (ixs:=[0]) [] rfl (cu (by kernel_rfl)) (λ_ _=>rfl) (oi rfl (aA bD (hr.mono (by decide)) aQ rfl rfl (ae (aB 0 rfl) ag))) (λH0 G0 par br bx C ex s3 H3 pn=>(dg (i:=0) (j:=1) (show (["a","b","half"]:List Str).Nodup by decide +kernel))) (λH0 G0 par br bx C ex s3 H3 pn hB1=>(fR (aV (gV hr.units) cU (af 0) (af 1) (aK _)))) (λH0 G0 par br bx C ex s3 H3 pn hB1=>(bC (ae (aB 0 (hB1 0 (by decide))) (ae (aS de df (af 2) (af 1)) ag)))))))⟩,λds h=>aM ds h⟩
abbrev fN:Stmt:=top 27
def oM:aH ["cell","other"] ["cell","other"] (ar fN):=⟨rfl,rfl,rfl,by decide +kernel,rfl,by decide +kernel,by decide +kernel⟩
def mJ {f:Addr}{fd:FuncData}(F:i9 K mg "is_within" fN ["cell","other"] f fd)(B:jr mg):cO P w K mg base ca "is_within" ["cell","other"] 1 (bo 2 2 (kI)):=
 ⟨⟨f,fd,F.mg,F.F.kp,F.b,aW (N:=["cell","other"]) (k:=0) F.F oM λcdv A outer s H G E hr=>
  (ax (aO (aJ (iE rfl) iX rfl B.all (by decide +kernel) (bX (NB:=["number","bound"]) (own:=2) (ixs:=[]) [] rfl (cu (by kernel_rfl)) (λ_ _=>rfl) (ym rfl rfl B.zip (af 0) (af 1)) (λH0 G0 par br bx C ex s3 H3 pn=>(dg (i:=0) (j:=1) (show (["number","bound"]:List Str).Nodup by decide +kernel))) (λH0 G0 par br bx C ex s3 H3 pn hB1=>dP) (λH0 G0 par br bx C ex s3 H3 pn hB1=>(ly jV oB (af 0) (af 1) (aK _)))))))⟩,λds h=>aM ds h⟩
abbrev fk:Stmt:=top 24
def jd:aH ["sizes","made"] ["sizes"] (ar fk):=⟨rfl,rfl,rfl,by decide +kernel,rfl,by decide +kernel,by decide +kernel⟩
def lW {f:Addr}{fd:FuncData}{bY aG cY:List D->FR}(F:i9 K mg "grid_pairs" fk ["sizes"] f fd)(B:jr mg)(fo:cO P w K mg base ca "cells" ["sizes"] 2 bY)(bD:cO P w K mg base ca "every_pair" ["many"] 1 aG)(iK:cO P w K mg base ca "is_within" ["cell","other"] 1 cY):cO P w K mg base ca "grid_pairs" ["sizes"] 3 (bo 2 1 (jN bY aG cY)):=
 ⟨⟨f,fd,F.mg,F.F.kp,F.b,aW (N:=["sizes","made"]) (k:=2) F.F jd λcdv A outer s H G E hr=>
  (aq (ba (i:=1) (aA fo (hr.mono (by decide)) aQ rfl rfl (ae (aB 0 rfl) ag)) jd.nd)
  (ax (ic (bX (NB:=["a","b","made"]) (own:=2) (ixs:=[1]) [] rfl (cu (by kernel_rfl)) (λ_ _=>rfl) (oi rfl (aA bD (hr.mono (by decide)) aQ rfl rfl (ae (aJ bf dr rfl B.len GK (af 1)) ag))) (λH0 G0 par br bx C ex s3 H3 pn=>(dg (i:=0) (j:=1) (show (["a","b","made"]:List Str).Nodup by decide +kernel))) (λH0 G0 par br bx C ex s3 H3 pn hB1=>(fR (mG.t (lE (aV (gV hr.units) cU (af 0) (af 1) (aK _)) (jx (cD rfl (aA iK (hr.mono (by decide)) tM rfl rfl (ae (bg aP cz (af 2) (af 0) (λ_ _=>rfl)) (ae (bg aP cz (af 2) (af 1) (λ_ _=>rfl)) ag))))) (λi hi=>hB1 i (by revert i hi;decide)))))) (λH0 G0 par br bx C ex s3 H3 pn hB1=>(bC (ae (aB 0 (hB1 0 (by decide))) (ae (aB 1 (hB1 1 (by decide))) ag))))))))⟩,λds h=>aM ds h⟩
abbrev dR:Stmt:=top 28
def mq:aH ["many"] ["many"] (ar dR):=⟨rfl,rfl,rfl,by decide +kernel,rfl,by decide +kernel,by decide +kernel⟩
def kS {f:Addr}{fd:FuncData}{aG:List D->FR}(F:i9 K mg "fence_pairs" dR ["many"] f fd)(B:jr mg)(bD:cO P w K mg base ca "every_pair" ["many"] 1 aG):cO P w K mg base ca "fence_pairs" ["many"] 2 (bo 1 1 (jl aG)):=
 ⟨⟨f,fd,F.mg,F.F.kp,F.b,aW (N:=["many"]) (k:=1) F.F mq λcdv A outer s H G E hr=>
  (ax (ic (bX (NB:=["a","b"]) (own:=2) (ixs:=[]) [] rfl (cu (by kernel_rfl)) (λ_ _=>rfl) (oi rfl (aA bD (hr.mono (by decide)) aQ rfl rfl (ae (aB 0 rfl) ag))) (λH0 G0 par br bx C ex s3 H3 pn=>(dg (i:=0) (j:=1) (show (["a","b"]:List Str).Nodup by decide +kernel))) (λH0 G0 par br bx C ex s3 H3 pn hB1=>(fR (mG.t (lE (aV (bL hr.units) cU (aS gY kC (af 0) ak) ak (aK _)) (jx (aV (bL hr.units) cU (aJ xj Cn rfl B.abs (by decide +kernel) (aS o7 sV (af 0) (af 1))) ak (aK _))) (λi hi=>hB1 i (by revert i hi;decide)))))) (λH0 G0 par br bx C ex s3 H3 pn hB1=>(bC (ae (aB 0 (hB1 0 (by decide))) (ae (aB 1 (hB1 1 (by decide))) ag)))))))⟩,λds h=>aM ds h⟩
abbrev fL:Stmt:=top 22
def oh:aH ["kind"] ["kind"] (ar fL):=⟨rfl,rfl,rfl,by decide +kernel,rfl,by decide +kernel,by decide +kernel⟩
def mW {f:Addr}{fd:FuncData}{cZ b9 cq bY cK cp cF:List D->FR}(F:i9 K mg "order_for" fL ["kind"] f fd)(B:jr mg)(iH:cO P w K mg base ca "need_kind" ["thing"] 5 cZ)(dN:cO P w K mg base ca "order_of" ["many","pairs"] 4 b9)(gk:cO P w K mg base ca "crown_pairs" ["half"] 2 cq)(fo:cO P w K mg base ca "cells" ["sizes"] 2 bY)(hG:cO P w K mg base ca "grid_pairs" ["sizes"] 3 cK)(gm:cO P w K mg base ca "fence_pairs" ["many"] 2 cp)(gO:cO P w K mg base ca "bush_pairs" ["over"] 1 cF):cO P w K mg base ca "order_for" ["kind"] 6 (bo 1 1 (bF cZ b9 cq bY cK cp cF)):=
 ⟨⟨f,fd,F.mg,F.F.kp,F.b,aW (N:=["kind"]) (k:=5) F.F oh λcdv A outer s H G E hr=>
  (aq (yh (aA iH (hr.mono (by decide)) aQ rfl rfl (ae (aB 0 rfl) ag)))
  (aq (bV (aV (bL hr.units) cU (bg aP cz (af 0) ak (λ_ _=>rfl)) cc (aK _))
  (ax (aO (aA dN (hr.mono (by decide)) aQ rfl rfl (ae (aS gi h9 ak (bg aP cz (af 0) ak (λ_ _=>rfl))) (ae (aA gk (hr.mono (by decide)) aQ rfl rfl (ae (bg aP cz (af 0) ak (λ_ _=>rfl)) ag)) ag)))))
  aY)
  (aq (bV (aV (bL hr.units) cU (bg aP cz (af 0) ak (λ_ _=>rfl)) cc (aK _))
  (ax (aO (aA dN (hr.mono (by decide)) aQ rfl rfl (ae (aJ bf dr rfl B.len GK (aA fo (hr.mono (by decide)) aQ rfl rfl (ae (bg aP cz (af 0) ak (λ_ _=>rfl)) ag))) (ae (aA hG (hr.mono (by decide)) aQ rfl rfl (ae (bg aP cz (af 0) ak (λ_ _=>rfl)) ag)) ag)))))
  aY)
  (aq (bV (aV (bL hr.units) cU (bg aP cz (af 0) ak (λ_ _=>rfl)) cc (aK _))
  (ax (aO (aA dN (hr.mono (by decide)) aQ rfl rfl (ae (bg aP cz (af 0) ak (λ_ _=>rfl)) (ae (aA gm (hr.mono (by decide)) aQ rfl rfl (ae (bg aP cz (af 0) ak (λ_ _=>rfl)) ag)) ag)))))
  aY)
  (ax (aO (aA dN (hr.mono (by decide)) aQ rfl rfl (ae (aJ bf dr rfl B.len GK (bg aP cz (af 0) ak (λ_ _=>rfl))) (ae (aA gO (hr.mono (by decide)) aQ rfl rfl (ae (bg aP cz (af 0) ak (λ_ _=>rfl)) ag)) ag)))))))))⟩,λds h=>aM ds h⟩
abbrev gP:Stmt:=top 31
def b8:aH ["script","k","here","number","j","part"] ["script","k"] (ar gP):=⟨rfl,rfl,rfl,by decide +kernel,rfl,by decide +kernel,by decide +kernel⟩
def oy {f:Addr}{fd:FuncData}(F:i9 K mg "_law_box" gP ["script","k"] f fd)(B:jr mg):cO P w K mg base ca "_law_box" ["script","k"] 1 (bo 6 2 (fm)):=
 ⟨⟨f,fd,F.mg,F.F.kp,F.b,aW (N:=["script","k","here","number","j","part"]) (k:=0) F.F b8 λcdv A outer s H G E hr=>
  (aq (ba (i:=2) (aS de df (aS gi h9 ak (af 1)) ak) b8.nd)
  (aq (bV (aV wM A5 (af 1) (aJ bf dr rfl B.len GK (af 0)) (aK _))
  (ax (ba (i:=2) (bg aP cz (af 0) (af 1) (λ_ _=>rfl)) b8.nd))
  aY)
  (aq (bV (aV (bL hr.units) cU (aS gY kC (af 2) ak) ak (aK _))
  (ax (ic (dm (ae (aS kY By (af 2) ak) ag))))
  aY)
  (aq (ba (i:=3) ak b8.nd)
  (aq (dM PassesOwn.leaving rfl (iD rfl B.range ak) (dz (i:=4) b8.nd)
  (aq (ba (i:=5) (aS gY kC (aS de df (aS de df (aS gi h9 (aS gY kC (af 2) ak) ak) (aS gi h9 ak (af 4))) ak) ak) b8.nd)
  (aq (ba (i:=5) (aS gY kC (aS gi h9 (af 5) (af 5)) ak) b8.nd)
  (ax (ba (i:=3) (aS de df (aS gi h9 (af 3) ak) (aS gY kC (aS gi h9 (af 5) (aS de df (af 5) ak)) ak)) b8.nd)))))
  (ax (ic (dm (ae (aB 3 rfl) ag)))))))))⟩,λds h=>aM ds h⟩
abbrev fK:Stmt:=top 32
def jy:aH ["box","many","left","digit"] ["box","many"] (ar fK):=⟨rfl,rfl,rfl,by decide +kernel,rfl,by decide +kernel,by decide +kernel⟩
def mY {f:Addr}{fd:FuncData}(F:i9 K mg "_law_take" fK ["box","many"] f fd)(B:jr mg):uj P w K mg base "_law_take" ["box","many"] 1 jZ:=by
 refine⟨⟨f,fd,F.mg,F.F.kp,F.b,?_⟩,λds β h=>?_⟩
 ·refine F.F.zC jy (λvs H Q E h=>?_) (λcdv A outer s H vs Q E hr h=>?_)
  ·obtain⟨b,rest,G,ds,β,rfl,hb,gb,sG,hl,r,_⟩:=h
   rw[Gr,r.len,hl];rfl
  ·obtain⟨b,rest,G,ds,β,rfl,hb,gb,sG,hl,r,h⟩:=h
   obtain⟨m,rfl,h0,h1⟩:=sU (λz=>by rw[z] at h;exact h)
   rw[tx h0 h1] at h
   have kk:∀v G' H',fE (some b) H H'->H' b=some (.lst [.int (β / m)])->ah G G'->ah G' H'->(∀c,Mx H c->G c=none->G' c=none)->FV K H G' H' false (.int (β % m)) v->Q v H':=h
   cases r with
   |cons r1 r2=>
    cases r1
    cases r2
    refine⟨_,fB (lq (iR qx rfl B.divmod (by decide +kernel) (aN (jk eZ (pv 0) nW (λ_ _=>rfl)) (aN (pv 1) bK))) (zh (i:=2) (j:=3) jy.nd rfl rfl rfl rfl rfl))
     (fB (lq (pv 2) (rH (pv 0) nW set_list)) (fJ (ki (pv 3)))),?_⟩
    refine⟨_,rfl,b,_,0,.int β,rfl,rfl,.inl (.inl hb),rfl,_,rfl,β,m,rfl,⟨h0,h1⟩,λp hp=>⟨p,_,rfl,.inl (.inl av),rfl,_,_,rfl,_,_,rfl,rfl,?_⟩⟩
    have hbp:b≠p:=az hb hp
    exact⟨_,rfl,_,rfl,b,[.int β],0,0,rfl,rfl,by rw[au hbp];exact hb,rfl,_,rfl,vS hb sG hp kk gb⟩
 ·obtain⟨m,rfl,_⟩:=sU h
  rfl
abbrev fj:Stmt:=top 33
def mL:aH ["thing"] ["thing"] (ar fj):=⟨rfl,rfl,rfl,by decide +kernel,rfl,by decide +kernel,by decide +kernel⟩
def lr {f:Addr}{fd:FuncData}(F:i9 K mg "_law_whole" fj ["thing"] f fd)(B:jr mg):cO P w K mg base ca "_law_whole" ["thing"] 1 (bo 1 1 (jT)):=
 ⟨⟨f,fd,F.mg,F.F.kp,F.b,aW (N:=["thing"]) (k:=0) F.F mL λcdv A outer s H G E hr=>
  (ax (aO (gX (eQ "int" (by decide) rfl rfl B.isinstance rfl B.int (by decide +kernel) (af 0)) (gf (vL (eQ "bool" (by decide) rfl rfl B.isinstance rfl B.bool (by decide +kernel) (af 0)))) (λ_ _=>rfl))))⟩,λds h=>aM ds h⟩
abbrev dU:Stmt:=top 34
def bJ:aH ["many","pairs","found","turn","more","a","b"] ["many","pairs"] (ar dU):=⟨rfl,rfl,rfl,by decide +kernel,rfl,by decide +kernel,by decide +kernel⟩
def kW {f:Addr}{fd:FuncData}(F:i9 K mg "_law_closed" dU ["many","pairs"] f fd)(B:jr mg):cO P w K mg base ca "_law_closed" ["many","pairs"] 1 (bo 7 2 (cG)):=
 ⟨⟨f,fd,F.mg,F.F.kp,F.b,aW (N:=["many","pairs","found","turn","more","a","b"]) (k:=0) F.F bJ λcdv A outer s H G E hr=>
  (aq (ba (i:=2) (SE.wv (l4 rfl hr.units rfl rfl B.sorted rfl B.set (af 1))) bJ.nd)
  (aq (dM PassesOwn.leaving rfl (iD rfl B.range (af 0)) (dz (i:=3) bJ.nd)
  (aq (ba (i:=4) (SE.wv (dm ag)) bJ.nd)
  (aq (dM PassesOwn.leaving rfl (qf rfl (aB 2 rfl)) (dg (i:=5) (j:=6) bJ.nd)
  (ax (ba (i:=4) (SE.wv (aS k7 tW (af 4) (bX (NB:=["c","d","b","a"]) (own:=2) (ixs:=[6,5]) [5] rfl (cu (by kernel_rfl)) (λ_ _=>rfl) (oi rfl (af 2)) (λH0 G0 par br bx C ex s3 H3 pn=>(dg (i:=0) (j:=1) (show (["c","d","b","a"]:List Str).Nodup by decide +kernel))) (λH0 G0 par br bx C ex s3 H3 pn hB1=>(fR (aV (bL hr.units) cU (af 0) (af 2) (aK _)))) (λH0 G0 par br bx C ex s3 H3 pn hB1=>(bC (ae (aB 3 (hB1 3 (by decide))) (ae (aB 1 (hB1 1 (by decide))) ag))))))) bJ.nd)))
  (ax (ba (i:=2) (SE.wv (l4 rfl hr.units rfl rfl B.sorted rfl B.set (aS k7 tW (af 2) (af 4)))) bJ.nd)))))
  (ax (aO (iw cm j4 rfl B.tuple (by decide +kernel) (af 2))))))⟩,λds h=>aM ds h⟩
abbrev fV:Stmt:=top 35
def bP:aH ["box","word","some","over","many","thing","above"] ["box"] (ar fV):=⟨rfl,rfl,rfl,by decide +kernel,rfl,by decide +kernel,by decide +kernel⟩
def mK {f:Addr}{fd:FuncData}{a8:List D->Int->FB}(F:i9 K mg "_law_kind" fV ["box"] f fd)(B:jr mg)(bQ:uj P w K mg base "_law_take" ["box","many"] 1 a8):uj P w K mg base "_law_kind" ["box"] 2 (uW 7 0 (eG a8)):=
 ⟨⟨f,fd,F.mg,F.F.kp,F.b,wb (ca:=λ_=>0) (N:=["box","word","some","over","many","thing","above"]) (k:=1) F.F bP (by decide) λcdv A outer s H G b E hr=>
  (aq (ba (i:=1) (lj 0 bQ (hr.mono (by decide)) aQ rfl rfl (ae ak ag)) bP.nd)
  (aq (bV (aV (bL hr.units) cU (af 1) ak (aK _))
  (ax (aO (bC (ae cc (ae (aS de df ak (lj 0 bQ (hr.mono (by decide)) aQ rfl rfl (ae ak ag))) ag)))))
  aY)
  (aq (bV (aV (bL hr.units) cU (af 1) ak (aK _))
  (@aq _ _ _ _ _ _ _ (@Dv _ _ _ 2 _ _ (aa (aZ (aa (cst (.int 1)) aw)) (aa (aZ (aa (cst (.int 8)) aw)) (aa (aZ (aa (cst (.int 2)) (aa (cst (.int 2)) aw))) (aa (aZ (aa (cst (.int 2)) (aa (cst (.int 3)) aw))) (aa (aZ (aa (cst (.int 3)) (aa (cst (.int 2)) aw))) (aa (aZ (aa (cst (.int 2)) (aa (cst (.int 4)) aw))) (aa (aZ (aa (cst (.int 4)) (aa (cst (.int 2)) aw))) (aa (aZ (aa (cst (.int 1)) (aa (cst (.int 7)) aw))) (aa (aZ (aa (cst (.int 2)) (aa (cst (.int 2)) (aa (cst (.int 2)) aw)))) (aa (aZ (aa (cst (.int 1)) (aa (cst (.int 2)) (aa (cst (.int 3)) aw)))) (aa (aZ (aa (cst (.int 2)) (aa (cst (.int 1)) (aa (cst (.int 2)) aw)))) (aa (aZ (aa (cst (.int 1)) (aa (cst (.int 1)) (aa (cst (.int 1)) aw)))) aw)))))))))))) [] _ _ _ [] (by kernel_rfl) (λ_=>rfl) (by kernel_rfl) bP.nd rfl (by first |exact Or.inl rfl |exact Or.inr rfl) (by first |exact .inl rfl |exact .inr rfl))
  (ax (aO (bC (ae cc (ae (bg aP cz (af 2) (lj 0 bQ (hr.mono (by decide)) aQ rfl rfl (ae ak ag)) (λ_ _=>rfl)) ag))))))
  aY)
  (aq (bV (aV (bL hr.units) cU (af 1) ak (aK _))
  (ax (aO (bC (ae cc (ae (aS de df ak (lj 0 bQ (hr.mono (by decide)) aQ rfl rfl (ae ak ag))) ag)))))
  aY)
  (aq (kZ (i:=3) (dm ag) bP.nd)
  (aq (ba (i:=4) (aS de df ak (lj 0 bQ (hr.mono (by decide)) aQ rfl rfl (ae ak ag))) bP.nd)
  (aq (dM PassesOwn.leaving rfl (iD rfl B.range (af 4)) (dz (i:=5) bP.nd)
  (aq (ba (i:=6) vU bP.nd)
  (aq (bV (mG.t (lE (aV wM A5 (aS de df (af 5) ak) (af 4) (aK _)) (jx (aV xD BF (lj 0 bQ (hr.mono (by decide)) aQ rfl rfl (ae ak ag)) ak (aK _))) (λ_ _=>rfl)))
  (ax (ba (i:=6) (aS de df (aS de df (af 5) ak) (lj 0 bQ (hr.mono (by decide)) aQ rfl rfl (ae (aS o7 sV (aS o7 sV (af 4) ak) (af 5)) ag))) bP.nd))
  aY)
  (ax (ku 3 (λ_=>rfl) (aB 6 rfl))))))
  (ax (aO (bC (ae cc (ae (iw cm j4 rfl B.tuple (by decide +kernel) (af 3)) ag))))))))))))⟩,λds β h=>wc ds β h⟩
abbrev c9:Stmt:=top 37
def cS:aH ["many","found","a"] ["many"] (ar c9):=⟨rfl,rfl,rfl,by decide +kernel,rfl,by decide +kernel,by decide +kernel⟩
def kn {f:Addr}{fd:FuncData}(F:i9 K mg "_law_squares" c9 ["many"] f fd)(B:jr mg):cO P w K mg base ca "_law_squares" ["many"] 1 (bo 3 1 (iM)):=
 ⟨⟨f,fd,F.mg,F.F.kp,F.b,aW (N:=["many","found","a"]) (k:=0) F.F cS λcdv A outer s H G E hr=>
  (aq (ba (i:=1) (SE.wv (dm ag)) cS.nd)
  (aq (dM PassesOwn.leaving rfl (iD rfl B.range (af 0)) (dz (i:=2) cS.nd)
  (ax (ba (i:=1) (SE.wv (aS k7 tW (af 1) (bX (NB:=["b","a"]) (own:=1) (ixs:=[2]) [2] rfl (cu (by kernel_rfl)) (λ_ _=>rfl) (iD rfl B.range (af 0)) (λH0 G0 par br bx C ex s3 H3 pn=>(dz (i:=0) (show (["b","a"]:List Str).Nodup by decide +kernel))) (λH0 G0 par br bx C ex s3 H3 pn hB1=>dP) (λH0 G0 par br bx C ex s3 H3 pn hB1=>(bC (ae (aB 1 (hB1 1 (by decide))) (ae (aB 0 (hB1 0 (by decide))) ag))))))) cS.nd)))
  (ax (oN 1))))⟩,λds h=>aM ds h⟩
abbrev cy:Stmt:=top 36
def ay:aH ["kind","word","what","pairs","a","b","places","size","longer","place","greater"] ["kind"] (ar cy):=⟨rfl,rfl,rfl,by decide +kernel,rfl,by decide +kernel,by decide +kernel⟩
def i8 {f:Addr}{fd:FuncData}{bt cn:List D->FR}(F:i9 K mg "_law_kind_order" cy ["kind"] f fd)(B:jr mg)(cB:cO P w K mg base ca "_law_squares" ["many"] 1 bt)(gq:cO P w K mg base ca "_law_closed" ["many","pairs"] 1 cn):cO P w K mg base ca "_law_kind_order" ["kind"] 2 (bo 11 1 (bw bt cn)):=
 ⟨⟨f,fd,F.mg,F.F.kp,F.b,aW (N:=["kind","word","what","pairs","a","b","places","size","longer","place","greater"]) (k:=1) F.F ay λcdv A outer s H G E hr=>
  (aq (BN (aB 0 rfl) (dg (i:=1) (j:=2) ay.nd))
  (aq (bV (aV (bL hr.units) cU (af 1) cc (aK _))
  (ax (aO (bC (ae (aS gi h9 ak (af 2)) (ae (iw cm j4 rfl B.tuple (by decide +kernel) (bX (NB:=["a","b","what"]) (own:=2) (ixs:=[2]) [] rfl (cu (by kernel_rfl)) (λ_ _=>rfl) (oi rfl (aA cB (hr.mono (by decide)) aQ rfl rfl (ae (aB 2 rfl) ag))) (λH0 G0 par br bx C ex s3 H3 pn=>(dg (i:=0) (j:=1) (show (["a","b","what"]:List Str).Nodup by decide +kernel))) (λH0 G0 par br bx C ex s3 H3 pn hB1=>(fR (aV (gV hr.units) cU (af 0) (af 1) (aK _)))) (λH0 G0 par br bx C ex s3 H3 pn hB1=>(bC (ae (aB 0 (hB1 0 (by decide))) (ae (aS de df (af 2) (af 1)) ag)))))) ag)))))
  aY)
  (aq (bV (aV (bL hr.units) cU (af 1) cc (aK _))
  (aq (kZ (i:=3) (dm ag) ay.nd)
  (aq (dM PassesOwn.leaving rfl (qf rfl (aA cB (hr.mono (by decide)) aQ rfl rfl (ae (aB 2 rfl) ag))) (dg (i:=4) (j:=5) ay.nd)
  (ax (bV (mG.t (lE (aV (bL hr.units) cU (aS gY kC (af 4) ak) ak (aK _)) (jx (mG.t (iI (aV (bL hr.units) cU (af 5) (aS de df (af 4) ak) (aK _)) (hZ (aV (bL hr.units) cU (af 5) (aS o7 sV (af 4) ak) (aK _))) (λ_ _=>rfl)))) (λ_ _=>rfl)))
  (ax (ku 3 (λ_=>rfl) (bC (ae (aB 4 rfl) (ae (aB 5 rfl) ag)))))
  aY)))
  (ax (aO (bC (ae (aB 2 rfl) (ae (iw cm j4 rfl B.tuple (by decide +kernel) (aJ qU yx rfl B.sorted (by decide +kernel) (af 3))) ag)))))))
  aY)
  (aq (bV (aV (bL hr.units) cU (af 1) cc (aK _))
  (aq (xv (i:=3) (NB:=["place","what"]) (own:=1) (ixs:=[2]) [] rfl (cu (by kernel_rfl)) (λ_ _=>rfl) (iD rfl B.range (aJ bf dr rfl B.len GK (af 2))) (λH0 G0 par br bx C ex s3 H3 pn=>(dz (i:=0) (show (["place","what"]:List Str).Nodup by decide +kernel))) (λH0 G0 par br bx C ex s3 H3 pn hB2=>(fR (tO (bg aP cz (af 1) (af 0) (λ_ _=>rfl))))) (λH0 G0 par br bx C ex s3 H3 pn hB2=>(bC (ae (aB 0 (hB2 0 (by decide))) (ae (bg aP cz (af 1) (af 0) (λ_ _=>rfl)) ag)))) ay.nd)
  (ax (aO (bC (ae (aJ bf dr rfl B.len GK (af 2)) (ae (aA gq (hr.mono (by decide)) aQ rfl rfl (ae (aJ bf dr rfl B.len GK (af 2)) (ae (aB 3 rfl) ag))) ag))))))
  aY)
  (aq (ba (i:=6) (SE.wv (dm (ae (bC ag) ag))) ay.nd)
  (aq (dM PassesOwn.leaving rfl (qf rfl (aB 2 rfl)) (dz (i:=7) ay.nd)
  (aq (ba (i:=8) (SE.wv (dm ag)) ay.nd)
  (aq (dM PassesOwn.leaving rfl (qf rfl (aB 6 rfl)) (dz (i:=9) ay.nd)
  (ax (ba (i:=8) (SE.wv (aS k7 tW (af 8) (bX (NB:=["number","place"]) (own:=1) (ixs:=[9]) [] rfl (cu (by kernel_rfl)) (λ_ _=>rfl) (iD rfl B.range (af 7)) (λH0 G0 par br bx C ex s3 H3 pn=>(dz (i:=0) (show (["number","place"]:List Str).Nodup by decide +kernel))) (λH0 G0 par br bx C ex s3 H3 pn hB3=>dP) (λH0 G0 par br bx C ex s3 H3 pn hB3=>(aS qL vP (af 1) (bC (ae (aB 0 (hB3 0 (by decide))) ag))))))) ay.nd)))
  (ax (ba (i:=6) (aB 8 rfl) ay.nd)))))
  (aq (kZ (i:=3) (dm ag) ay.nd)
  (aq (dM PassesOwn.leaving rfl (qf rfl (aA cB (hr.mono (by decide)) aQ rfl rfl (ae (aJ bf dr rfl B.len GK (af 6)) ag))) (dg (i:=4) (j:=5) ay.nd)
  (aq (zf (i:=10) (NB:=["k","places","a","b"]) (own:=1) (ixs:=[6,4,5]) [] rfl (cu (by kernel_rfl)) (λ_ _=>rfl) (iD rfl B.range (aJ bf dr rfl B.len GK (af 2))) (λH0 G0 par br bx C ex s3 H3 pn=>(dz (i:=0) (show (["k","places","a","b"]:List Str).Nodup by decide +kernel))) (λH0 G0 par br bx C ex s3 H3 pn hB4=>(fR (aV xD BF (bg aP cz (bg aP cz (af 1) (af 2) (λ_ _=>rfl)) (af 0) (λ_ _=>rfl)) (bg aP cz (bg aP cz (af 1) (af 3) (λ_ _=>rfl)) (af 0) (λ_ _=>rfl)) (aK _)))) (λH0 G0 par br bx C ex s3 H3 pn hB4=>(aB 0 (hB4 0 (by decide)))) ay.nd)
  (ax (bV (mG.t (lE (aV (gV hr.units) cU (af 4) (af 5) (aK _)) (jx (aV (bL hr.units) cU (af 10) (dm ag) (aK _))) (λ_ _=>rfl)))
  (ax (ku 3 (λ_=>rfl) (bC (ae (aB 4 rfl) (ae (aB 5 rfl) ag)))))
  aY))))
  (ax (aO (bC (ae (aJ bf dr rfl B.len GK (af 6)) (ae (iw cm j4 rfl B.tuple (by decide +kernel) (af 3)) ag)))))))))))))⟩,λds h=>aM ds h⟩
abbrev jg:Stmt:=top 38
def kl:aH ["script","k","kind","found","due","a","b"] ["script"] (ar jg):=⟨rfl,rfl,rfl,by decide +kernel,rfl,by decide +kernel,by decide +kernel⟩
def yU {f:Addr}{fd:FuncData}{dH cC bz bR:List D->FR}{cX:List D->Int->FB}(F:i9 K mg "law" jg ["script"] f fd)(B:jr mg)(jm:cO P w K mg base ca "_law_box" ["script","k"] 1 dH)(fQ:cO P w K mg base ca "order_for" ["kind"] 6 cC)(di:cO P w K mg base ca "_law_kind_order" ["kind"] 2 bz)(dh:cO P w K mg base ca "_law_whole" ["thing"] 1 bR)(iF:uj P w K mg base "_law_kind" ["box"] 2 cX):eB P w K mg base (kM P w) 7 f fd ["script"] (xQ K ca 1 (bo 7 1 (ua dH cC bz bR cX))):=
 aW (N:=["script","k","kind","found","due","a","b"]) (k:=6) F.F kl λcdv A outer s H G E hr=>
  (aq (dM PassesOwn.leaving rfl (iD rfl B.range (pG (uS rfl) BO rfl B.max (by decide +kernel) ak (pG (vh rfl) AG rfl B.min (by decide +kernel) (aJ bf dr rfl B.len GK (af 0)) ak))) (dz (i:=1) kl.nd)
  (aq (ba (i:=2) (Ah iF (hr.mono (by decide)) aQ rfl rfl (wy jm (hr.mono (by decide)) aQ rfl rfl (ae (aB 0 rfl) (ae (aB 1 rfl) ag)))) kl.nd)
  (aq (ba (i:=3) (aA fQ (hr.mono (by decide)) aQ rfl rfl (ae (aB 2 rfl) ag)) kl.nd)
  (aq (ba (i:=4) (aA di (hr.mono (by decide)) aQ rfl rfl (ae (aB 2 rfl) ag)) kl.nd)
  (aq (bV (mG.t (iI (cL (cD rfl (eQ "tuple" (by decide) rfl rfl B.isinstance rfl B.tuple (by decide +kernel) (af 3)))) (iI (aV (gV hr.units) cU (aJ bf dr rfl B.len GK (af 3)) ak (aK _)) (iI (cL (cD rfl (aA dh (hr.mono (by decide)) aQ rfl rfl (ae (bg aP cz (af 3) ak (λ_ _=>rfl)) ag)))) (hZ (aV (gV hr.units) cU (af 3) (af 4) (aK _))) (λ_ _=>rfl)) (λ_ _=>rfl)) (λ_ _=>rfl)))
  (ax (aO ja))
  aY)
  (aq (bV (mG.t (iI (cL (cD rfl (eQ "tuple" (by decide) rfl rfl B.isinstance rfl B.tuple (by decide +kernel) (bg aP cz (af 3) ak (λ_ _=>rfl))))) (hZ (cL (cD rfl (aJ (iE rfl) iX rfl B.all (by decide +kernel) (bX (NB:=["pair"]) (own:=1) (ixs:=[]) [] rfl (cu (by kernel_rfl)) (λ_ _=>rfl) (oi rfl (bg aP cz (af 3) ak (λ_ _=>rfl))) (λH0 G0 par br bx C ex s3 H3 pn=>(dz (i:=0) (show (["pair"]:List Str).Nodup by decide +kernel))) (λH0 G0 par br bx C ex s3 H3 pn hB1=>dP) (λH0 G0 par br bx C ex s3 H3 pn hB1=>(eQ "tuple" (by decide) rfl rfl B.isinstance rfl B.tuple (by decide +kernel) (af 0)))))))) (λ_ _=>rfl)))
  (ax (aO ja))
  aY)
  (aq (dM PassesOwn.leaving rfl (qf rfl (bg aP cz (af 3) ak (λ_ _=>rfl))) (dg (i:=5) (j:=6) kl.nd)
  (ax (bV (mG.t (iI (cL (cD rfl (aA dh (hr.mono (by decide)) aQ rfl rfl (ae (aB 5 rfl) ag)))) (hZ (cL (cD rfl (aA dh (hr.mono (by decide)) aQ rfl rfl (ae (aB 6 rfl) ag))))) (λ_ _=>rfl)))
  (ax (aO ja))
  aY)))
  (ax (bV (aV (gV hr.units) cU (aA fQ (hr.mono (by decide)) aQ rfl rfl (ae (aB 2 rfl) ag)) (af 4) (aK _))
  (ax (aO ja))
  aY)))))))))
  (ax (aO ja)))
end
end RQ
namespace RM
open PySem L2
def dJ {t:VF Bool}{vs:List Nv}{β:Int}{a:Bool}(h:t vs β=.ok a β):oG t vs β=.ok (!a) β:=by rw[AB,h];rfl
noncomputable def tm:List D->FR:=bo 6 2 fm
def Br (ns:List Int)(k:Nat):∃z,tm [cw ns,.int k]=.ok (.list [.int z]) true:=by
 show ∃z,fin (fm [.fz (cw ns),.fz (.int k),.no,.no,.no,.no] 0)=.ok (.list [.int z]) true
 unfold fm
 have e0:f2 (f2 (cst (.int 7919)) (gv 1) cj) (cst (.int 13)) b4 [Nv.da (cw ns),.da (.int k),.no,.no,.no,.no] 0=.ok (.int (7919 * k + 13)) 0:=bA (bA (x:=.int 7919) (y:=.int k) rfl rfl (oQ ⟨by omega,by omega⟩)) rfl rfl
 rw[fU (env':=[.fz (cw ns),.fz (.int k),.fz (.int (7919 * k + 13)),.no,.no,.no]) (β':=0) ?h0]
 case h0=>
  show toS (f2 (f2 (cst (.int 7919)) (gv 1) cj) (cst (.int 13)) b4 [Nv.da (cw ns),.da (.int k),.no,.no,.no,.no] 0) _=_
  rw[e0];rfl
 obtain⟨c,hc⟩:∃c:Int,gr ([] ++ []) (eV (f2 (gv 1) (f1 (gv 0) c7) xT)) (cg 2 ([] ++ []) (f2 (gv 0) (gv 1) eY)) iq [.fz (cw ns),.fz (.int k),.fz (.int (7919 * k + 13)),.no,.no,.no] 0=.nx [.fz (cw ns),.fz (.int k),.fz (.int c),.no,.no,.no] 0:=by
  have e:eV (f2 (gv 1) (f1 (gv 0) c7) xT) (vl [.fz (cw ns),.fz (.int k),.fz (.int (7919 * k + 13)),.no,.no,.no]) 0=.ok (decide ((k:Int) < (ns.map int).length)) 0:=Bz rfl rfl
  by_cases h:k < ns.length
  ·rw[Gj (by simp;exact h)] at e
   refine⟨ns[k],?_⟩
   rw[t7 e]
   show toS (f2 (gv 0) (gv 1) eY [Nv.da (cw ns),.da (.int k),.da (.int (7919 * k + 13)),.no,.no,.no] 0) _=_
   rw[bA (x:=cw ns) (y:=.int k) (d:=.int ns[k]) (β1:=0) (β2:=0) rfl rfl]
   ·rfl
   ·show kX (ns.map int) (k:Int)=_
    rw[yu,BX h];rfl
  ·rw[Gn (by simp;omega)] at e
   exact⟨_,by rw[qy e];rfl⟩
 rw[fU hc]
 have e1:eV (f2 (f2 (gv 2) (cst (.int 2)) gx) (cst (.int 0)) (fG false)) (vl [.fz (cw ns),.fz (.int k),.fz (.int c),.no,.no,.no]) 0=.ok (decide (c % 2=0)) 0:=jG (neg:=false) (bA rfl rfl (lB (by omega))) rfl
 by_cases h:c % 2=0
 ·rw[Gj h] at e1
  refine⟨c / 2,?_⟩
  rw[yi (d:=.list [.int (c / 2)]) (b:=true) (β':=0)]
  ·rfl
  ·rw[t7 e1]
   show toS (fF (aa (f2 (gv 2) (cst (.int 2)) Ac) aw) [Nv.da (cw ns),.da (.int k),.da (.int c),.no,.no,.no] 0) _=_
   rw[o8 (ds:=[.int (c / 2)]) (β1:=0)]
   ·rfl
   ·have e2:f2 (gv 2) (cst (.int 2)) Ac [Nv.da (cw ns),.da (.int k),.da (.int c),.no,.no,.no] 0=.ok (.int (c / 2)) 0:=bA (x:=.int c) rfl rfl (Df (by omega) (by omega))
    rw[iG,e2];rfl
   ·simp
 ·rw[Gn h] at e1
  rw[fU (env':=[.fz (cw ns),.fz (.int k),.fz (.int c),.no,.no,.no]) (β':=0) (by rw[qy e1];rfl)]
  rw[fU (env':=[.fz (cw ns),.fz (.int k),.fz (.int c),.fz (.int 0),.no,.no]) (β':=0) (by rfl)]
  obtain⟨env',β',el,z,x,y,rfl,rfl⟩:=lK (t:=.nm 4) (m:=aC (cg 5 ((((([] ++ []) ++ []) ++ ([] ++ [])) ++ []) ++ []) (f2 (f2 (f2 (f2 (f2 (gv 2) (cst (.int 2147483647)) gx) (cst (.int 48271)) cj) (f2 (cst (.int 7919)) (gv 4) cj) b4) (cst (.int 1)) b4) (cst (.int 2147483647)) gx))
    (aC (cg 5 (([] ++ []) ++ []) (f2 (f2 (gv 5) (gv 5) cj) (cst (.int 2147483629)) gx))
    (cg 3 (([] ++ []) ++ (([] ++ ([] ++ [])) ++ [])) (f2 (f2 (gv 3) (cst (.int 2147483647)) cj) (f2 (f2 (gv 5) (f2 (gv 5) (cst (.int 13)) b4) cj) (cst (.int 2147483647)) gx) b4)))) (ds:=fD 0 16) (k:=0)
   (λ_ env β=>∃(z:Int) (x y:Sl),env= [.fz (cw ns),.fz (.int k),.fz (.int c),.fz (.int z),x,y]/\β=0) (env:=[.fz (cw ns),.fz (.int k),.fz (.int c),.fz (.int 0),.no,.no]) (β:=0) ⟨0,.no,.no,rfl,rfl⟩ (by
    rintro i d env β hi ⟨z,x,y,rfl,rfl⟩
    obtain⟨_,rfl⟩:=lu hi
    generalize (0 + (i:Int))=j
    refine⟨[.fz (cw ns),.fz (.int k),.fz (.int c),.fz (.int z),.fz (.int j),y],rfl,?_⟩
    have b1:0<=c % 2147483647/\c % 2147483647 < 2147483647:=⟨Ic _ (by omega),Ia _ (by omega)⟩
    have a1:f2 (f2 (f2 (f2 (f2 (gv 2) (cst (.int 2147483647)) gx) (cst (.int 48271)) cj) (f2 (cst (.int 7919)) (gv 4) cj) b4) (cst (.int 1)) b4) (cst (.int 2147483647)) gx (vl [.fz (cw ns),.fz (.int k),.fz (.int c),.fz (.int z),.fz (.int j),y]) 0=.ok (.int ((c % 2147483647 * 48271 + 7919 * j + 1) % 2147483647)) 0:=
     bA (bA (bA (bA (bA (x:=.int c) rfl rfl (lB (by omega))) rfl (xb ⟨by omega,by omega⟩)) (bA (x:=.int 7919) (y:=.int j) rfl rfl (oQ ⟨by omega,by omega⟩)) rfl) rfl rfl) rfl (lB (by omega))
    generalize hp:(c % 2147483647 * 48271 + 7919 * j + 1) % 2147483647=p at a1
    have bp:0<=p/\p < 2147483647:=by rw[<-hp];exact⟨Ic _ (by omega),Ia _ (by omega)⟩
    rw[fU (env':=[.fz (cw ns),.fz (.int k),.fz (.int c),.fz (.int z),.fz (.int j),.fz (.int p)]) (β':=0) ?k1]
    case k1=>rw[n8,a1];rfl
    have a2:f2 (f2 (gv 5) (gv 5) cj) (cst (.int 2147483629)) gx (vl [.fz (cw ns),.fz (.int k),.fz (.int c),.fz (.int z),.fz (.int j),.fz (.int p)]) 0=.ok (.int (p * p % 2147483629)) 0:=
     bA (bA (x:=.int p) (y:=.int p) rfl rfl (oQ ⟨by omega,by omega⟩)) rfl (lB (by omega))
    generalize hq:p * p % 2147483629=q at a2
    have bq:0<=q/\q < 2147483629:=by rw[<-hq];exact⟨Ic _ (by omega),Ia _ (by omega)⟩
    rw[fU (env':=[.fz (cw ns),.fz (.int k),.fz (.int c),.fz (.int z),.fz (.int j),.fz (.int q)]) (β':=0) ?k2]
    case k2=>rw[n8,a2];rfl
    have a3:f2 (f2 (gv 3) (cst (.int 2147483647)) cj) (f2 (f2 (gv 5) (f2 (gv 5) (cst (.int 13)) b4) cj) (cst (.int 2147483647)) gx) b4 (vl [.fz (cw ns),.fz (.int k),.fz (.int c),.fz (.int z),.fz (.int j),.fz (.int q)]) 0=.ok (.int (z * 2147483647 + q * (q + 13) % 2147483647)) 0:=
     bA (bA (x:=.int z) rfl rfl (xb ⟨by omega,by omega⟩)) (bA (bA (x:=.int q) (y:=.int (q + 13)) rfl rfl (oQ ⟨by omega,by omega⟩)) rfl (lB (by omega))) rfl
    refine⟨[.fz (cw ns),.fz (.int k),.fz (.int c),.fz (.int (z * 2147483647 + q * (q + 13) % 2147483647)),.fz (.int j),.fz (.int q)],0,?_,_,_,_,rfl,rfl⟩
    rw[n8,a3];rfl)
  refine⟨z,?_⟩
  rw[fU (env':=[.fz (cw ns),.fz (.int k),.fz (.int c),.fz (.int z),x,y]) (β':=0) ?h2]
  case h2=>exact el
  show fin (toS (fF (aa (gv 3) aw) [.da (cw ns),.da (.int k),.da (.int c),.da (.int z),x.val,y.val] 0) _)=_
  rw[o8 (ds:=[.int z]) (β1:=0) rfl (by simp)]
  rfl
def vk {N:Nat}{l:List Pr}(h1:1<=N)(h8:N<=8)(w:OM.Wn N l)(nd:l.Nodup)(irr:∀a,(a,a)∉l):mf (.list (l.map bI))=some (.list ((OM.b6 8 (OM.Mem l)).map bI)):=by
 simp only[mf,dE]
 rw[FZ ⟨xy h8 w,nd,sL h1 h8 w nd irr⟩]
def rg (n:Nat)(l:List Pr):SeqAt.shaped (cM n l)=true:=by
 unfold SeqAt.shaped
 have h1:(cM n l).canLay0=true:=by
  simp only[cM,PyData.canLay0,PyData.canLayAll0,sP];rfl
 have h2:(cM n l).depth<=64:=by
  have:=tH l
  simp only[cM,PyData.depth,PyData.depthAll];omega
 rw[h1,Gj h2];rfl
def yv (n:Nat)(l:List Pr):fG true (cM n l) (cM n l)=some (.bool false):=by
 unfold fG
 rw[rg]
 simp only[Bool.and_self,G8,cM,PyData.eqv,PyData.eqvAll,ub]
 simp
section
variable {fa fb:VF D}{vs:List Nv}{β:Int}
def kO {t u:VF Bool}{c:Bool}(h:t vs β=.ok false β)(h':u vs β=.ok c β):ju t u vs β=.ok c β:=by rw[zo,h];exact h'
end
def Sq (c k:Nat)(d:D):Prop:=d.showable=true/\d.depth<=k/\d.shown.length<=c
theorem sr {c k:Nat}:∀{ds:List D},(∀d,d∈ds->Sq c k d)->PyData.showableAll ds=true/\PyData.depthAll ds<=k/\(∀t,t∈PyData.shownAll ds->t.length<=c)/\(PyData.shownAll ds).length=ds.length
 | [],_=>⟨by simp[PyData.showableAll],by simp[PyData.depthAll],λt h=>by simp[PyData.shownAll] at h,by simp[PyData.shownAll]⟩
 |d :: ds,h=>by
  obtain⟨h1,h2,h3,h4⟩:=sr λx hx=>h x (F0 _ hx)
  obtain⟨q1,q2,q3⟩:=h d (Gg ..)
  refine⟨?_,?_,λt ht=>?_,?_⟩
  ·rw[PyData.showableAll,q1,h1];rfl
  ·rw[PyData.depthAll];omega
  ·rw[PyData.shownAll] at ht
   rcases FY.mp ht with rfl |ht
   ·exact q3
   ·exact h3 t ht
  ·rw[PyData.shownAll,Gr,Gr,h4]
theorem pJ {c:Nat}:∀{ts:List Str},(∀t,t∈ts->t.length<=c)->(Str.join ", " ts).length<=(c + 2) * ts.length
 | [],_=>by show (Str.join ", " []).length<=_;exact GL _
 | [x],h=>by
  have:=h x (Gg ..)
  show x.length<=(c + 2) * 1
  omega
 |x :: y :: r,h=>by
  have ih:=pJ (ts:=y :: r) λt ht=>h t (F0 _ ht)
  have:=h x (Gg ..)
  show (x ++ ", " ++ Str.join ", " (y :: r)).length<=_
  rw[HY,HY]
  have e2:((", ":String):Str).length=2:=rfl
  rw[e2]
  have e:(c + 2) * (x :: y :: r).length=(c + 2) * (y :: r).length + (c + 2):=by rw[Gr,Nat.mul_succ]
  omega
def Be {c k:Nat}{ds:List D}(h:∀d,d∈ds->Sq c k d):Sq (3 + (c + 2) * ds.length) (k + 1) (.tuple ds):=by
 obtain⟨h1,h2,h3,h4⟩:=sr h
 refine⟨by rw[PyData.showable];exact h1,by rw[PyData.depth];omega,?_⟩
 rw[PyData.shown]
 unfold tupleText
 rw[HY,HY]
 have j:=pJ h3
 rw[h4] at j
 have e1:((("(":String):Str)).length=1:=rfl
 have e3:((if (PyData.shownAll ds).length == 1 then ",)" else ")":String):Str).length<=2:=by split <;> exact by decide
 rw[e1]
 omega
def Bi {c k:Nat}{ds:List D}(h:∀d,d∈ds->Sq c k d):Sq (2 + (c + 2) * ds.length) (k + 1) (.list ds):=by
 obtain⟨h1,h2,h3,h4⟩:=sr h
 refine⟨by rw[PyData.showable];exact h1,by rw[PyData.depth];omega,?_⟩
 rw[PyData.shown]
 unfold listText
 rw[HY]
 have:=wX (c:=c + 2) (PyData.shownAll ds) 0 "[" λt ht=>by have:=h3 t ht;omega
 rw[h4] at this
 have e1:((("[":String):Str)).length=1:=rfl
 have e2:((("]":String):Str)).length=1:=rfl
 rw[e1] at this
 rw[e2];omega
def Bf (d:D):Prop:=BJ d=true
theorem sv:∀{ds:List D},(∀d,d∈ds->Bf d)->xq ds=true
 | [],_=>rfl
 |d :: ds,h=>by
  have h1:=sv λx hx=>h x (F0 _ hx)
  have q1:BJ d=true:=h d (Gg ..)
  rw[xq,q1,h1];rfl
def BK {ds:List D}(h:∀d,d∈ds->Bf d):Bf (.tuple ds):=by show BJ (.tuple ds)=true;rw[BJ];exact sv h
def As {ds:List D}(h:∀d,d∈ds->Bf d):Bf (.list ds):=by show BJ (.list ds)=true;rw[BJ];exact sv h
section
variable {vs:List Nv}{β β1 β2:Int}{fa:VF D}{fr:VF (List D)}{d:D}{ds:List D}
def ac {fa:VF D}{fr:VF (List D)}(h:fa vs β=.ok d β)(h':fr vs β=.ok ds β):aa fa fr vs β=.ok (d :: ds) β:=by rw[iG,h];dsimp only[R.bnd];rw[h']
def an:aw vs β=.ok [] β:=rfl
def tp (h:fr vs β=.ok ds β)(hz:ds.length<=1000:=by simp):aZ fr vs β=.ok (.tuple ds) β:=jE h hz
def lp (h:fr vs β=.ok ds β)(hz:ds.length<=1000:=by simp):fF fr vs β=.ok (.list ds) β:=o8 h hz
end
def Ge (e:D):Prop:=eH e=false/\∀es,e=.tuple es->es.length<=100/\∀x,x∈es->eH x=false
def E1:List D->FR:=bo 1 1 jT
def A0 {d:D}(h:eH d=false):E1 [d]=.ok (.bool (AM d)) false:=by
 have:=tL [d] (by rw[jI h];exact λz=>by cases z)
 rw[jI h] at this
 exact this
def Sp (p:Pr):Prop:=(0<=p.1/\p.1<=8)/\(0<=p.2/\p.2<=8)
def AF {es:List D}(hl:es.length<=100)(h:∀x,x∈es->eH x=false):Ge (.tuple es):=⟨rfl,λes' e=>by cases e;exact⟨hl,h⟩⟩
def Gt (d:D):Prop:=eH d=false/\∀ds,d=.list ds->ds.length<=100/\∀e,e∈ds->Ge e
def wV (l:List Pr)(r:List Int)(x:Int):List Int:=(l.filter λp=>decide (p.2=x) && !decide (p.1∈r)).map (·.1)
def jR {l:List Pr}{r:List Int}{x a:Int}:a∈wV l r x↔(a,x)∈l/\a∉r:=by
 unfold wV
 rw[Gh]
 constructor
 ·rintro⟨p,hp,rfl⟩
  have:=Hb.mp hp
  simp only[GV,G9,IQ,decide_eq_false_iff_not] at this
  obtain⟨pa,pb⟩:=p
  obtain⟨h1,h2,h3⟩:=this
  simp only at h2 h3
  subst h2
  exact⟨h1,h3⟩
 ·rintro⟨h1,h2⟩
  exact⟨(a,x),Hb.mpr ⟨h1,by simp[h2]⟩,rfl⟩
def uY {n:Nat}{l:List Pr}(O:OM.Ord n l)(r:List Int)(x:Int):(wV l r x).Nodup:=by
 unfold wV
 rw[List.nodup_iff_pairwise_ne,Hg]
 refine Hi (λ{a b} ha hb h e=>h ?_) (List.nodup_iff_pairwise_ne.mp ((OM.gK O.ris).filter _))
 have h1:=(Hb.mp ha).2
 have h2:=(Hb.mp hb).2
 simp only[GV,G9] at h1 h2
 exact Prod.ext e (h1.1.trans h2.1.symm)
theorem least {n:Nat}{l:List Pr}(O:OM.Ord n l)(r:List Int):∀(k:Nat) (x:Int),(0<=x/\x < n)->x∉r->(wV l r x).length<=k->∃y:Int,(0<=y/\y < n)/\y∉r/\wV l r y= []
 | 0,x,hx,hr,hk=>⟨x,hx,hr,List.length_eq_zero_iff.mp (by omega)⟩
 |k + 1,x,hx,hr,hk=>by
  by_cases he:wV l r x= []
  ·exact⟨x,hx,hr,he⟩
  ·obtain⟨a,ha⟩:=List.exists_mem_of_ne_nil _ he
   obtain⟨h1,h2⟩:=jR.mp ha
   refine least O r k a (O.wn _ h1).1 h2 ?_
   have nd:(a :: wV l r a).Nodup:=GQ.mpr ⟨λq=>O.irr a (jR.mp q).1,uY O r a⟩
   have:=L2.ST.bG nd (m:=wV l r x) λy hy=>by
    rcases FY.mp hy with rfl |hy
    ·exact ha
    ·obtain⟨q1,q2⟩:=jR.mp hy
     exact jR.mpr ⟨O.tr _ _ _ q1 h1,q2⟩
   rw[Gr] at this
   omega
structure Dj (n:Nat)(l:List Pr)(r:List Int):Prop where
 nd:r.Nodup
 inn:∀x,x∈r->0<=x/\x < (n:Int)
 fit:∀p,p∈l->p.2∈r->p.1∈r/\r.idxOf p.1 < r.idxOf p.2
def Dj.len {n:Nat}{l:List Pr}{r:List Int}(B:Dj n l r):r.length<=n:=by
 have:=L2.ST.bG B.nd (m:=xG n) λx hx=>yP.mpr (B.inn x hx)
 rwa [yZ] at this
def zP (l:List Pr)(r:List Int)(x:Int):Bool:= !decide (x∈r) && decide (wV l r x= [])
def Dj.more {n:Nat}{l:List Pr}{r:List Int}{x:Int}(B:Dj n l r)(hx:0<=x/\x < (n:Int))(hf:zP l r x=true):Dj n l (r ++ [x]):=by
 unfold zP at hf
 rw[GV,IQ,decide_eq_false_iff_not,G9] at hf
 obtain⟨h1,h2⟩:=hf
 refine⟨?_,λy hy=>?_,λp hp hm=>?_⟩
 ·rw[List.nodup_append]
  refine⟨B.nd,GQ.mpr ⟨by simp,List.nodup_nil⟩,λa ha b hb=>?_⟩
  rw[G6] at hb
  subst hb
  exact λq=>h1 (q▸ha)
 ·rcases GB.mp hy with hy |hy
  ·exact B.inn y hy
  ·rw[G6] at hy;subst hy;exact hx
 ·rcases GB.mp hm with hm |hm
  ·obtain⟨q1,q2⟩:=B.fit p hp hm
   refine⟨Hw _ q1,?_⟩
   rw[IS,IS,FZ q1,FZ hm]
   exact q2
  ·rw[G6] at hm
   have hp1:p.1∈r:=by
    by_cases z:p.1∈r
    ·exact z
    ·have:p.1∈wV l r x:=jR.mpr ⟨by rw[<-hm];exact hp,z⟩
     rw[h2] at this;cases this
   refine⟨Hw _ hp1,?_⟩
   rw[IS,IS,FZ hp1,Gd (by rw[hm];exact h1)]
   have:=List.idxOf_lt_length_iff.mpr hp1
   omega
structure WP (r:SO)(Q:SO->Prop):Prop where
 out:Q r
section
variable {m m' m1 m2:SF}{env env1:En}{β β1 β2 z:Int}{Q:SO->Prop}{f fa fb:VF D}{t:VF Bool}{d e:D}{L La Lb:List Nat}{i j:Nat}{c:Bool}
def wp_at (env1:En)(e:env=env1)(k:WP (m env1 β) Q):WP (m env β) Q:=by rw[e];exact k
def wp_seq (h:m env β=.nx env1 β1)(k:WP (m' env1 β1) Q):WP (aC m m' env β) Q:=by rw[fU h];exact k
theorem oY (h:WP (aC m iq env β) Q):WP (m env β) Q:=by
 obtain⟨h⟩:=h
 unfold aC at h
 cases e:m env β with
 |_=>rw[e] at h;exact⟨h⟩
def jX (q:Q (.nx env β)):WP (iq env β) Q:=⟨q⟩
def dO (h:f (vl env) β=.ok d β1)(k:WP (m' ((aX L env).set i (.fz d)) β1) Q):WP (aC (cg i L f) m' env β) Q:=wp_seq (by unfold cg;rw[h];rfl) k
def ou (h:f (vl env) β=.ok d β1)(k:WP (m' ((aX L env).set i (.ow d)) β1) Q):WP (aC (jj i L f) m' env β) Q:=wp_seq (by unfold jj;rw[h];rfl) k
def k8 (h:f (vl env) β=.ok d β1)(k:WP (m' (aX L env) β1) Q):WP (aC (pE L f) m' env β) Q:=wp_seq (by unfold pE;rw[h];rfl) k
def wp_bind {t:Tg}(h:f (vl env) β=.ok d β1)(hb:du t d (aX L env)=some env1)(k:WP (m' env1 β1) Q):WP (aC (sQ t L f) m' env β) Q:=wp_seq (by unfold sQ;rw[h];dsimp only[toS];rw[hb]) k
def A4 {ds:List D}(hi:env[i]? =some (.ow (.list ds)))(h:f (vl env) β=.ok d β1)(hL:(aX L env)[i]? =some (.ow (.list ds)))(hz:ds.length<=1000)(k:WP (m' ((aX L env).set i (.ow (.list (ds ++ [d])))) β1) Q):WP (aC (oo i L f) m' env β) Q:=wp_seq (x6 hi h hL hz) k
def bb (h:t (vl env) β=.ok false β1)(k:WP (m' (aX L env) β1) Q):WP (aC (gr L t m1 iq) m' env β) Q:=wp_seq (by rw[qy h];rfl) k
def fW (h:t (vl env) β=.ok true β1)(k:WP (aC m1 m' (aX L env) β1) Q):WP (aC (gr L t m1 m2) m' env β) Q:=by
 have:aC (gr L t m1 m2) m' env β=aC m1 m' (aX L env) β1:=by unfold aC;rw[t7 h]
 rw[this];exact k
def BQ (h:t (vl env) β=.ok false β1)(k:WP (m2 (aX L env) β1) Q):WP (gr L t m1 m2 env β) Q:=by rw[qy h];exact k
def gn (h:f (vl env) β=.ok d β1)(q:Q (.rt d false β1)):WP (bH f env β) Q:=⟨by unfold bH;rw[h];exact q⟩
def jB (h:f (vl env) β=.ok d β1)(q:Q (.rt d false β1)):WP (aC (bH f) m' env β) Q:=⟨by unfold aC bH;rw[h];exact q⟩
def x8 (h:f (vl env) β=.ok d β1)(q:Q (.rt d true β1)):WP (iu f env β) Q:=⟨by unfold iu;rw[h];exact q⟩
def dA {R:FR}(h:WP (m env β) λr=>fin r=R):fin (m env β)=R:=h.out
def lC {t:Tg}{fi:VF (List D)}{ds:List D}(I:Nat->En->Int->Prop)(hi:fi (vl env) β=.ok ds β1)(h0:I 0 (aX L env) β1)
  (hs:∀i d env β,ds[i]? =some d->I i env β->∃env1,du t d env=some env1/\WP (m env1 β) λr=>∃env2 β2,r=.nx env2 β2/\I (i + 1) env2 β2)
  (k:∀env β,I ds.length env β->WP (m' env β) Q):WP (aC (dv t L fi m) m' env β) Q:=by
 obtain⟨env',β',e,h⟩:=lK (t:=t) (m:=m) I (ds:=ds) (k:=0) h0 λi d env β hd h=>by
  rw[ID] at h
  obtain⟨env1,e1,⟨env2,β2,e2,h2⟩⟩:=hs i d env β hd h
  exact⟨env1,e1,env2,β2,e2,by rw[ID];exact h2⟩
 rw[ID] at h
 exact wp_seq ((vR hi).trans e) (k _ _ h)
end
def wR (c:Int)(hc:0<=c/\c<=100)(ns:List Int)(vs:List Nv)(β:Int)(h:gv 0 vs β=.ok (cw ns) β):∃m:Nat,m<=101/\eT (f2 (cst (.int 1)) (f2 (f1 (gv 0) c7) (cst (.int c)) (qY λi j=>.int (if j < i then j else i))) (qY λi j=>.int (if j > i then j else i))) vs β=.ok (fD 0 m) β:=by
 have e1:f2 (cst (.int 1)) (f2 (f1 (gv 0) c7) (cst (.int c)) (qY λi j=>.int (if j < i then j else i))) (qY λi j=>.int (if j > i then j else i)) vs β=.ok (.int (if (if c < ((ns.map int).length:Int) then c else ((ns.map int).length:Int)) > 1 then (if c < ((ns.map int).length:Int) then c else ((ns.map int).length:Int)) else 1)) β:=
  bA (x:=.int 1) rfl (bA (x:=.int (ns.map int).length) (y:=.int c) (gE h rfl) rfl rfl) rfl
 generalize ((ns.map int).length:Nat)=k at e1
 refine⟨(if (if c < (k:Int) then c else (k:Int)) > 1 then (if c < (k:Int) then c else (k:Int)) else 1).toNat,?_,jP (e1.trans ?_) ?_⟩
 ·split <;> split <;> omega
 ·congr 2
  split <;> split <;> omega
 ·split <;> split <;> omega
def rq {ds:List D}{k:Nat}(h:k < ds.length):∃d,ds[k]? =some d/\d∈ds/\kX ds (k:Int)=some d:=⟨ds[k],FU h,Hj h,ox (FU h)⟩
section
variable {m m' m1 m2:SF}{env env1:En}{β β1 β2 z:Int}{Q:SO->Prop}{f fa fb:VF D}{t:VF Bool}{d e:D}{L La Lb:List Nat}{i j:Nat}{c:Bool}
theorem pe (h:WP (m env β) λr=>(∀a b,r≠.nx a b)/\Q r):WP (aC m m' env β) Q:=by
 obtain⟨h1,h2⟩:=h.out
 refine⟨?_⟩
 unfold aC
 cases e:m env β with
 |nx a b=>exact absurd e (h1 a b)
 |_=>rw[e] at h2;exact h2
theorem AH (J:En->Int->Prop)(h:∃c β1,t (vl env) β=.ok c β1/\(c=true->WP (m1 (aX L env) β1) λs=>∃env2 β2,s=.nx env2 β2/\J env2 β2)/\(c=false->WP (m2 (aX L env) β1) λs=>∃env2 β2,s=.nx env2 β2/\J env2 β2))(k:∀env β,J env β->WP (m' env β) Q):WP (aC (gr L t m1 m2) m' env β) Q:=by
 obtain⟨c,β1,e,h1,h2⟩:=h
 cases c with
 |true=>obtain⟨env2,β2,e2,hj⟩:=(h1 rfl).out;exact wp_seq ((t7 e).trans e2) (k _ _ hj)
 |false=>obtain⟨env2,β2,e2,hj⟩:=(h2 rfl).out;exact wp_seq ((qy e).trans e2) (k _ _ hj)
end
def BG (l:List Pr)(p:Pr):Bool:=((l.filter λq=>decide (q.2=p.1)).all λq=>decide ((q.1,p.2)∈l)) && ((l.filter λq=>decide (q.1=p.2)).all λq=>decide ((p.1,q.2)∈l))
def FK:List D->FR:=bo 4 2 iB
def iP:List D->FR:=bo 3 1 (tR FK)
def Fy:List D->FR:=bo 1 1 (kK il iP)
def Fh:List D->FR:=bo 1 1 (iZ il dD)
def A6:List D->FR:=bo 1 1 (i5 gj Fy il Fh)
def yt:List D->FR:=bo 1 1 (fO A6)
def B7:List D->FR:=bo 1 1 (ji sg)
def FI:List D->FR:=bo 2 2 kI
def BY:List D->FR:=bo 2 1 (jN iP sg FI)
def B8:List D->FR:=bo 1 1 (jl sg)
def B4:List D->FR:=bo 1 1 fq
noncomputable def AE:List D->FR:=bo 3 2 (hV il pairF dS jw)
noncomputable def Ca:List D->FR:=bo 1 1 (bF yt AE B7 iP BY B8 B4)
def D6:List D->FR:=bo 3 1 iM
noncomputable def ye:List D->FR:=bo 7 2 cG
noncomputable def Ed:List D->FR:=bo 11 1 (bw D6 ye)
noncomputable def Eb:List D->Int->FB:=uW 7 0 (eG jZ)
def DK {n:Nat}{ps:List Pr}(h1:1<=n)(h8:n<=8)(w:OM.Wn n ps):dS [.int n,.list (ps.map bI)]=.ok (.tuple ((OM.b6 n (OM.Tr (OM.Mem ps))).map bI)) false:=by
 unfold dS
 simp only[nY,dE]
 rw[FZ ⟨by omega,by omega,by rw[GX];exact w⟩,GX]
def C7 {n:Nat}{ps:List Pr}(h1:1<=n)(h8:n<=8)(w:OM.Wn n ps)(hl:ps.length<=1000)(irr:∀a,¬OM.Tr (OM.Mem ps) a a):AE [.int n,.list (ps.map bI)]=.ok (cM n (OM.b6 n (OM.Tr (OM.Mem ps)))) false:=by
 have O:=OM.wI h1 h8 w irr
 show fin (hV il pairF dS jw [.fz (.int n),.fz (.list (ps.map bI)),.no] 0)=_
 unfold hV
 refine dA (bb (β1:=0) (dJ (a:=true) (fP (aI (ds:=[.int n]) rfl (qH h1 h8)))) (wp_at [.fz (.int n),.fz (.list (ps.map bI)),.no] rfl ?_))
 have e5:bu 1 [0] (.nm 0) (eI (gv 1)) pk (aE pairF (aa (gv 0) (aa (gv 1) aw))) [.da (.int n),.da (.list (ps.map bI)),.no] 0=.ok (.list (ps.map λ_=>PyData.bool true)) 0:=by
  refine gR (l:=ps) (e:=bI) (λ_=>PyData.bool true) rfl hl λp hp=>⟨_,rfl,?_⟩
  refine aI (b:=false) (ds:=[bI p,.int n]) rfl ?_
  rw[vO,Gj (by have:=w p hp;exact this)]
 refine bb (β1:=0) (kO (c:=false) (dJ (a:=true) (fP rfl)) (dJ (a:=true) (fP (gE (d:=.bool true) e5 (by simp only[dF];rw[gz];simp))))) (wp_at [.fz (.int n),.fz (.list (ps.map bI)),.no] rfl ?_)
 refine dO (aI (ds:=[.int n,.list (ps.map bI)]) rfl (DK h1 h8 w)) (wp_at [.fz (.int n),.fz (.list (ps.map bI)),.fz (.tuple ((OM.b6 n (OM.Tr (OM.Mem ps))).map bI))] rfl ?_)
 exact bb (β1:=0) (fP (aI (ds:=[.tuple ((OM.b6 n (OM.Tr (OM.Mem ps))).map bI)]) rfl (zu O))) (gn rfl rfl)
def rL {n:Nat}{l:List Pr}(O:OM.Ord n l):AE [.int n,.list (l.map bI)]=.ok (cM n l) false:=by
 have:=C7 (ps:=l) O.lo O.hi O.wn (by have:=oz O;omega) λa h=>O.irr a (O.tr_mem.mp h)
 rw[O.closed] at this;exact this
def CQ (n:Nat)(l:List Pr):Bool:=decide (1<=n) && (decide (n<=8) && (decide (l=(OM.e9 n).filter λp=>l.contains p) && (l.all (λp=> !decide (p.1=p.2)) && l.all λp=>l.all λq=> !decide (p.2=q.1) || l.contains (p.1,q.2))))
def ao {n:Nat}{l:List Pr}(h:CQ n l=true):OM.Ord n l:=by
 unfold CQ at h
 simp only[GV,G9] at h
 obtain⟨h1,h8,e,hi,ht⟩:=h
 refine⟨h1,h8,λp hp=>?_,?_,λa ha=>?_,λa b c hab hbc=>?_⟩
 ·rw[e] at hp
  exact OM.dY.mp (Hb.mp hp).1
 ·rw[e];exact OM.me _ (OM.lR n)
 ·have:=Hk.mp hi _ ha
  simp at this
 ·have:=Hk.mp (Hk.mp ht _ hab) _ hbc
  simpa using this
def jv (κ:D):Prop:=∃n l,OM.Ord n l/\Ca [κ]=.ok (cM n l) false/\Ed [κ]=.ok (cM n l) false
section
variable {x:D}{n:Nat}{l:List Pr}
def mn (O:OM.Ord n l)(h:yt [.tuple [.str "crown",x]]=.ok .none false)(hm:cj (.int 2) x=some (.int n))(hp:B7 [x]=.ok (.list (l.map bI)) true):Ca [.tuple [.str "crown",x]]=.ok (cM n l) false:=by
 show fin (bF yt AE B7 iP BY B8 B4 [.fz (.tuple [.str "crown",x])] 0)=_
 unfold bF
 refine dA (k8 (aI (ds:=[.tuple [.str "crown",x]]) rfl h) (fW (β1:=0) (by kernel_rfl) (jB (aI (ds:=[.int n,.list (l.map bI)]) (ac (bA (x:=.int 2) (y:=x) rfl rfl hm) (ac (aI (ds:=[x]) rfl hp) an)) (rL O)) rfl)))
def cR {cs:List D}(O:OM.Ord n l)(h:yt [.tuple [.str "grid",x]]=.ok .none false)(hm:iP [x]=.ok (.list cs) false)(hc:cs.length=n)(hp:BY [x]=.ok (.list (l.map bI)) true):Ca [.tuple [.str "grid",x]]=.ok (cM n l) false:=by
 show fin (bF yt AE B7 iP BY B8 B4 [.fz (.tuple [.str "grid",x])] 0)=_
 unfold bF
 refine dA (k8 (aI (ds:=[.tuple [.str "grid",x]]) rfl h) (bb (β1:=0) (by kernel_rfl) (fW (β1:=0) (by kernel_rfl) (jB (aI (ds:=[.int n,.list (l.map bI)]) (ac (gE (x:=.list cs) (aI (ds:=[x]) rfl hm) (by show some (int (cs.length:Nat))=_;rw[hc])) (ac (aI (ds:=[x]) rfl hp) an)) (rL O)) rfl))))
def dX (O:OM.Ord n l)(h:yt [.tuple [.str "fence",.int n]]=.ok .none false)(hp:B8 [.int n]=.ok (.list (l.map bI)) true):Ca [.tuple [.str "fence",.int n]]=.ok (cM n l) false:=by
 show fin (bF yt AE B7 iP BY B8 B4 [.fz (.tuple [.str "fence",.int n])] 0)=_
 unfold bF
 refine dA (k8 (aI (ds:=[.tuple [.str "fence",.int n]]) rfl h) (bb (β1:=0) (by kernel_rfl) (bb (β1:=0) (by kernel_rfl) (fW (β1:=0) (by kernel_rfl) (jB (aI (ds:=[.int n,.list (l.map bI)]) (ac (β:=0) rfl (ac (aI (ds:=[.int n]) rfl hp) an)) (rL O)) rfl)))))
def FN:SF:=dv (.two 4 5) ([2] ++ []) (eI (aE D6 (aa (gv 2) aw)))
 (gr ((([] ++ []) ++ []) ++ (([] ++ ([] ++ [])) ++ ([] ++ ([] ++ [])))) (zI (eV (f2 (f2 (gv 4) (cst (.int 2)) gx) (cst (.int 0)) (fG false))) (ju (eV (f2 (gv 5) (f2 (gv 4) (cst (.int 1)) b4) (fG false))) (eV (f2 (gv 5) (f2 (gv 4) (cst (.int 1)) kP) (fG false)))))
 (oo 3 ([4] ++ ([5] ++ [])) (aZ (aa (gv 4) (aa (gv 5) aw))))
 iq)
def dW {s4 s5:Sl}(O:OM.Ord n l)(h:FN [.fz (.tuple [.str "fence",.int n]),.fz (.str "fence"),.fz (.int n),.ow (.list []),.no,.no,.no,.no,.no,.no,.no] 0=.nx [.fz (.tuple [.str "fence",.int n]),.fz (.str "fence"),.fz (.int n),.ow (.list (l.map bI)),s4,s5,.no,.no,.no,.no,.no] 0):Ed [.tuple [.str "fence",.int n]]=.ok (cM n l) false:=by
 show fin (bw D6 ye [.fz (.tuple [.str "fence",.int n]),.no,.no,.no,.no,.no,.no,.no,.no,.no,.no] 0)=_
 unfold bw
 refine dA (wp_bind (d:=.tuple [.str "fence",.int n]) (β1:=0) rfl (env1:=[.fz (.tuple [.str "fence",.int n]),.fz (.str "fence"),.fz (.int n),.no,.no,.no,.no,.no,.no,.no,.no]) rfl (bb (β1:=0) (by kernel_rfl) (fW (β1:=0) (by kernel_rfl) (pe ?_))))
 refine ou (d:=.list []) (lp (ds:=[]) an) (wp_at [.fz (.tuple [.str "fence",.int n]),.fz (.str "fence"),.fz (.int n),.ow (.list []),.no,.no,.no,.no,.no,.no,.no] rfl (wp_seq h ?_))
 have hs:=vk (N:=n) O.lo O.hi O.wn (OM.gK O.ris) O.irr
 rw[zZ O.hi O.wn,OM.nq O.wn O.ris] at hs
 exact gn (d:=cM n l) (tp (ds:=[.int n,.tuple (l.map bI)]) (ac rfl (ac (gE (x:=.list (l.map bI)) (gE (x:=.list (l.map bI)) rfl hs) rfl) an))) ⟨(λa b h=>by cases h),rfl⟩
end
def C1:jv (.tuple [.str "crown",.int 2]):=⟨4,[(0,3),(1,2)],ao (by decide +kernel),mn (ao (by decide +kernel)) (by kernel_rfl) (by kernel_rfl) (by kernel_rfl),by kernel_rfl⟩
def Dw:jv (.tuple [.str "crown",.int 3]):=⟨6,[(0,4),(0,5),(1,3),(1,5),(2,3),(2,4)],ao (by decide +kernel),mn (ao (by decide +kernel)) (by kernel_rfl) (by kernel_rfl) (by kernel_rfl),by kernel_rfl⟩
def DC:jv (.tuple [.str "crown",.int 4]):=⟨8,[(0,5),(0,6),(0,7),(1,4),(1,6),(1,7),(2,4),(2,5),(2,7),(3,4),(3,5),(3,6)],ao (by decide +kernel),mn (ao (by decide +kernel)) (by kernel_rfl) (by kernel_rfl) (by kernel_rfl),by kernel_rfl⟩
def CY:jv (.tuple [.str "grid",.tuple [.int 1]]):=⟨1,[],ao (by decide +kernel),cR (cs:=[.tuple [.int 0]]) (ao (by decide +kernel)) (by kernel_rfl) (by kernel_rfl) rfl (by kernel_rfl),by kernel_rfl⟩
def CK:jv (.tuple [.str "grid",.tuple [.int 8]]):=⟨8,[(0,1),(0,2),(0,3),(0,4),(0,5),(0,6),(0,7),(1,2),(1,3),(1,4),(1,5),(1,6),(1,7),(2,3),(2,4),(2,5),(2,6),(2,7),(3,4),(3,5),(3,6),(3,7),(4,5),(4,6),(4,7),(5,6),(5,7),(6,7)],ao (by decide +kernel),cR (cs:=[.tuple [.int 0],.tuple [.int 1],.tuple [.int 2],.tuple [.int 3],.tuple [.int 4],.tuple [.int 5],.tuple [.int 6],.tuple [.int 7]]) (ao (by decide +kernel)) (by kernel_rfl) (by kernel_rfl) rfl (by kernel_rfl),by kernel_rfl⟩
def CU:jv (.tuple [.str "grid",.tuple [.int 2,.int 2]]):=⟨4,[(0,1),(0,2),(0,3),(1,3),(2,3)],ao (by decide +kernel),cR (cs:=[.tuple [.int 0,.int 0],.tuple [.int 0,.int 1],.tuple [.int 1,.int 0],.tuple [.int 1,.int 1]]) (ao (by decide +kernel)) (by kernel_rfl) (by kernel_rfl) rfl (by kernel_rfl),by kernel_rfl⟩
def CH:jv (.tuple [.str "grid",.tuple [.int 2,.int 3]]):=⟨6,[(0,1),(0,2),(0,3),(0,4),(0,5),(1,2),(1,4),(1,5),(2,5),(3,4),(3,5),(4,5)],ao (by decide +kernel),cR (cs:=[.tuple [.int 0,.int 0],.tuple [.int 0,.int 1],.tuple [.int 0,.int 2],.tuple [.int 1,.int 0],.tuple [.int 1,.int 1],.tuple [.int 1,.int 2]]) (ao (by decide +kernel)) (by kernel_rfl) (by kernel_rfl) rfl (by kernel_rfl),by kernel_rfl⟩
def Cv:jv (.tuple [.str "grid",.tuple [.int 3,.int 2]]):=⟨6,[(0,1),(0,2),(0,3),(0,4),(0,5),(1,3),(1,5),(2,3),(2,4),(2,5),(3,5),(4,5)],ao (by decide +kernel),cR (cs:=[.tuple [.int 0,.int 0],.tuple [.int 0,.int 1],.tuple [.int 1,.int 0],.tuple [.int 1,.int 1],.tuple [.int 2,.int 0],.tuple [.int 2,.int 1]]) (ao (by decide +kernel)) (by kernel_rfl) (by kernel_rfl) rfl (by kernel_rfl),by kernel_rfl⟩
def Dm:jv (.tuple [.str "grid",.tuple [.int 2,.int 4]]):=⟨8,[(0,1),(0,2),(0,3),(0,4),(0,5),(0,6),(0,7),(1,2),(1,3),(1,5),(1,6),(1,7),(2,3),(2,6),(2,7),(3,7),(4,5),(4,6),(4,7),(5,6),(5,7),(6,7)],ao (by decide +kernel),cR (cs:=[.tuple [.int 0,.int 0],.tuple [.int 0,.int 1],.tuple [.int 0,.int 2],.tuple [.int 0,.int 3],.tuple [.int 1,.int 0],.tuple [.int 1,.int 1],.tuple [.int 1,.int 2],.tuple [.int 1,.int 3]]) (ao (by decide +kernel)) (by kernel_rfl) (by kernel_rfl) rfl (by kernel_rfl),by kernel_rfl⟩
def CD:jv (.tuple [.str "grid",.tuple [.int 4,.int 2]]):=⟨8,[(0,1),(0,2),(0,3),(0,4),(0,5),(0,6),(0,7),(1,3),(1,5),(1,7),(2,3),(2,4),(2,5),(2,6),(2,7),(3,5),(3,7),(4,5),(4,6),(4,7),(5,7),(6,7)],ao (by decide +kernel),cR (cs:=[.tuple [.int 0,.int 0],.tuple [.int 0,.int 1],.tuple [.int 1,.int 0],.tuple [.int 1,.int 1],.tuple [.int 2,.int 0],.tuple [.int 2,.int 1],.tuple [.int 3,.int 0],.tuple [.int 3,.int 1]]) (ao (by decide +kernel)) (by kernel_rfl) (by kernel_rfl) rfl (by kernel_rfl),by kernel_rfl⟩
def CG:jv (.tuple [.str "grid",.tuple [.int 1,.int 7]]):=⟨7,[(0,1),(0,2),(0,3),(0,4),(0,5),(0,6),(1,2),(1,3),(1,4),(1,5),(1,6),(2,3),(2,4),(2,5),(2,6),(3,4),(3,5),(3,6),(4,5),(4,6),(5,6)],ao (by decide +kernel),cR (cs:=[.tuple [.int 0,.int 0],.tuple [.int 0,.int 1],.tuple [.int 0,.int 2],.tuple [.int 0,.int 3],.tuple [.int 0,.int 4],.tuple [.int 0,.int 5],.tuple [.int 0,.int 6]]) (ao (by decide +kernel)) (by kernel_rfl) (by kernel_rfl) rfl (by kernel_rfl),by kernel_rfl⟩
def Ci:jv (.tuple [.str "grid",.tuple [.int 2,.int 2,.int 2]]):=⟨8,[(0,1),(0,2),(0,3),(0,4),(0,5),(0,6),(0,7),(1,3),(1,5),(1,7),(2,3),(2,6),(2,7),(3,7),(4,5),(4,6),(4,7),(5,7),(6,7)],ao (by decide +kernel),cR (cs:=[.tuple [.int 0,.int 0,.int 0],.tuple [.int 0,.int 0,.int 1],.tuple [.int 0,.int 1,.int 0],.tuple [.int 0,.int 1,.int 1],.tuple [.int 1,.int 0,.int 0],.tuple [.int 1,.int 0,.int 1],.tuple [.int 1,.int 1,.int 0],.tuple [.int 1,.int 1,.int 1]]) (ao (by decide +kernel)) (by kernel_rfl) (by kernel_rfl) rfl (by kernel_rfl),by kernel_rfl⟩
def Dx:jv (.tuple [.str "grid",.tuple [.int 1,.int 2,.int 3]]):=⟨6,[(0,1),(0,2),(0,3),(0,4),(0,5),(1,2),(1,4),(1,5),(2,5),(3,4),(3,5),(4,5)],ao (by decide +kernel),cR (cs:=[.tuple [.int 0,.int 0,.int 0],.tuple [.int 0,.int 0,.int 1],.tuple [.int 0,.int 0,.int 2],.tuple [.int 0,.int 1,.int 0],.tuple [.int 0,.int 1,.int 1],.tuple [.int 0,.int 1,.int 2]]) (ao (by decide +kernel)) (by kernel_rfl) (by kernel_rfl) rfl (by kernel_rfl),by kernel_rfl⟩
def Au:jv (.tuple [.str "grid",.tuple [.int 2,.int 1,.int 2]]):=⟨4,[(0,1),(0,2),(0,3),(1,3),(2,3)],ao (by decide +kernel),cR (cs:=[.tuple [.int 0,.int 0,.int 0],.tuple [.int 0,.int 0,.int 1],.tuple [.int 1,.int 0,.int 0],.tuple [.int 1,.int 0,.int 1]]) (ao (by decide +kernel)) (by kernel_rfl) (by kernel_rfl) rfl (by kernel_rfl),by kernel_rfl⟩
def A9:jv (.tuple [.str "grid",.tuple [.int 1,.int 1,.int 1]]):=⟨1,[],ao (by decide +kernel),cR (cs:=[.tuple [.int 0,.int 0,.int 0]]) (ao (by decide +kernel)) (by kernel_rfl) (by kernel_rfl) rfl (by kernel_rfl),by kernel_rfl⟩
def DF:jv (.tuple [.str "fence",.int 1]):=⟨1,[],ao (by decide +kernel),dX (n:=1) (ao (by decide +kernel)) (by kernel_rfl) (by kernel_rfl),dW (n:=1) (s4:=.fz (.int 0)) (s5:=.fz (.int 0)) (ao (by decide +kernel)) (by kernel_rfl)⟩
def DU:jv (.tuple [.str "fence",.int 2]):=⟨2,[(0,1)],ao (by decide +kernel),dX (n:=2) (ao (by decide +kernel)) (by kernel_rfl) (by kernel_rfl),dW (n:=2) (s4:=.fz (.int 1)) (s5:=.fz (.int 1)) (ao (by decide +kernel)) (by kernel_rfl)⟩
def De:jv (.tuple [.str "fence",.int 3]):=⟨3,[(0,1),(2,1)],ao (by decide +kernel),dX (n:=3) (ao (by decide +kernel)) (by kernel_rfl) (by kernel_rfl),dW (n:=3) (s4:=.fz (.int 2)) (s5:=.fz (.int 2)) (ao (by decide +kernel)) (by kernel_rfl)⟩
def CJ:jv (.tuple [.str "fence",.int 4]):=⟨4,[(0,1),(2,1),(2,3)],ao (by decide +kernel),dX (n:=4) (ao (by decide +kernel)) (by kernel_rfl) (by kernel_rfl),dW (n:=4) (s4:=.fz (.int 3)) (s5:=.fz (.int 3)) (ao (by decide +kernel)) (by kernel_rfl)⟩
def DI:jv (.tuple [.str "fence",.int 5]):=⟨5,[(0,1),(2,1),(2,3),(4,3)],ao (by decide +kernel),dX (n:=5) (ao (by decide +kernel)) (by kernel_rfl) (by kernel_rfl),dW (n:=5) (s4:=.fz (.int 4)) (s5:=.fz (.int 4)) (ao (by decide +kernel)) (by kernel_rfl)⟩
def DD:jv (.tuple [.str "fence",.int 6]):=⟨6,[(0,1),(2,1),(2,3),(4,3),(4,5)],ao (by decide +kernel),dX (n:=6) (ao (by decide +kernel)) (by kernel_rfl) (by kernel_rfl),dW (n:=6) (s4:=.fz (.int 5)) (s5:=.fz (.int 5)) (ao (by decide +kernel)) (by kernel_rfl)⟩
def C6:jv (.tuple [.str "fence",.int 7]):=⟨7,[(0,1),(2,1),(2,3),(4,3),(4,5),(6,5)],ao (by decide +kernel),dX (n:=7) (ao (by decide +kernel)) (by kernel_rfl) (by kernel_rfl),dW (n:=7) (s4:=.fz (.int 6)) (s5:=.fz (.int 6)) (ao (by decide +kernel)) (by kernel_rfl)⟩
def Di:jv (.tuple [.str "fence",.int 8]):=⟨8,[(0,1),(2,1),(2,3),(4,3),(4,5),(6,5),(6,7)],ao (by decide +kernel),dX (n:=8) (ao (by decide +kernel)) (by kernel_rfl) (by kernel_rfl),dW (n:=8) (s4:=.fz (.int 7)) (s5:=.fz (.int 7)) (ao (by decide +kernel)) (by kernel_rfl)⟩
section
variable {n k:Nat}{ps l:List Pr}
def wg (up:∀p,p∈ps->p.1 < p.2){a b:Int}(h:OM.Tr (OM.Mem ps) a b):a < b:=h.least (S:=λa b=>a < b) (λa b r=>up _ r) λa b c=>Int.lt_trans
def C2 (ps:List Pr)(k:Nat)(l:List Pr):Prop:=∀a b:Int,OM.Tr (OM.Mem ps) a b->b - a<=(k:Int) + 1->(a,b)∈l
theorem Fd (w:OM.Wn n ps)(up:∀p,p∈ps->p.1 < p.2):C2 ps 0 (OM.b6 n (OM.Mem ps)):=λa b h hd=>by
 cases h with
 |one r=>exact OM.aR.mpr ⟨w _ r,r⟩
 |more r t=>
  have h1:=up _ r
  have h2:=wg up t
  dsimp only at h1
  omega
theorem E2 (B:OM.zM n ps l)(up:∀p,p∈ps->p.1 < p.2)(h:C2 ps k l):C2 ps (k + 1) (OM.nj n l):=λa b ht hd=>by
 obtain⟨B2,hs⟩:=OM.lX B
 cases ht with
 |one r=>exact hs _ (B.sub _ r)
 | @more _ c _ r t=>
  have h1:=up _ r
  dsimp only at h1
  have hcb:=h c b t (by omega)
  have hac:=B.sub _ r
  exact OM.aR.mpr ⟨⟨(B.wn _ hac).1,(B.wn _ hcb).2⟩,GD _ (OM.lA.mpr ⟨c,hac,hcb⟩)⟩
def yQ (B:OM.zM n ps l)(h:C2 ps n l):l=OM.b6 n (OM.Tr (OM.Mem ps)):=OM.fS B.ris (OM.cA n _) λx=>⟨λhx=>OM.aR.mpr ⟨B.wn x hx,B.sup x hx⟩,λhx=>by
 have:=OM.aR.mp hx
 exact h x.1 x.2 this.2 (by omega)⟩
abbrev cE (n:Nat)(ps l:List Pr)(s3 s4 s5 s6:Sl):En:=[.fz (.int n),.fz (.list (ps.map bI)),.fz (.list (l.map bI)),s3,s4,s5,s6]
def Cf (h1:1<=n)(h8:n<=8)(w:OM.Wn n ps)(up:∀p,p∈ps->p.1 < p.2):ye [.int n,.list (ps.map bI)]=.ok (.tuple ((OM.b6 n (OM.Tr (OM.Mem ps))).map bI)) false:=by
 have irr:∀a,¬OM.Tr (OM.Mem ps) a a:=λa h=>by have:=wg up h;omega
 have blen:∀{l:List Pr},OM.zM n ps l->l.length < 64:=λ{l} B=>sL h1 h8 B.wn (OM.gK B.ris) λa ha=>irr a (B.sup _ ha)
 have B0:=OM.uM (ps:=ps) w
 show fin (cG [.fz (.int n),.fz (.list (ps.map bI)),.no,.no,.no,.no,.no] 0)=_
 unfold cG
 refine dA (dO (d:=.list ((OM.b6 n (OM.Mem ps)).map bI)) (β1:=0) (gE rfl (kF h8 w (blen B0) rfl)) (wp_at (cE n ps (OM.b6 n (OM.Mem ps)) .no .no .no .no) rfl ?_))
 refine lC (λi env _=>∃(l:List Pr) (s3 s4 s5 s6:Sl),env=cE n ps l s3 s4 s5 s6/\OM.zM n ps l/\C2 ps i l) (jP (n:=n) rfl (by omega)) ⟨_,_,_,_,_,rfl,B0,Fd w up⟩ ?_ ?_
 ·rintro i d env β hi ⟨l,s3,s4,s5,s6,rfl,B,hf⟩
  have hl:=blen B
  have hl2:=blen (OM.lX B).1
  refine⟨cE n ps l (.fz d) s4 s5 s6,rfl,?_⟩
  refine dO (d:=.list []) (β1:=β) (lp (ds:=[]) an) (wp_at (cE n ps l (.fz d) (.fz (.list [])) s5 s6) rfl ?_)
  refine lC (ds:=l.map bI) (β1:=β) (λj env _=>∃s5 s6:Sl,env=cE n ps l (.fz d) (.fz (.list (((l.take j).flatMap (wq l)).map bI))) s5 s6) rfl ⟨_,_,rfl⟩ ?_ ?_
  ·rintro j e env β hj ⟨s5,s6,rfl⟩
   rw[Gf] at hj
   cases q:l[j]? with
   |none=>rw[q] at hj;cases hj
   |some p=>
    rw[q] at hj
    cases hj
    refine⟨cE n ps l (.fz d) (.fz (.list (((l.take j).flatMap (wq l)).map bI))) (.fz (.int p.1)) (.fz (.int p.2)),rfl,?_⟩
    have ec:bu 2 [6,5] (.two 0 1) (eI (gv 2)) (eV (f2 (gv 0) (gv 2) (fG false))) (aZ (aa (gv 3) (aa (gv 1) aw))) (vl (cE n ps l (.fz d) (.fz (.list (((l.take j).flatMap (wq l)).map bI))) (.fz (.int p.1)) (.fz (.int p.2)))) β=.ok (.list ((wq l p).map bI)) β:=by
     rw[jn (l:=l) (e:=bI) (λq=>decide (q.1=p.2)) (λq=>bI (p.1,q.2)) rfl (by omega) (β1:=β)]
     ·unfold wq;rw[IF];rfl
     ·intro q hq
      exact⟨_,rfl,jG (neg:=false) (i:=q.1) (j:=p.2) rfl rfl,λ_=>jE (ds:=[.int p.1,.int q.2]) rfl (by simp)⟩
    have hk:(l.take j).length<=63:=by rw[Hd];omega
    have hfl:=qK l (l.take j)
    have hfl2:(l.take j).length * l.length<=63 * 63:=HF hk (by omega)
    have hm1:=t9 l p
    have e5:f2 (gv 4) (bu 2 [6,5] (.two 0 1) (eI (gv 2)) (eV (f2 (gv 0) (gv 2) (fG false))) (aZ (aa (gv 3) (aa (gv 1) aw)))) oJ (vl (cE n ps l (.fz d) (.fz (.list (((l.take j).flatMap (wq l)).map bI))) (.fz (.int p.1)) (.fz (.int p.2)))) β=.ok (.list (((l.take (j + 1)).flatMap (wq l)).map bI)) β:=by
     refine bA rfl ec ?_
     rw[sR (by rw[Gv,Gv];omega),<-Iz]
     have:l.take (j + 1)=l.take j ++ [p]:=by rw[HN,q];rfl
     rw[this,List.flatMap_append,List.flatMap_cons,List.flatMap_nil,HZ]
    exact oY (dO e5 (jX ⟨_,_,rfl,_,_,rfl⟩))
  ·rintro env β ⟨s5,s6,rfl⟩
   rw[Gv,Ig (FX _)]
   have hfl:=qK l l
   have hfl2:l.length * l.length<=63 * 63:=HF (by omega) (by omega)
   have e6:f1 (f2 (gv 2) (gv 4) oJ) fA (vl (cE n ps l (.fz d) (.fz (.list ((l.flatMap (wq l)).map bI))) s5 s6)) β=.ok (.list ((OM.nj n l).map bI)) β:=by
    refine gE (x:=.list ((l ++ OM.more l).map bI)) (bA rfl rfl ?_) (kF h8 (OM.wU B) hl2 rfl)
    rw[sR (by rw[Gv,Gv];omega),<-Iz];rfl
   exact oY (dO e6 (jX ⟨_,_,rfl,OM.nj n l,_,_,_,_,rfl,(OM.lX B).1,E2 B up hf⟩))
 ·rintro env β ⟨l,s3,s4,s5,s6,rfl,B,hf⟩
  rw[show (fD 0 n).length=n by unfold fD;simp] at hf
  obtain rfl:=yQ B hf
  exact gn rfl rfl
end
def uD:Option Int->D
 |none=>.none
 |some u=>.int u
def eO (us:List (Option Int))(t:Nat):Option Int:=us.getD t none
def Us (n:Nat)(us:List (Option Int)):Prop:=∀(t:Nat) (u:Int),eO us t=some u->(t:Int) < u/\u < n
def qD (us:List (Option Int)):List Pr:=((List.range us.length).filter λt=>(eO us t).isSome).map λ(t:Nat)=>((t:Int),(eO us t).getD 0)
section
variable {us:List (Option Int)}
def zE {t:Nat}(h:t < us.length):(us.map uD)[t]? =some (uD (eO us t)):=by
 rw[Gf];unfold eO
 rw[GU,FU h];rfl
def tj:j5 (us.map uD)=(List.range us.length).map λ(t:Nat)=>PyData.tuple [.int t,uD (eO us t)]:=by
 refine Ik λi=>?_
 unfold j5
 rw[List.getElem?_mapIdx,Gf,Gf]
 by_cases h:i < us.length
 ·rw[FU h,Iw h]
  have:=zE h
  rw[Gf,FU h] at this
  simp only[Option.map_some,Option.some.injEq] at this
  simp only[Option.map_some,this]
 ·rw[Hv (by omega),Hv (by rw[Hh];omega)];rfl
theorem zp {p:Pr}(h:p∈qD us):∃t:Nat,t < us.length/\p.1=t/\eO us t=some p.2:=by
 unfold qD at h
 obtain⟨t,ht,rfl⟩:=Gh.mp h
 obtain⟨h1,h2⟩:=Hb.mp ht
 refine⟨t,Gm.mp h1,rfl,?_⟩
 cases q:eO us t with
 |none=>rw[q] at h2;cases h2
 |some u=>rfl
def Bb {n:Nat}(hl:us.length=n)(h:Us n us):OM.Wn n (qD us)/\∀p,p∈qD us->p.1 < p.2:=by
 refine⟨λp hp=>?_,λp hp=>?_⟩ <;> obtain⟨t,ht,e,q⟩:=zp hp <;> have:=h t _ q
 ·exact⟨⟨by omega,by omega⟩,by omega,by omega⟩
 ·omega
def y0:(qD us).length<=us.length:=by
 unfold qD
 rw[Gv]
 have:=Im (λt=>(eO us t).isSome) (List.range us.length)
 rw[Hh] at this;exact this
def Ex (hl:us.length<=8):B4 [.tuple (us.map uD)]=.ok (.list ((qD us).map bI)) true:=by
 show fin (fq [.fz (.tuple (us.map uD))] 0)=_
 unfold fq
 have e:bu 2 [] (.two 0 1) (qt (gv 0)) (tN (gv 1) true) (aZ (aa (gv 0) (aa (gv 1) aw))) [.da (.tuple (us.map uD))] 0=.ok (.list ((qD us).map bI)) 0:=by
  rw[jn (l:=List.range us.length) (e:=λ(t:Nat)=>PyData.tuple [.int t,uD (eO us t)]) (λt=>(eO us t).isSome) (λ(t:Nat)=>bI ((t:Int),(eO us t).getD 0)) (β1:=0) (by show R.ok (j5 (us.map uD)) 0=_;rw[tj]) (by rw[Hh];omega)]
  ·unfold qD;rw[IF];rfl
  ·intro t ht
   refine⟨[.da (.int t),.da (uD (eO us t))],rfl,?_,λhs=>?_⟩
   ·cases q:eO us t <;> rfl
   ·cases q:eO us t with
    |none=>rw[q] at hs;cases hs
    |some u=>rfl
 exact dA (x8 e rfl)
def EE {n:Nat}(hl:us.length=n)(h1:1<=n)(h8:n<=8)(h:Us n us):Fh [.tuple (us.map uD)]=.ok (.bool true) false:=by
 show fin (iZ il dD [.fz (.tuple (us.map uD))] 0)=_
 unfold iZ
 have ln:f1 (gv 0) c7 [.da (.tuple (us.map uD))] 0=.ok (.int n) 0:=gE (x:=.tuple (us.map uD)) rfl (by show some (int ((us.map uD).length:Nat))=_;rw[Gv,hl])
 refine dA (bb (β1:=0) (kO (c:=false) (dJ (a:=true) (fP rfl)) (dJ (a:=true) (fP (aI (ds:=[.int n]) (ac ln an) (qH h1 h8))))) (wp_at [.fz (.tuple (us.map uD))] rfl ?_))
 have e:bu 2 [0] (.two 0 1) (qt (gv 0)) pk (D9 (f1 (gv 1) λd=>some (.bool (mM d))) (gc (aE dD (aa (gv 1) (aa (f1 (gv 2) c7) aw))) (f2 (gv 1) (gv 0) B6))) [.da (.tuple (us.map uD))] 0=.ok (.list ((List.range us.length).map λ_=>PyData.bool true)) 0:=by
  refine gR (l:=List.range us.length) (e:=λ(t:Nat)=>PyData.tuple [.int t,uD (eO us t)]) (λ_=>PyData.bool true) (β1:=0) (by show R.ok (j5 (us.map uD)) 0=_;rw[tj]) (by rw[Hh];omega) λt ht=>?_
  refine⟨[.da (.int t),.da (uD (eO us t)),.da (.tuple (us.map uD))],rfl,?_⟩
  cases q:eO us t with
  |none=>rfl
  |some u=>
   have hu:=h t u q
   have e1:aE dD (aa (gv 1) (aa (f1 (gv 2) c7) aw)) [.da (.int t),.da (uD (some u)),.da (.tuple (us.map uD))] 0=.ok (.bool true) 0:=by
    refine aI (ds:=[.int u,.int n]) (b:=false) (ac rfl (ac (gE (x:=.tuple (us.map uD)) rfl (by show some (int ((us.map uD).length:Nat))=_;rw[Gv,hl])) an)) ?_
    rw[tP rfl]
    show FR.ok (.bool (decide (0<=u/\u < (n:Int)))) false=_
    rw[Gj (by omega)]
   have e2:f2 (gv 1) (gv 0) B6 [.da (.int t),.da (uD (some u)),.da (.tuple (us.map uD))] 0=.ok (.bool true) 0:=bA (x:=.int u) (y:=.int t) rfl rfl (by show some (PyData.bool (decide ((t:Int) < u)))=_;rw[Gj hu.1])
   have e3:=tZ (a:=true) (b:=true) e1 e2
   unfold D9
   exact e3
 exact gn (gE (d:=.bool true) e (by simp only[dF];rw[gz];simp)) rfl
def zr {n:Nat}(hl:us.length=n)(h1:1<=n)(h8:n<=8)(h:Us n us):yt [.tuple [.str "bush",.tuple (us.map uD)]]=.ok .none false:=by
 have ik:A6 [.tuple [.str "bush",.tuple (us.map uD)]]=.ok (.bool true) false:=by
  show fin (i5 gj Fy il Fh [.fz (.tuple [.str "bush",.tuple (us.map uD)])] 0)=_
  unfold i5
  refine dA (bb (β1:=0) (kO (c:=false) (dJ (a:=true) (fP rfl)) rfl) (bb (β1:=0) (by kernel_rfl) (bb (β1:=0) (by kernel_rfl) (bb (β1:=0) (by kernel_rfl) (gn (d:=.bool true) (β1:=0) (tZ (a:=true) (b:=true) (by kernel_rfl) (aI (ds:=[.tuple (us.map uD)]) rfl (EE hl h1 h8 h))) rfl)))))
 show fin (fO A6 [.fz (.tuple [.str "bush",.tuple (us.map uD)])] 0)=_
 unfold fO
 exact dA (BQ (β1:=0) (dJ (a:=true) (fP (aI (ds:=[.tuple [.str "bush",.tuple (us.map uD)]]) rfl ik))) (jX rfl))
def yK {n:Nat}(hl:us.length=n)(h1:1<=n)(h8:n<=8)(h:Us n us):jv (.tuple [.str "bush",.tuple (us.map uD)]):=by
 obtain⟨w,up⟩:=Bb hl h
 have irr:∀a,¬OM.Tr (OM.Mem (qD us)) a a:=λa h=>by have:=wg up h;omega
 have O:=OM.wI h1 h8 w irr
 have hb:=y0 (us:=us)
 refine⟨n,_,O,?_,?_⟩
 ·show fin (bF yt AE B7 iP BY B8 B4 [.fz (.tuple [.str "bush",.tuple (us.map uD)])] 0)=_
  unfold bF
  have ln:f1 (f2 (gv 0) (cst (.int 1)) eY) c7 (vl [.fz (.tuple [.str "bush",.tuple (us.map uD)])]) 0=.ok (.int n) 0:=gE (x:=.tuple (us.map uD)) rfl (by show some (int ((us.map uD).length:Nat))=_;rw[Gv,hl])
  refine dA (k8 (aI (ds:=[.tuple [.str "bush",.tuple (us.map uD)]]) rfl (zr hl h1 h8 h)) (bb (β1:=0) (by kernel_rfl) (bb (β1:=0) (by kernel_rfl) (bb (β1:=0) (by kernel_rfl) (gn (aI (ds:=[.int n,.list ((qD us).map bI)]) (ac ln (ac (aI (ds:=[.tuple (us.map uD)]) rfl (Ex (by omega))) an)) (C7 h1 h8 w (by omega) irr)) rfl)))))
 ·show fin (bw D6 ye [.fz (.tuple [.str "bush",.tuple (us.map uD)]),.no,.no,.no,.no,.no,.no,.no,.no,.no,.no] 0)=_
  unfold bw
  refine dA (wp_bind (d:=.tuple [.str "bush",.tuple (us.map uD)]) (β1:=0) rfl (env1:=[.fz (.tuple [.str "bush",.tuple (us.map uD)]),.fz (.str "bush"),.fz (.tuple (us.map uD)),.no,.no,.no,.no,.no,.no,.no,.no]) rfl (bb (β1:=0) (by kernel_rfl) (bb (β1:=0) (by kernel_rfl) (fW (β1:=0) (by kernel_rfl) (pe ?_)))))
  have ln:∀{vs:List Nv} {i:Nat},gv i vs 0=.ok (.tuple (us.map uD)) 0->f1 (gv i) c7 vs 0=.ok (.int n) 0:=λ{vs i} hv=>gE (x:=.tuple (us.map uD)) hv (by show some (int ((us.map uD).length:Nat))=_;rw[Gv,hl])
  have e:bu 1 [2] (.nm 0) (eT (f1 (gv 2) c7)) (tN (f2 (gv 1) (gv 0) eY) true) (aZ (aa (gv 0) (aa (f2 (gv 1) (gv 0) eY) aw))) (vl [.fz (.tuple [.str "bush",.tuple (us.map uD)]),.fz (.str "bush"),.fz (.tuple (us.map uD)),.no,.no,.no,.no,.no,.no,.no,.no]) 0=.ok (.list ((qD us).map bI)) 0:=by
   rw[jn (l:=List.range us.length) (e:=λ(t:Nat)=>int (0 + (t:Int))) (λt=>(eO us t).isSome) (λ(t:Nat)=>bI ((t:Int),(eO us t).getD 0)) (β1:=0) (by rw[hl];exact jP (ln rfl) (by omega)) (by rw[Hh];omega)]
   ·unfold qD;rw[IF];rfl
   ·intro t ht
    have ht:=Gm.mp ht
    have ix:f2 (gv 1) (gv 0) eY [.da (.int (0 + (t:Int))),.da (.tuple (us.map uD))] 0=.ok (uD (eO us t)) 0:=bA (x:=.tuple (us.map uD)) (y:=.int (0 + (t:Int))) rfl rfl (by rw[IJ];exact ox (zE ht))
    refine⟨[.da (.int (0 + (t:Int))),.da (.tuple (us.map uD))],rfl,?_,λhs=>?_⟩
    ·rw[CI,ix];cases q:eO us t <;> rfl
    ·cases q:eO us t with
     |none=>rw[q] at hs;cases hs
     |some u=>
      rw[q] at ix
      refine (tp (ds:=[.int (0 + (t:Int)),.int u]) (ac rfl (ac ix an))).trans ?_
      rw[IJ];rfl
  refine ou e (wp_at [.fz (.tuple [.str "bush",.tuple (us.map uD)]),.fz (.str "bush"),.fz (.tuple (us.map uD)),.ow (.list ((qD us).map bI)),.no,.no,.no,.no,.no,.no,.no] rfl ?_)
  exact gn (d:=cM n (OM.b6 n (OM.Tr (OM.Mem (qD us))))) (tp (ds:=[.int n,.tuple ((OM.b6 n (OM.Tr (OM.Mem (qD us)))).map bI)]) (ac (ln rfl) (ac (aI (ds:=[.int n,.list ((qD us).map bI)]) (ac (ln rfl) (ac rfl an)) (Cf h1 h8 w up)) an))) ⟨(λa b h=>by cases h),rfl⟩
end
section
variable {fa:VF D}{fr:VF (List D)}{vs:List Nv}{β β1 β2:Int}{d:D}{ds:List D}
def B3 (h:fa vs β=.ok d β1)(h':fr vs β1=.ok ds β2):aa fa fr vs β=.ok (d :: ds) β2:=by rw[iG,h];dsimp only[R.bnd];rw[h']
def A1 {i m:Nat}(hb:qB vs i=true)(h1:1<=m)(hm:m<=1000)(ha:fa vs β=.ok (.int m) β):∃j:Nat,j < m/\∃β',td i jZ (aa fa aw) vs β=.ok (.int (j:Int)) β':=by
 obtain⟨j,hj,e⟩:=vN h1 hm β
 exact⟨j,hj,_,AR (ds:=[.int m]) hb (ac ha an) e⟩
end
def Ar:List D:=[.tuple [.int 1],.tuple [.int 8],.tuple [.int 2,.int 2],.tuple [.int 2,.int 3],.tuple [.int 3,.int 2],.tuple [.int 2,.int 4],.tuple [.int 4,.int 2],.tuple [.int 1,.int 7],.tuple [.int 2,.int 2,.int 2],.tuple [.int 1,.int 2,.int 3],.tuple [.int 2,.int 1,.int 2],.tuple [.int 1,.int 1,.int 1]]
def EJ {x:D}(h:x∈Ar):jv (.tuple [.str "grid",x]):=by
 simp only[Ar,FY,GN,HE] at h
 rcases h with rfl |rfl |rfl |rfl |rfl |rfl |rfl |rfl |rfl |rfl |rfl |rfl
 ·exact CY
 ·exact CK
 ·exact CU
 ·exact CH
 ·exact Cv
 ·exact Dm
 ·exact CD
 ·exact CG
 ·exact Ci
 ·exact Dx
 ·exact Au
 ·exact A9
def EB {j:Nat}(h:j < 3):jv (.tuple [.str "crown",.int (2 + (j:Int))]):=by
 rcases (show j=0\/j=1\/j=2 by omega) with rfl |rfl |rfl
 ·exact C1
 ·exact Dw
 ·exact DC
def EK {j:Nat}(h:j < 8):jv (.tuple [.str "fence",.int (1 + (j:Int))]):=by
 rcases (show j=0\/j=1\/j=2\/j=3\/j=4\/j=5\/j=6\/j=7 by omega) with rfl |rfl |rfl |rfl |rfl |rfl |rfl |rfl
 ·exact DF
 ·exact DU
 ·exact De
 ·exact CJ
 ·exact DI
 ·exact DD
 ·exact C6
 ·exact Di
def RK (r:SO):Prop:=∃κ β',Bx r=.ok κ false β'/\jv κ
def y7 {n:Nat}{us:List (Option Int)}{o:Option Int}(h:Us n us)(ho:∀u,o=some u->(us.length:Int) < u/\u < n):Us n (us ++ [o]):=λt u e=>by
 unfold eO at e
 rw[GU] at e
 by_cases c:t < us.length
 ·rw[GC c] at e
  exact h t u (by unfold eO;rw[GU];exact e)
 ·by_cases c2:t=us.length
  ·subst c2
   rw[GA (FX _),Nat.sub_self] at e
   exact ho u e
  ·rw[Hv (by rw[GO];simp;omega)] at e
   cases e
abbrev kE (w:D)(s2 s3 s4 s5 s6:Sl):En:=[.bx,.fz w,s2,s3,s4,s5,s6]
def Fi (β:Int):∃κ β',Eb [] β=.ok κ false β'/\jv κ:=by
 show ∃κ β',Bx (eG jZ [.bx,.no,.no,.no,.no,.no,.no] β)=.ok κ false β'/\jv κ
 suffices h:WP (eG jZ [.bx,.no,.no,.no,.no,.no,.no] β) RK from h.out
 unfold eG
 obtain⟨w,hw,β1,ew⟩:=A1 (fa:=cst (.int 4)) (vs:=vl [.bx,.no,.no,.no,.no,.no,.no]) (β:=β) (i:=0) (m:=4) rfl (by omega) (by omega) rfl
 refine dO ew (wp_at (kE (.int w) .no .no .no .no .no) rfl ?_)
 by_cases w0:w=0
 ·subst w0
  obtain⟨j,hj,β2,ej⟩:=A1 (fa:=cst (.int 3)) (vs:=vl (kE (.int (0:Nat)) .no .no .no .no .no)) (β:=β1) (i:=0) (m:=3) rfl (by omega) (by omega) rfl
  exact fW (β1:=β1) rfl (jB (β1:=β2) (jE (ds:=[.str "crown",.int (2 + (j:Int))]) (B3 (β1:=β1) rfl (B3 (bA (x:=.int 2) (y:=.int j) rfl ej rfl) an)) (by simp)) ⟨_,_,rfl,EB hj⟩)
 refine bb (β1:=β1) ((jG (neg:=false) (i:=w) (j:=0) rfl rfl).trans (by rw[Gn (by omega)];rfl)) (wp_at (kE (.int w) .no .no .no .no .no) rfl ?_)
 by_cases w1:w=1
 ·subst w1
  refine fW (β1:=β1) rfl (pe (dO (d:=.list Ar) (β1:=β1) rfl (wp_at (kE (.int (1:Nat)) (.fz (.list Ar)) .no .no .no .no) rfl ?_)))
  obtain⟨j,hj,β2,ej⟩:=A1 (fa:=cst (.int 12)) (vs:=vl (kE (.int (1:Nat)) (.fz (.list Ar)) .no .no .no .no)) (β:=β1) (i:=0) (m:=12) rfl (by omega) (by omega) rfl
  obtain⟨x,_,hx,ex⟩:=rq (ds:=Ar) (k:=j) hj
  exact gn (β1:=β2) (jE (ds:=[.str "grid",x]) (B3 (β1:=β1) rfl (B3 (bA (x:=.list Ar) (y:=.int j) rfl ej ex) an)) (by simp)) ⟨(λa b h=>by cases h),_,_,rfl,EJ hx⟩
 refine bb (β1:=β1) ((jG (neg:=false) (i:=w) (j:=1) rfl rfl).trans (by rw[Gn (by omega)];rfl)) (wp_at (kE (.int w) .no .no .no .no .no) rfl ?_)
 by_cases w2:w=2
 ·subst w2
  obtain⟨j,hj,β2,ej⟩:=A1 (fa:=cst (.int 8)) (vs:=vl (kE (.int (2:Nat)) .no .no .no .no .no)) (β:=β1) (i:=0) (m:=8) rfl (by omega) (by omega) rfl
  exact fW (β1:=β1) rfl (jB (β1:=β2) (jE (ds:=[.str "fence",.int (1 + (j:Int))]) (B3 (β1:=β1) rfl (B3 (bA (x:=.int 1) (y:=.int j) rfl ej rfl) an)) (by simp)) ⟨_,_,rfl,EK hj⟩)
 refine bb (β1:=β1) ((jG (neg:=false) (i:=w) (j:=2) rfl rfl).trans (by rw[Gn (by omega)];rfl)) (wp_at (kE (.int w) .no .no .no .no .no) rfl ?_)
 refine ou (d:=.list []) (β1:=β1) (lp (ds:=[]) an) (wp_at (kE (.int w) .no (.ow (.list [])) .no .no .no) rfl ?_)
 obtain⟨m,hm,β2,em⟩:=A1 (fa:=cst (.int 8)) (vs:=vl (kE (.int w) .no (.ow (.list [])) .no .no .no)) (β:=β1) (i:=0) (m:=8) rfl (by omega) (by omega) rfl
 refine dO (d:=.int ((1 + m:Nat):Int)) (β1:=β2) (bA (x:=.int 1) (y:=.int m) rfl em (by show some (int (1 + (m:Int)))=_;rw[show ((1 + m:Nat):Int)=1 + (m:Int) by omega])) (wp_at (kE (.int w) .no (.ow (.list [])) (.fz (.int ((1 + m:Nat):Int))) .no .no) rfl ?_)
 obtain⟨n,hn⟩:∃n,n=1 + m:=⟨_,rfl⟩
 rw[<-hn]
 have h1:1<=n:=by omega
 have h8:n<=8:=by omega
 refine lC (λi env _=>∃(us:List (Option Int)) (s5 s6:Sl),env=kE (.int w) .no (.ow (.list (us.map uD))) (.fz (.int n)) s5 s6/\us.length=i/\Us n us) (jP (n:=n) rfl (by omega)) ⟨[],_,_,rfl,rfl,λt u e=>by cases e⟩ ?_ ?_
 ·rintro i d env β hi ⟨us,s5,s6,rfl,hl,hU⟩
  obtain⟨hin,rfl⟩:=lu hi
  rw[IJ]
  refine⟨kE (.int w) .no (.ow (.list (us.map uD))) (.fz (.int n)) (.fz (.int i)) s6,rfl,?_⟩
  refine dO (d:=.none) (β1:=β) rfl (wp_at (kE (.int w) .no (.ow (.list (us.map uD))) (.fz (.int n)) (.fz (.int i)) (.fz .none)) rfl ?_)
  have lt:eV (f2 (f2 (gv 5) (cst (.int 1)) b4) (gv 4) xT) (vl (kE (.int w) .no (.ow (.list (us.map uD))) (.fz (.int n)) (.fz (.int i)) (.fz .none))) β=.ok (decide ((i:Int) + 1 < n)) β:=rfl
  refine AH (λenv _=>∃o:Option Int,env=kE (.int w) .no (.ow (.list (us.map uD))) (.fz (.int n)) (.fz (.int i)) (.fz (uD o))/\∀u,o=some u->(us.length:Int) < u/\u < n) ?_ ?_
  ·by_cases c:(i:Int) + 1 < n
   ·obtain⟨j,hj,β3,ej⟩:=A1 (fa:=cst (.int 4)) (vs:=vl (kE (.int w) .no (.ow (.list (us.map uD))) (.fz (.int n)) (.fz (.int i)) (.fz .none))) (β:=β) (i:=0) (m:=4) rfl (by omega) (by omega) rfl
    refine⟨decide (0 < (j:Int)),β3,?_,λ_=>?_,λ_=>jX ⟨_,_,rfl,none,rfl,λu e=>by cases e⟩⟩
    ·rw[xu,lt,Gj c]
     dsimp only[R.bnd]
     rw[FZ rfl]
     exact oW _ _ _ _ (bA (x:=.int j) (y:=.int 0) ej rfl rfl)
    ·have es:f2 (f2 (gv 4) (cst (.int 1)) kP) (gv 5) kP (vl (kE (.int w) .no (.ow (.list (us.map uD))) (.fz (.int n)) (.fz (.int i)) (.fz .none))) β3=.ok (.int ((n - 1 - i:Nat):Int)) β3:=bA (x:=.int ((n:Int) - 1)) (y:=.int i) rfl rfl (by show some (int ((n:Int) - 1 - i))=_;rw[show ((n - 1 - i:Nat):Int)=(n:Int) - 1 - i by omega])
     obtain⟨q,hq,β4,eq⟩:=A1 (i:=0) (m:=n - 1 - i) rfl (by omega) (by omega) es
     exact oY (dO (d:=.int ((i:Int) + 1 + q)) (β1:=β4) (bA (x:=.int ((i:Int) + 1)) (y:=.int q) rfl eq rfl) (jX ⟨_,_,rfl,some ((i:Int) + 1 + q),rfl,λu e=>by cases e;omega⟩))
   ·exact⟨false,β,by rw[xu,lt,Gn c];rfl,(λh=>by cases h),λ_=>jX ⟨_,_,rfl,none,rfl,λu e=>by cases e⟩⟩
  ·rintro env β ⟨o,rfl,ho⟩
   refine oY (A4 (ds:=us.map uD) (d:=uD o) (β1:=β) rfl rfl rfl (by rw[Gv];omega) (jX ⟨_,_,rfl,us ++ [o],.fz (.int i),.fz (uD o),?_,by rw[GO,hl];rfl,y7 hU ho⟩))
   rw[Iz];rfl
 ·rintro env β ⟨us,s5,s6,rfl,hl,hU⟩
  rw[show (fD 0 n).length=n by unfold fD;simp] at hl
  exact gn (β1:=β) (tp (ds:=[.str "bush",.tuple (us.map uD)]) (ac rfl (ac rfl an))) ⟨_,_,rfl,yK hl h1 h8 hU⟩
noncomputable def A2:List D->FR:=bo 7 1 (ua tm Ca Ed E1 Eb)
abbrev wE (ns:List Int)(k:Nat)(κ:D)(s3 s4 s5 s6:Sl):En:=[.fz (cw ns),.fz (.int k),.fz κ,s3,s4,s5,s6]
def DH (ns:List Int):A2 [cw ns]=.ok (.bool true) false:=by
 show fin (ua tm Ca Ed E1 Eb [.fz (cw ns),.no,.no,.no,.no,.no,.no] 0)=_
 refine dA ?_
 obtain⟨m,hm,em⟩:=wR 4 (by omega) ns (vl [.fz (cw ns),.no,.no,.no,.no,.no,.no]) 0 rfl
 unfold ua
 refine lC (λ_ env _=>∃s1 s2 s3 s4 s5 s6,env= [.fz (cw ns),s1,s2,s3,s4,s5,s6]) em ⟨_,_,_,_,_,_,rfl⟩ ?_ λenv β ⟨s1,s2,s3,s4,s5,s6,e⟩=>gn (d:=.bool true) rfl rfl
 rintro i d env β hi ⟨s1,s2,s3,s4,s5,s6,rfl⟩
 obtain⟨_,rfl⟩:=lu hi
 rw[IJ]
 refine⟨[.fz (cw ns),.fz (.int i),s2,s3,s4,s5,s6],rfl,?_⟩
 obtain⟨z,ez⟩:=Br ns i
 obtain⟨κ,βk,ek,n,l,O,e1,e2⟩:=Fi z
 have hl:=oz O
 have ekd:yB (nN tm (aa (gv 0) (aa (gv 1) aw))) Eb (vl [.fz (cw ns),.fz (.int i),s2,s3,s4,s5,s6]) β=.ok κ β:=by
  unfold yB
  rw[vZ (ds:=[cw ns,.int i]) rfl ez]
  dsimp only[R.bnd,xa]
  rw[ek]
 obtain⟨t3,t4,t5,t6,ht⟩:∃t3 t4 t5 t6:Sl,(aX ([0] ++ ([1] ++ [])) [.fz (cw ns),.fz (.int i),s2,s3,s4,s5,s6]).set 2 (.fz κ)=wE ns i κ t3 t4 t5 t6:=⟨_,_,_,_,rfl⟩
 refine dO ekd (wp_at _ ht ?_)
 refine dO (aI (ds:=[κ]) rfl e1) (wp_at (wE ns i κ (.fz (cM n l)) t4 t5 t6) rfl ?_)
 refine dO (aI (ds:=[κ]) rfl e2) (wp_at (wE ns i κ (.fz (cM n l)) (.fz (cM n l)) t5 t6) rfl ?_)
 have ne:∀{fa fb:VF D} {vs:List Nv} {β:Int},fa vs β=.ok (cM n l) β->fb vs β=.ok (cM n l) β->eV (f2 fa fb (fG true)) vs β=.ok false β:=λh h'=>oW _ _ _ _ (bA h h' (yv n l))
 refine bb (β1:=β) (kO (dJ (a:=true) (fP rfl)) (kO rfl (kO (dJ (a:=true) (fP (aI (ds:=[.int n]) rfl (A0 rfl)))) (ne rfl rfl)))) (wp_at (wE ns i κ (.fz (cM n l)) (.fz (cM n l)) t5 t6) rfl ?_)
 have ec:bu 1 [] (.nm 0) (eI (f2 (gv 3) (cst (.int 1)) eY)) pk (f1 (gv 0) (gp "tuple")) (vl (wE ns i κ (.fz (cM n l)) (.fz (cM n l)) t5 t6)) β=.ok (.list (l.map λ_=>PyData.bool true)) β:=gR (l:=l) (e:=bI) (λ_=>PyData.bool true) rfl (by omega) λp hp=>⟨[.da (bI p)],rfl,rfl⟩
 refine bb (β1:=β) (kO (c:=false) (dJ (a:=true) (fP rfl)) (dJ (a:=true) (fP (gE (d:=.bool true) ec (by simp only[dF];rw[gz];simp))))) (wp_at (wE ns i κ (.fz (cM n l)) (.fz (cM n l)) t5 t6) rfl ?_)
 refine lC (ds:=l.map bI) (β1:=β) (λ_ env _=>∃u5 u6,env=wE ns i κ (.fz (cM n l)) (.fz (cM n l)) u5 u6) rfl ⟨_,_,rfl⟩ ?_ ?_
 ·rintro j e env β hj ⟨u5,u6,rfl⟩
  obtain⟨p,_,rfl⟩:=Gh.mp (Gy hj)
  refine⟨wE ns i κ (.fz (cM n l)) (.fz (cM n l)) (.fz (.int p.1)) (.fz (.int p.2)),rfl,?_⟩
  exact BQ (β1:=β) (kO (c:=false) (dJ (a:=true) (fP (aI (ds:=[.int p.1]) rfl (A0 rfl)))) (dJ (a:=true) (fP (aI (ds:=[.int p.2]) rfl (A0 rfl))))) (jX ⟨_,_,rfl,_,_,rfl⟩)
 ·rintro env β ⟨u5,u6,rfl⟩
  exact BQ (β1:=β) (ne (aI (ds:=[κ]) rfl e1) rfl) (jX ⟨_,_,rfl,_,_,_,_,_,_,rfl⟩)
end RM
namespace RO
open PySem L2
abbrev ie:Stmt:=RQ.dk
abbrev jJ:Stmt:=RQ.top 15
abbrev Fn (K:Frag)(mg:Str->Option Value)(x:Str)(st:Stmt)(ps:List Str)(f:Addr)(fd:FuncData):Prop:=i9 K mg x st ps f fd
abbrev Bt (mg:Str->Option Value):Prop:=jr mg
end RO
section
namespace L2
open PySem PySem.Spec PyProof.Rows
section
variable {K:Frag}{H H':Hp}{a:Addr}
theorem aF.snoc {x y:Int}(q:cP K H a [.int x,.int y]):∀{vs:List V} {ps:List (Int×Int)},aF K H vs ps->aF K H (vs ++ [.ref a]) (ps ++ [(x,y)])
 |_,_,.nil=>.cons ⟨a,rfl,q⟩ .nil
 |_,_,.cons r t=>.cons r (aF.snoc q t)
def aF.len {vs:List V}{ps:List (Int×Int)}(h:aF K H vs ps):vs.length=ps.length:=Paired.length h
def aF.same {vs:List V}{ps:List (Int×Int)}(h:aF K H vs ps)(s:ah H H'):aF K H' vs ps:=h.grow s.grow
def aF.at {vs:List V}{ps:List (Int×Int)}{i:Nat}{v:V}(h:aF K H vs ps)(e:vs[i]? =some v):∃p:Int×Int,ps[i]? =some p/\∃b,v=.ref b/\cP K H b [.int p.1,.int p.2]:=Paired.getP h e
def ah.put {o:HO}(s:ah H H')(h:H a=none)(hf:∀x y,H' a≠some (.aX x y)):ah H (L2.upd H' a o):=λb u e=>iy (s b u e) (az e h) hf
def zQ (h:H a=none):∀x y,H a≠some (.aX x y):=λx y z=>by rw[h] at z;cases z
def DS {xs:List V}(h:H a=some (.lst xs)):∀x y,H a≠some (.aX x y):=λx y z=>by rw[h] at z;cases z
end
end L2
namespace RO
open PySem L2
def wx (N:List Str)(sc:Scope)(NB:List Str)(own:Nat)(ixs:List Nat)(scope:Scope):Bool:=
 decide (scope.kind=.function) && (scope.names.all λy=>decide (y.2≠.cell)) && (scope.names.all λy=>decide (scope.names.lookup y.1=some y.2)) &&
 (scope.names.all λy=>decide (y.2=.free->(sc.names.lookup y.1=some .cell\/sc.names.lookup y.1=some .free))) && decide NB.Nodup && decide (NB.length=own + ixs.length) &&
 ((List.range ixs.length).all λk=>decide (NB[own + k]? =N[ixs.getD k 0]?) && (match NB[own + k]? with |some x=>decide ((x,NameKind.free)∈scope.names) |none=>true))
def kr {X:Cx}{NB:List Str}{own:Nat}{ixs:List Nat}{scope:Scope}(h:wx X.N X.env.scope NB own ixs scope=true):ck X NB own ixs scope:=by
 unfold wx at h
 simp only[GV,Hk,G9,Gm] at h
 obtain⟨⟨⟨⟨⟨⟨h1,h2⟩,h3⟩,h4⟩,h5⟩,h6⟩,h7⟩:=h
 refine⟨h1,h2,h3,h4,h5,h6,λk hk=>⟨(h7 k hk).1,λx hx=>?_⟩⟩
 have:=(h7 k hk).2
 rw[hx] at this
 simpa using this
section
variable {X:Cx}{tg l:Expr}{tl:TE}{K:Frag}{H H1:Hp}{a:Addr}{xs:List V}{σ:St}
def ER (K:Frag)(tl:TE):TI:=λσ H R=>tl σ H λx H1=>∃a xs,x=.ref a/\((fZ K H1 a xs/\R (uq K a) H1)\/(cP K H1 a xs/\R (zK K a) H1))
end
def FA (K:Frag){X:Cx}(h:X.K=K:=by rfl):wm X (BE K):=by subst h;exact eZ
def AA (K:Frag)(i j:Nat){X:Cx}{x y:Str}{px py pos:Pos}{k:Nat}(hN:X.N.Nodup)(hi:X.N[i]? =some x)(hj:X.N[j]? =some y)(hx:X.env.scope.names.lookup x=some .local)(hy:X.env.scope.names.lookup y=some .local)(hc:X.calm=true)(hK:X.K=K) :
  PG X (.Tuple [.Name x px,.Name y py] k pos) (zw K 2 (lJ (jc i) (lJ (jc j) zv))):=by
 subst hK
 exact mz hc (cQ (cx hN hi (Or.inl hx) (Or.inr hx)) (cQ (cx hN hj (Or.inl hy) (Or.inr hy)) jF))
section
open PySem.Spec PyProof.Rows
variable {X:Cx}{tg l:Expr}{tl:TE}
def AU (hl:PE X l tl):PI X tg l (ER X.K tl):=by
 intro pins s σ H R I h
 refine b7 (hl pins s σ H _ I h) λv s1 ⟨x,H1,I1,r1,q1⟩=>?_
 obtain⟨a,xs,e,q⟩:=q1
 subst e
 cases r1
 rcases q with⟨hq,q⟩ | ⟨hq,q⟩
 ·obtain⟨its,rv,p,hz⟩:=I1.list hq
  refine Ij p.isList ?_
  refine⟨s1.heap.objs.size,[s1.heap.objs.size],_,_,H1,rfl,I1.kept (t':=s1.toks) λb o e=>FT _ e,km a _,⟨_,Gb _ rfl,rfl,rfl⟩,λb hb=>?_,q⟩
  have e:b=s1.heap.objs.size:=by simpa using hb
  subst e
  exact I1.fpOk (FX _) (I1.hok.fresh (FX _))
 ·obtain⟨its,rv,p,hz⟩:=I1.tuple hq
  refine Hu (show s1.heap.IsTuple a its.toArray from p) ?_
  refine⟨s1.heap.objs.size,[s1.heap.objs.size],_,_,H1,rfl,I1.kept (t':=s1.toks) λb o e=>FT _ e,lN a _,⟨_,Gb _ rfl,rfl,rfl⟩,λb hb=>?_,q⟩
  have e:b=s1.heap.objs.size:=by simpa using hb
  subst e
  exact I1.fpOk (FX _) (I1.hok.fresh (FX _))
end
section
variable {K:Frag}{H H1 H':Hp}{a:Addr}{xs:List V}{σ:St}
abbrev Cs (J:It)(g:TG)(tb:TS)(D:Ends)(σ:St)(H:Hp):Prop:=∃W:Nat->Nat->St->Hp->Prop,(∃m,W 0 m σ H)/\∀i m σ H,W i m σ H->
   (J.stop i H/\D.nx σ H)\/(J.go i H/\∃N:St->Hp->Prop,(∀σ' H',N σ' H'->∃m',m' < m/\W (i + 1) m' σ' H')/\∀x H',J.yld i H x H'->g x σ H' λσ2 H2=>tb {D with nx:=N,ct:=N,bk:=D.nx} σ2 H2)
def yS (s:ah H1 H')(hq:fZ K H1 a xs\/cP K H1 a xs):fZ K H' a xs\/cP K H' a xs:=hq.elim (λq=>.inl (s.seq q)) λq=>.inr (q.grow s.grow)
def xZ {g:TG}{tb:TS}{D:Ends}(hq:fZ K H1 a xs\/cP K H1 a xs)(Pv:Nat->St->Hp->Prop)(h0:Pv 0 σ H)(hl:∀i σ H',Pv i σ H'->ah H1 H')
  (hs:∀i x σ H,xs[i]? =some x->Pv i σ H->g x σ H λσ2 H2=>tb {D with nx:=Pv (i + 1),ct:=Pv (i + 1),bk:=D.nx} σ2 H2) (hd:∀σ H,Pv xs.length σ H->D.nx σ H) :
  (fZ K H a xs/\Cs (uq K a) g tb D σ H)\/(cP K H a xs/\Cs (zK K a) g tb D σ H):=
 hq.elim (λq=>.inl ⟨(hl _ _ _ h0).seq q,qR Pv h0 (λi σ H' _ p=>(hl i σ H' p).seq q) hs hd⟩) λq=>.inr ⟨q.grow (hl _ _ _ h0).grow,yq Pv h0 (λi σ H' _ p=>q.grow (hl i σ H' p).grow) hs hd⟩
def sy (J:It)(own:Nat)(ixs:List Nat)(g:TG)(tt:TT)(te:TE)(Q:VK)(D:Addr)(σ:St)(H:Hp):Prop:=∃W:Nat->Nat->St->Hp->Prop,(∃m,W 0 m (om own ixs σ) (upd H D (.lst [])))/\∀i m σ' H',W i m σ' H'->
   (J.stop i H'/\(∃acc,H' D=some (.lst acc))/\Q (.ref D) H')\/
   (J.go i H'/\∃N:St->Hp->Prop,(∀σ2 H2,N σ2 H2->∃m',m' < m/\W (i + 1) m' σ2 H2)/\∀x H2,J.yld i H' x H2->dq g tt te D x σ' H2 N)
structure qg (own:Nat)(ixs:List Nat)(wi:TI)(g:TG)(tt:TT)(te:TE)(σ:St)(H:Hp)(Q:VK):Prop where
 out:wi σ H λJ H1=>∀D,H1 D=none->sy J own ixs g tt te Q D σ H1
def rS {own:Nat}{ixs:List Nat}{wi:TI}{g:TG}{tt:TT}{te:TE}{Q:VK}(h:wi σ H λJ H1=>∀D,H1 D=none->sy J own ixs g tt te Q D σ H1):qg own ixs wi g tt te σ H Q:=⟨h⟩
def oS {X:Cx}{NB:List Str}{own:Nat}{ixs:List Nat}{scope:Scope}{tg iter elt:Expr}{ifs:List Expr}{wi:TI}{g:TG}{tt:TT}{te:TE}{pos:Pos}(hc:X.calm=true)(S:ck X NB own ixs scope)(hi:PI X tg iter wi)
  (hg:∀C ex s3 H3 pn,PG (fg X NB scope C ex s3 H3 pn) tg g) (ht:∀C ex s3 H3 pn,vD (fg X NB scope C ex s3 H3 pn) ifs tt) (he:∀C ex s3 H3 pn,PE (fg X NB scope C ex s3 H3 pn) elt te)
  (hs:∀x,foldedSetIterable iter X.env x=pure x:=by intro _;rfl):PE X (.ListComp elt [⟨tg,iter,ifs,0⟩] scope pos) (qg own ixs wi g tt te):=
 λpins s σ H Q I h=>qz hc S hi hg ht he hs pins s σ H Q I h.out
section
variable {own:Nat}{ixs:List Nat}{g:TG}{tt:TT}{te:TE}{Q:VK}{D:Addr}
def yC (Pv:Nat->St->Hp->Prop)(h0:Pv 0 (om own ixs σ) (upd H D (.lst [])))(hl:∀i σ H,i<=xs.length->Pv i σ H->fZ K H a xs)
  (hs:∀i x σ H,xs[i]? =some x->Pv i σ H->dq g tt te D x σ H (Pv (i + 1))) (hd:∀σ H,Pv xs.length σ H->(∃acc,H D=some (.lst acc))/\Q (.ref D) H):sy (uq K a) own ixs g tt te Q D σ H:=um Pv h0 hl hs hd
def pC {lo:Int}{n:Nat}(Pv:Nat->St->Hp->Prop)(h0:Pv 0 (om own ixs σ) (upd H D (.lst [])))
  (hs:∀i σ H,i < n->Pv i σ H->dq g tt te D (.int (lo + i)) σ H (Pv (i + 1))) (hd:∀σ H,Pv n σ H->(∃acc,H D=some (.lst acc))/\Q (.ref D) H):sy (v9 lo n) own ixs g tt te Q D σ H:=rf Pv h0 hs hd
end
def pW {i:Nat}{te:TE}{D:Addr}{x:V}{N:St->Hp->Prop}(h:te (σ.set i (some x)) H λv H5=>∃acc,H5 D=some (.lst acc)/\acc.length < sizeLine/\N (σ.set i (some x)) (upd H5 D (.lst (acc ++ [v])))):dq (jc i) A3 te D x σ H N:=by
 unfold dq jc A3
 exact nX h
def xl {i j:Nat}{x y:V}{Q:St->Hp->Prop}(h:cP K H a [x,y])(q:Q ((σ.set i (some x)).set j (some y)) H):zw K 2 (lJ (jc i) (lJ (jc j) zv)) (.ref a) σ H Q:=⟨a,_,rfl,h,rfl,x,_,rfl,y,_,rfl,rfl,q⟩
def E3 {c A B:Prop}[Decidable c](h:c)(a:A):if c then A else B:=by rw[FZ h];exact a
def Er {c A B:Prop}[Decidable c](h:¬c)(b:B):if c then A else B:=by rw[Gd h];exact b
def take_snoc {α:Type}{l:List α}{i:Nat}{x:α}(h:l[i]? =some x):l.take (i + 1)=l.take i ++ [x]:=by
 rw[HN,h];rfl
def take_all {α:Type}(l:List α):l.take l.length=l:=Ig (FX _)
end
def iN (n:Nat):(OM.e9 n).length=n * n:=by unfold OM.e9;simp
def yW {n i:Nat}(h:i < n * n):(OM.e9 n)[i]? =some (((i / n:Nat):Int),((i % n:Nat):Int)):=by
 unfold OM.e9
 rw[Gf,Iw h];rfl
def Fs {n:Nat}(h:n<=8):n * n<=64:=HF h h
section
variable {P:Program}{w:World}{K:Frag}{mg:Str->Option Value}{base:Heap}
def sZ (K:Frag):Sp:=λvs H Q _=>∃n:Nat,vs= [.int n]/\1<=n/\n<=8/\∀H' l ws,ah H H'->H l=none->H' l=some (.lst ws)->aF K H' ws (OM.e9 n)->Q (.ref l) H'
def yV:aH ["many"] ["many"] (ar ie):=⟨rfl,rfl,rfl,by decide +kernel,rfl,by decide +kernel,by decide +kernel⟩
def DL:(["number","many"]:List Str).Nodup:=by decide +kernel
def vE {f:Addr}{fd:FuncData}(F:Fn K mg "every_pair" ie ["many"] f fd)(B:Bt mg):eB P w K mg base Aq 1 f fd ["many"] (sZ K):=by
 refine F.F.ok yV (λvs H Q E h=>?_) (λcdv A outer s H vs Q E hr h=>?_)
 ·obtain⟨n,rfl,_⟩:=h;rfl
 ·obtain⟨n,rfl,h1,h8,k⟩:=h
  refine⟨_,fJ (ki (oS (NB:=["number","many"]) (own:=1) (ixs:=[0]) rfl (kr (by kernel_rfl)) (i6 rfl B.range (aN (pZ gi (pv 0) (pv 0)) bK))
   (λC ex s3 H3 pn=>cx (i:=0) DL rfl (Or.inl rfl) (hf:=Or.inr rfl)) (λC ex s3 H3 pn=>oP)
   (λC ex s3 H3 pn=>si (aN (pZ kY (pv 0) (pv 1)) (aN (pZ gY (pv 0) (pv 1)) bK))))),?_⟩
  have hn:=Fs h8
  have e0:((n:Int) * (n:Int))=((n * n:Nat):Int):=by rw[Int.natCast_mul]
  refine rS ⟨_,rfl,_,rfl,_,_,rfl,rfl,.inl ⟨by omega,by omega⟩,_,rfl,by rw[e0];omega,by rw[e0];omega,λD hD=>?_⟩
  rw[e0,GX]
  refine pC (λi σ' H'=>(∃v,σ'= [v,some (.int n)])/\ah H H'/\∃vs,H' D=some (.lst vs)/\aF K H' vs ((OM.e9 n).take i)) ⟨⟨none,rfl⟩,(ah.refl H).put hD (zQ hD),[],av,.nil⟩ ?_ ?_
  ·rintro i σ' H' hi ⟨⟨v,rfl⟩,s1,vs,hv,hp⟩
   have hn0:(0:Int) < (n:Int):=by omega
   refine pW ⟨_,rfl,_,rfl,_,_,rfl,rfl,⟨hn0,by omega⟩,_,rfl,_,rfl,_,_,rfl,rfl,hn0,by show 2<=sizeLine;rw[Gz];omega,λp hp0=>?_⟩
   have hpD:D≠p:=az hv hp0
   have hl:=hp.len
   refine⟨vs,by rw[au hpD];exact hv,?_,⟨_,rfl⟩,?_,vs ++ [.ref p],av,?_⟩
   ·rw[hl,Hd,Gz];rw[iN];omega
   ·exact (s1.put (s1.free hp0) (zQ hp0)).put hD (DS (xs:=vs) (by rw[au hpD];exact hv))
   ·rw[take_snoc (yW hi)]
    have g1:eS H' (upd H' p (.tup [.int ((0 + (i:Int)) / n),.int ((0 + (i:Int)) % n)])):=eS.new hp0
    have g2:∀o,eS (upd H' p (.tup [.int ((0 + (i:Int)) / n),.int ((0 + (i:Int)) % n)])) (upd (upd H' p (.tup [.int ((0 + (i:Int)) / n),.int ((0 + (i:Int)) % n)])) D o):=λo=>eS.list (by rw[au hpD];exact hv)
    refine aF.snoc ?_ (hp.grow (g1.trans (g2 _)))
    refine (cP.grow ?_ (g2 _))
    refine .inl (.inl ?_)
    rw[av,IJ];rfl
  ·rintro σ' H' ⟨_,s1,vs,hv,hp⟩
   refine⟨⟨_,hv⟩,k H' D vs s1 hD hv ?_⟩
   rw[<-iN n,take_all] at hp
   exact hp
end
end RO
end
namespace RO
open PySem L2
structure TabAt (n:Nat)(M:OM.Tb)(L:Addr)(r:Nat->Addr)(H:Hp):Prop where
 top:H L=some (.lst ((List.range n).map λi=>V.ref (r i)))
 row:∀i,i < n->H (r i)=some (.lst ((List.range n).map λj=>V.bl (M i j)))
 inj:∀i j,i < n->j < n->r i=r j->i=j
 ne:∀i,i < n->r i≠L
def tq {n x:Nat}(h:x < n):vB n (x:Int)=some x:=by
 unfold vB;rw[FZ (by omega),FZ (by omega)];simp
def rq {α:Type}{xs:List α}{x:Nat}(h:x < xs.length):kX xs (x:Int)=xs[x]?:=by
 unfold kX;rw[tq h];rfl
def ef {f:Nat->V}{n x:Nat}(h:x < n):kX ((List.range n).map f) (x:Int)=some (f x):=by
 rw[rq (by simpa using h),Gf,Iw h];rfl
def nG {f:Nat->V}{n x:Nat}(h:x < n):vB ((List.range n).map f).length (x:Int)=some x:=by
 rw[Gv,Hh];exact tq h
def uG {f:Nat->V}{n y:Nat}{v:V}:((List.range n).map f).set y v=(List.range n).map λj=>if j=y then v else f j:=by
 apply Ik
 intro i
 by_cases hi:i < n
 ·by_cases e:y=i
  ·subst e;simp[List.getElem?_set,hi]
  ·have e':¬i=y:=λz=>e z.symm
   simp[List.getElem?_set,hi,e,e']
 ·rw[Hv (by simp;omega),Hv (by simp;omega)]
section
variable {n:Nat}{M:OM.Tb}{L:Addr}{r:Nat->Addr}{H H':Hp}
def TabAt.set (T:TabAt n M L r H){x y:Nat}(hx:x < n):TabAt n (M.set x y) L r (upd H (r x) (.lst (((List.range n).map λj=>V.bl (M x j)).set y (.bl true)))):=by
 refine⟨by rw[au (T.ne x hx).symm];exact T.top,λi hi=>?_,T.inj,T.ne⟩
 by_cases e:i=x
 ·subst e
  rw[av,uG]
  refine congrArg _ (congrArg _ (HW λj _=>?_))
  unfold OM.Tb.set
  by_cases c:j=y
  ·simp[c]
  ·simp[c]
 ·rw[au (λz=>e (T.inj i x hi hx z)),T.row i hi]
  refine congrArg _ (congrArg _ (HW λj _=>?_))
  unfold OM.Tb.set;simp[e]
def TabAt.same (T:TabAt n M L r H)(s:ah H H'):TabAt n M L r H':=⟨s _ _ T.top,λi hi=>s _ _ (T.row i hi),T.inj,T.ne⟩
end
def ph {n:Nat}{ps:List (Int×Int)}(w:OM.Wn n ps){p:Int×Int}(h:p∈ps):∃u v:Nat,p=((u:Int),(v:Int))/\u < n/\v < n:=by
 obtain⟨x,y⟩:=p
 have q:=w _ h
 simp only at q
 exact⟨x.toNat,y.toNat,by rw[Int.toNat_of_nonneg q.1.1,Int.toNat_of_nonneg q.2.1],by omega,by omega⟩
def fY {M0 M:OM.Tb}{m:Nat}{D D':Nat->Nat->Prop}(P:OM.Phase M0 M m D)(h:∀a b,D a b↔D' a b):OM.Phase M0 M m D':=λa b=>by rw[P a b,h a b]
def i4 {l:List (Int×Int)}{u v a b:Nat}:(((a:Int),(b:Int))∈l\/(a=u/\b=v))↔((a:Int),(b:Int))∈l ++ [((u:Int),(v:Int))]:=by
 rw[GB,G6,Prod.mk.injEq]
 constructor
 ·rintro (h | ⟨h1,h2⟩)
  ·exact .inl h
  ·exact .inr ⟨by omega,by omega⟩
 ·rintro (h | ⟨h1,h2⟩)
  ·exact .inl h
  ·exact .inr ⟨by omega,by omega⟩
def yE {M:OM.Tb}{u v a b:Nat}:M.set u v a b=true↔M a b=true\/(a=u/\b=v):=by
 unfold OM.Tb.set
 by_cases c:a=u/\b=v
 ·simp[c]
 ·rw[Gd c];exact⟨.inl,λh=>h.resolve_right c⟩
def DT (n:Nat)(x:V):(List.replicate n [x]).flatten=(List.range n).map λ_=>x:=by
 rw[List.flatten_replicate_singleton,List.map_const',Hh]
section
variable {P:Program}{w:World}{K:Frag}{mg:Str->Option Value}{base:Heap}
def wo (K:Frag):Sp:=λvs H Q _=>∃(n:Nat) (a:Addr) (xs:List V) (ps:List (Int×Int)),vs= [.int n,.ref a]/\1<=n/\n<=8/\(fZ K H a xs\/cP K H a xs)/\aF K H xs ps/\OM.Wn n ps/\
 ∀H' t ws,ah H H'->H t=none->H' t=some (.tup ws)->aF K H' ws (OM.b6 n (OM.Tr (OM.Mem ps)))->Q (.ref t) H'
def eM:aH ["many","pairs","corners","leads","a","b","middle"] ["many","pairs"] (ar jJ):=⟨rfl,rfl,rfl,by decide +kernel,rfl,by decide +kernel,by decide +kernel⟩
def Cm:(["start","many"]:List Str).Nodup:=by decide +kernel
def Bw:(["a","b","leads"]:List Str).Nodup:=by decide +kernel
set_option maxHeartbeats 1000000 in
theorem uh {f g:Addr}{fd gd:FuncData}(F:Fn K mg "closed" jJ ["many","pairs"] f fd)(G:Fn K mg "every_pair" ie ["many"] g gd)(GE:eB P w K mg base Aq 1 g gd ["many"] (sZ K))(B:Bt mg):eB P w K mg base Aq 2 f fd ["many","pairs"] (wo K):=by
 refine F.F.ok eM (λvs H Q E h=>?_) (λcdv A outer s H vs Q E hr h=>?_)
 ·obtain⟨n,a,xs,ps,rfl,_⟩:=h;rfl
 ·obtain⟨n,a,xs,ps,rfl,h1,h8,hq,hp,wn,k⟩:=h
  refine⟨_,fB (nQ (i:=2) eM.nd rfl (Or.inl rfl) (jU GE hr rfl G.mg G.F.kp G.b .nil C5 (aN (pv 0) bK)))
   (fB (nQ (i:=3) eM.nd rfl (Or.inr rfl) (oS (NB:=["start","many"]) (own:=1) (ixs:=[0]) rfl (kr (by kernel_rfl)) (i6 rfl B.range (aN (pv 0) bK))
    (λC ex s3 H3 pn=>cx (i:=0) Cm rfl (Or.inl rfl) (hf:=Or.inr rfl)) (λC ex s3 H3 pn=>oP) (λC ex s3 H3 pn=>pZ Bc (xh (aN tE bK)) (pv 1))))
   (fB (nS PassesOwn.never rfl (AU (pv 1)) (mz rfl (cQ (cx (i:=4) eM.nd rfl (Or.inl rfl)) (cQ (cx (i:=5) eM.nd rfl (Or.inl rfl)) jF)))
    (fJ (lq tE (rH (jk eZ (pv 3) (pv 4) (λ_ _=>rfl)) (pv 5) set_list))))
   (fB (nS PassesOwn.never rfl (i6 rfl B.range (aN (pv 0) bK)) (cx (i:=6) eM.nd rfl (Or.inl rfl))
    (fJ (nS PassesOwn.never rfl (sJ (pv 2)) (mz rfl (cQ (cx (i:=4) eM.nd rfl (Or.inl rfl)) (cQ (cx (i:=5) eM.nd rfl (Or.inl rfl)) jF)))
     (fJ (zF (PW.pt (xA (sf (jk eZ (jk eZ (pv 3) (pv 4) (λ_ _=>rfl)) (pv 6) (λ_ _=>rfl))) (tV (sf (jk eZ (jk eZ (pv 3) (pv 6) (λ_ _=>rfl)) (pv 5) (λ_ _=>rfl))))))
      (fJ (lq tE (rH (jk eZ (pv 3) (pv 4) (λ_ _=>rfl)) (pv 5) set_list))) tI)))))
   (fJ (ki (j8 cm rfl B.tuple (by decide +kernel) (aN (oS (NB:=["a","b","leads"]) (own:=2) (ixs:=[3]) rfl (kr (by kernel_rfl)) (sJ (pv 2))
    (λC ex s3 H3 pn=>AA K 0 1 Bw rfl rfl rfl rfl rfl rfl)
    (λC ex s3 H3 pn=>sx (sf (jk (FA K) (jk (FA K) (pv 2) (pv 0) (λ_ _=>rfl)) (pv 1) (λ_ _=>rfl)))) (λC ex s3 H3 pn=>si (aN (pv 0) (aN (pv 1) bK)))) bK))))))),?_⟩
  have hn:=Fs h8
  have hn0:(0:Int)<=(n:Int):=by omega
  refine⟨_,rfl,n,rfl,h1,h8,λH1 c ws s1 hc0 hc hw=>?_⟩
  have hwl:ws.length=n * n:=by rw[hw.len,iN]
  have gw:OM.Wn n (OM.e9 n):=λp hp=>OM.dY.mp hp
  refine rS ?_
  refine⟨_,rfl,n,rfl,by omega,by omega,λD hD=>?_⟩
  rw[GX]
  refine pC (λi σ' H'=>(∃v,σ'= [v,some (.int n)])/\ah H1 H'/\∃r:Nat->Addr,H' D=some (.lst ((List.range i).map λk=>V.ref (r k)))/\
   (∀k,k < i->H' (r k)=some (.lst ((List.range n).map λ_=>V.bl false))/\H1 (r k)=none/\r k≠D)/\∀j k,j < i->k < i->r j=r k->j=k)
   ?_ ?_ ?_
  ·exact⟨⟨none,rfl⟩,(ah.refl H1).put hD (zQ hD),λ_=>0,av,λk hk=>absurd hk (Nat.not_lt_zero _),λj k hj=>absurd hj (Nat.not_lt_zero _)⟩
  ·rintro i σ' H' hi ⟨⟨v,rfl⟩,s2,r,hr0,hr1,hr2⟩
   refine pW ⟨by show 1<=sizeLine;rw[Gz];omega,λp hp0=>⟨_,rfl,p,n,[.bl false],rfl,rfl,av,by omega,by omega,by show 1 * (n:Int).toNat<=sizeLine;rw[Gz];omega,λq hq0=>?_⟩⟩
   have hqp:q≠p:=by intro e;subst e;rw[av] at hq0;cases hq0
   have hq1:H' q=none:=by rw[au hqp] at hq0;exact hq0
   have hDp:D≠p:=az hr0 hp0
   have hDq:D≠q:=az hr0 hq1
   rw[GX,DT]
   refine⟨_,by rw[au hDq,au hDp];exact hr0,by rw[Gv,Hh,Gz];omega,⟨_,rfl⟩,((s2.put (s2.free hp0) (zQ hp0)).put (s2.free hq1) (zQ hq0)).put hD (DS (by rw[au hDq,au hDp];exact hr0)),λk=>if k=i then q else r k,?_,λk hk=>?_,λj k hj hk e=>?_⟩
   ·have e:(List.range i).map (λk=>V.ref (r k))=(List.range i).map (λk=>V.ref (if k=i then q else r k)):=HW λk hk=>by
     have:=Gm.mp hk
     rw[Gd (by omega)]
    rw[av,List.range_succ,Iz,e]
    simp
   ·dsimp only
    by_cases e:k=i
    ·rw[FZ e]
     exact⟨by rw[au hDq.symm,av],s2.free hq1,hDq.symm⟩
    ·rw[Gd e]
     obtain⟨a1,a2,a3⟩:=hr1 k (by omega)
     exact⟨by rw[au a3,au (az a1 hq1),au (az a1 hp0)];exact a1,a2,a3⟩
   ·dsimp only at e
    by_cases ej:j=i
    ·by_cases ek:k=i
     ·omega
     ·rw[FZ ej,Gd ek] at e
      exact absurd e.symm (az (hr1 k (by omega)).1 hq1)
    ·by_cases ek:k=i
     ·rw[Gd ej,FZ ek] at e
      exact absurd e (az (hr1 j (by omega)).1 hq1)
     ·rw[Gd ej,Gd ek] at e
      exact hr2 j k (by omega) (by omega) e
  rintro σ2 H2 ⟨_,s2,r,hr0,hr1,hr2⟩
  refine⟨⟨_,hr0⟩,?_⟩
  have sep:∀i,i < n->H1 (r i)=none:=λi hi=>(hr1 i hi).2.1
  have T0:TabAt n (λ_ _=>false) D r H2:=⟨hr0,λi hi=>(hr1 i hi).1,hr2,λi hi=>(hr1 i hi).2.2⟩
  refine⟨_,rfl,a,xs,rfl,xZ (H1:=H1) (yS s1 hq) (λi σ' H'=>(∃x y,σ'= [some (.int n),some (.ref a),some (.ref c),some (.ref D),x,y,none])/\ah H1 H'/\∃M,TabAt n M D r H'/\∀u v:Nat,M u v=true↔((u:Int),(v:Int))∈ps.take i)
   ⟨⟨none,none,rfl⟩,s2,_,T0,λu v=>by simp⟩ (λi σ' H' q=>q.2.1) ?_ ?_⟩
  ·rintro i x σ' H' hx ⟨⟨_,_,rfl⟩,s3,M,T,hM⟩
   obtain⟨p,hpi,b,rfl,hb⟩:=(hp.same (s1.trans s3)).at hx
   obtain⟨u,v,rfl,hu,hv⟩:=ph wn (Gy hpi)
   refine xl hb ?_
   refine⟨_,rfl,_,rfl,D,_,u,_,rfl,rfl,.inl (.inl T.top),ef hu,_,rfl,r u,_,v,v,rfl,rfl,T.row u hu,nG hv,⟨_,_,rfl⟩,s3.put (sep u hu) (DS (T.row u hu)),_,T.set hu,λx y=>?_⟩
   rw[take_snoc hpi,<-i4,yE,hM]
  rintro σ3 H3 ⟨⟨x3,y3,rfl⟩,s3,M3,T3,hM3⟩
  rw[hp.len,take_all] at hM3
  refine⟨_,rfl,n,rfl,by omega,by omega,?_⟩
  rw[GX]
  refine vf (λm σ' H'=>(∃x y z,σ'= [some (.int n),some (.ref a),some (.ref c),some (.ref D),x,y,z])/\ah H1 H'/\∃M,TabAt n M D r H'/\OM.Tab n ps M/\OM.zm M m)
   ⟨⟨_,_,_,rfl⟩,s3,M3,T3,⟨λa b h=>by have:=wn _ ((hM3 a b).mp h);simp only at this;omega,λa b h=>(hM3 a b).mpr h,λa b h=>.one ((hM3 a b).mp h)⟩,λk a b hk=>absurd hk (Nat.not_lt_zero _)⟩ ?_ ?_
  ·rintro m σ' H' hm ⟨⟨_,_,_,rfl⟩,s4,M,T,TT,Th⟩
   rw[IJ]
   refine⟨_,rfl,c,rfl,⟨ws,.inl (.inl (s4 _ _ hc))⟩,qR (xs:=ws) (λi σ' H'=>(∃x y,σ'= [some (.int n),some (.ref a),some (.ref c),some (.ref D),x,y,some (.int m)])/\ah H1 H'/\∃M',TabAt n M' D r H'/\OM.Phase M M' m λu v=>((u:Int),(v:Int))∈(OM.e9 n).take i)
    ⟨⟨_,_,rfl⟩,s4,M,T,fY (OM.Phase.start M m) λa b=>by simp⟩ (λi σ' H' _ q=>.inl (.inl (q.2.1 _ _ hc))) ?_ ?_⟩
   ·rintro i x σ' H' hx ⟨⟨_,_,rfl⟩,s5,M',T',Ph⟩
    obtain⟨p,hpi,b,rfl,hb⟩:=(hw.same s5).at hx
    obtain⟨u,v,rfl,hu,hv⟩:=ph gw (Gy hpi)
    refine xl hb ?_
    have st:=Ph.step u v
    refine⟨_,rfl,_,rfl,D,_,u,_,rfl,rfl,.inl (.inl T'.top),ef hu,_,rfl,r u,_,m,_,rfl,rfl,.inl (.inl (T'.row u hu)),ef hm,_,rfl,?_⟩
    by_cases c1:M' u m=true
    ·refine E3 c1 ?_
     refine⟨_,rfl,_,rfl,D,_,m,_,rfl,rfl,.inl (.inl T'.top),ef hm,_,rfl,r m,_,v,_,rfl,rfl,.inl (.inl (T'.row m hm)),ef hv,_,rfl,?_⟩
     by_cases c2:M' m v=true
     ·refine E3 c2 ?_
      rw[FZ ⟨c1,c2⟩] at st
      refine⟨_,rfl,_,rfl,D,_,u,_,rfl,rfl,.inl (.inl T'.top),ef hu,_,rfl,r u,_,v,v,rfl,rfl,T'.row u hu,nG hv,⟨_,_,rfl⟩,s5.put (sep u hu) (DS (T'.row u hu)),_,T'.set hu,fY st λa b=>?_⟩
      rw[take_snoc hpi];exact i4
     ·refine Er c2 ?_
      rw[Gd λz=>c2 z.2] at st
      refine⟨⟨_,_,rfl⟩,s5,_,T',fY st λa b=>?_⟩
      rw[take_snoc hpi];exact i4
    ·refine Er c1 ?_
     rw[Gd λz=>c1 z.1] at st
     refine oO ⟨⟨_,_,rfl⟩,s5,_,T',fY st λa b=>?_⟩
     rw[take_snoc hpi];exact i4
   ·rintro σ' H' ⟨⟨_,_,rfl⟩,s5,M',T',Ph⟩
    rw[hw.len,take_all] at Ph
    have dn:=Ph.done (n:=n) (λa b ha hb=>OM.dY.mpr ⟨⟨by simp,by simp;omega⟩,by simp,by simp;omega⟩) TT.inn Th
    exact⟨⟨_,_,_,rfl⟩,s5,M',T',TT.phase Ph,dn.1⟩
  rintro σ4 H4 ⟨⟨x4,y4,z4,rfl⟩,s4,M,T,TT,Th⟩
  refine rS ⟨_,rfl,c,rfl,⟨ws,.inl (.inl (s4 _ _ hc))⟩,λD' hD'=>yC (xs:=ws) (λi σ' H'=>(∃x y,σ'= [x,y,some (.ref D)])/\ah H4 H'/\∃vs,H' D'=some (.lst vs)/\aF K H' vs (((OM.e9 n).take i).filter λp=>M p.1.toNat p.2.toNat))
   ⟨⟨_,_,rfl⟩,(ah.refl H4).put hD' (zQ hD'),[],av,.nil⟩ (λi σ' H' _ q=>.inl (.inl (q.2.1 _ _ (s4 _ _ hc)))) ?_ ?_⟩
  ·rintro i x σ' H' hx ⟨⟨_,_,rfl⟩,s5,vs,hv,hpv⟩
   obtain⟨p,hpi,b,rfl,hb⟩:=(hw.same (s4.trans s5)).at hx
   obtain⟨u,v,rfl,hu,hv'⟩:=ph gw (Gy hpi)
   refine xl hb ?_
   have T':=T.same s5
   refine⟨_,rfl,_,rfl,D,_,u,_,rfl,rfl,.inl (.inl T'.top),ef hu,_,rfl,r u,_,v,_,rfl,rfl,.inl (.inl (T'.row u hu)),ef hv',_,rfl,?_⟩
   by_cases c1:M u v=true
   ·refine E3 c1 ?_
    refine⟨_,rfl,_,rfl,by show 2<=sizeLine;rw[Gz];omega,λp hp0=>?_⟩
    have hpD:D'≠p:=az hv hp0
    refine⟨vs,by rw[au hpD];exact hv,?_,⟨_,_,rfl⟩,(s5.put (s5.free hp0) (zQ hp0)).put hD' (DS (by rw[au hpD];exact hv)),_,av,?_⟩
    ·rw[hpv.len]
     refine Nat.lt_of_le_of_lt (Im ..) ?_
     rw[Hd,iN,Gz];omega
    ·rw[take_snoc hpi,List.filter_append,List.filter_cons_of_pos (by simpa using c1),List.filter_nil]
     have g1:eS H' (upd H' p (.tup [.int u,.int v])):=eS.new hp0
     have g2:∀o,eS (upd H' p (.tup [.int u,.int v])) (upd (upd H' p (.tup [.int u,.int v])) D' o):=λo=>eS.list (by rw[au hpD];exact hv)
     refine aF.snoc ?_ (hpv.grow (g1.trans (g2 _)))
     exact cP.grow (.inl (.inl av)) (g2 _)
   ·refine Er c1 ?_
    refine⟨⟨_,_,rfl⟩,s5,vs,hv,?_⟩
    rw[take_snoc hpi,List.filter_append,List.filter_cons_of_neg (by simpa using c1),List.filter_nil,HZ]
    exact hpv
  ·rintro σ' H' ⟨_,s5,vs,hv,hpv⟩
   rw[hw.len,take_all] at hpv
   refine⟨⟨_,hv⟩,D',vs,rfl,.inl ⟨.inl (.inl hv),λt ht=>?_⟩⟩
   have sA:ah H H':=(s1.trans s4).trans s5
   refine k _ t vs (sA.put (sA.free ht) (zQ ht)) (sA.free ht) av ?_
   have e:((OM.e9 n).filter λp=>M p.1.toNat p.2.toNat)=OM.b6 n (OM.Tr (OM.Mem ps)):=by
    unfold OM.b6
    refine List.filter_congr λp hp=>?_
    obtain⟨u,v,rfl,hu,hv⟩:=ph gw hp
    have:=TT.all wn Th u v
    simp only[GX]
    rw[Bool.eq_iff_iff,this]
    simp
   rw[e] at hpv
   exact hpv.grow (eS.new ht)
end
end RO
namespace RO
open PySem L2 RM
section
variable {P:Program}{w:World}{K:Frag}{mg:Str->Option Value}{base:Heap}{ca:Str->Addr}
def FD {k:Nat}{f:Addr}{fd:FuncData}{ps:List Str}{sp:Sp}(F:eB P w K mg base Aq k f fd ps sp):eB P w K mg base (kM P w) k f fd ps sp:=
 ⟨F.len,λA outer s H args us vs Q E hr he hb hv hs=>IB (F.run A outer s H args us vs Q E hr he hb hv hs) λr s' h=>by
  cases r with
  |ok x=>cases x <;> exact h
  |error e=>exact h.elim⟩
def rG {G H:Hp}(s:ah G H){ws:List V}{ps:List Pr}(h:aF K H ws ps):aF K (j3 G H) ws ps:=Paired.mapP h λv p ⟨a,e,q⟩=>⟨a,e,jH s q⟩
def l7 {ds:List D}(h:dS ds≠.bad):∃(n:Nat) (d:D) (ps:List Pr),ds= [.int n,d]/\nY d=some (ps.map bI)/\1<=n/\n<=8/\OM.Wn n ps/\dS ds=.ok (.tuple ((OM.b6 n (OM.Tr (OM.Mem ps))).map bI)) false:=by
 unfold dS at h
 split at h
 ·rename_i n d
  cases q:nY d with
  |none=>rw[q] at h;exact absurd rfl h
  |some es=>
   rw[q] at h
   dsimp only at h
   cases q2:dB es with
   |none=>rw[q2] at h;exact absurd rfl h
   |some ps=>
    rw[q2] at h
    dsimp only at h
    by_cases c:1<=n/\n<=8/\OM.Wn n.toNat ps
    ·have e:((n.toNat:Nat):Int)=n:=by omega
     refine⟨n.toNat,d,ps,by rw[e],by rw[q,gC q2],by omega,by omega,c.2.2,?_⟩
     unfold dS
     dsimp only
     rw[q]
     dsimp only
     rw[q2]
     dsimp only
     rw[FZ c]
    ·rw[Gd c] at h;exact absurd rfl h
 ·exact absurd rfl h
def rM {f g:Addr}{fd gd:FuncData}(F:i9 K mg "closed" jJ ["many","pairs"] f fd)(E:i9 K mg "every_pair" ie ["many"] g gd)(B:jr mg):cO P w K mg base ca "closed" ["many","pairs"] 3 dS:=by
 refine⟨⟨f,fd,F.mg,F.F.kp,F.b,((FD (uh F E (vE E B) B)).mono (by decide)).imp ?_⟩,λds h=>?_⟩
 ·rintro vs H Q X ⟨G,ds,s,hl,r,h⟩
  have hb:dS ds≠.bad:=λz=>by rw[z] at h;exact h
  obtain⟨n,d,ps,rfl,hd,h1,h8,wn,e⟩:=l7 hb
  rw[e] at h
  cases r with
  |cons r1 r=>
   cases r with
   |cons r2 r=>
    cases r
    cases r1
    obtain⟨a,xs,rfl,hq,hr⟩:=(je.seq (B:=none) (G:=G) (H:=G) (.inl r2) hd (ah.refl _))
    refine⟨n,a,xs,ps,rfl,h1,h8,hq.elim (λq=>.inl (s.seq q)) (λq=>.inr (q.grow s.grow)),(hr.pairs).grow s.grow,wn,λH' t ws hh ht ht' hp=>?_⟩
    have s2:=s.trans hh
    refine h (.ref t) (j3 G H') H' hh ng (p9 s2) (λb m hb=>by rw[sS hh m];exact hb) ?_
    exact .tup (jH s2 (.inl (.inl ht'))) (aF.rps (rG s2 hp))
 ·obtain⟨n,d,ps,rfl,_⟩:=l7 h
  rfl
end
end RO
namespace HD
open PySem PySem.W
noncomputable abbrev vJ:=@PySem.W.Fast.tw10156331382660048174
noncomputable abbrev Ab:=@PySem.W.Fast.tw11892475500146522536
noncomputable abbrev EI:=@PySem.W.Fast.tw6613529449190102663
noncomputable abbrev AJ:=@PySem.W.Fast.tw14364793385576792824
noncomputable abbrev zA:=@PySem.W.Fast.tw17154629097778926822
noncomputable abbrev wB:=@PySem.W.Fast.tw12822647523644345616
noncomputable def wA (p:Program):Thread:=
 ⟨do
  let code <-zA p.main
  let frame <-wB code mainNs mainNs
  let _ <-run (.body (behindTheImports p) {scope:=p.main.scope,locals:=mainNs,globals:=mainNs,cells:=[],code,frame:=some frame})
  ret .none,
  .builtin "claim.caller" {},default,[]⟩
def wZ (p:Program):topStub p=wA p:=by
 unfold topStub wA zA wB
 rw[<-PySem.W.Fast.te17154629097778926822,<-PySem.W.Fast.te12822647523644345616]
noncomputable def k6 (p:Program)(w:World)(n₀:Nat)(ann:Option Value):Nat->SharedT->Thread->Option SharedT
 | 0,_,_=>none
 |n + 1,s,t=>match through t with
  |true=>some s
  |false=>match EI n₀ ann t with
   |false=>none
   |true=>match vJ (Ab AJ) p w s t with
    |some (s',t')=>k6 p w n₀ ann n s' t'
    |none=>none
theorem nh {p:Program}{w:World}{n₀:Nat}{ann:Option Value}:∀{n:Nat} {s s':SharedT} {t:Thread},k6 p w n₀ ann n s t=some s'->topRun treeTable p w n₀ ann n s.abs t=some s'.abs
 | 0,_,_,_,h=>by cases h
 |n + 1,s,s',t,h=>by
  unfold k6 at h
  unfold topRun
  cases ht:through t with
  |true=>rw[ht] at h;cases h;rfl
  |false=>
   rw[ht] at h
   have hq:EI n₀ ann t=stepOk n₀ ann t:=by unfold EI;rw[<-PySem.W.Fast.te6613529449190102663]
   dsimp only at h
   rw[hq] at h
   cases hk:stepOk n₀ ann t with
   |false=>rw[hk] at h;cases h
   |true=>
    rw[hk] at h
    have hq:vJ (Ab AJ) p w s t=stepT (denote treeTable) p w s t:=by unfold vJ Ab AJ;rw[<-PySem.W.Fast.te10156331382660048174,<-PySem.W.Fast.te11892475500146522536,<-PySem.W.Fast.te14364793385576792824]
    dsimp only at h
    rw[hq] at h
    cases hs:stepT (denote treeTable) p w s t with
    |none=>rw[hs] at h;cases h
    |some r=>obtain⟨s₂,t₂⟩:=r;rw[hs] at h;rw[stepT_spec hs];exact nh h
def treeOf (l:List Obj):BT:=(l.foldl (λ(x:BT×Nat) o=>(x.1.ins x.2 o,x.2 + 1)) (.nil,0)).1
noncomputable def w9 (P:Params):BT:=treeOf (boot_heap P).objs.toList
abbrev qp:Nat:=11
abbrev xt:Life:={}
def boot_abs (P:Params):absHeap (w9 P) qp xt=boot_heap P:=by kernel_rfl
def uJ (w:World):((boot_heap w.params).isNs mainGlobals && (Array.mk ([]:List GenState)).size == 0,(boot_heap w.params).objs.size,(boot_heap w.params).nsMap mainGlobals "__annotations__")=(true,qp,some (.ref 6)):=by kernel_rfl
noncomputable def xf (w:World)(os:OsState):SharedT:=⟨w9 w.params,qp,xt,Array.mk [],boot_drawn,boot_toks,os⟩
noncomputable def zy (p:Program)(w:World)(s:Shared):Bool:=staticsOk (importedModules p.main.body) (boot_heap w.params) s.heap && namesBound p s.heap && gensDone s && laidKept (boot_heap w.params) s.heap
def zx {p q:Program}{loose:List Str}{Xt:Shared->Bool}{α:Type}{Yf:Shared->α}{Ya:World->α}{N:Nat}{g0:Bool}
  (e:opening p=plainProg p.main.scope.names) (hN:Nat.ble 600 N=true) (f:∀s,fenceModules? p s=some s)
  (run:∀(w:World) (os:OsState),(k6 p w qp (some (.ref 6)) N (xf w os) (wA p)).map (λs=>(zy p w s.abs,openSeen q loose (importedModules p.main.body) Xt g0 s.abs,Yf s.abs))=some (true,openGood q loose,Ya w)):LeftO p q loose Xt Yf Ya N g0:=λw=>by
 obtain⟨⟨h,gs,d,k,os⟩,e,e'⟩:=Option.map_eq_some_iff.mp (boot_open e hN f w)
 obtain⟨rfl,rfl,rfl,rfl⟩:h=boot_heap w.params/\gs=Array.mk []/\d=boot_drawn/\k=boot_toks:=by simpa using e'
 obtain⟨z1,z2,z3⟩:_/\_/\_:=by simpa only [Prod.mk.injEq] using uJ w
 obtain⟨s',r,ls⟩:=Option.map_eq_some_iff.mp (run w os)
 obtain⟨l1,l2,l3⟩:_/\_/\_:=by simpa only [Prod.mk.injEq] using ls
 have r:=nh r
 have ha:(xf w os).abs=⟨boot_heap w.params,Array.mk [],boot_drawn,boot_toks,os⟩:=by
  show Shared.mk (absHeap (w9 w.params) qp xt) _ _ _ _=_
  rw[boot_abs]
  rfl
 rw[ha,<-wZ] at r
 have t:topFrom treeTable p w N ⟨boot_heap w.params,Array.mk [],boot_drawn,boot_toks,os⟩=some s'.abs:=by
  unfold topFrom
  dsimp only
  rw[z1,z2,z3,r]
  show (match zy p w s'.abs with |true=>_ |false=>_)=_
  rw[l1]
 unfold openEnds
 rw[e]
 show (topFrom treeTable p w N _).map _=_
 rw[t]
 exact congrArg some (Prod.ext l2 l3)
end HD
section
namespace RO
open PySem L2 RM
def sM (K:Frag):Sp:=λvs H Q _=>∃(a:Addr) (ns:List Int),vs= [.ref a]/\fZ K H a (ns.map V.int)/\∀H',ah H H'->Q (.bl true) H'
def BM {K:Frag}{ca:Str->Addr}(vs:List V)(H:Hp)(Q:VK)(E:XK)(h:sM K vs H Q E):xQ K ca 1 A2 vs H Q E:=by
 obtain⟨a,ns,rfl,hS,q⟩:=h
 refine⟨H,[cw ns],ah.refl _,rfl,.cons (.scr hS) .nil,?_⟩
 rw[DH]
 intro v G' H' s1 s2 s3 s4 fv
 have fv:Rp K G' v (.bool true):=fv
 cases fv
 exact q H' s1
def rl:a9 "is_whole" RQ.gN ["thing"]:=λ_ _ _ _ _ _=>oF λ_=>rfl
def rb:a9 "is_below" RQ.hX ["thing","bound"]:=λ_ _ _ _ _ _=>ln2 λ_ _=>rfl
def vc:a9 "is_many" RQ.iV ["thing"]:=λ_ _ _ _ _ _=>oF λ_=>rfl
def vg:a9 "is_pair" RQ.iW ["thing","many"]:=λ_ _ _ _ _ _=>ln2 λ_ _=>rfl
def oX:a9 "every_pair" RQ.dk ["many"]:=λ_ _ _ _ _ _=>oF λ_=>rfl
def wJ:a9 "closed" jJ ["many","pairs"]:=λ_ _ _ _ _ _=>ln2 λ_ _=>rfl
def rJ:a9 "has_ring" RQ.hJ ["pairs"]:=λ_ _ _ _ _ _=>oF λ_=>rfl
def rX:a9 "order_of" RQ.gZ ["many","pairs"]:=λ_ _ _ _ _ _=>ln2 λ_ _=>rfl
def lU:a9 "longer_cells" RQ.c8 ["made","size"]:=λ_ _ _ _ _ _=>ln2 λ_ _=>rfl
def xW:a9 "cells" RQ.lg ["sizes"]:=λ_ _ _ _ _ _=>oF λ_=>rfl
def qJ:a9 "are_sizes" RQ.fX ["thing"]:=λ_ _ _ _ _ _=>oF λ_=>rfl
def uA:a9 "is_over" RQ.i0 ["thing"]:=λ_ _ _ _ _ _=>oF λ_=>rfl
def ur:a9 "is_kind" RQ.iU ["thing"]:=λ_ _ _ _ _ _=>oF λ_=>rfl
def p4:a9 "need_kind" RQ.fM ["thing"]:=λ_ _ _ _ _ _=>oF λ_=>rfl
def nP:a9 "bush_pairs" RQ.fh ["over"]:=λ_ _ _ _ _ _=>oF λ_=>rfl
def mT:a9 "crown_pairs" RQ.dQ ["half"]:=λ_ _ _ _ _ _=>oF λ_=>rfl
def pR:a9 "is_within" RQ.fN ["cell","other"]:=λ_ _ _ _ _ _=>ln2 λ_ _=>rfl
def oA:a9 "grid_pairs" RQ.fk ["sizes"]:=λ_ _ _ _ _ _=>oF λ_=>rfl
def mV:a9 "fence_pairs" RQ.dR ["many"]:=λ_ _ _ _ _ _=>oF λ_=>rfl
def pN:a9 "order_for" RQ.fL ["kind"]:=λ_ _ _ _ _ _=>oF λ_=>rfl
def rj:a9 "_law_box" RQ.gP ["script","k"]:=λ_ _ _ _ _ _=>ln2 λ_ _=>rfl
def qG:a9 "_law_take" RQ.fK ["box","many"]:=λ_ _ _ _ _ _=>ln2 λ_ _=>rfl
def n0:a9 "_law_whole" RQ.fj ["thing"]:=λ_ _ _ _ _ _=>oF λ_=>rfl
def mX:a9 "_law_closed" RQ.dU ["many","pairs"]:=λ_ _ _ _ _ _=>ln2 λ_ _=>rfl
def pQ:a9 "_law_kind" RQ.fV ["box"]:=λ_ _ _ _ _ _=>oF λ_=>rfl
def lx:a9 "_law_squares" RQ.c9 ["many"]:=λ_ _ _ _ _ _=>oF λ_=>rfl
def jW:a9 "_law_kind_order" RQ.cy ["kind"]:=λ_ _ _ _ _ _=>oF λ_=>rfl
def all_mk {l:PySem.W.OpenLaw}{w:World}{K:Frag}{h:Heap}{mg:Str->Option Value}{fa f28 x0 x1 x2 x3:Addr}(X:K.In h)(G:h.Ns mainGlobals mg)(hfa:mg "law"=some (.ref fa))
  {od28 an28:Option Addr} {sl28:Array (Option Value)} {oc28 kV28 dc28 pm28 cd28 ct28:Value} {tMOST_THINGS:Tok}
  (F1:Fo K mg "is_whole" RQ.gN ["thing"])
  (F2:Fo K mg "is_below" RQ.hX ["thing","bound"])
  (F3:Fo K mg "is_many" RQ.iV ["thing"])
  (F4:Fo K mg "is_pair" RQ.iW ["thing","many"])
  (F5:Fo K mg "every_pair" RQ.dk ["many"])
  (F6:Fo K mg "closed" jJ ["many","pairs"])
  (F7:Fo K mg "has_ring" RQ.hJ ["pairs"])
  (F8:Fo K mg "order_of" RQ.gZ ["many","pairs"])
  (F9:Fo K mg "longer_cells" RQ.c8 ["made","size"])
  (F10:Fo K mg "cells" RQ.lg ["sizes"])
  (F11:Fo K mg "are_sizes" RQ.fX ["thing"])
  (F12:Fo K mg "is_over" RQ.i0 ["thing"])
  (F13:Fo K mg "is_kind" RQ.iU ["thing"])
  (F14:Fo K mg "need_kind" RQ.fM ["thing"])
  (F15:Fo K mg "bush_pairs" RQ.fh ["over"])
  (F16:Fo K mg "crown_pairs" RQ.dQ ["half"])
  (F17:Fo K mg "is_within" RQ.fN ["cell","other"])
  (F18:Fo K mg "grid_pairs" RQ.fk ["sizes"])
  (F19:Fo K mg "fence_pairs" RQ.dR ["many"])
  (F20:Fo K mg "order_for" RQ.fL ["kind"])
  (F21:Fo K mg "_law_box" RQ.gP ["script","k"])
  (F22:Fo K mg "_law_take" RQ.fK ["box","many"])
  (F23:Fo K mg "_law_whole" RQ.fj ["thing"])
  (F24:Fo K mg "_law_closed" RQ.dU ["many","pairs"])
  (F25:Fo K mg "_law_kind" RQ.fV ["box"])
  (F26:Fo K mg "_law_squares" RQ.c9 ["many"])
  (F27:Fo K mg "_law_kind_order" RQ.cy ["kind"])
  (a28:PySem.W.nsIn K mainGlobals "law"=some (some (.ref f28))) (l28:K.lookup f28=some ⟨oc28,od28,.func (PySem.W.fnOf "law" "law" (fT RQ.jg) (cT RQ.jg) (ar RQ.jg) .none kV28 dc28 pm28 an28 cd28 ct28),sl28⟩) (c28:PySem.W.codeIn K cd28 "law"=true) (k28:PySem.W.keepIn K (.ref f28)=true)
  (zB:Ez K=true)
  (yMOST_THINGS:PySem.W.nsIn K mainGlobals "MOST_THINGS"=some (some (.int 8 tMOST_THINGS)))
  (m0:PySem.W.nsIn K mainGlobals "NoKind"=some (some (.ref x0)))
  (e0:PySem.W.excIn K x0 [.type "ValueError",.type "Exception",.type "BaseException",.type "object"] "ValueError.__new__"=true)
  (m1:PySem.W.nsIn K mainGlobals "NoMany"=some (some (.ref x1)))
  (e1:PySem.W.excIn K x1 [.type "ValueError",.type "Exception",.type "BaseException",.type "object"] "ValueError.__new__"=true)
  (m2:PySem.W.nsIn K mainGlobals "NoPairs"=some (some (.ref x2)))
  (e2:PySem.W.excIn K x2 [.type "ValueError",.type "Exception",.type "BaseException",.type "object"] "ValueError.__new__"=true)
  (m3:PySem.W.nsIn K mainGlobals "Ring"=some (some (.ref x3)))
  (e3:PySem.W.excIn K x3 [.type "ValueError",.type "Exception",.type "BaseException",.type "object"] "ValueError.__new__"=true)
  :∃fd:FuncData,(∀(s:Shared) (v:Value),BindsTo s fd ⟨[v],[]⟩ [("script",v)])/\∀base:Heap,K.In base->base.Ns mainGlobals mg->eB l.prog w K mg base (kM l.prog w) 7 fa fd ["script"] (sM K):=by
 have e:=hfa.symm.trans (HM X G a28)
 cases e
 have B:jr mg:=DR X G zB
 have bh:=HM X G yMOST_THINGS
 obtain⟨f1,d1,aU⟩:=F1.ex
 obtain⟨f2,d2,bB⟩:=F2.ex
 obtain⟨f3,d3,aL⟩:=F3.ex
 obtain⟨f4,d4,fw⟩:=F4.ex
 obtain⟨f5,d5,aG⟩:=F5.ex
 obtain⟨f6,d6,gF⟩:=F6.ex
 obtain⟨f7,d7,dC⟩:=F7.ex
 obtain⟨f8,d8,b9⟩:=F8.ex
 obtain⟨f9,d9,bZ⟩:=F9.ex
 obtain⟨f10,d10,bY⟩:=F10.ex
 obtain⟨f11,d11,c5⟩:=F11.ex
 obtain⟨f12,d12,fu⟩:=F12.ex
 obtain⟨f13,d13,fx⟩:=F13.ex
 obtain⟨f14,d14,cZ⟩:=F14.ex
 obtain⟨f15,d15,cF⟩:=F15.ex
 obtain⟨f16,d16,cq⟩:=F16.ex
 obtain⟨f17,d17,cY⟩:=F17.ex
 obtain⟨f18,d18,cK⟩:=F18.ex
 obtain⟨f19,d19,cp⟩:=F19.ex
 obtain⟨f20,d20,cC⟩:=F20.ex
 obtain⟨f21,d21,dH⟩:=F21.ex
 obtain⟨f22,d22,a8⟩:=F22.ex
 obtain⟨f23,d23,bR⟩:=F23.ex
 obtain⟨f24,d24,cn⟩:=F24.ex
 obtain⟨f25,d25,cX⟩:=F25.ex
 obtain⟨f26,d26,bt⟩:=F26.ex
 obtain⟨f27,d27,bz⟩:=F27.ex
 have U28:=rC (st:=RQ.jg) l28 c28 k28
 have Cr:i9 K mg "law" RQ.jg ["script"] fa _:=⟨HM X G a28,U28,U28.binds (ps:=["script"]) λ_ _ _ _ _ _=>oF λ_=>rfl⟩
 obtain⟨ca,hca⟩:∃ca:Str->Addr,ca "NoKind"=x0/\ca "NoMany"=x1/\ca "NoPairs"=x2/\ca "Ring"=x3:=⟨λs=>if s="NoKind" then x0 else if s="NoMany" then x1 else if s="NoPairs" then x2 else if s="Ring" then x3 else 0,by first |rfl |decide |simp,by first |rfl |decide |simp,by first |rfl |decide |simp,by first |rfl |decide |simp⟩
 have iA:Exc K mg ca "NoKind":=⟨by rw[hca.1];exact HM X G m0,by rw[hca.1];exact e0⟩
 have iO:Exc K mg ca "NoMany":=⟨by rw[hca.2.1];exact HM X G m1,by rw[hca.2.1];exact e1⟩
 have gL:Exc K mg ca "NoPairs":=⟨by rw[hca.2.2.1];exact HM X G m2,by rw[hca.2.2.1];exact e2⟩
 have lZ:Exc K mg ca "Ring":=⟨by rw[hca.2.2.2];exact HM X G m3,by rw[hca.2.2.2];exact e3⟩
 refine⟨PySem.W.fnOf "law" "law" (fT RQ.jg) (cT RQ.jg) (ar RQ.jg) .none kV28 dc28 pm28 an28 cd28 ct28,λs v=>.of_eq rfl,λbase _ _=>?_⟩
 have cf:=(RQ.oK (P:=l.prog) (w:=w) (base:=base) (ca:=ca) aU B).imp tL
 have cV:=(RQ.oV (P:=l.prog) (w:=w) (base:=base) (ca:=ca) bB B cf).imp yO
 have bN:=(RQ.qw (P:=l.prog) (w:=w) (base:=base) (ca:=ca) aL B cf bh).imp Bd
 have kf:=(RQ.qr (P:=l.prog) (w:=w) (base:=base) (ca:=ca) fw B cV).imp Ba
 have bD:=RQ.l8 (P:=l.prog) (w:=w) (base:=base) (ca:=ca) aG B
 have l5:=rM (P:=l.prog) (w:=w) (base:=base) (ca:=ca) gF aG B
 have js:=(RQ.oq (P:=l.prog) (w:=w) (base:=base) (ca:=ca) dC B).imp Ad
 have dN:=RQ.pj (P:=l.prog) (w:=w) (base:=base) (ca:=ca) b9 B bN kf l5 js iO gL lZ
 have fC:=RQ.ky (P:=l.prog) (w:=w) (base:=base) (ca:=ca) bZ B
 have fo:=RQ.ux (P:=l.prog) (w:=w) (base:=base) (ca:=ca) bY B fC
 have iL:=RQ.mS (P:=l.prog) (w:=w) (base:=base) (ca:=ca) c5 B bN fo bh
 have kj:=RQ.qj (P:=l.prog) (w:=w) (base:=base) (ca:=ca) fu B bN cV
 have j6:=RQ.qm (P:=l.prog) (w:=w) (base:=base) (ca:=ca) fx B cf iL bN kj bh
 have iH:=RQ.mZ (P:=l.prog) (w:=w) (base:=base) (ca:=ca) cZ B j6 iA
 have gO:=RQ.lD (P:=l.prog) (w:=w) (base:=base) (ca:=ca) cF B
 have gk:=RQ.kR (P:=l.prog) (w:=w) (base:=base) (ca:=ca) cq B bD
 have iK:=RQ.mJ (P:=l.prog) (w:=w) (base:=base) (ca:=ca) cY B
 have hG:=RQ.lW (P:=l.prog) (w:=w) (base:=base) (ca:=ca) cK B fo bD iK
 have gm:=RQ.kS (P:=l.prog) (w:=w) (base:=base) (ca:=ca) cp B bD
 have fQ:=RQ.mW (P:=l.prog) (w:=w) (base:=base) (ca:=ca) cC B iH dN gk fo hG gm gO
 have jm:=RQ.oy (P:=l.prog) (w:=w) (base:=base) (ca:=ca) dH B
 have bQ:=RQ.mY (P:=l.prog) (w:=w) (base:=base) a8 B
 have dh:=RQ.lr (P:=l.prog) (w:=w) (base:=base) (ca:=ca) bR B
 have gq:=RQ.kW (P:=l.prog) (w:=w) (base:=base) (ca:=ca) cn B
 have iF:=RQ.mK (P:=l.prog) (w:=w) (base:=base) cX B bQ
 have cB:=RQ.kn (P:=l.prog) (w:=w) (base:=base) (ca:=ca) bt B
 have di:=RQ.i8 (P:=l.prog) (w:=w) (base:=base) (ca:=ca) bz B cB gq
 have Dr:=RQ.yU (P:=l.prog) (w:=w) (base:=base) (ca:=ca) Cr B jm fQ di dh iF
 exact eB.imp (sp:=xQ K ca 1 A2) Dr BM
def walk {l:PySem.W.OpenLaw}{q:Program}{loose:List Str}{XP:(Str->Option Value)->Heap->Prop}{YP:World->Heap->Prop}{d:DefRec}{K:Params->Frag}(hn:l.most=some 63)(hdf:d.params.defaults= [])(hi:PyProof.Rows.importsNone q=true)
  (hY:∀(w:World) (h:Heap),YP w h->(K w.params).In h)
  (F:∀(w:World) (mg:Str->Option Value) (fa:Addr) (h:Heap),(K w.params).In h->h.Ns mainGlobals mg->mg d.name=some (.ref fa)->
   ∃fd:FuncData,(∀(s:Shared) (u:Value),BindsTo s fd ⟨[u],[]⟩ [("script",u)])/\∀base:Heap,(K w.params).In base->base.Ns mainGlobals mg->eB l.prog w (K w.params) mg base (kM l.prog w) 7 fa fd ["script"] (sM (K w.params))) :
  PySem.W.WalkO q loose XP YP l.row.toRowW d [] (λf vs=>PySem.call f vs):=
 L2.y6 (n:=63) (k:=7) (x:="script") (CX:=λw=>kM l.prog w) (sp:=λw=>sM (K w.params)) hn (by decide) hdf hi ⟨rfl,by decide,by decide,rfl⟩ hY F (λ_ _ a ns hl _ hS=>⟨a,ns,rfl,hS,λ_ _=>rfl⟩) λ_ _ _ _ _ z=>by
  obtain⟨_,_,_,_,_,_,_,_,_,z⟩:=z
  exact z
end RO
namespace HD
noncomputable def vw:PySem.Program:=PySem.W.view PySem.Challenge.pw_rowsorder_k52_orders_of_kinds [1,2,3,4,5,6,8,9,10,11,12,14,15,16,18,19,20,21,22,23,24,25,26,27,28,29,31,32,33,34,35,36,37,38]
def DP:PySem.Challenge.rw_rowsorder_k52_orders_of_kinds.wellSaid=true:=by kernel_rfl
end HD
local macro_rules | `(tactic|o_head $H)=>`(tactic| (
 refine PySem.W.holds_open (q:=HD.vw) (loose:=[]) (Xt:=λs=>PySem.W.xlAt HD.vw [] s && PySem.W.recOk (PySem.W.RowW.records _) s) (XP:=PySem.W.XL HD.vw []) (Yf:=PySem.W.Hook.obs $H) (Ya:=PySem.W.Hook.val $H) (YP:=PySem.W.Hook.says $H) (N:=3874) ?hl (PySem.W.Hook.of $H) (PySem.W.Hook.keeps $H) (λs e=>PySem.W.xl_of s (Bool.and_eq_true_iff.mp e).1) PySem.W.XL.keeps (by rfl) (by rfl) (by rfl) (λs e=>PySem.W.recFacts_of (Bool.and_eq_true_iff.mp e).2) (by rfl) (by first |assumption |decide +kernel) (by decide +kernel) ⟨rfl,rfl,rfl,rfl,rfl,by decide +kernel⟩ ?hw ?hc
 case hl=>exact HD.zx (by kernel_rfl) (by kernel_rfl) (λs=>by kernel_rfl) (λw os=>by kernel_rfl)))
open PySem PySem.W PyProof.Rows L2
set_option maxRecDepth 100000 in
set_option maxHeartbeats 0 in
theorem PySem.Challenge.cw_rowsorder_k52_orders_of_kinds_holds : PySem.Challenge.rw_rowsorder_k52_orders_of_kinds.Holds := by
 w_on;(refine holds_law HD.DP λDP=>?_);k_head;(case hw=>w_witness2)
 k_fill
 refine RO.walk (l:=PySem.Challenge.rw_rowsorder_k52_orders_of_kinds) rfl rfl ?hi (λw h Y=>PySem.W.kIn_of Y) ?F
 case hi=>kernel_rfl
 case F=>
  intro w mg fa h KX G hmg
  refine' RO.all_mk KX G hmg ?F1 ?F2 ?F3 ?F4 ?F5 ?F6 ?F7 ?F8 ?F9 ?F10 ?F11 ?F12 ?F13 ?F14 ?F15 ?F16 ?F17 ?F18 ?F19 ?F20 ?F21 ?F22 ?F23 ?F24 ?F25 ?F26 ?F27 ?a28 ?l28 ?c28 ?k28 ?zB ?yMOST_THINGS ?m0 ?e0 ?m1 ?e1 ?m2 ?e2 ?m3 ?e3
  case F1=>refine' b5 KX G RO.rl ?a ?l ?c ?k;(case a=>k_is);(case l=>k_is);(case c=>k_is);(case k=>k_is)
  case F2=>refine' b5 KX G RO.rb ?a ?l ?c ?k;(case a=>k_is);(case l=>k_is);(case c=>k_is);(case k=>k_is)
  case F3=>refine' b5 KX G RO.vc ?a ?l ?c ?k;(case a=>k_is);(case l=>k_is);(case c=>k_is);(case k=>k_is)
  case F4=>refine' b5 KX G RO.vg ?a ?l ?c ?k;(case a=>k_is);(case l=>k_is);(case c=>k_is);(case k=>k_is)
  case F5=>refine' b5 KX G RO.oX ?a ?l ?c ?k;(case a=>k_is);(case l=>k_is);(case c=>k_is);(case k=>k_is)
  case F6=>refine' b5 KX G RO.wJ ?a ?l ?c ?k;(case a=>k_is);(case l=>k_is);(case c=>k_is);(case k=>k_is)
  case F7=>refine' b5 KX G RO.rJ ?a ?l ?c ?k;(case a=>k_is);(case l=>k_is);(case c=>k_is);(case k=>k_is)
  case F8=>refine' b5 KX G RO.rX ?a ?l ?c ?k;(case a=>k_is);(case l=>k_is);(case c=>k_is);(case k=>k_is)
  case F9=>refine' b5 KX G RO.lU ?a ?l ?c ?k;(case a=>k_is);(case l=>k_is);(case c=>k_is);(case k=>k_is)
  case F10=>refine' b5 KX G RO.xW ?a ?l ?c ?k;(case a=>k_is);(case l=>k_is);(case c=>k_is);(case k=>k_is)
  case F11=>refine' b5 KX G RO.qJ ?a ?l ?c ?k;(case a=>k_is);(case l=>k_is);(case c=>k_is);(case k=>k_is)
  case F12=>refine' b5 KX G RO.uA ?a ?l ?c ?k;(case a=>k_is);(case l=>k_is);(case c=>k_is);(case k=>k_is)
  case F13=>refine' b5 KX G RO.ur ?a ?l ?c ?k;(case a=>k_is);(case l=>k_is);(case c=>k_is);(case k=>k_is)
  case F14=>refine' b5 KX G RO.p4 ?a ?l ?c ?k;(case a=>k_is);(case l=>k_is);(case c=>k_is);(case k=>k_is)
  case F15=>refine' b5 KX G RO.nP ?a ?l ?c ?k;(case a=>k_is);(case l=>k_is);(case c=>k_is);(case k=>k_is)
  case F16=>refine' b5 KX G RO.mT ?a ?l ?c ?k;(case a=>k_is);(case l=>k_is);(case c=>k_is);(case k=>k_is)
  case F17=>refine' b5 KX G RO.pR ?a ?l ?c ?k;(case a=>k_is);(case l=>k_is);(case c=>k_is);(case k=>k_is)
  case F18=>refine' b5 KX G RO.oA ?a ?l ?c ?k;(case a=>k_is);(case l=>k_is);(case c=>k_is);(case k=>k_is)
  case F19=>refine' b5 KX G RO.mV ?a ?l ?c ?k;(case a=>k_is);(case l=>k_is);(case c=>k_is);(case k=>k_is)
  case F20=>refine' b5 KX G RO.pN ?a ?l ?c ?k;(case a=>k_is);(case l=>k_is);(case c=>k_is);(case k=>k_is)
  case F21=>refine' b5 KX G RO.rj ?a ?l ?c ?k;(case a=>k_is);(case l=>k_is);(case c=>k_is);(case k=>k_is)
  case F22=>refine' b5 KX G RO.qG ?a ?l ?c ?k;(case a=>k_is);(case l=>k_is);(case c=>k_is);(case k=>k_is)
  case F23=>refine' b5 KX G RO.n0 ?a ?l ?c ?k;(case a=>k_is);(case l=>k_is);(case c=>k_is);(case k=>k_is)
  case F24=>refine' b5 KX G RO.mX ?a ?l ?c ?k;(case a=>k_is);(case l=>k_is);(case c=>k_is);(case k=>k_is)
  case F25=>refine' b5 KX G RO.pQ ?a ?l ?c ?k;(case a=>k_is);(case l=>k_is);(case c=>k_is);(case k=>k_is)
  case F26=>refine' b5 KX G RO.lx ?a ?l ?c ?k;(case a=>k_is);(case l=>k_is);(case c=>k_is);(case k=>k_is)
  case F27=>refine' b5 KX G RO.jW ?a ?l ?c ?k;(case a=>k_is);(case l=>k_is);(case c=>k_is);(case k=>k_is)
  case a28=>k_is
  case l28=>k_is
  case c28=>k_is
  case k28=>k_is
  case zB=>kernel_rfl
  case yMOST_THINGS=>k_is
  case m0=>k_is
  case e0=>kernel_rfl
  case m1=>k_is
  case e1=>kernel_rfl
  case m2=>k_is
  case e2=>kernel_rfl
  case m3=>k_is
  case e3=>kernel_rfl
end
