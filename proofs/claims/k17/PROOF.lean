import PyProof.Rows.All
import Wide.All
import OpenK.AllK
import Wide.FinOn
import Lean
import PyProof.EqAt
import PyProof.EqKinds
import PyProof.TupleCall
import PySem.SetOps
import PyProof.SetKind
import PyProof.TupleKey
import PyProof.DictKinds
import PyProof.Rows.SetFrom
import PyProof.WalksMore
import KE.KSortTup
import PyProof.CollectWalk
import PyProof.ExcArgsOwn
import PyProof.Rows.CountFlat
import PyProof.Rows.SeqMore2
import PyProof.Rows.FStr
import PyProof.Rows.StrWeight2
import PyProof.Rows.StrNews
import PyProof.StrLawsTight
import PyProof.ExcBaseAll.ValueError
import PyProof.ZipIter
import PyProof.CallFns
import PyProof.Draws
import PyProof.EnumMake
import PyProof.SetRoads
import PyProof.Rows.SortWalk
import PyProof.SeqI3
import PyProof.Rows.SortShell
import PyProof.Rows.Range3
import KE.KStateDown
import PyProof.Rows.SumAny
import PyProof.ListRange
import PyProof.MaxThree
import PyProof.IsiH_list
import PyProof.RaisesAny
import KE.KDictOf
import PyProof.Rows.BitMore
import PySem.Challenge.RW_rowsorder_k17_chains_told
set_option Elab.async false
set_option linter.all false
set_option maxRecDepth 100000
set_option maxHeartbeats 1000000
def Hu:=@List.getElem?_eq_getElem
def Hv:=@PySem.wpAny_bind
def Hw:=@PySem.Heap.get?_push_of_some
def Hx:=@List.mem_cons
def Hy:=@Nat.le_refl
def Hz:=@List.mem_cons_self
def HA:=@if_pos
def HB:=@List.getElem?_eq_some_iff
def HC:=@List.mem_singleton
def HE:=@PySem.wpAny_pure
def HF:=@List.length_map
def HG:=@List.mem_cons_of_mem
def HH:=@List.mem_map
def HI:=@if_neg
def HJ:=@PySem.Heap.lt_size
def HK:=@decide_eq_true
def HL:=@List.getElem?_map
def HN:=@List.mem_of_getElem?
def HP:=@List.mem_append
def HQ:=@Bool.false_eq_true
def HR:=@List.mem_range
def HS:=@List.getElem?_set_ne
def HU:=@PySem.Heap.get?_push_size
def HV:=@decide_eq_false
def HW:=@List.size_toArray
def HX:=@List.length_cons
def HY:=@List.getElem?_set_self
def HZ:=@List.mem_append_right
def Ia:=@Nat.zero_le
def Ic:=@List.map_append
def Ie:=@Array.getElem?_eq_getElem
def Ig:=@Bool.and_eq_true
def Ih:=@Nat.ne_of_lt
def Ij:=@Nat.lt_of_lt_of_le
def Ik:=@List.length_append
def Il:=@List.nodup_cons
def Im:=@if_false
def Ip:=@List.Pairwise.imp_of_mem
def Iq:=@List.mem_filter
def Ir:=@List.mem_iff_getElem
def Iu:=@PySem.sizeLine_eq
def Iv:=@Nat.lt_irrefl
def Iw:=@Bool.false_ne_true
def Iy:=@Array.getD_eq_getD_getElem?
def Iz:=@List.getElem?_append_right
def IA:=@List.pairwise_map
def IB:=@List.getElem?_append_left
def IC:=@List.pairwise_iff_getElem
def ID:=@List.map_cons
def IE:=@List.length_take
def IF:=@List.pairwise_append
def IG:=@List.all_eq_true
def IH:=@Nat.lt_or_ge
def II:=@PySem.W.kia_one
def IJ:=@Int.toNat_natCast
def IK:=@PySem.wpAny_setState_of
def IL:=@PySem.Heap.get?_update_self
def IM:=@if_true
def IP:=@decide_eq_true_eq
def IQ:=@Array.getElem?_eq_some_iff
def IS:=@List.getD_eq_getElem?_getD
def IT:=@List.getElem?_of_mem
def IU:=@PySem.Heap.get?_update_other
def IV:=@List.getElem_mem
def IW:=@Nat.le_trans
def IX:=@PySem.wpAny_holding
def IY:=@PySem.boot_len
def IZ:=@PySem.wpAny_truthy_bool
def I0:=@List.append_assoc
def Ja:=@List.map_map
def Jb:=@List.mem_append_left
def Jc:=@PySem.wpAny_mono
def Jd:=@PySem.Around.under_plainId
def Je:=@List.mem_of_mem_take
def Jf:=@List.getElem?_replicate
def Jg:=@List.length_range
def Jh:=@List.length_set
def Ji:=@List.toList_toArray
def Jj:=@List.map_congr_left
def Jk:=@Nat.zero_add
def Jl:=@List.take_of_length_le
def Jm:=@List.nodup_iff_pairwise_ne
def Jn:=@List.not_mem_nil
def Jo:=@PySem.Heap.size_push
def Jp:=@Array.getElem?_toList
def Jq:=@List.take_append_drop
def Jr:=@List.pairwise_cons
def Js:=@List.length_filter_le
def Jt:=@List.drop_eq_getElem_cons
def Ju:=@List.append_nil
def Jv:=@PySem.codeAny_builtin
def Jw:=@List.set_eq_of_length_le
def Jx:=@PySem.Value.isInt_shape
def Jy:=@Nat.lt_trichotomy
def Jz:=@Bool.not_eq_true'
def JA:=@List.any_cons
def JB:=@PySem.F.plainAttrs_list
def JC:=@List.filter_cons_of_pos
def JD:=@List.filter_cons_of_neg
def JE:=@PySem.mem_of_lookup
def JF:=@List.nodup_range
def JG:=@PyProof.Rows.callWith_type1
def JH:=@PyProof.Rows.F.plain_set_update_loop
def JI:=@PySem.wpAny_passesOwn
def JJ:=@List.length_replicate
def JK:=@Bool.eq_iff_iff
def JL:=@List.take_sublist
def JM:=@List.flatten_cons
def JN:=@List.take_add_one
def JO:=@Array.mem_toList_iff
def JP:=@Nat.mul_le_mul
def JQ:=@PySem.F.called_set
def JR:=@PySem.wpAny_call_entry
def JS:=@PySem.F.slot_list_append
def JT:=@PySem.F.type_list_append
def JU:=@List.replicate_succ
def JV:=@List.pairwise_singleton
def JW:=@Bool.not_true
def JX:=@List.all_cons
def JY:=@List.mem_filterMap
def JZ:=@List.pairwise_lt_range
def J0:=@Array.getElem?_eq_none
def J1:=@PySem.SeqAt.canLay_of_shaped
def J2:=@PySem.wpAny_pyIter_list
def J3:=@PySem.wpAny_newObj_type
def J4:=@List.getElem?_toArray
def J5:=@List.Perm.append_left
def J6:=@PySem.wpAny_setField
def J8:=@Int.zero_add
def J9:=@List.dropLast_concat_getLast
def Ka:=@Nat.mod_lt
def Kb:=@PySem.wpAny_askSetting
def Kc:=@Bool.and_self
def Kd:=@PySem.plainId_quiet
def Ke:=@List.filterMap_cons
def Kf:=@Array.length_toList
def Kg:=@List.flatten_append
def Kh:=@List.length_nil
def Ki:=@PySem.codeAny_mono
def Kj:=@List.getElem?_take_of_lt
def Kk:=@List.map_nil
def Kl:=@List.length_erase_of_mem
def Km:=@PySem.wpAny_pyIter_tuple
def Kn:=@List.eq_of_mem_replicate
def Ko:=@Nat.lt_of_le_of_lt
def Kq:=@List.filter_append
def Kr:=@List.nodup_nil
def Ks:=@PySem.isSubtype_type
def Ku:=@List.any_eq_false
def Kv:=@List.ext_getElem?
def Kw:=@List.getElem?_set
def Kx:=@List.idxOf_append
open List (foldl_cons lookup_cons set_set filter_nil)
open PySem.W (Frag)
open PySem.PyData (int)
section
set_option Elab.async false
namespace L2
open PySem PySem.Spec PyProof.Rows
abbrev Key:=Sum Int Str
def Ck:Key->Value->Bool
 | .inl k,v=>Value.isInt k v
 | .inr x,v=>Value.isStrOf x v
def Gw (w:World):Key->Int
 | .inl k=>hashInt k
 | .inr x=>hashStr w x
theorem bE:∀{k:Key} {v:Value},Ck k v=true->(∃i t,k=Sum.inl i/\v=Value.int i t)\/(∃x t,k=Sum.inr x/\v=Value.str x t)
 | .inl i,v,h=>by
  obtain⟨t,e⟩:=Jx (k:=i) (v:=v) h
  exact .inl ⟨i,t,rfl,e⟩
 | .inr x,v,h=>by
  obtain⟨t,e⟩:=Value.isStrOf_shape (x:=x) (v:=v) h
  exact .inr ⟨x,t,rfl,e⟩
def CT (a b:Int):decide ((Sum.inl a:Key)=Sum.inl b)=(a == b):=by
 by_cases e:a=b
 ·subst e;simp
 ·have h:¬(Sum.inl a:Key)=Sum.inl b:=λq=>e (Sum.inl.inj q)
  rw[HV h]
  exact (beq_eq_false_iff_ne.mpr e).symm
def Dt (a b:Str):decide ((Sum.inr a:Key)=Sum.inr b)=decide (a=b):=by
 by_cases e:a=b
 ·subst e;simp
 ·have h:¬(Sum.inr a:Key)=Sum.inr b:=λq=>e (Sum.inr.inj q)
  rw[HV h,HV e]
def Cw (a:Int)(b:Str):decide ((Sum.inl a:Key)=Sum.inr b)=false:=HV (λq=>nomatch q)
def CV (a:Str)(b:Int):decide ((Sum.inr a:Key)=Sum.inl b)=false:=HV (λq=>nomatch q)
def pF (prog:Program)(w:World):PySem.KeyKind prog w Key where
 is:=Ck
 hash:=Gw w
 inj:=λv a b ha hb=>by
  rcases bE ha with⟨i,t,rfl,rfl⟩ | ⟨x,t,rfl,rfl⟩
  ·rcases bE hb with⟨j,u,rfl,e⟩ | ⟨y,u,rfl,e⟩
   ·injection e with e1 _;rw[e1]
   ·exact nomatch e
  ·rcases bE hb with⟨j,u,rfl,e⟩ | ⟨y,u,rfl,e⟩
   ·exact nomatch e
   ·injection e with e1 _;rw[e1]
 byValue:=λk v h=>by
  rcases bE h with⟨i,t,rfl,rfl⟩ | ⟨x,t,rfl,rfl⟩ <;> rfl
 pyHash:=λhv h=>by
  rcases bE hv with⟨i,t,rfl,rfl⟩ | ⟨x,t,rfl,rfl⟩
  ·exact wpAny_pyHash_int h
  ·exact wpAny_pyHash_str h
 eqBool:=λhu hv h=>by
  rcases bE hu with⟨i,t,rfl,rfl⟩ | ⟨x,t,rfl,rfl⟩
  ·rcases bE hv with⟨j,u,rfl,rfl⟩ | ⟨y,u,rfl,rfl⟩
   ·rw[CT] at h;exact wpAny_eqBool_int h
   ·rw[Cw] at h;exact SeqAt.EqAt.int_str i t y u _ _ _ _ h
  ·rcases bE hv with⟨j,u,rfl,rfl⟩ | ⟨y,u,rfl,rfl⟩
   ·rw[CV] at h;exact SeqAt.EqAt.str_int x t j u _ _ _ _ h
   ·rw[Dt] at h;exact wpAny_eqBool_str h
 «strs»:=λk x t v h=>by
  rcases bE h with⟨i,u,rfl,e⟩ | ⟨y,u,rfl,e⟩
  ·exact nomatch e
  ·injection e with e1 _
   subst e1
   cases v <;> rfl
inductive V where
 |non |bl (b:Bool) |int (i:Int) |str (x:Str) |byt (b:Array UInt8) |flt (b:UInt64) |ref (a:Addr) |ty (n:String)
 deriving DecidableEq
def RelV:V->Value->Prop
 | .non,u=>u=Value.none
 | .bl b,u=>u=Value.bool b
 | .int i,u=>∃t,u=Value.int i t
 | .str x,u=>∃t,u=Value.str x t
 | .byt b,u=>∃t,u=Value.bytes b t
 | .flt b,u=>∃t,u=Value.float b t
 | .ref a,u=>u=Value.ref a
 | .ty n,u=>u=Value.type n
abbrev Vals:List V->List Value->Prop:=Paired RelV
def Vals.length {xs:List V}{us:List Value}(r:Vals xs us):xs.length=us.length:=Paired.length r
theorem Vals.get:∀{xs:List V} {us:List Value} {i:Nat} {x:V},Vals xs us->xs[i]? =some x->∃u,us[i]? =some u/\RelV x u
 |_,_,_,_,.nil,e=>by simp at e
 |_,_,0,_,.cons r _,e=>by simp at e;subst e;exact⟨_,rfl,r⟩
 |_,_,i + 1,x,.cons _ t,e=>by
  obtain⟨u,h1,h2⟩:=Vals.get (i:=i) (x:=x) t (by simpa using e)
  exact⟨u,by simpa using h1,h2⟩
theorem Vals.set {x:V}{u:Value}(r:RelV x u):∀{xs:List V} {us:List Value} (i:Nat),Vals xs us->Vals (xs.set i x) (us.set i u)
 |_,_,_,.nil=>.nil
 |_,_,0,.cons _ t=>.cons r t
 |_,_,i + 1,.cons q t=>.cons q (Vals.set r i t)
theorem Vals.append:∀{xs ys:List V} {us ws:List Value},Vals xs us->Vals ys ws->Vals (xs ++ ys) (us ++ ws)
 |_,_,_,_,.nil,s=>s
 |_,_,_,_,.cons r t,s=>.cons r (Vals.append t s)
theorem Vals.take:∀{xs:List V} {us:List Value} (n:Nat),Vals xs us->Vals (xs.take n) (us.take n)
 |_,_,0,_=>.nil
 |_,_,_ + 1,.nil=>.nil
 |_,_,n + 1,.cons r t=>.cons r (Vals.take n t)
theorem Vals.drop:∀{xs:List V} {us:List Value} (n:Nat),Vals xs us->Vals (xs.drop n) (us.drop n)
 |_,_,0,r=>r
 |_,_,_ + 1,.nil=>.nil
 |_,_,n + 1,.cons _ t=>Vals.drop n t
def zo:Option V->Option Value->Prop
 |some v,some u=>RelV v u
 |none,none=>True
 |_,_=>False
def KV {κ:Type}:List (κ×V)->List (κ×Value)->Prop:=Paired λ(p:κ×V) (q:κ×Value)=>p.1=q.1/\RelV p.2 q.2
def kV:Key->V
 | .inl i=>.int i
 | .inr x=>.str x
inductive HO where
 |lst (xs:List V)
 |tup (xs:List V)
 |dK (kvs:List (Key×V)) |dT (kvs:List (List Key×V))
 |set (S:Int->Bool) (n:Nat)
 |ins (C dx:Addr) (fs:List (Str×V))
 |own (x:Addr)
 |xd (fs:List (Str×V))
 |met (f x:Addr)
 |eZ (lo hi:Int)
 |aU (o:Obj) (u:HO)
 |tbl (ps:Array Value)
 |ext (φ:Heap->Prop)
abbrev Hp:=Addr->Option HO
def upd (H:Hp)(a:Addr)(o:HO):Hp:=λb=>if b=a then some o else H b
def aq {H:Hp}{a:Addr}{o:HO}:upd H a o a=some o:=by unfold upd;rw[HA rfl]
def ak {H:Hp}{a b:Addr}{o:HO}(h:b≠a):upd H a o b=H b:=by unfold upd;rw[HI h]
def BY {H:Hp}{a b:Addr}{o u:HO}(h:H a=some o)(h':H b=some u)(d:o≠u):a≠b:=by
 intro e;subst e;rw[h] at h';exact d (Option.some.inj h')
def ax {H:Hp}{a b:Addr}{o:HO}(h:H a=some o)(h':H b=none):a≠b:=by
 intro e;subst e;rw[h] at h';cases h'
section
variable (P:Program)(w:World)
def rY (h:Heap)(a:Addr)(items:Array Value):Prop:=∃o,h.get? a=some o/\o.cls=.type "tuple"/\∃n,o.data=.seq items n/\o.dict=none
def rY.isTup {h:Heap}{a:Addr}{items:Array Value}(x:rY h a items):IsTup h a items:=let ⟨o,e,c,n,d,_⟩:=x;⟨o,e,c,n,d⟩
def rY.new (h:Heap)(items:Array Value):rY (h.push {cls:=.type "tuple",data:=.seq items}) h.objs.size items:=⟨_,HU _ rfl,rfl,_,rfl,rfl⟩
def bL (H:Hp)(h:Heap)(a:Addr):HO->Prop
 | .lst xs=>xs.length<=sizeLine/\∃(its:List Value) (n:Nat),Vals xs its/\h.get? a=some {cls:=.type "list",data:=.seq its.toArray n}
 | .tup xs=>xs.length<=sizeLine/\∃its:List Value,Vals xs its/\rY h a its.toArray
 | .dK kvs=>kvs.length<=sizeLine/\(a == sysModules)=false/\∃vs,KV kvs vs/\h.DictOf (pF P w) a vs
 | .dT kvs=>kvs.length<=sizeLine/\(a == sysModules)=false/\∃xs:List (List Key×Addr×Value),
   Paired (λ(p:List Key×V) (q:List Key×Addr×Value)=>p.1=q.1/\(H q.2.1=some (.tup (p.1.map kV))\/∃o,H q.2.1=some (.aU o (.tup (p.1.map kV))))/\RelV p.2 q.2.2) kvs xs/\
   ∃o es ep,h.get? a=some o/\o.ExactDict/\o.data=.dict es ep/\es.toList=xs.map (entryOfKey (tupleKind (pF P w)))/\(xs.map (·.1)).Nodup
 | .set S n=>h.SetOf (intKind P w) a S n
 | .ins C dx fs=>H dx=some (.own a)/\fs.length<=1000/\dx≠a/\h.get? a=some (PySem.W.instObj C dx)/\
   ∃mA,h.Ns1 dx mA/\(∀f,zo (fs.lookup f) (mA f))/\PySem.Within mA (fs.map (·.1))
 | .own _=>∃o,h.get? a=some o
 | .xd fs=>∃mA,h.Ns1 a mA/\∀f,zo (fs.lookup f) (mA f)
 | .eZ lo hi=>∃t u v,h.get? a=some {cls:=.type "range",data:=.fields #[.int lo t,.int hi u,.int 1 v]}
 | .aU o u=>h.get? a=some o/\bL H h a u
 | .tbl ps=>h.get? a=some {cls:=.none,data:=.fields ps}
 | .met f x=>h.get? a=some (PySem.W.methodObj (.ref f) (.ref x))
 | .ext φ=>φ h/\(∃o,h.get? a=some o)/\∀h1 h2:Heap,φ h1->(∀o,h1.get? a=some o->h2.get? a=some o)->φ h2
def j4 (H:Hp)(h:Heap):Prop:=∀a o,H a=some o->bL P w H h a o
end
section
variable {P:Program}{w:World}{H H':Hp}{h h':Heap}{a:Addr}{o:HO}
theorem bL.lt (x:bL P w H h a o):a < h.objs.size:=by
 cases o with
 |lst xs=>obtain⟨_,_,_,_,e⟩:=x;exact HJ e
 |tup xs=>obtain⟨_,_,_,p⟩:=x;exact p.isTup.lt
 |dK kvs=>obtain⟨_,_,_,_,o,_,_,e,_⟩:=x;exact HJ e
 |dT kvs=>obtain⟨_,_,_,_,o,_,_,e,_⟩:=x;exact HJ e
 |set S n=>obtain⟨o,_,_,_,e,_⟩:=x;exact HJ e
 |ins C dx fs=>obtain⟨_,_,_,e,_⟩:=x;exact HJ e
 |own y=>obtain⟨_,e⟩:=x;exact HJ e
 |xd fs=>obtain⟨_,⟨_,_,_,e,_⟩,_⟩:=x;exact HJ e
 |eZ lo hi=>obtain⟨_,_,_,e⟩:=x;exact HJ e
 |aU ob u=>obtain⟨e,_⟩:=x;exact HJ e
 |tbl ps=>exact HJ (show h.get? a=some _ from x)
 |met f y=>exact HJ (show h.get? a=some _ from x)
 |ext φ=>obtain⟨_,⟨_,e⟩,_⟩:=x;exact HJ e
theorem Paired.mapP {α β:Type}{F G:α->β->Prop}:∀{l₁:List α} {l₂:List β},Paired F l₁ l₂->(∀a b,F a b->G a b)->Paired G l₁ l₂
 |_,_,.nil,_=>.nil
 |_,_,.cons r t,f=>.cons (f _ _ r) (Paired.mapP t f)
theorem bL.stay (x:bL P w H h a o)(k:∀b u,(b=a\/H b=some (.own a))->h.get? b=some u->h'.get? b=some u)
  (ho:∀b,H b=some (.own a)->H' b=some (.own a)) (ht:∀b xs,(H b=some (.tup xs)\/∃o,H b=some (.aU o (.tup xs)))->(H' b=some (.tup xs)\/∃o,H' b=some (.aU o (.tup xs)))):bL P w H' h' a o:=by
 induction o with
 |lst xs=>obtain⟨z,its,n,r,e⟩:=x;exact⟨z,its,n,r,k _ _ (.inl rfl) e⟩
 |tup xs=>obtain⟨z,its,r,ob,e,c⟩:=x;exact⟨z,its,r,ob,k _ _ (.inl rfl) e,c⟩
 |dK kvs=>obtain⟨z,y,vs,r,ob,es,ep,e,c⟩:=x;exact⟨z,y,vs,r,ob,es,ep,k _ _ (.inl rfl) e,c⟩
 |dT kvs=>
  obtain⟨z,y,xs,r,ob,es,ep,e,c⟩:=x
  exact⟨z,y,xs,Paired.mapP r λp q z=>⟨z.1,ht _ _ z.2.1,z.2.2⟩,ob,es,ep,k _ _ (.inl rfl) e,c⟩
 |set S n=>obtain⟨ob,es,ep,t,e,c⟩:=x;exact⟨ob,es,ep,t,k _ _ (.inl rfl) e,c⟩
 |ins C dx fs=>
  obtain⟨d,z,ne,e,mA,⟨od,es,ep,e2,c⟩,r⟩:=x
  exact⟨ho _ d,z,ne,k _ _ (.inl rfl) e,mA,⟨od,es,ep,k _ _ (.inr d) e2,c⟩,r⟩
 |own y=>obtain⟨ob,e⟩:=x;exact⟨ob,k _ _ (.inl rfl) e⟩
 |xd fs=>obtain⟨mA,⟨od,es,ep,e,c⟩,r⟩:=x;exact⟨mA,⟨od,es,ep,k _ _ (.inl rfl) e,c⟩,r⟩
 |eZ lo hi=>obtain⟨t,u,v,e⟩:=x;exact⟨t,u,v,k _ _ (.inl rfl) e⟩
 |aU ob u ih=>obtain⟨e,q⟩:=x;exact⟨k _ _ (.inl rfl) e,ih q⟩
 |tbl ps=>
  have e:h.get? a=some {cls:=.none,data:=.fields ps}:=x
  show h'.get? a=some {cls:=.none,data:=.fields ps}
  exact k a _ (.inl rfl) e
 |met f y=>
  have e:h.get? a=some (PySem.W.methodObj (.ref f) (.ref y)):=x
  show h'.get? a=some (PySem.W.methodObj (.ref f) (.ref y))
  exact k a _ (.inl rfl) e
 |ext φ=>obtain⟨p,⟨o,e⟩,st⟩:=x;exact⟨st _ _ p λo q=>k _ _ (.inl rfl) q,⟨o,k _ _ (.inl rfl) e⟩,st⟩
def j4.lt (x:j4 P w H h)(e:H a=some o):a < h.objs.size:=(x a o e).lt
theorem j4.fresh (x:j4 P w H h)(e:h.objs.size<=a):H a=none:=by
 cases q:H a with
 |none=>rfl
 |some u=>exact absurd (Ij (x.lt q) e) (Iv _)
def j4.kept (x:j4 P w H h)(k:∀b u,h.get? b=some u->h'.get? b=some u):j4 P w H h':=λa o e=>
 (x a o e).stay (λb u _ q=>k b u q) (λ_ q=>q) λ_ _ q=>q
def j4.laid (x:j4 P w H h)(k:∀b u,h.get? b=some u->h'.get? b=some u)(hp:h.objs.size<=a)(new:bL P w (upd H a o) h' a o):j4 P w (upd H a o) h':=λb u e=>by
 have hn:=x.fresh hp
 by_cases hb:b=a
 ·subst hb;rw[aq] at e;cases e;exact new
 ·rw[ak hb] at e
  exact (x b u e).stay (λc v _ q=>k c v q) (λc q=>by rw[ak (ax q hn)];exact q) λc xs q=>q.imp (λq=>by rw[ak (ax q hn)];exact q) λ⟨o,q⟩=>⟨o,by rw[ak (ax q hn)];exact q⟩
end
def Rd (H:Hp)(a:Addr)(u:HO):Prop:=H a=some u\/∃o,H a=some (.aU o u)
def Rd.ok {P:Program}{w:World}{H:Hp}{h:Heap}{a:Addr}{u:HO}(r:Rd H a u)(x:j4 P w H h):bL P w H h a u:=by
 rcases r with r | ⟨o,r⟩
 ·exact x a u r
 ·obtain⟨_,q⟩:=x a _ r
  exact q
def Fp:Option HO->Prop
 |some (.lst _)=>True
 |some (.dK _)=>True
 |some (.dT _)=>True
 |some (.set _ _)=>True
 |some (.ins _ _ _)=>True
 |some (.ext _)=>True
 |_=>False
section
variable {P:Program}{w:World}{H:Hp}{h h':Heap}{x e:Addr}{o':HO}
def j4.write (ok:j4 P w H h)(mu:Fp (H x))(he:e=x\/H e=some (.own x))(k:∀b u,b≠e->h.get? b=some u->h'.get? b=some u)(heo:∃u,h'.get? e=some u)
  (new:bL P w (upd H x o') h' x o'):j4 P w (upd H x o') h':=λb u q=>by
 have nown:∀c y,H c=some (.own y)->c≠x:=λc y r z=>by subst z;rw[r] at mu;exact mu
 have ntup:∀c xs,H c=some (.tup xs)->c≠x:=λc xs r z=>by subst z;rw[r] at mu;exact mu
 by_cases hb:b=x
 ·subst hb;rw[aq] at q;cases q;exact new
 ·rw[ak hb] at q
  by_cases hbe:b=e
  ·have q':H b=some (.own x):=by
    rcases he with z |z
    ·exact absurd (hbe.trans z) hb
    ·rw[hbe];exact z
   rw[q] at q';cases q'
   obtain⟨v,hv⟩:=heo
   exact⟨v,by rw[hbe];exact hv⟩
  ·refine (ok b u q).stay (λc v hc r=>k c v ?_ r) (λc r=>by rw[ak (nown c b r)];exact r) λc xs r=>r.imp (λr=>by rw[ak (ntup c xs r)];exact r) λ⟨o,r⟩=>⟨o,by rw[ak (λz=>by subst z;rw[r] at mu;exact mu)];exact r⟩
   rcases hc with rfl |hc
   ·exact hbe
   ·rintro rfl
    rcases he with z |z
    ·exact nown c b hc z
    ·rw[hc] at z;cases z;exact hb rfl
end
structure Un (fs ex:List Addr)(H H':Hp)(h h':Heap):Prop where
 keep:∀b o,h.get? b=some o->H b=none->b∉fs->b∉ex->h'.get? b=some o
 slot:∀b o,h.get? b=some o->H b=none->b∈fs->b∉ex->∃sl,h'.get? b=some {o with slots:=sl}
 free:∀b o,h.get? b=some o->H b=none->b∉ex->H' b=none
 there:∀b o,h.get? b=some o->b∉ex->∃o',h'.get? b=some o'
 tups:∀b xs,H b=some (.tup xs)->H' b=some (.tup xs)
 frzs:∀b o u,H b=some (.aU o u)->H' b=some (.aU o u)
 tbls:∀b ps,H b=some (.tbl ps)->∃more,H' b=some (.tbl (ps ++ more))
section
variable {fs fs' ex ex':List Addr}{H H1 H2:Hp}{h h1 h2 h':Heap}{a x e:Addr}{o:HO}
def Un.any (u:Un fs ex H H1 h h1){b:Addr}{ob:Obj}(q:h.get? b=some ob)(n:H b=none)(hx:b∉ex):∃sl,h1.get? b=some {ob with slots:=sl}:=by
 by_cases hb:b∈fs
 ·exact u.slot b ob q n hb hx
 ·exact⟨ob.slots,u.keep b ob q n hb hx⟩
def Un.kept (k:∀b u,h.get? b=some u->h'.get? b=some u):Un fs ex H H h h':=
 ⟨λb ob q _ _ _=>k b ob q,λb ob q _ _ _=>⟨ob.slots,k b ob q⟩,λ_ _ _ n _=>n,λb ob q _=>⟨ob,k b ob q⟩,λ_ _ q=>q,λ_ _ _ q=>q,λ_ ps q=>⟨#[],by rw[q];simp⟩⟩
def Un.refl:Un fs ex H H h h:=Un.kept λ_ _ q=>q
def Un.laid (k:∀b u,h.get? b=some u->h'.get? b=some u)(hp:h.objs.size<=a)(hn:H a=none):Un fs ex H (upd H a o) h h' where
 keep:=λb u q _ _ _=>k b u q
 slot:=λb u q _ _ _=>⟨u.slots,k b u q⟩
 free:=λb u q n _=>by rw[ak (Ih (Ij (HJ q) hp))];exact n
 there:=λb u q _=>⟨u,k b u q⟩
 tups:=λb xs q=>by rw[ak (ax q hn)];exact q
 frzs:=λb u xs q=>by rw[ak (ax q hn)];exact q
 tbls:=λb ps q=>⟨#[],by rw[ak (ax q hn),q];simp⟩
def Un.write (mu:Fp (H x))(he:e=x\/H e=some (.own x))(k:∀b u,b≠e->h.get? b=some u->h'.get? b=some u)(heo:∃u,h'.get? e=some u):Un fs ex H (upd H x o) h h':=by
 have hx:∀b,H b=none->b≠x:=λb n z=>by subst z;rw[n] at mu;exact mu
 have hb:∀b,H b=none->b≠e:=λb n z=>by
  subst z
  rcases he with r |r
  ·exact hx b n r
  ·rw[n] at r;cases r
 have hm:∀b u,H b=some u->¬Fp (some u)->b≠x:=λb u q nm z=>by subst z;rw[q] at mu;exact nm mu
 refine⟨λb u q n _ _=>k b u (hb b n) q,λb u q n _ _=>⟨u.slots,k b u (hb b n) q⟩,λb u q n _=>by rw[ak (hx b n)];exact n,λb u q _=>?_,
  λb xs q=>by rw[ak (hm b _ q λz=>z)];exact q,λb u xs q=>by rw[ak (hm b _ q λz=>z)];exact q,λb ps q=>⟨#[],by rw[ak (hm b _ q λz=>z),q];simp⟩⟩
 by_cases hbe:b=e
 ·subst hbe;exact heo
 ·exact⟨u,k b u hbe q⟩
end
def Fq (h:Heap)(H:Hp):List Addr:=(List.range h.objs.size).filter λa=>(H a).isSome
def oV (h:Heap)(H:Hp):Heap:=PySem.W.hideAll h (Fq h H)
def vN (h:Heap)(H:Hp):(oV h H).objs.size=h.objs.size:=PySem.W.hideAll_size _ _
def zP {h:Heap}{H:Hp}{b:Addr}{o:Obj}(e:h.get? b=some o)(n:H b=none):(oV h H).get? b=some o:=
 PySem.W.hideAll_get _ e λhm=>by
  have q:(H b).isSome=true:=(Iq.mp hm).2
  rw[n] at q;simp at q
theorem Av {h:Heap}{H:Hp}{b:Addr}{o:Obj}(e:(oV h H).get? b=some o):h.get? b=some o/\H b=none:=by
 have e':h.get? b=some o:=PySem.W.of_hideAll (Fq h H) e
 refine⟨e',?_⟩
 cases q:H b with
 |none=>rfl
 |some x=>
  have hm:b∈Fq h H:=Iq.mpr ⟨HR.mpr (HJ e'),by simp[q]⟩
  have z:(oV h H).get? b=none:=PySem.W.hideAll_none (Fq h H) hm
  rw[z] at e;cases e
def Ad (g h:Heap)(L:Addr):List (Addr×Obj):=(List.range h.objs.size).filterMap λa=>if a=L\/(g.get? a).isSome=true then none else (h.get? a).map λo=>(a,o)
def rest (g h:Heap)(L d:Addr):List (Addr×Obj):=(Ad g h L).filter λp=>decide (p.1≠d)
structure Mod (K:Frag)(mg:Str->Option Value)(base:Heap):Prop where
 kin:K.In base
 glob:base.Ns mainGlobals mg
 blt:∃mb,base.Ns builtinsNs mb/\∀x:Str,x≠"__name__"->mb x=bootBuiltins x
 nolimit:base.NoLimit
 sys:∃mm,base.Ns sysModules mm
structure Cx where
 prog:Program
 w:World
 K:Frag
 mg:Str->Option Value
 base:Heap
 A:Around
 N:List Str
 s₀:Shared
 H₀:Hp
 env:Env
 outer:List Env
 stack:List Env
 ex:List Addr
 fn:Str->Bool
 calm:Bool
 pn:List (Addr×Obj)
 xe:Value->Shared->Prop
def jC (l:List Env):List Addr:=l.filterMap (·.frame)
abbrev Cx.fs (X:Cx):List Addr:=jC X.outer
def wW (sc:Scope)(x:Str):Prop:=sc.names.lookup x=some .local\/sc.names.lookup x=some .cell\/sc.names.lookup x=some .free
def Loc (sc:Scope)(x:Str):Prop:=sc.names.lookup x=some .local\/sc.names.lookup x=some .cell
def Look (env:Env)(h:Heap)(m:Str->Option Value)(x:Str)(u:Value):Prop:=
 (env.kindOf x=some .local/\m x=some u)\/((env.kindOf x=some .cell\/env.kindOf x=some .free)/\∃c,env.cells.lookup x=some c/\h.IsCell c (some u))
structure Cx.Ok (X:Cx):Prop where
 mod:Mod X.K X.mg X.base
 kind:X.env.scope.kind=.function
 glob:X.env.globals=mainGlobals
 blt:X.env.builtins=builtinsNs
 above:X.s₀.heap.objs.size<=X.env.locals
 inj:∀x y c,X.env.cells.lookup x=some c->X.env.cells.lookup y=some c->x=y
 has:∀x,(X.env.kindOf x=some .cell\/X.env.kindOf x=some .free)->∃c,X.env.cells.lookup x=some c
 cab:∀x c,X.fn x=true->X.env.cells.lookup x=some c->X.s₀.heap.objs.size<=c
 hd:X.calm=true->X.A.handled=none
 frames:X.A.frames=some X.stack
 stk:X.stack=X.outer\/(X.stack=X.env :: X.outer/\X.env.frame=some X.env.locals)
 exf:∀b∈X.ex,b≠X.env.locals/\∀x c,X.env.cells.lookup x=some c->c≠b
 bs:∀b o,X.base.get? b=some o->X.s₀.heap.get? b=some o/\X.H₀ b=none
 bsz:X.base.objs.size<=X.s₀.heap.objs.size
 noex:∀b o,X.base.get? b=some o->b∉X.ex
 exfs:∀b∈X.ex,b∉X.fs
 funs:X.s₀.heap.FunFrames X.base X.outer
 frf:∀b∈X.fs,X.H₀ b=none
structure Inv (X:Cx)(pins:List (Addr×Obj))(σ:List (Option V))(H:Hp)(s:Shared):Prop where
 ok:X.Ok
 os:s.os=X.s₀.os
 bare:AllBare s.gens
 base:Un X.fs X.ex X.H₀ H X.s₀.heap s.heap
 loc:∃m,s.heap.Ns X.env.locals m/\∀(i:Nat) (x:Str) (v:V),X.N[i]? =some x->σ[i]? =some (some v)->wW X.env.scope x->∃u,RelV v u/\Look X.env s.heap m x u
 cell:∀x c,X.env.cells.lookup x=some c->∃v,s.heap.IsCell c v
 free:H X.env.locals=none
 freeC:∀x c,X.env.cells.lookup x=some c->H c=none
 pin:∀p∈X.pn ++ pins,s.heap.get? p.1=some p.2/\H p.1=none/\p.1≠X.env.locals/\p.1∉X.fs/\∀v,p.2.data≠.cell v
 hok:j4 X.prog X.w H s.heap
 len:σ.length=X.N.length
section
variable {X:Cx}{pins:List (Addr×Obj)}{σ:List (Option V)}{H H':Hp}{s:Shared}{h':Heap}
def Cx.Ok.nofr (ok:X.Ok){b:Addr}{o:Obj}(e:X.base.get? b=some o):b∉X.fs:=λhb=>by
 have:=(ok.funs.mem hb).1
 rw[e] at this;cases this
def Inv.bs (I:Inv X pins σ H s):∀b o,X.base.get? b=some o->s.heap.get? b=some o/\H b=none:=λb o e=>
 ⟨I.base.keep b o (I.ok.bs b o e).1 (I.ok.bs b o e).2 (I.ok.nofr e) (I.ok.noex b o e),I.base.free b o (I.ok.bs b o e).1 (I.ok.bs b o e).2 (I.ok.noex b o e)⟩
def Inv.bk (I:Inv X pins σ H s):∀b o,X.base.get? b=some o->s.heap.get? b=some o:=λb o e=>(I.bs b o e).1
def Inv.mod (I:Inv X pins σ H s):Mod X.K X.mg X.base:=I.ok.mod
def Inv.kIn (I:Inv X pins σ H s):X.K.In s.heap:=I.ok.mod.kin.keeps I.bk
def Inv.lt (I:Inv X pins σ H s):X.env.locals < s.heap.objs.size:=let ⟨_,hn,_⟩:=I.loc;hn.lt
def Inv.sz (I:Inv X pins σ H s):X.s₀.heap.objs.size<=s.heap.objs.size:=IW I.ok.above (Nat.le_of_lt I.lt)
def Inv.nofs (I:Inv X pins σ H s){a:Addr}(h:s.heap.objs.size<=a):a∉X.fs:=λhb=>by
 obtain⟨_,o,ho,_⟩:=I.ok.funs.mem hb
 exact absurd (Ij (HJ ho) (IW I.sz h)) (Iv _)
def Inv.cne (I:Inv X pins σ H s):∀x c,X.env.cells.lookup x=some c->c≠X.env.locals:=λx c e z=>by
 obtain⟨v,o,ho,hd⟩:=I.cell x c e
 obtain⟨m,⟨o',es,ep,ho',hd',_⟩,_⟩:=I.loc
 rw[z,ho'] at ho;cases ho;rw[hd'] at hd;cases hd
def Inv.funs (I:Inv X pins σ H s):s.heap.FunFrames X.base X.outer:=by
 have all:∀(l:List Env),(∀b∈jC l,b∈X.fs)->X.s₀.heap.FunFrames X.base l->s.heap.FunFrames X.base l:=by
  intro l
  induction l with
  |nil=>intro _ _;trivial
  |cons env r ih=>
   intro hs hl
   obtain⟨hk,⟨L,o,hf,hn,ho,hd⟩,hr⟩:=hl
   have hL:L∈X.fs:=hs L (by unfold jC;rw[Ke,hf];exact Hz)
   obtain⟨sl,e⟩:=I.base.slot L o ho (I.ok.frf L hL) hL λz=>I.ok.exfs L z hL
   exact⟨hk,⟨L,_,hf,hn,e,hd⟩,ih (λb hb=>hs b (by unfold jC;rw[Ke,hf];exact HG _ hb)) hr⟩
 exact all X.outer (λ_ hb=>hb) I.ok.funs
def Inv.stack (I:Inv X pins σ H s):s.heap.FunFrames X.base X.stack:=by
 rcases I.ok.stk with e | ⟨e,hf⟩
 ·rw[e];exact I.funs
 ·rw[e]
  obtain⟨m,hn,_⟩:=I.loc
  refine .cons (by rw[I.ok.kind];decide) hf hn ?_ I.funs
  exact Heap.get?_none_of_le (IW I.ok.bsz I.ok.above)
def Inv.stkSub (I:Inv X pins σ H s):∀b∈jC X.stack,b∈X.env.locals :: X.fs:=λb hb=>by
 rcases I.ok.stk with e | ⟨e,hf⟩
 ·rw[e] at hb;exact HG _ hb
 ·rw[e] at hb
  unfold jC at hb
  rw[Ke,hf] at hb
  exact hb
def Inv.stkFree (I:Inv X pins σ H s):∀b∈jC X.stack,H b=none:=λb hb=>by
 rcases Hx.mp (I.stkSub b hb) with e |hb
 ·rw[e];exact I.free
 ·obtain⟨_,o,ho,_⟩:=I.ok.funs.mem hb
  exact I.base.free b o ho (I.ok.frf b hb) λz=>I.ok.exfs b z hb
def Inv.step {g':Array GenState}{t':Nat}{d':Drawn}{ch:List Addr}(I:Inv X pins σ H s)
  (hch:∀b∈ch,(b∈X.ex\/X.s₀.heap.objs.size<=b)/\b≠X.env.locals/\(∀x c,X.env.cells.lookup x=some c->c≠b)/\∀p∈X.pn ++ pins,p.1≠b)
  (keep:∀b o,b≠X.env.locals->b∉X.fs->b∉ch->s.heap.get? b=some o->H b=none->h'.get? b=some o)
  (slot:∀b o,b≠X.env.locals->b∈X.fs->b∉ch->s.heap.get? b=some o->H b=none->∃sl,h'.get? b=some {o with slots:=sl}) (free:∀b o,b∉ch->s.heap.get? b=some o->H b=none->H' b=none)
  (there:∀b o,b∉ch->s.heap.get? b=some o->∃o',h'.get? b=some o')
  (tups:∀b xs,H b=some (.tup xs)->H' b=some (.tup xs)) (frzs:∀b o u,H b=some (.aU o u)->H' b=some (.aU o u)) (tbls:∀b ps,H b=some (.tbl ps)->∃more,H' b=some (.tbl (ps ++ more)))
  (ns:∀m,s.heap.Ns X.env.locals m->h'.Ns X.env.locals m) (hok:j4 X.prog X.w H' h') (hg:AllBare g') :
  Inv X pins σ H' {s with heap:=h',gens:=g',drawn:=d',toks:=t'}:=by
 have neL:∀b o,X.s₀.heap.get? b=some o->b≠X.env.locals:=λb o e=>Ih (Ij (HJ e) I.ok.above)
 have neC:∀b o,X.s₀.heap.get? b=some o->b∉X.ex->b∉ch:=λb o e hx hb=>by
  rcases (hch b hb).1 with z |z
  ·exact hx z
  ·exact absurd (Ij (HJ e) z) (Iv _)
 have cellK:∀x c,X.env.cells.lookup x=some c->∀v,s.heap.IsCell c v->h'.IsCell c v:=λx c e v ⟨o,ho,hd⟩=>by
  have nch:c∉ch:=λz=>(hch c z).2.2.1 x c e rfl
  by_cases hc:c∈X.fs
  ·obtain⟨sl,q⟩:=slot c o (I.cne x c e) hc nch ho (I.freeC x c e)
   exact⟨_,q,hd⟩
  ·exact⟨o,keep c o (I.cne x c e) hc nch ho (I.freeC x c e),hd⟩
 refine⟨I.ok,I.os,hg,⟨λb o e n hb hx=>?_,λb o e n hb hx=>?_,λb o e n hx=>?_,λb o e hx=>?_,λb xs e=>tups b xs (I.base.tups b xs e),λb o xs e=>frzs b o xs (I.base.frzs b o xs e),λb ps e=>?_⟩,?_,λx c e=>?_,?_,λx c e=>?_,λp hp=>?_,hok,I.len⟩
 ·exact keep b o (neL b o e) hb (neC b o e hx) (I.base.keep b o e n hb hx) (I.base.free b o e n hx)
 ·obtain⟨sl,e1⟩:=I.base.slot b o e n hb hx
  obtain⟨sl',e2⟩:=slot b _ (neL b o e) hb (neC b o e hx) e1 (I.base.free b o e n hx)
  exact⟨sl',e2⟩
 ·obtain⟨o',e1⟩:=I.base.there b o e hx
  exact free b o' (neC b o e hx) e1 (I.base.free b o e n hx)
 ·obtain⟨o',e1⟩:=I.base.there b o e hx
  exact there b o' (neC b o e hx) e1
 ·obtain⟨m1,e1⟩:=I.base.tbls b ps e
  obtain⟨m2,e2⟩:=tbls b _ e1
  exact⟨m1 ++ m2,by rw[e2,Array.append_assoc]⟩
 ·obtain⟨m,hn,hl⟩:=I.loc
  refine⟨m,ns m hn,λi x v e1 e2 e3=>?_⟩
  obtain⟨u,r,l⟩:=hl i x v e1 e2 e3
  refine⟨u,r,?_⟩
  rcases l with l | ⟨k,c,e,z⟩
  ·exact .inl l
  ·exact .inr ⟨k,c,e,cellK x c e _ z⟩
 ·obtain⟨v,z⟩:=I.cell x c e
  exact⟨v,cellK x c e v z⟩
 ·obtain⟨m,⟨o,_,_,ho,_⟩,_⟩:=I.loc
  exact free _ o (λz=>(hch _ z).2.1 rfl) ho I.free
 ·obtain⟨v,o,ho,hd⟩:=I.cell x c e
  exact free c o (λz=>(hch c z).2.2.1 x c e rfl) ho (I.freeC x c e)
 ·obtain⟨e,n,ne,nf,d⟩:=I.pin p hp
  have nch:p.1∉ch:=λz=>(hch p.1 z).2.2.2 p hp rfl
  exact⟨keep p.1 p.2 ne nf nch e n,free p.1 p.2 nch e n,ne,nf,d⟩
def Inv.un {t':Nat}(I:Inv X pins σ H s)(u:Un X.fs [] H H' s.heap h')(hok:j4 X.prog X.w H' h'):Inv X pins σ H' {s with heap:=h',toks:=t'}:=by
 obtain⟨m,⟨o,es,ep,ho,r⟩,_⟩:=id I.loc
 obtain⟨sl,hL⟩:=u.any ho I.free (by simp)
 exact I.step (g':=s.gens) (d':=s.drawn) (ch:=[]) (λ_ z=>nomatch z) (λb o _ hb _ e n=>u.keep b o e n hb (by simp)) (λb o _ hb _ e n=>u.slot b o e n hb (by simp)) (λb o _ e n=>u.free b o e n (by simp)) (λb o _ e=>u.there b o e (by simp)) u.tups u.frzs u.tbls (λm' hm=>by
  obtain⟨o',es',ep',ho',r'⟩:=hm
  rw[ho] at ho';cases ho'
  exact⟨_,es',ep',hL,r'⟩) hok I.bare
def Inv.call {g':Array GenState}{t':Nat}{d':Drawn}{ch:List Addr}(I:Inv X pins σ H s)(u:Un (jC X.stack) ch H H' s.heap h')(hok:j4 X.prog X.w H' h')(hg:AllBare g')
  (hch:∀b∈ch,(b∈X.ex\/X.s₀.heap.objs.size<=b)/\b≠X.env.locals/\(∀x c,X.env.cells.lookup x=some c->c≠b)/\∀p∈X.pn ++ pins,p.1≠b) :
  Inv X pins σ H' {s with heap:=h',gens:=g',drawn:=d',toks:=t'}:=by
 obtain⟨m,⟨o,es,ep,ho,r⟩,_⟩:=id I.loc
 obtain⟨sl,hL⟩:=u.any ho I.free λz=>(hch _ z).2.1 rfl
 exact I.step (ch:=ch) hch (λb o hL hb hc e n=>u.keep b o e n (λz=>(Hx.mp (I.stkSub b z)).elim hL hb) hc) (λb o _ _ hc e n=>u.any e n hc) (λb o hc e n=>u.free b o e n hc) (λb o hc e=>u.there b o e hc) u.tups u.frzs u.tbls (λm' hm=>by
  obtain⟨o',es',ep',ho',r'⟩:=hm
  rw[ho] at ho';cases ho'
  exact⟨_,es',ep',hL,r'⟩) hok hg
def Inv.turned {t':Nat}{it:Addr}(I:Inv X pins σ H s)(k:∀b o,b≠it->s.heap.get? b=some o->h'.get? b=some o)(hn:H it=none)(hL:it≠X.env.locals)
  (h1:it∈X.ex\/X.s₀.heap.objs.size<=it) (h2:∀x c,X.env.cells.lookup x=some c->c≠it) (h3:∀p∈X.pn ++ pins,p.1≠it):Inv X pins σ H {s with heap:=h',toks:=t'}:=by
 have nit:∀b u,H b=some u->b≠it:=λb u e z=>by rw[z,hn] at e;cases e
 refine I.step (g':=s.gens) (d':=s.drawn) (ch:=[it]) (λb hb=>?_) (λb o _ _ hc e _=>k b o (λz=>hc (by simp[z])) e) (λb o _ _ hc e _=>⟨o.slots,k b o (λz=>hc (by simp[z])) e⟩) (λ_ _ _ _ n=>n)
  (λb o hc e=>⟨o,k b o (λz=>hc (by simp[z])) e⟩) (λ_ _ e=>e) (λ_ _ _ e=>e) (λb ps e=>⟨#[],by rw[e];simp⟩) (λm hm=>?_) (λb u e=>?_) I.bare
 ·have e:b=it:=by simpa using hb
  subst e
  exact⟨h1,hL,h2,h3⟩
 ·obtain⟨o,es,ep,ho,r⟩:=hm
  exact⟨o,es,ep,k _ o (Ne.symm hL) ho,r⟩
 ·refine (I.hok b u e).stay (λc v hc q=>k c v ?_ q) (λ_ q=>q) λ_ _ q=>q
  rcases hc with z |z
  ·rw[z];exact nit b u e
  ·exact nit c _ z
def Inv.tok (I:Inv X pins σ H s)(t:Nat):Inv X pins σ H {s with toks:=t}:=I.un (h':=s.heap) (t':=t) Un.refl I.hok
def Inv.kept {t':Nat}(I:Inv X pins σ H s)(k:∀b u,s.heap.get? b=some u->h'.get? b=some u):Inv X pins σ H {s with heap:=h',toks:=t'}:=I.un (Un.kept k) (I.hok.kept k)
def Inv.laid {a:Addr}{o:HO}{t':Nat}(I:Inv X pins σ H s)(k:∀b u,s.heap.get? b=some u->h'.get? b=some u)(hp:s.heap.objs.size<=a)(new:bL X.prog X.w (upd H a o) h' a o) :
  Inv X pins σ (upd H a o) {s with heap:=h',toks:=t'}:=I.un (Un.laid k hp (I.hok.fresh hp)) (I.hok.laid k hp new)
def Inv.write {x e:Addr}{o:HO}{t':Nat}(I:Inv X pins σ H s)(mu:Fp (H x))(he:e=x\/H e=some (.own x))(k:∀b u,b≠e->s.heap.get? b=some u->h'.get? b=some u)(heo:∃u,h'.get? e=some u)
  (new:bL X.prog X.w (upd H x o) h' x o):Inv X pins σ (upd H x o) {s with heap:=h',toks:=t'}:=I.un (Un.write mu he k heo) (I.hok.write mu he k heo new)
def Inv.pins_of {pins':List (Addr×Obj)}(I:Inv X pins σ H s)(h:∀p∈pins',s.heap.get? p.1=some p.2/\H p.1=none/\p.1≠X.env.locals/\p.1∉X.fs/\∀v,p.2.data≠.cell v):Inv X pins' σ H s:=
 ⟨I.ok,I.os,I.bare,I.base,I.loc,I.cell,I.free,I.freeC,λp hp=>(HP.mp hp).elim (λz=>I.pin p (Jb _ z)) (h p),I.hok,I.len⟩
def qx {N:List Str}(hN:N.Nodup){i j:Nat}{x:Str}(a:N[i]? =some x)(b:N[j]? =some x):i=j:=by
 obtain⟨h1,e1⟩:=HB.mp a
 obtain⟨h2,e2⟩:=HB.mp b
 exact (List.getElem_inj hN).mp (e1.trans e2.symm)
def oC {M:Model}{A:Around}{E:Value->Shared->Prop}{i:Nat}{x:Str}{v:V}{u:Value}{Q:Unit->Shared->Prop}(I:Inv X pins σ H s)(hN:X.N.Nodup)(hi:X.N[i]? =some x)(hx:Loc X.env.scope x)(r:RelV v u)
  (h:∀s',Inv X pins (σ.set i (some v)) H s'->(∃a,Heap.SameBut a s.heap s'.heap/\(a=X.env.locals\/X.env.cells.lookup x=some a))->Q () s') (hf:X.fn x=true\/X.env.scope.names.lookup x=some .local:=by first |exact .inl rfl |exact .inr rfl |assumption):wpAny M A (storeName X.env x u) Q E s:=by
 obtain⟨m,hn,hl⟩:=id I.loc
 have hcls:(X.env.scope.kind == .class || (X.env.scope.kind == .module && X.env.locals != X.env.globals))=false:=by rw[I.ok.kind];rfl
 have hiσ:i < σ.length:=by rw[I.len];exact (HB.mp hi).1
 have cne:=I.cne
 have tracked:∀{a:Addr} {h':Heap},(∃o,s.heap.get? a=some o/\H a=none)->Heap.SameBut a s.heap h'->j4 X.prog X.w H h':=λ{a h'} ha hs b ob e=>by
  obtain⟨_,_,hfree⟩:=ha
  refine (I.hok b ob e).stay (λc w' hc q=>(hs.2 c ?_).trans q) (λ_ q=>q) λ_ _ q=>q
  rintro rfl
  rcases hc with rfl |hc
  ·rw[hfree] at e;cases e
  ·rw[hfree] at hc;cases hc
 rcases hx with hk |hk
 ·refine wpAny_storeName_local hk hn (λh' hn' hs=>?_) hcls
  obtain⟨oL,_,_,hoL,_⟩:=id hn
  refine h _ ⟨I.ok,I.os,I.bare,⟨λb o e n hb hx=>?_,λb o e n hb hx=>?_,I.base.free,λb o e hx=>?_,I.base.tups,I.base.frzs,I.base.tbls⟩,⟨_,hn',λj y v' e1 e2 e3=>?_⟩,λy c e=>?_,I.free,I.freeC,λp hp=>?_,tracked ⟨oL,hoL,I.free⟩ hs,by simpa using I.len⟩ ⟨_,hs,.inl rfl⟩
  ·exact (hs.2 b (Ih (Ij (HJ e) I.ok.above))).trans (I.base.keep b o e n hb hx)
  ·obtain⟨sl,e1⟩:=I.base.slot b o e n hb hx
   exact⟨sl,(hs.2 b (Ih (Ij (HJ e) I.ok.above))).trans e1⟩
  ·obtain⟨o',e1⟩:=I.base.there b o e hx
   exact⟨o',(hs.2 b (Ih (Ij (HJ e) I.ok.above))).trans e1⟩
  ·by_cases hj:j=i
   ·subst hj
    rw[hi] at e1;cases e1
    rw[HY hiσ] at e2
    cases e2
    exact⟨u,r,.inl ⟨hk,by simp⟩⟩
   ·rw[HS (Ne.symm hj)] at e2
    obtain⟨u',r',q⟩:=hl j y v' e1 e2 e3
    refine⟨u',r',?_⟩
    rcases q with⟨k,e⟩ | ⟨k,c,e,z⟩
    ·refine .inl ⟨k,?_⟩
     have:y≠x:=λe=>hj (qx hN e1 (e▸hi))
     simp[this,e]
    ·exact .inr ⟨k,c,e,z.sameBut hs (cne y c e)⟩
  ·obtain⟨w',z⟩:=I.cell y c e
   exact⟨w',z.sameBut hs (cne y c e)⟩
  ·obtain⟨e,n,ne,nf,d⟩:=I.pin p hp
   exact⟨(hs.2 p.1 ne).trans e,n,ne,nf,d⟩
 ·have hfn:X.fn x=true:=by
   rcases hf with z |z
   ·exact z
   ·rw[z] at hk;cases hk
  obtain⟨c,hc⟩:=I.ok.has x (.inl hk)
  obtain⟨w',z⟩:=I.cell x c hc
  refine wpAny_storeName_cell I.ok.kind hk hc z (λh' hc' hs=>?_)
  obtain⟨oc,hoc,hocd⟩:=id z
  refine h {s with heap:=h'} ⟨I.ok,I.os,I.bare,⟨λb o e n hb hx=>?_,λb o e n hb hx=>?_,I.base.free,λb o e hx=>?_,I.base.tups,I.base.frzs,I.base.tbls⟩,⟨m,hn.sameBut hs (Ne.symm (cne x c hc)),λj y v' e1 e2 e3=>?_⟩,λy c' e=>?_,I.free,I.freeC,λp hp=>?_,tracked ⟨oc,hoc,I.freeC x c hc⟩ hs,by simpa using I.len⟩ ⟨c,hs,.inr hc⟩
  ·exact (hs.2 b (Ih (Ij (HJ e) (I.ok.cab x c hfn hc)))).trans (I.base.keep b o e n hb hx)
  ·obtain⟨sl,e1⟩:=I.base.slot b o e n hb hx
   exact⟨sl,(hs.2 b (Ih (Ij (HJ e) (I.ok.cab x c hfn hc)))).trans e1⟩
  ·obtain⟨o',e1⟩:=I.base.there b o e hx
   exact⟨o',(hs.2 b (Ih (Ij (HJ e) (I.ok.cab x c hfn hc)))).trans e1⟩
  ·by_cases hj:j=i
   ·subst hj
    rw[hi] at e1;cases e1
    rw[HY hiσ] at e2
    cases e2
    exact⟨u,r,.inr ⟨.inl hk,c,hc,hc'⟩⟩
   ·rw[HS (Ne.symm hj)] at e2
    obtain⟨u',r',q⟩:=hl j y v' e1 e2 e3
    refine⟨u',r',?_⟩
    rcases q with q | ⟨k,c',e,z'⟩
    ·exact .inl q
    ·refine .inr ⟨k,c',e,z'.sameBut hs ?_⟩
     rintro rfl
     exact hj (qx hN e1 (I.ok.inj _ _ _ e hc▸hi))
  ·by_cases hcc:c'=c
   ·subst hcc;exact⟨_,hc'⟩
   ·obtain⟨w2,z2⟩:=I.cell y c' e
    exact⟨w2,z2.sameBut hs hcc⟩
  ·obtain⟨e,n,ne,nf,d⟩:=I.pin p hp
   refine⟨(hs.2 p.1 ?_).trans e,n,ne,nf,d⟩
   intro q
   rw[q,hoc] at e
   have q':oc=p.2:=Option.some.inj e
   exact d w' (by rw[<-q'];exact hocd)
def rE {M:Model}{A:Around}{E:Value->Shared->Prop}{i:Nat}{x:Str}{v:V}{u:Value}{Q:Unit->Shared->Prop}(I:Inv X pins σ H s)(hN:X.N.Nodup)(hi:X.N[i]? =some x)(hx:Loc X.env.scope x)(r:RelV v u)
  (h:∀s',Inv X pins (σ.set i (some v)) H s'->Q () s') (hf:X.fn x=true\/X.env.scope.names.lookup x=some .local:=by first |exact .inl rfl |exact .inr rfl |assumption):wpAny M A (storeName X.env x u) Q E s:=
 oC I hN hi hx r (λs' I' _=>h s' I') hf
def Inv.call' {s':Shared}{ch:List Addr}(I:Inv X pins σ H s)(ho:s'.os=s.os)(u:Un (jC X.stack) ch H H' s.heap s'.heap)(hok:j4 X.prog X.w H' s'.heap)(hg:AllBare s'.gens)
  (hch:∀b∈ch,(b∈X.ex\/X.s₀.heap.objs.size<=b)/\b≠X.env.locals/\(∀x c,X.env.cells.lookup x=some c->c≠b)/\∀p∈X.pn ++ pins,p.1≠b):Inv X pins σ H' s':=by
 obtain⟨h',g',d',t',o'⟩:=s'
 have e:o'=s.os:=ho
 subst e
 exact I.call (g':=g') (t':=t') (d':=d') u hok hg hch
end
abbrev XK:=Value->Option Addr->Hp->Prop
abbrev St:=List (Option V)
abbrev VK:=V->Hp->Prop
abbrev TE:=St->Hp->VK->Prop
abbrev TT:=St->Hp->(Bool->Hp->Prop)->Prop
abbrev TA:=St->Hp->(List V->Hp->Prop)->Prop
structure Ends where
 nx:St->Hp->Prop
 rt:VK
 bk:St->Hp->Prop:=λ_ _=>False
 ct:St->Hp->Prop:=λ_ _=>False
abbrev TS:=Ends->St->Hp->Prop
def EP (X:Cx)(pins:List (Addr×Obj))(σ:St)(Q:VK)(u:Value)(s':Shared):Prop:=∃v H',Inv X pins σ H' s'/\RelV v u/\Q v H'
def TP (X:Cx)(pins:List (Addr×Obj))(σ:St)(Q:Bool->Hp->Prop)(b:Bool)(s':Shared):Prop:=∃H',Inv X pins σ H' s'/\Q b H'
def AP (X:Cx)(pins:List (Addr×Obj))(σ:St)(Q:List V->Hp->Prop)(us:List Value)(s':Shared):Prop:=∃vs H',Inv X pins σ H' s'/\Vals vs us/\Q vs H'
def SP (X:Cx)(pins:List (Addr×Obj))(D:Ends)(f:Flow)(s':Shared):Prop:=
 match f with
 | .next=>∃σ' H',Inv X pins σ' H' s'/\D.nx σ' H'
 | .brk=>∃σ' H',Inv X pins σ' H' s'/\D.bk σ' H'
 | .cont=>∃σ' H',Inv X pins σ' H' s'/\D.ct σ' H'
 | .ret u=>∃v σ' H',Inv X pins σ' H' s'/\RelV v u/\D.rt v H'
def PE (X:Cx)(e:Expr)(t:TE):Prop:=
 ∀(pins:List (Addr×Obj)) (s:Shared) (σ:St) (H:Hp) (Q:VK),Inv X pins σ H s->t σ H Q->wpAny (model X.prog X.w) X.A (eval e X.env) (EP X pins σ Q) X.xe s
def PT (X:Cx)(e:Expr)(t:TT):Prop:=
 ∀(pins:List (Addr×Obj)) (s:Shared) (σ:St) (H:Hp) (Q:Bool->Hp->Prop),Inv X pins σ H s->t σ H Q->wpAny (model X.prog X.w) X.A (isTrue e X.env (eval e X.env)) (TP X pins σ Q) X.xe s
def PW (X:Cx)(e:Expr)(t:TT):Prop:=
 ∀(whole:Sem Value) (pins:List (Addr×Obj)) (s:Shared) (σ:St) (H:Hp) (Q:Bool->Hp->Prop),Inv X pins σ H s->t σ H Q->wpAny (model X.prog X.w) X.A (isTrue e X.env whole) (TP X pins σ Q) X.xe s
def PW.pt {X:Cx}{e:Expr}{t:TT}(h:PW X e t):PT X e t:=h _
def PA (X:Cx)(es:List Expr)(t:TA):Prop:=
 ∀(pos:Pos) (pins:List (Addr×Obj)) (s:Shared) (σ:St) (H:Hp) (Q:List V->Hp->Prop),Inv X pins σ H s->t σ H Q->wpAny (model X.prog X.w) X.A (spliced (backTo pos (starEach es X.env))) (AP X pins σ Q) X.xe s
def PS (X:Cx)(st:Stmt)(t:TS):Prop:=
 ∀(pins:List (Addr×Obj)) (s:Shared) (σ:St) (H:Hp) (D:Ends),Inv X pins σ H s->t D σ H->wpAny (model X.prog X.w) X.A (exec st X.env) (SP X pins D) X.xe s
def nE (X:Cx)(st:List Stmt)(t:TS):Prop:=
 ∀(pins:List (Addr×Obj)) (s:Shared) (σ:St) (H:Hp) (D:Ends),Inv X pins σ H s->t D σ H->wpAny (model X.prog X.w) X.A (execs st X.env) (SP X pins D) X.xe s
def b4 {α:Type}{t:Sem α}{Q Q':α->Shared->Prop}{M:Model}{A:Around}{E:Value->Shared->Prop}{s:Shared}(h:wpAny M A t Q E s)(hQ:∀a s,Q a s->Q' a s):wpAny M A t Q' E s:=Jc h hQ λ_ _ x=>x
section
variable {X:Cx}
def bin {a b:Expr}{ta tb:TE}(ha:PE X a ta)(hb:PE X b tb){pins:List (Addr×Obj)}{s:Shared}{σ:St}{H:Hp}{R:V->V->Hp->Prop}(I:Inv X pins σ H s)(h:ta σ H λx H1=>tb σ H1 λy H2=>R x y H2)
  {α:Type} {Q:α->Shared->Prop} {f:Value->Value->Sem α}
  (hf:∀v u s2 x y H2,Inv X pins σ H2 s2->RelV x v->RelV y u->R x y H2->wpAny (model X.prog X.w) X.A (f v u) Q X.xe s2) :
  wpAny (model X.prog X.w) X.A (eval a X.env) (λv s₁=>wpAny (model X.prog X.w) X.A (eval b X.env) (λu s₂=>wpAny (model X.prog X.w) X.A (f v u) Q X.xe s₂) X.xe s₁) X.xe s:=by
 refine b4 (ha pins s σ H _ I h) λv s1 ⟨x,H1,I1,r1,q1⟩=>?_
 refine b4 (hb pins s1 σ H1 _ I1 q1) λu s2 ⟨y,H2,I2,r2,q2⟩=>?_
 exact hf v u s2 x y H2 I2 r1 r2 q2
def Be (i:Nat):TE:=λσ H Q=>∃v,σ[i]? =some (some v)/\Q v H
def tC (v:V):TE:=λ_ H Q=>Q v H
def fu {i:Nat}{x:Str}{pos:Pos}(hN:X.N[i]? =some x)(hv:wW X.env.scope x)(hd:(x == ("__debug__":Str))=false:=by decide)(hcd:(x == ("__classdict__":Str))=false:=by decide):PE X (.Name x pos) (Be i):=by
 intro pins s σ H Q I h
 obtain⟨v,e,h⟩:=h
 obtain⟨m,hn,hl⟩:=I.loc
 obtain⟨u,r,l⟩:=hl i x v hN e hv
 have fin:EP X pins σ Q u s:=⟨v,H,I,r,h⟩
 rcases l with⟨hk,hm⟩ | ⟨hk,c,hc,hcell⟩
 ·exact wpAny_Name (wpAny_loadName_local I.ok.kind hk hn hm fin) hd
 ·rcases hk with hk |hk
  ·exact wpAny_Name (wpAny_loadName_cell I.ok.kind hk hc hcell fin) hd
  ·exact wpAny_Name (wpAny_loadName_free I.ok.kind hk hc hcell fin hcd) hd
def kF {i j pos}:PE X (.Constant (.int i) j pos) (tC (.int i)):=λ_ _ _ H _ I h=>wpAny_Constant_int ⟨.int i,H,I.tok _,⟨_,rfl⟩,h⟩
def uH {b j pos}:PE X (.Constant (.bool b) j pos) (tC (.bl b)):=λ_ _ _ H _ I h=>Constant_bool ⟨.bl b,H,I,rfl,h⟩
def C5 {j pos}:PE X (.Constant .none j pos) (tC .non):=λ_ _ _ H _ I h=>Constant_none ⟨.non,H,I,rfl,h⟩
def Gl (X:Cx)(x:Str):Prop:=X.env.kindOf x=some .globalImplicit
def vf {E:Value->Shared->Prop}{pins:List (Addr×Obj)}{s:Shared}{σ:St}{H:Hp}{x:Str}{u:Value}{pos:Pos}{Q:Value->Shared->Prop}(I:Inv X pins σ H s)(hg:Gl X x)(hm:X.mg x=some u)(h:Q u s)
  (hd:(x == ("__debug__":Str))=false:=by decide):wpAny (model X.prog X.w) X.A (eval (.Name x pos) X.env) Q E s:=
 Calls.Name_function_global I.ok.kind hg (Calls.loadGlobal_global (by rw[I.ok.glob];exact I.mod.glob.keeps I.bk) hm h) hd
def kI {E:Value->Shared->Prop}{pins:List (Addr×Obj)}{s:Shared}{σ:St}{H:Hp}{x:Str}{u:Value}{pos:Pos}{Q:Value->Shared->Prop}(I:Inv X pins σ H s)(hg:Gl X x)(hm:X.mg x=none)(hv:bootBuiltins x=some u)(h:Q u s)
  (hn:x≠"__name__":=by decide) (hd:(x == ("__debug__":Str))=false:=by decide):wpAny (model X.prog X.w) X.A (eval (.Name x pos) X.env) Q E s:=by
 obtain⟨mb,h1,h2⟩:=I.mod.blt
 exact Calls.Name_function_global I.ok.kind hg (Calls.loadGlobal_builtin (by rw[I.ok.glob];exact I.mod.glob.keeps I.bk) hm (by rw[I.ok.blt];exact h1.keeps I.bk) ((h2 x hn).trans hv) h) hd
def BO {x:Str}{v:V}{u:Value}{pos:Pos}(hg:Gl X x)(hm:X.mg x=some u)(r:RelV v u)(hd:(x == ("__debug__":Str))=false:=by decide):PE X (.Name x pos) (tC v):=
 λ_ _ _ H _ I h=>vf I hg hm ⟨v,H,I,r,h⟩ hd
def AL {x:Str}{v:V}{u:Value}{pos:Pos}(hg:Gl X x)(hm:X.mg x=none)(hv:bootBuiltins x=some u)(r:RelV v u)(hn:x≠"__name__":=by decide)(hd:(x == ("__debug__":Str))=false:=by decide):PE X (.Name x pos) (tC v):=
 λ_ _ _ H _ I h=>kI I hg hm hv ⟨v,H,I,r,h⟩ hn hd
variable {a b:Expr}{ta tb:TE}{pos:Pos}
def PC (X:Cx)(op:CmpOp)(a b:Expr)(t:TE):Prop:=
 ∀(pins:List (Addr×Obj)) (s:Shared) (σ:St) (H:Hp) (Q:VK),Inv X pins σ H s->t σ H Q->
  wpAny (model X.prog X.w) X.A (eval a X.env) (λv s₁=>wpAny (model X.prog X.w) X.A (eval b X.env) (λu s₂=>wpAny (model X.prog X.w) X.A (compareOp op v u) (EP X pins σ Q) X.xe s₂) X.xe s₁) X.xe s
def x6 (b:Expr){op:CmpOp}(h:op≠.In)(h2:op≠.NotIn):behindInMarks op b=false:=by
 have e1:(op == CmpOp.In)=false:=by cases op <;> first |rfl |exact absurd rfl h
 have e2:(op == CmpOp.NotIn)=false:=by cases op <;> first |rfl |exact absurd rfl h2
 cases b <;> simp[behindInMarks,e1,e2]
def Ej (ta:TE):TE:=λσ H Q=>ta σ H λx H1=>Q (.bl (!decide (x=.non))) H1
theorem RelV.none_iff {x:V}{v:Value}(r:RelV x v):(v == Value.none)=decide (x=.non):=by
 cases x with
 |non=>cases r;rfl
 |bl _=>cases r;rfl
 |int _=>obtain⟨t,rfl⟩:=r;rfl
 |str _=>obtain⟨t,rfl⟩:=r;rfl
 |byt _=>obtain⟨t,rfl⟩:=r;rfl
 |flt _=>obtain⟨t,rfl⟩:=r;rfl
 |ref _=>cases r;rfl
 |ty _=>cases r;rfl
def Az {j pos'}(ha:PE X a ta):PC X .IsNot a (.Constant .none j pos') (Ej ta):=by
 intro pins s σ H Q I h
 refine b4 (ha pins s σ H _ I h) λv s1 ⟨x,H1,I1,r1,q1⟩=>?_
 exact Constant_none (isnot_none_gen ⟨.bl _,H1,I1,by rw[r1.none_iff];rfl,q1⟩)
def tB (t:TE):TT:=λσ H Q=>t σ H λx H1=>∃c,x=.bl c/\Q c H1
def DQ {op:CmpOp}{t:TE}(h:PC X op a b t)(h1:behindInMarks op b=false:=by first |exact x6 _ (by decide) (by decide) |rfl):PT X (.Compare a [op] [b] pos) (tB t):=by
 intro pins s σ H Q I hw
 refine wpAny_isTrue_Compare1 (b4 (h pins s σ H _ I hw) λv s1 h1=>b4 h1 λu s2 h2=>b4 h2 λc s3 ⟨x,H1,I1,r1,q1⟩=>?_) h1
 obtain⟨d,rfl,q⟩:=q1
 cases r1
 exact IZ ⟨H1,I1,q⟩
def sF {e:Expr}{t:TE}(h:PE X e t)(he:∀whole,isTrue e X.env whole=(do let v <-whole;standAt e.pos;holding [v] (truthy v)):=by intro _;rfl):PT X e (tB t):=by
 intro pins s σ H Q I hw
 refine isTrue_plain (b4 (h pins s σ H _ I hw) λv s1 ⟨x,H1,I1,r1,q1⟩=>?_) (he _)
 obtain⟨d,rfl,q⟩:=q1
 cases r1
 exact IZ ⟨H1,I1,q⟩
variable {tA tB':TT}{rest:List Expr}
def Gz (t u:TT):TT:=λσ H Q=>t σ H λc H1=>if c=true then u σ H1 Q else Q false H1
def Hs (t u:TT):TT:=λσ H Q=>t σ H λc H1=>if c=true then Q true H1 else u σ H1 Q
def FN (t:TT):TT:=λσ H Q=>t σ H λc H1=>Q (!c) H1
theorem A0 (ha:PT X a tA):PW X (.BoolOp .And [a] pos) tA:=by
 intro wh pins s σ H Q I h
 refine isTrue_and (b4 (ha pins s σ H Q I h) λc s1 e=>?_)
 cases c with
 |true=>exact isTrue_and_nil e
 |false=>exact e
theorem C2 (ha:PT X a tA):PW X (.BoolOp .Or [a] pos) tA:=by
 intro wh pins s σ H Q I h
 refine isTrue_or (b4 (ha pins s σ H Q I h) λc s1 e=>?_)
 cases c with
 |false=>exact isTrue_or_nil e
 |true=>exact e
theorem Dz (ha:PT X a tA)(hb:PW X (.BoolOp .And (b :: rest) pos) tB'):PW X (.BoolOp .And (a :: b :: rest) pos) (Gz tA tB'):=by
 intro wh pins s σ H Q I h
 refine isTrue_and (b4 (ha pins s σ H _ I h) λc s1 ⟨H1,I1,q1⟩=>?_)
 cases c with
 |true=>exact hb wh pins s1 σ H1 Q I1 q1
 |false=>exact⟨H1,I1,q1⟩
theorem Er (ha:PT X a tA)(hb:PW X (.BoolOp .Or (b :: rest) pos) tB'):PW X (.BoolOp .Or (a :: b :: rest) pos) (Hs tA tB'):=by
 intro wh pins s σ H Q I h
 refine isTrue_or (b4 (ha pins s σ H _ I h) λc s1 ⟨H1,I1,q1⟩=>?_)
 cases c with
 |true=>exact⟨H1,I1,q1⟩
 |false=>exact hb wh pins s1 σ H1 Q I1 q1
def CG (ha:PT X a tA):PT X (.UnaryOp .Not a pos) (FN tA):=by
 intro pins s σ H Q I h
 exact isTrue_not (ha pins s σ H (λc H1=>Q (!c) H1) I h)
def EF (ta tb:TE):TE:=λσ H Q=>ta σ H λx H1=>∃c,x=.bl c/\if c=true then tb σ H1 Q else Q (.bl false) H1
def EG (ta:TE):TE:=λσ H Q=>ta σ H λx H1=>∃c,x=.bl c/\Q (.bl (!c)) H1
def Du {op}{t:TE}(h:PE X a t):PE X (.BoolOp op [a] pos) t:=λpins s σ H Q I hw=>BoolOp_one (h pins s σ H Q I hw)
theorem Ds (ha:PE X a ta)(hb:PE X (.BoolOp .And (b :: rest) pos) tb):PE X (.BoolOp .And (a :: b :: rest) pos) (EF ta tb):=by
 intro pins s σ H Q I h
 refine BoolOp_and (b4 (ha pins s σ H _ I h) λv s1 ⟨x,H1,I1,r1,q1⟩=>?_)
 obtain⟨c,rfl,q1⟩:=q1
 cases r1
 refine IZ ?_
 cases c with
 |true=>exact hb pins s1 σ H1 Q I1 q1
 |false=>exact⟨.bl false,H1,I1,rfl,q1⟩
def DI (ha:PE X a ta):PE X (.UnaryOp .Not a pos) (EG ta):=by
 intro pins s σ H Q I h
 refine UnaryOp_ (b4 (ha pins s σ H _ I h) λv s1 ⟨x,H1,I1,r1,q1⟩=>?_)
 obtain⟨c,rfl,q1⟩:=q1
 cases r1
 exact not_of (IZ ⟨.bl (!c),H1,I1,rfl,q1⟩)
end
def dJ (K:Frag)(H:Hp)(a:Addr)(xs:List V):Prop:=
 Rd H a (.lst xs)\/
  ∃(o:Obj) (its:Array Value) (n:Nat),K.lookup a=some o/\o.cls=.type "list"/\o.dict=none/\o.data=.seq its n/\its.size<=sizeLine/\Vals xs its.toList
def fK (K:Frag)(H:Hp)(a:Addr)(xs:List V):Prop:=
 Rd H a (.tup xs)\/
  ∃(o:Obj) (its:Array Value) (n:Nat),K.lookup a=some o/\o.cls=.type "tuple"/\o.data=.seq its n/\its.size<=sizeLine/\Vals xs its.toList/\o.dict=none
def GK:Value->Option V
 | .none=>some .non
 | .bool b=>some (.bl b)
 | .int i _=>some (.int i)
 | .str x _=>some (.str x)
 | .bytes b _=>some (.byt b)
 | .float b _=>some (.flt b)
 | .ref a=>some (.ref a)
 | .type n=>some (.ty n)
 |_=>none
theorem RelV.abs {x:V}{u:Value}(r:RelV x u):GK u=some x:=by
 cases x with
 |non=>cases r;rfl
 |bl _=>cases r;rfl
 |int _=>obtain⟨t,rfl⟩:=r;rfl
 |str _=>obtain⟨t,rfl⟩:=r;rfl
 |byt _=>obtain⟨t,rfl⟩:=r;rfl
 |flt _=>obtain⟨t,rfl⟩:=r;rfl
 |ref _=>cases r;rfl
 |ty _=>cases r;rfl
def RelV.inj {x y:V}{u:Value}(r:RelV x u)(q:RelV y u):x=y:=Option.some.inj (r.abs.symm.trans q.abs)
theorem Vals.inj:∀{xs ys:List V} {us:List Value},Vals xs us->Vals ys us->xs=ys
 |_,_,_,.nil,.nil=>rfl
 |_,_,_,.cons r t,.cons r' t'=>by rw[r.inj r',Vals.inj t t']
section
variable {X:Cx}{pins:List (Addr×Obj)}{σ:St}{H:Hp}{s:Shared}{a:Addr}{xs ys:List V}
def Inv.list (I:Inv X pins σ H s)(h:dJ X.K H a xs):∃its:List Value,Vals xs its/\PlainL s.heap a its.toArray/\xs.length<=sizeLine:=by
 rcases h with h | ⟨o,its,n,hk,hc,hd,hs,hz,r⟩
 ·obtain⟨z,its,n,r,e⟩:=h.ok I.hok
  exact⟨its,r,⟨_,n,e,rfl,rfl,rfl⟩,z⟩
 ·refine⟨its.toList,r,⟨o,n,I.kIn a o hk,hc,hd,by simpa using hs⟩,?_⟩
  have e:=r.length
  simp only[Kf] at e
  omega
def Inv.tuple (I:Inv X pins σ H s)(h:fK X.K H a xs):∃its:List Value,Vals xs its/\IsTup s.heap a its.toArray/\xs.length<=sizeLine:=by
 rcases h with h | ⟨o,its,n,hk,hc,hs,hz,r,_⟩
 ·obtain⟨z,its,r,p⟩:=h.ok I.hok
  exact⟨its,r,p.isTup,z⟩
 ·refine⟨its.toList,r,⟨o,I.kIn a o hk,hc,n,by simpa using hs⟩,?_⟩
  have e:=r.length
  simp only[Kf] at e
  omega
def Inv.list_inj (I:Inv X pins σ H s)(h:dJ X.K H a xs)(h':dJ X.K H a ys):xs=ys:=by
 obtain⟨its,r,⟨o,n,e,_,_,d⟩,_⟩:=I.list h
 obtain⟨its',r',⟨o',n',e',_,_,d'⟩,_⟩:=I.list h'
 rw[e] at e';cases e'
 rw[d] at d'
 injection d' with d1 _
 have:its=its':=by simpa using congrArg Array.toList d1
 subst this
 exact r.inj r'
def Inv.tuple_inj (I:Inv X pins σ H s)(h:fK X.K H a xs)(h':fK X.K H a ys):xs=ys:=by
 obtain⟨its,r,⟨o,e,_,n,d⟩,_⟩:=I.tuple h
 obtain⟨its',r',⟨o',e',_,n',d'⟩,_⟩:=I.tuple h'
 rw[e] at e';cases e'
 rw[d] at d'
 injection d' with d1 _
 have:its=its':=by simpa using congrArg Array.toList d1
 subst this
 exact r.inj r'
end
abbrev Cx.wish (X:Cx)(E:Value->Shared->Prop):Cx:={X with xe:=E}
abbrev Cx.nox (X:Cx):Cx:=X.wish λ_ _=>False
def Cx.Ok.wish {X:Cx}(ok:X.Ok)(E:Value->Shared->Prop):(X.wish E).Ok:=
 ⟨ok.mod,ok.kind,ok.glob,ok.blt,ok.above,ok.inj,ok.has,ok.cab,ok.hd,ok.frames,ok.stk,ok.exf,ok.bs,ok.bsz,ok.noex,ok.exfs,ok.funs,ok.frf⟩
def Cx.Ok.unwish {X:Cx}{E:Value->Shared->Prop}(ok:(X.wish E).Ok):X.Ok:=
 ⟨ok.mod,ok.kind,ok.glob,ok.blt,ok.above,ok.inj,ok.has,ok.cab,ok.hd,ok.frames,ok.stk,ok.exf,ok.bs,ok.bsz,ok.noex,ok.exfs,ok.funs,ok.frf⟩
section
variable {X:Cx}{pins:List (Addr×Obj)}{σ:St}{H:Hp}{s:Shared}{E:Value->Shared->Prop}
def Inv.wish (I:Inv X pins σ H s)(E:Value->Shared->Prop):Inv (X.wish E) pins σ H s:=⟨I.ok.wish E,I.os,I.bare,I.base,I.loc,I.cell,I.free,I.freeC,I.pin,I.hok,I.len⟩
def Inv.unwish (I:Inv (X.wish E) pins σ H s):Inv X pins σ H s:=⟨I.ok.unwish,I.os,I.bare,I.base,I.loc,I.cell,I.free,I.freeC,I.pin,I.hok,I.len⟩
theorem SP.unwish {D:Ends}{f:Flow}{s':Shared}(h:SP (X.wish E) pins D f s'):SP X pins D f s':=by
 cases f with
 |next=>obtain⟨σ',H',I,q⟩:=h;exact⟨σ',H',I.unwish,q⟩
 |brk=>obtain⟨σ',H',I,q⟩:=h;exact⟨σ',H',I.unwish,q⟩
 |cont=>obtain⟨σ',H',I,q⟩:=h;exact⟨σ',H',I.unwish,q⟩
 |ret u=>obtain⟨v,σ',H',I,r,q⟩:=h;exact⟨v,σ',H',I.unwish,r,q⟩
def nE.nox {st:List Stmt}{t:TS}(h:nE X.nox st t):nE X st t:=λpins s σ H D I hw=>
 Jc (h pins s σ H D (I.wish _) hw) (λ_ _ q=>q.unwish) λ_ _ z=>False.elim z
end
section
variable {X:Cx}{st:Stmt}{rest:List Stmt}{t u:TS}{e:Expr}{te:TE}{pos:Pos}
def Ex:TS:=λD σ H=>D.nx σ H
def Gf (t u:TS):TS:=λD σ H=>t {D with nx:=u D} σ H
def pj:nE X [] Ex:=λ_ _ σ H _ I h=>wpAny_execs_nil ⟨σ,H,I,h⟩
theorem b7 (h1:PS X st t)(h2:nE X rest u):nE X (st :: rest) (Gf t u):=by
 intro pins s σ H D I h
 refine wpAny_execs_cons (b4 (h1 pins s σ H {D with nx:=u D} I h) λf s1 q=>?_)
 cases f with
 |next=>
  obtain⟨σ',H',I',q⟩:=q
  exact h2 pins s1 σ' H' D I' q
 |ret v=>exact q
 |brk=>exact q
 |cont=>exact q
theorem fP (h1:PS X st t):nE X [st] t:=by
 intro pins s σ H D I h
 refine wpAny_execs_cons (b4 (h1 pins s σ H D I h) λf s1 q=>?_)
 cases f with
 |next=>exact wpAny_execs_nil q
 |ret v=>exact q
 |brk=>exact q
 |cont=>exact q
def Inv.quiet {pins:List (Addr×Obj)}{σ:St}{H:Hp}{s:Shared}(I:Inv X pins σ H s):interactive X.env=false:=by simp[interactive,I.ok.kind]
def EK (te:TE):TS:=λD σ H=>te σ H λ_ H1=>D.nx σ H1
def jH (he:PE X e te)(hs:swapsWith e none pos.line X.env=pure false:=by rfl):PS X (.Expr e pos) (EK te):=by
 intro pins s σ H D I h
 exact wpAny_Expr_any (b4 (he pins s σ H _ I h) λv s1 ⟨x,H1,I1,r1,q1⟩=>⟨σ,H1,I1,q1⟩) I.quiet hs
def Gr (te:TE):TS:=λD σ H=>te σ H D.rt
def kB (he:PE X e te):PS X (.Return (some e) pos) (Gr te):=by
 intro pins s σ H D I h
 exact wpAny_Return_some (b4 (he pins s σ H _ I h) λv s1 ⟨x,H1,I1,r1,q1⟩=>⟨x,σ,H1,I1,r1,q1⟩)
def Gm (c:TT)(t u:TS):TS:=λD σ H=>c σ H λb H1=>if b=true then t D σ H1 else u D σ H1
theorem zC {c:Expr}{a b:List Stmt}{tc:TT}(hc:PT X c tc)(ha:nE X a t)(hb:nE X b u):PS X (.If c a b pos) (Gm tc t u):=by
 intro pins s σ H D I h
 refine wpAny_If (b4 (hc pins s σ H _ I h) λd s1 ⟨H1,I1,q1⟩=>?_)
 cases d with
 |true=>exact ha pins s1 σ H1 D I1 q1
 |false=>exact hb pins s1 σ H1 D I1 q1
end
abbrev TG:=V->St->Hp->(St->Hp->Prop)->Prop
abbrev CJ:=List V->St->Hp->(St->Hp->Prop)->Prop
def PG (X:Cx)(target:Expr)(t:TG):Prop:=
 ∀(pins:List (Addr×Obj)) (s:Shared) (σ:St) (H:Hp) (v:V) (u:Value) (Q:St->Hp->Prop),Inv X pins σ H s->RelV v u->t v σ H Q->
  wpAny (model X.prog X.w) X.A (assign target X.env u) (λ_ s'=>∃σ' H',Inv X pins σ' H' s'/\Q σ' H') X.xe s
def FE (X:Cx)(ts:List Expr)(t:CJ):Prop:=
 ∀(pins:List (Addr×Obj)) (s:Shared) (σ:St) (H:Hp) (vs:List V) (us:List Value) (Q:St->Hp->Prop),Inv X pins σ H s->Vals vs us->t vs σ H Q->
  wpAny (model X.prog X.w) X.A (assignInOrder ((assignEach ts X.env).map (·.2)) us) (λ_ s'=>∃σ' H',Inv X pins σ' H' s'/\Q σ' H') X.xe s
abbrev DL:=V->V->V->Hp->(Hp->Prop)->Prop
def pE (X:Cx)(t:DL):Prop:=
 ∀(pins:List (Addr×Obj)) (s:Shared) (σ:St) (H:Hp) (o i v:V) (ov iv u:Value) (Q:Hp->Prop),Inv X pins σ H s->RelV o ov->RelV i iv->RelV v u->t o i v H Q->
  wpAny (model X.prog X.w) X.A (setItem ov iv u) (λ_ s'=>∃H',Inv X pins σ H' s'/\Q H') X.xe s
section
variable {X:Cx}{pos:Pos}
def ji (i:Nat):TG:=λv σ H Q=>Q (σ.set i (some v)) H
def b5 {i:Nat}{x:Str}(hN:X.N.Nodup)(hi:X.N[i]? =some x)(hx:Loc X.env.scope x)(hf:X.fn x=true\/X.env.scope.names.lookup x=some .local:=by first |exact .inl rfl |exact .inr rfl |assumption):PG X (.Name x pos) (ji i):=by
 intro pins s σ H v u Q I r h
 exact wpAny_assign_Name (rE I hN hi hx r (λs' I'=>⟨_,H,I',h⟩) hf)
def AW:CJ:=λvs σ H Q=>vs= []/\Q σ H
def lU (t:TG)(u:CJ):CJ:=λvs σ H Q=>∃v r,vs=v :: r/\t v σ H λσ' H'=>u r σ' H' Q
def kf:FE X [] AW:=by
 intro pins s σ H vs us Q I r h
 obtain⟨e,h⟩:=h
 subst e
 cases r
 exact assignInOrder_nil ⟨σ,H,I,h⟩
theorem cE {e:Expr}{es:List Expr}{t:TG}{u:CJ}(h1:PG X e t)(h2:FE X es u)
  (hs:(assignEach (e :: es) X.env).map (·.2)=assign e X.env :: (assignEach es X.env).map (·.2):=by rfl):FE X (e :: es) (lU t u):=by
 intro pins s σ H vs us Q I r h
 obtain⟨v,vr,e1,h⟩:=h
 subst e1
 cases r with
 |cons r rr=>
  rw[hs]
  refine assignInOrder_cons (b4 (h1 pins s σ H _ _ _ I r h) λ_ s1 ⟨σ1,H1,I1,q1⟩=>?_)
  exact h2 pins s1 σ1 H1 _ _ Q I1 rr q1
def Bw (K:Frag)(n:Nat)(t:CJ):TG:=λv σ H Q=>∃a xs,v=.ref a/\fK K H a xs/\xs.length=n/\t xs σ H Q
def mF {es:List Expr}{k:Nat}{t:CJ}{n:Nat}(hc:X.calm=true)(h:FE X es t)
  (hn:(assignEach es X.env).length=n:=by rfl) (hst:(assignEach es X.env).findIdx? (·.1)=none:=by rfl):PG X (.Tuple es k pos) (Bw X.K n t):=by
 intro pins s σ H v u Q I r hw
 obtain⟨a,xs,e1,hq,hl,hw⟩:=hw
 subst e1
 cases r
 obtain⟨its,rv,ht,hz⟩:=I.tuple hq
 refine assign_Tuple_tuple (I.ok.hd hc) ht (by simp[hn,<-hl,rv.length]) hst λh' hx=>?_
 have I1:Inv X pins σ H {s with heap:=h'}:=I.kept (t':=s.toks) λb o e=>hx b o (Ih (HJ e)) e
 exact h pins _ σ H xs _ Q I1 (by simpa using rv) hw
def GP (to ti:TE)(t:DL):TG:=λv σ H Q=>to σ H λo H1=>ti σ H1 λi H2=>t o i v H2 λH3=>Q σ H3
def tO {o i:Expr}{to ti:TE}{t:DL}(ho:PE X o to)(hi:PE X i ti)(hs:pE X t)
  (ha:∀v,assign (.Subscript o i pos) X.env v=(do
   let ov <-holding [v] (eval o X.env)
   let iv <-holding [v,ov] (eval i X.env)
   standAt pos
   holding [v,ov,iv] (setItem ov iv v)
   release [v,ov,iv] []):=by intro _;rfl):PG X (.Subscript o i pos) (GP to ti t):=by
 intro pins s σ H v u Q I r h
 rw[ha]
 refine Hv (IX (b4 (ho pins s σ H _ I h) λov s1 ⟨x,H1,I1,r1,q1⟩=>?_))
 refine Hv (IX (b4 (hi pins s1 σ H1 _ I1 q1) λiv s2 ⟨y,H2,I2,r2,q2⟩=>?_))
 refine Hv (wpAny_standAt (Hv (IX (b4 (hs pins s2 σ H2 x y v ov iv u _ I2 r1 r2 r q2) λ_ s3 ⟨H3,I3,q3⟩=>?_))))
 exact wpAny_release ⟨σ,H3,I3,q3⟩
def E2 (te:TE)(g:TG):TS:=λD σ H=>te σ H λx H1=>g x σ H1 D.nx
def pY {tg e:Expr}{te:TE}{g:TG}(he:PE X e te)(hg:PG X tg g)(hs:swapsWithSole [tg] e pos.line X.env=pure false:=by rfl)(hw:swappedStores [tg] e X.env=pure none:=by rfl)
  (h1:(assignEach [tg] X.env).map (·.2)= [assign tg X.env]:=by rfl):PS X (.Assign [tg] e pos) (E2 te g):=by
 intro pins s σ H D I h
 refine wpAny_Assign_stores (b4 (he pins s σ H _ I h) λv s1 ⟨x,H1,I1,r1,q1⟩=>?_) hs hw
 rw[h1]
 exact b4 (hg pins s1 σ H1 x v _ I1 r1 q1) λ_ s2 q=>q
def l5 {i:Nat}{x:Str}{e:Expr}{te:TE}{pos':Pos}(hN:X.N.Nodup)(hi:X.N[i]? =some x)(hx:Loc X.env.scope x)(he:PE X e te)(hs:swapsWith e (some (.Name x pos')) pos.line X.env=pure false:=by rfl)(hf:X.fn x=true\/X.env.scope.names.lookup x=some .local:=by first |exact .inl rfl |exact .inr rfl |assumption) :
  PS X (.Assign [.Name x pos'] e pos) (E2 te (ji i)):=by
 intro pins s σ H D I h
 refine wpAny_Assign_Name (b4 (he pins s σ H _ I h) λv s1 ⟨y,H1,I1,r1,q1⟩=>?_) hs
 exact rE I1 hN hi hx r1 (λs2 I2=>⟨_,H1,I2,q1⟩) hf
end
section
variable {X:Cx}{pos:Pos}
def Dd (c:TT)(tb:TS):TS:=λD σ H=>∃W:Nat->St->Hp->Prop,(∃m,W m σ H)/\∀m σ H,W m σ H->
 c σ H λb H1=>if b=true then ∃N:St->Hp->Prop,(∀σ' H',N σ' H'->∃m',m' < m/\W m' σ' H')/\tb {D with nx:=N,ct:=N,bk:=D.nx} σ H1 else D.nx σ H1
theorem xA {c:Expr}{body:List Stmt}{tc:TT}{tb:TS}(hp:PassesOwn (model X.prog X.w) X.A X.env X.xe)(hc:PT X c tc)(hb:nE X body tb):PS X (.While c body [] pos) (Dd tc tb):=by
 intro pins s σ H D I h
 obtain⟨W,⟨m0,w0⟩,turn⟩:=h
 refine wpAny_While (codeAny_whileLoop (λn s'=>∃σ' H',Inv X pins σ' H' s'/\W n σ' H') ?_ m0 ⟨σ,H,I,w0⟩)
 rintro n s1 ⟨σ1,H1,I1,w1⟩
 refine JI hp (b4 (hc pins s1 σ1 H1 _ I1 (turn n σ1 H1 w1)) λb s2 ⟨H2,I2,q2⟩=>?_)
 cases b with
 |true=>
  obtain⟨N,hN,q2⟩:=q2
  rw[HA rfl]
  refine JI hp (b4 (hb pins s2 σ1 H2 _ I2 q2) λf s3 q3=>?_)
  cases f with
  |next=>
   obtain⟨σ3,H3,I3,n3⟩:=q3
   obtain⟨m',hm,w3⟩:=hN σ3 H3 n3
   exact⟨m',hm,σ3,H3,I3,w3⟩
  |cont=>
   obtain⟨σ3,H3,I3,n3⟩:=q3
   obtain⟨m',hm,w3⟩:=hN σ3 H3 n3
   exact⟨m',hm,σ3,H3,I3,w3⟩
  |brk=>exact q3
  |ret v=>exact q3
 |false=>
  rw[HI Iw]
  exact wpAny_execs_nil ⟨σ1,H2,I2,q2⟩
end
structure It where
 go:Nat->Hp->Prop
 yld:Nat->Hp->V->Hp->Prop
 stop:Nat->Hp->Prop
def lC (X:Cx)(pins:List (Addr×Obj))(H:Hp)(b:Addr):Prop:=
 H b=none/\b≠X.env.locals/\b∉X.fs/\(b∈X.ex\/X.s₀.heap.objs.size<=b)/\(∀x c,X.env.cells.lookup x=some c->c≠b)/\∀p∈X.pn ++ pins,p.1≠b
def Inv.fpOk {X:Cx}{pins:List (Addr×Obj)}{σ:St}{H H':Hp}{s:Shared}{b:Addr}(I:Inv X pins σ H s)(hb:s.heap.objs.size<=b)(hn:H' b=none):lC X pins H' b:=by
 refine⟨hn,Nat.ne_of_gt (Ij I.lt hb),I.nofs hb,.inr (IW I.sz hb),λx c e z=>?_,λp hp z=>?_⟩
 ·obtain⟨v,q⟩:=I.cell x c e
  exact absurd (Ij q.lt (by rw[z];exact hb)) (Iv _)
 ·exact absurd (Ij (HJ (I.pin p hp).1) (by rw[z];exact hb)) (Iv _)
structure Turn (P:Program)(w:World)(K:Frag)(tg:Expr)(J:It)(fp:List Addr)(it:Addr)(tn:Nat->Heap->Prop):Prop where
 mem:it∈fp
 obj:∀i h,tn i h->∀b∈fp,∃o,h.get? b=some o/\∀v,o.data≠.cell v
 keep:∀i h h',tn i h->(∀b∈fp,∀o,h.get? b=some o->h'.get? b=some o)->tn i h'
 item:∀(X:Cx),X.prog=P->X.w=w->X.K=K->X.calm=true->∀(i:Nat) (pins:List (Addr×Obj)) (s:Shared) (σ:St) (H:Hp) (E:Value->Shared->Prop),Inv X pins σ H s->(∀b∈fp,lC X pins H b)->tn i s.heap->J.go i H->
  wpAny (model P w) X.A (pyNext (.ref it)) (λr s1=>∃u,r=some u/\
   wpAny (model P w) X.A (letOwnedTupleGo tg (.ref it) u) (λ_ s2=>∃x H',Inv X pins σ H' s2/\RelV x u/\J.yld i H x H'/\tn (i + 1) s2.heap/\∀b∈fp,H' b=none) E s1) E s
 done:∀(X:Cx),X.prog=P->X.w=w->X.K=K->X.calm=true->∀(i:Nat) (pins:List (Addr×Obj)) (s:Shared) (σ:St) (H:Hp) (E:Value->Shared->Prop),Inv X pins σ H s->(∀b∈fp,lC X pins H b)->tn i s.heap->J.stop i H->
  wpAny (model P w) X.A (pyNext (.ref it)) (λr s1=>r=none/\Inv X pins σ H s1) E s
 self:∀(A:Around) (i:Nat) (s:Shared) (Q:Value->Shared->Prop) (E:Value->Shared->Prop),tn i s.heap->Q (.ref it) s->wpAny (model P w) A (pyIter (.ref it)) Q E s
abbrev TI:=St->Hp->(It->Hp->Prop)->Prop
def Hf (X:Cx)(pins:List (Addr×Obj))(σ:St)(tg:Expr)(R:It->Hp->Prop)(itv:Value)(s2:Shared):Prop:=
 ∃(it:Addr) (fp:List Addr) (tn:Nat->Heap->Prop) (J:It) (H':Hp),itv=.ref it/\Inv X pins σ H' s2/\Turn X.prog X.w X.K tg J fp it tn/\tn 0 s2.heap/\(∀b∈fp,lC X pins H' b)/\R J H'
def PI (X:Cx)(tg iter:Expr)(wi:TI):Prop:=
 ∀(pins:List (Addr×Obj)) (s:Shared) (σ:St) (H:Hp) (R:It->Hp->Prop),Inv X pins σ H s->wi σ H R->
  wpAny (model X.prog X.w) X.A (eval iter X.env) (λv s1=>wpAny (model X.prog X.w) X.A (pyIter v) (Hf X pins σ tg R) X.xe s1) X.xe s
def xO {M:Model}{A:Around}{E:Value->Shared->Prop}{s:Shared}{tg:Expr}{it:Addr}{u:Value}{o:Obj}{n:String}{vs:Array Value}{Q:Unit->Shared->Prop}(ho:s.heap.get? it=some o)(hc:o.cls=.type n)(hd:o.data=.fields vs)
  (hn: ["enumerate","zip","dict_itemiterator","dict_reverseitemiterator","odict_iterator","itertools.zip_longest","itertools.pairwise"].contains n=false) (hQ:Q () s):wpAny M A (letOwnedTupleGo tg (.ref it) u) Q E s:=by
 unfold letOwnedTupleGo
 cases tg <;> first
  |exact HE hQ
  | (cases u <;> first
    |exact HE hQ
    | (refine Hv (wpAny_load ho ?_)
       rw[hc,hd]
       show wpAny M A (if (["enumerate","zip","dict_itemiterator","dict_reverseitemiterator","odict_iterator","itertools.zip_longest","itertools.pairwise"].contains n && vs[0]? == some (rawInt _))=true then _ else _) Q E s
       rw[HI (by intro h;rw[hn,Bool.false_and] at h;cases h)]
       exact HE hQ))
def xb (K:Frag)(a:Addr):It:=
 ⟨λi H=>∃xs x,dJ K H a xs/\xs[i]? =some x,λi H x H'=>H'=H/\∀xs,dJ K H a xs->xs[i]? =some x,λi H=>∃xs,dJ K H a xs/\xs.length<=i⟩
def Ci (K:Frag)(a:Addr):It:=
 ⟨λi H=>∃xs x,fK K H a xs/\xs[i]? =some x,λi H x H'=>H'=H/\∀xs,fK K H a xs->xs[i]? =some x,λi H=>∃xs,fK K H a xs/\xs.length<=i⟩
def wL (lo:Int)(n:Nat):It:=⟨λi _=>i < n,λi H x H'=>H'=H/\x=.int (lo + i),λi _=>n<=i⟩
def kH {P:Program}{w:World}{K:Frag}{tg:Expr}(a it:Addr):Turn P w K tg (xb K a) [it] it (λi h=>h.IsListIter it a i) where
 mem:=by simp
 obj:=λi h st b hb=>by
  have e:b=it:=by simpa using hb
  subst e
  obtain⟨o,e,c,d⟩:=st
  exact⟨o,e,λv z=>by rw[d] at z;cases z⟩
 keep:=λi h h' st k=>st.at λo e=>k it (by simp) o e
 item:=by
  intro X hP hw hK hc i pins s σ H E I hf st hg
  subst hP hw hK
  obtain⟨xs,x,hq,hx⟩:=hg
  obtain⟨its,rv,p,hz⟩:=I.list hq
  obtain⟨u,hu,ru⟩:=rv.get hx
  obtain⟨f0,f1,f2,f3,f4,f5⟩:=hf it (by simp)
  refine wpAny_pyNext_list_item st p.isList (x:=u) (by simpa using hu) λh' st' sb=>?_
  have I1:Inv X pins σ H {s with heap:=h'}:=I.turned (t':=s.toks) (λb o hb e=>(sb.2 b hb).trans e) f0 f1 f3 f4 f5
  obtain⟨o,e,c,d⟩:=id st'
  exact⟨u,rfl,xO (s:={s with heap:=h'}) e c d (by decide) ⟨x,H,I1,ru,⟨rfl,λys hy=>by rw[I.list_inj hy hq];exact hx⟩,st',λb hb=>(hf b hb).1⟩⟩
 done:=by
  intro X hP hw hK hc i pins s σ H E I hf st hg
  subst hP hw hK
  obtain⟨xs,hq,hx⟩:=hg
  obtain⟨its,rv,p,hz⟩:=I.list hq
  obtain⟨f0,f1,f2,f3,f4,f5⟩:=hf it (by simp)
  have hl:=rv.length
  exact wpAny_pyNext_list_end (I.ok.hd hc) st p.isList (by simp;omega) λh' eb=>⟨rfl,I.turned (t':=s.toks) (λb o hb e=>eb b o hb e) f0 f1 f3 f4 f5⟩
 self:=λ_ _ _ _ _ st h=>wpAny_pyIter_listiter st h
def lY {P:Program}{w:World}{K:Frag}{tg:Expr}(a it:Addr):Turn P w K tg (Ci K a) [it] it (λi h=>h.IsTupleIter it a i) where
 mem:=by simp
 obj:=λi h st b hb=>by
  have e:b=it:=by simpa using hb
  subst e
  obtain⟨o,e,c,d⟩:=st
  exact⟨o,e,λv z=>by rw[d] at z;cases z⟩
 keep:=λi h h' st k=>st.at λo e=>k it (by simp) o e
 item:=by
  intro X hP hw hK hc i pins s σ H E I hf st hg
  subst hP hw hK
  obtain⟨xs,x,hq,hx⟩:=hg
  obtain⟨its,rv,p,hz⟩:=I.tuple hq
  obtain⟨u,hu,ru⟩:=rv.get hx
  obtain⟨f0,f1,f2,f3,f4,f5⟩:=hf it (by simp)
  refine wpAny_pyNext_tuple_item st (show s.heap.IsTuple a its.toArray from p) (x:=u) (by simpa using hu) λh' st' sb=>?_
  have I1:Inv X pins σ H {s with heap:=h'}:=I.turned (t':=s.toks) (λb o hb e=>(sb.2 b hb).trans e) f0 f1 f3 f4 f5
  obtain⟨o,e,c,d⟩:=id st'
  exact⟨u,rfl,xO (s:={s with heap:=h'}) e c d (by decide) ⟨x,H,I1,ru,⟨rfl,λys hy=>by rw[I.tuple_inj hy hq];exact hx⟩,st',λb hb=>(hf b hb).1⟩⟩
 done:=by
  intro X hP hw hK hc i pins s σ H E I hf st hg
  subst hP hw hK
  obtain⟨xs,hq,hx⟩:=hg
  obtain⟨its,rv,p,hz⟩:=I.tuple hq
  obtain⟨f0,f1,f2,f3,f4,f5⟩:=hf it (by simp)
  have hl:=rv.length
  exact wpAny_pyNext_tuple_end (I.ok.hd hc) st (show s.heap.IsTuple a its.toArray from p) (by simp;omega) λh' eb=>⟨rfl,I.turned (t':=s.toks) (λb o hb e=>eb b o hb e) f0 f1 f3 f4 f5⟩
 self:=λ_ _ _ _ _ st h=>wpAny_pyIter_tupleiter st h
def tD {P:Program}{w:World}{K:Frag}{tg:Expr}(it:Addr)(lo:Int)(n:Nat):Turn P w K tg (wL lo n) [it] it (λi h=>IsRangeIter h it (lo + (i:Nat) * 1) ((n:Int) - (i:Nat)) 1) where
 mem:=by simp
 obj:=λi h st b hb=>by
  have e:b=it:=by simpa using hb
  subst e
  exact⟨_,st,λv z=>by
   have z':Data.fields _=Data.cell v:=z
   cases z'⟩
 keep:=λi h h' st k=>k it (by simp) _ st
 item:=by
  intro X hP hw hK hc i pins s σ H E I hf st hg
  subst hP hw hK
  obtain⟨f0,f1,f2,f3,f4,f5⟩:=hf it (by simp)
  have W:=Walks.range (prog:=X.prog) (w:=X.w) (I.ok.hd hc) it lo 1 n
  refine W.item i s _ _ hg st λv h' tk hv st' kk=>?_
  obtain⟨t,rfl⟩:=hv
  have I1:Inv X pins σ H {s with heap:=h',toks:=tk}:=I.turned (λb o hb e=>kk b o (by simpa using hb) e) f0 f1 f3 f4 f5
  refine⟨_,rfl,xO (s:={s with heap:=h',toks:=tk}) (n:="range_iterator") st' rfl rfl (by decide) ⟨.int (lo + i),H,I1,⟨t,?_⟩,⟨rfl,rfl⟩,st',λb hb=>(hf b hb).1⟩⟩
  rw[Int.mul_one]
 done:=by
  intro X hP hw hK hc i pins s σ H E I hf st hg
  subst hP hw hK
  obtain⟨f0,f1,f2,f3,f4,f5⟩:=hf it (by simp)
  exact wpAny_pyNext_range_end (I.ok.hd hc) st (by have:n<=i:=hg;omega) λh' eb=>⟨rfl,I.turned (t':=s.toks) (λb o hb e=>eb b o hb e) f0 f1 f3 f4 f5⟩
 self:=λ_ _ _ _ _ st h=>wpAny_pyIter_rangeiter st h
section
variable {X:Cx}{tg:Expr}
def EL (K:Frag)(tl:TE):TI:=λσ H R=>tl σ H λx H1=>∃a,x=.ref a/\(∃xs,dJ K H1 a xs)/\R (xb K a) H1
def vB {l:Expr}{tl:TE}(hl:PE X l tl):PI X tg l (EL X.K tl):=by
 intro pins s σ H R I h
 refine b4 (hl pins s σ H _ I h) λv s1 ⟨x,H1,I1,r1,q1⟩=>?_
 obtain⟨a,e,⟨xs,hq⟩,q⟩:=q1
 subst e
 cases r1
 obtain⟨its,rv,p,hz⟩:=I1.list hq
 refine J2 p.isList ?_
 refine⟨s1.heap.objs.size,[s1.heap.objs.size],_,_,H1,rfl,I1.kept (t':=s1.toks) λb o e=>Hw _ e,kH a _,⟨_,HU _ rfl,rfl,rfl⟩,λb hb=>?_,q⟩
 have e:b=s1.heap.objs.size:=by simpa using hb
 subst e
 exact I1.fpOk (Hy _) (I1.hok.fresh (Hy _))
def sr {pins:List (Addr×Obj)}{σ:St}{H:Hp}{s:Shared}{R:It->Hp->Prop}{E:Value->Shared->Prop}{lo hi:Int}{t u v:Tok}{tk:Nat}(I:Inv X pins σ H s)(h1: -(2 ^ 62)<=lo)(h2:lo < 2 ^ 62)(h3: -(2 ^ 62)<=hi)(h4:hi < 2 ^ 62)
  (q:R (wL lo (hi - lo).toNat) H):wpAny (model X.prog X.w) X.A (pyIter (.ref s.heap.objs.size)) (Hf X pins σ tg R) E {s with heap:=s.heap.push {cls:=.type "range",data:=.fields #[.int lo t,.int hi u,.int 1 v]},toks:=tk}:=by
 refine wpAny_pyIter_range (IsRange.new ..) (small_one h1 h2 h3 h4) ?_
 have I1:Inv X pins σ H {s with heap:=s.heap.push {cls:=.type "range",data:=.fields #[.int lo t,.int hi u,.int 1 v]},toks:=tk}:=I.kept λb o e=>Hw _ e
 refine⟨(s.heap.push {cls:=.type "range",data:=.fields #[.int lo t,.int hi u,.int 1 v]}).objs.size,[(s.heap.push {cls:=.type "range",data:=.fields #[.int lo t,.int hi u,.int 1 v]}).objs.size],_,_,H,rfl,
  I1.kept (t':=tk) λb o e=>Hw _ e,tD _ lo (hi - lo).toNat,?_,λb hb=>?_,q⟩
 ·have e1:lo + ((0:Nat):Int) * 1=lo:=by simp
  have e2:(((hi - lo).toNat:Nat):Int) - ((0:Nat):Int)=Builtin.Range.rangeSize lo hi 1:=by rw[rangeSize_one];split <;> omega
  show IsRangeIter _ _ (lo + ((0:Nat):Int) * 1) ((((hi - lo).toNat:Nat):Int) - ((0:Nat):Int)) 1
  rw[e1,e2]
  exact HU _ rfl
 ·have e:b=(s.heap.push {cls:=.type "range",data:=.fields #[.int lo t,.int hi u,.int 1 v]}).objs.size:=by simpa using hb
  subst e
  exact I1.fpOk (Hy _) (I1.hok.fresh (Hy _))
def D5 (ta:TA):TI:=λσ H R=>ta σ H λvs H1=>∃j:Int,vs= [.int j]/\ -(2 ^ 62)<=j/\j < 2 ^ 62/\R (wL 0 j.toNat) H1
def E8 (ta:TA):TI:=λσ H R=>ta σ H λvs H1=>∃i j:Int,vs= [.int i,.int j]/\(-(2 ^ 62)<=i/\i < 2 ^ 62/\ -(2 ^ 62)<=j/\j < 2 ^ 62)/\R (wL i (j - i).toNat) H1
theorem i7 {a:Expr}{ta:TA}{p pos:Pos}(hg:Gl X "range")(hm:X.mg "range"=none)(ha:PA X [a] ta)(hs:starEach [a] X.env= [(false,eval a X.env)]:=by rfl):PI X tg (.Call (.Name "range" p) [a] [] pos) (D5 ta):=by
 intro pins s σ H R I h
 refine Call_ (kI I hg hm boot_range (JG (b4 (ha pos pins s σ H _ I h) λus s1 ⟨vs,H1,I1,r1,q1⟩=>?_) hs rfl))
 obtain⟨j,e,q1,q2,q⟩:=q1
 subst e
 cases r1 with
 |cons r rr=>
  cases rr
  obtain⟨t,rfl⟩:=r
  exact call_range_1 (sr I1 (by omega) (by omega) q1 q2 (by simpa using q))
theorem v8 {a b:Expr}{ta:TA}{p pos:Pos}(hg:Gl X "range")(hm:X.mg "range"=none)(ha:PA X [a,b] ta)(hs:starEach [a,b] X.env= [(false,eval a X.env),(false,eval b X.env)]:=by rfl)(hs2:starEach [b] X.env= [(false,eval b X.env)]:=by rfl) :
  PI X tg (.Call (.Name "range" p) [a,b] [] pos) (E8 ta):=by
 intro pins s σ H R I h
 refine Call_ (kI I hg hm boot_range (JG (b4 (ha pos pins s σ H _ I h) λus s1 ⟨vs,H1,I1,r1,q1⟩=>?_) (by rw[hs,hs2]) (by rw[hs2];rfl)))
 obtain⟨i,j,e,⟨q1,q2,q3,q4⟩,q⟩:=q1
 subst e
 cases r1 with
 |cons r rr=>
  cases rr with
  |cons r' rr=>
   cases rr
   obtain⟨t,rfl⟩:=r
   obtain⟨t',rfl⟩:=r'
   exact call_range_2 (sr I1 q1 q2 q3 q4 q)
def GR (wi:TI)(g:TG)(tb:TS):TS:=λD σ H=>wi σ H λJ H1=>∃W:Nat->Nat->St->Hp->Prop,(∃m,W 0 m σ H1)/\∀i m σ H,W i m σ H->
 (J.stop i H/\D.nx σ H)\/(J.go i H/\∃N:St->Hp->Prop,(∀σ' H',N σ' H'->∃m',m' < m/\W (i + 1) m' σ' H')/\∀x H',J.yld i H x H'->g x σ H' λσ2 H2=>tb {D with nx:=N,ct:=N,bk:=D.nx} σ2 H2)
def mU (fp:List Addr)(h:Heap):List (Addr×Obj):=fp.filterMap λb=>(h.get? b).map λo=>(b,o)
def hX {fp:List Addr}{h:Heap}{b:Addr}{o:Obj}(hb:b∈fp)(e:h.get? b=some o):(b,o)∈mU fp h:=JY.mpr ⟨b,hb,by rw[e];rfl⟩
theorem wD {fp:List Addr}{h:Heap}{p:Addr×Obj}(hp:p∈mU fp h):p.1∈fp/\h.get? p.1=some p.2:=by
 obtain⟨b,hb,e⟩:=JY.mp hp
 cases q:h.get? b with
 |none=>rw[q] at e;cases e
 |some o=>
  rw[q] at e
  have e':(b,o)=p:=Option.some.inj e
  subst e'
  exact⟨hb,q⟩
def Inv.pinned {pins:List (Addr×Obj)}{σ:St}{H:Hp}{s:Shared}{fp:List Addr}(I:Inv X pins σ H s)(hf:∀b∈fp,lC X pins H b)(ho:∀b∈fp,∃o,s.heap.get? b=some o/\∀v,o.data≠.cell v):Inv X (pins ++ mU fp s.heap) σ H s:=
 I.pins_of λp hp=>(HP.mp hp).elim (λz=>I.pin p (HZ _ z)) λz=>by
  obtain⟨hb,e⟩:=wD z
  obtain⟨f0,f1,f2,_⟩:=hf p.1 hb
  obtain⟨o,e',d⟩:=ho p.1 hb
  rw[e] at e';cases e'
  exact⟨e,f0,f1,f2,d⟩
def Inv.unpinned {pins pl:List (Addr×Obj)}{σ:St}{H:Hp}{s:Shared}(I:Inv X (pins ++ pl) σ H s):Inv X pins σ H s:=I.pins_of λp hp=>I.pin p (HZ _ (Jb _ hp))
def pz {iter:Expr}{body:List Stmt}{wi:TI}{g:TG}{tb:TS}{pos:Pos}(hp:PassesOwn (model X.prog X.w) X.A X.env X.xe)(hc:X.calm=true)(hi:PI X tg iter wi)(hg:PG X tg g)(hb:nE X body tb)
  (hs:∀x,foldedSetIterable iter X.env x=pure x:=by intro _;rfl):PS X (.For tg iter body [] pos) (GR wi g tb):=by
 intro pins s σ H D I h
 refine wpAny_For (b4 (hi pins s σ H _ I h) λv s1 h1=>b4 h1 λitv s2 h2=>?_) hs
 obtain⟨it,fp,tn,J,H2,e,I2,T,st2,f2,W,⟨m0,w0⟩,turn⟩:=h2
 subst e
 have stat:∀{H':Hp},(∀b∈fp,H' b=none)->∀b∈fp,lC X pins H' b:=λhn b hb=>⟨hn b hb,(f2 b hb).2⟩
 refine codeAny_forLoop_any (λn s'=>∃i σ' H',Inv X pins σ' H' s'/\tn i s'.heap/\(∀b∈fp,H' b=none)/\W i n σ' H') ?_ m0 ⟨0,σ,H2,I2,st2,λb hb=>(f2 b hb).1,w0⟩
 rintro n s3 ⟨i,σ3,H3,I3,st3,fr3,w3⟩
 rcases turn i n σ3 H3 w3 with⟨stop,qn⟩ | ⟨go,N,hN,step⟩
 ·refine JI hp (b4 (T.done X rfl rfl rfl hc i pins s3 σ3 H3 X.xe I3 (stat fr3) st3 stop) λr s4 ⟨hr,I4⟩=>?_)
  subst hr
  exact wpAny_execs_nil ⟨σ3,H3,I4,qn⟩
 ·refine JI hp (b4 (T.item X rfl rfl rfl hc i pins s3 σ3 H3 X.xe I3 (stat fr3) st3 go) λr s4 ⟨u,hr,h4⟩=>?_)
  subst hr
  refine JI hp (b4 h4 λ_ s5 ⟨x,H5,I5,r5,y5,st5,fr5⟩=>?_)
  have I5':=I5.pinned (stat fr5) (T.obj _ _ st5)
  refine JI hp (b4 (hg _ s5 σ3 H5 x u _ I5' r5 (step x H5 y5)) λ_ s6 ⟨σ6,H6,I6,q6⟩=>?_)
  refine JI hp (b4 (hb _ s6 σ6 H6 _ I6 q6) λf s7 q7=>?_)
  have again:∀{σ7:St} {H7:Hp},Inv X (pins ++ mU fp s5.heap) σ7 H7 s7->N σ7 H7->∃m,m < n/\∃i σ' H',Inv X pins σ' H' s7/\tn i s7.heap/\(∀b∈fp,H' b=none)/\W i m σ' H':=λ{σ7 H7} I7 n7=>by
   obtain⟨m',hm,w7⟩:=hN σ7 H7 n7
   refine⟨m',hm,i + 1,σ7,H7,I7.unpinned,T.keep _ _ _ st5 λb hb o e=>(I7.pin (b,o) (HZ _ (HZ _ (hX hb e)))).1,λb hb=>?_,w7⟩
   obtain⟨o,e,d⟩:=T.obj _ _ st5 b hb
   exact (I7.pin (b,o) (HZ _ (HZ _ (hX hb e)))).2.1
  cases f with
  |next=>obtain⟨σ7,H7,I7,n7⟩:=q7;exact again I7 n7
  |cont=>obtain⟨σ7,H7,I7,n7⟩:=q7;exact again I7 n7
  |brk=>obtain⟨σ7,H7,I7,q7⟩:=q7;exact⟨σ7,H7,I7.unpinned,q7⟩
  |ret v=>obtain⟨x7,σ7,H7,I7,r7,q7⟩:=q7;exact⟨x7,σ7,H7,I7.unpinned,r7,q7⟩
end
def qH {K:Frag}{a:Addr}{xs:List V}{g:TG}{tb:TS}{D:Ends}{σ:St}{H:Hp}(Pv:Nat->St->Hp->Prop)(h0:Pv 0 σ H)(hl:∀i σ H,i<=xs.length->Pv i σ H->dJ K H a xs)
  (hs:∀i x σ H,xs[i]? =some x->Pv i σ H->g x σ H λσ2 H2=>tb {D with nx:=Pv (i + 1),ct:=Pv (i + 1),bk:=D.nx} σ2 H2) (hd:∀σ H,Pv xs.length σ H->D.nx σ H) :
  ∃W:Nat->Nat->St->Hp->Prop,(∃m,W 0 m σ H)/\∀i m σ H,W i m σ H->
   ((xb K a).stop i H/\D.nx σ H)\/((xb K a).go i H/\∃N:St->Hp->Prop,(∀σ' H',N σ' H'->∃m',m' < m/\W (i + 1) m' σ' H')/\∀x H',(xb K a).yld i H x H'->g x σ H' λσ2 H2=>tb {D with nx:=N,ct:=N,bk:=D.nx} σ2 H2):=by
 refine⟨λi m σ H=>m=xs.length - i/\i<=xs.length/\Pv i σ H,⟨xs.length,by simp,Ia _,h0⟩,?_⟩
 rintro i m σ H ⟨rfl,hi,p⟩
 have q:=hl i σ H hi p
 by_cases hlt:i < xs.length
 ·refine .inr ⟨⟨xs,xs[i],q,by simp[hlt]⟩,Pv (i + 1),λσ' H' p'=>⟨xs.length - (i + 1),by omega,rfl,hlt,p'⟩,λx H' y=>?_⟩
  obtain⟨e,y⟩:=y
  subst e
  exact hs i x σ _ (y xs q) p
 ·have e:i=xs.length:=by omega
  subst e
  exact .inl ⟨⟨xs,q,Hy _⟩,hd σ H p⟩
def Aw {K:Frag}{a:Addr}{xs:List V}{g:TG}{tb:TS}{D:Ends}{σ:St}{H:Hp}(Pv:Nat->St->Hp->Prop)(h0:Pv 0 σ H)(hl:∀i σ H,i<=xs.length->Pv i σ H->fK K H a xs)
  (hs:∀i x σ H,xs[i]? =some x->Pv i σ H->g x σ H λσ2 H2=>tb {D with nx:=Pv (i + 1),ct:=Pv (i + 1),bk:=D.nx} σ2 H2) (hd:∀σ H,Pv xs.length σ H->D.nx σ H) :
  ∃W:Nat->Nat->St->Hp->Prop,(∃m,W 0 m σ H)/\∀i m σ H,W i m σ H->
   ((Ci K a).stop i H/\D.nx σ H)\/((Ci K a).go i H/\∃N:St->Hp->Prop,(∀σ' H',N σ' H'->∃m',m' < m/\W (i + 1) m' σ' H')/\∀x H',(Ci K a).yld i H x H'->g x σ H' λσ2 H2=>tb {D with nx:=N,ct:=N,bk:=D.nx} σ2 H2):=by
 refine⟨λi m σ H=>m=xs.length - i/\i<=xs.length/\Pv i σ H,⟨xs.length,by simp,Ia _,h0⟩,?_⟩
 rintro i m σ H ⟨rfl,hi,p⟩
 have q:=hl i σ H hi p
 by_cases hlt:i < xs.length
 ·refine .inr ⟨⟨xs,xs[i],q,by simp[hlt]⟩,Pv (i + 1),λσ' H' p'=>⟨xs.length - (i + 1),by omega,rfl,hlt,p'⟩,λx H' y=>?_⟩
  obtain⟨e,y⟩:=y
  subst e
  exact hs i x σ _ (y xs q) p
 ·have e:i=xs.length:=by omega
  subst e
  exact .inl ⟨⟨xs,q,Hy _⟩,hd σ H p⟩
def wo {lo:Int}{n:Nat}{g:TG}{tb:TS}{D:Ends}{σ:St}{H:Hp}(Pv:Nat->St->Hp->Prop)(h0:Pv 0 σ H)
  (hs:∀i σ H,i < n->Pv i σ H->g (.int (lo + i)) σ H λσ2 H2=>tb {D with nx:=Pv (i + 1),ct:=Pv (i + 1),bk:=D.nx} σ2 H2) (hd:∀σ H,Pv n σ H->D.nx σ H) :
  ∃W:Nat->Nat->St->Hp->Prop,(∃m,W 0 m σ H)/\∀i m σ H,W i m σ H->
   ((wL lo n).stop i H/\D.nx σ H)\/((wL lo n).go i H/\∃N:St->Hp->Prop,(∀σ' H',N σ' H'->∃m',m' < m/\W (i + 1) m' σ' H')/\∀x H',(wL lo n).yld i H x H'->g x σ H' λσ2 H2=>tb {D with nx:=N,ct:=N,bk:=D.nx} σ2 H2):=by
 refine⟨λi m σ H=>m=n - i/\i<=n/\Pv i σ H,⟨n,by simp,Ia _,h0⟩,?_⟩
 rintro i m σ H ⟨rfl,hi,p⟩
 by_cases hlt:i < n
 ·refine .inr ⟨hlt,Pv (i + 1),λσ' H' p'=>⟨n - (i + 1),by omega,rfl,hlt,p'⟩,λx H' y=>?_⟩
  obtain⟨e,y⟩:=y
  subst e y
  exact hs i σ _ hlt p
 ·have e:i=n:=by omega
  subst e
  exact .inl ⟨Hy _,hd σ H p⟩
abbrev R2:=V->V->Hp->VK->Prop
def lH (X:Cx)(f:Value->Value->Sem Value)(r:R2):Prop:=
 ∀(pins:List (Addr×Obj)) (s:Shared) (σ:St) (H:Hp) (x y:V) (v u:Value) (Q:VK),Inv X pins σ H s->RelV x v->RelV y u->r x y H Q->
  wpAny (model X.prog X.w) X.A (f v u) (EP X pins σ Q) X.xe s
def Fg (X:Cx)(f:Value->Sem Value)(r:V->Hp->VK->Prop):Prop:=
 ∀(pins:List (Addr×Obj)) (s:Shared) (σ:St) (H:Hp) (x:V) (v:Value) (Q:VK),Inv X pins σ H s->RelV x v->r x H Q->
  wpAny (model X.prog X.w) X.A (f v) (EP X pins σ Q) X.xe s
def cf (X:Cx)(f:Value)(r:List V->Hp->VK->Prop):Prop:=
 ∀(pins:List (Addr×Obj)) (s:Shared) (σ:St) (H:Hp) (xs:List V) (us:List Value) (Q:VK),Inv X pins σ H s->Vals xs us->r xs H Q->
  wpAny (model X.prog X.w) X.A (call f us) (EP X pins σ Q) X.xe s
def FQ (X:Cx)(r:V->Hp->(Bool->Hp->Prop)->Prop):Prop:=
 ∀(pins:List (Addr×Obj)) (s:Shared) (σ:St) (H:Hp) (x:V) (v:Value) (Q:Bool->Hp->Prop),Inv X pins σ H s->RelV x v->r x H Q->
  wpAny (model X.prog X.w) X.A (truthy v) (TP X pins σ Q) X.xe s
def Fl (r:R2)(ta tb:TE):TE:=λσ H Q=>ta σ H λx H1=>tb σ H1 λy H2=>r x y H2 Q
def Hl (r:V->Hp->VK->Prop)(ta:TE):TE:=λσ H Q=>ta σ H λx H1=>r x H1 Q
def rI (C:Int->Int->Prop)(g:Int->Int->V):R2:=λx y H Q=>∃i j,x=.int i/\y=.int j/\C i j/\Q (g i j) H
def Bs (g:Int->Int->V):R2:=λx y H Q=>∃i j,x=.int i/\y=.int j/\Q (g i j) H
def rU (g:Int->V):V->Hp->VK->Prop:=λx H Q=>∃i,x=.int i/\Q (g i) H
section
variable {X:Cx}{a b c:Expr}{ta tb tc:TE}{pos:Pos}
def Dj (ha:PE X a ta)(hb:PE X b tb){pins:List (Addr×Obj)}{s:Shared}{σ:St}{H:Hp}{R:V->V->Hp->Prop}(I:Inv X pins σ H s)
  (h:ta σ H λx H1=>tb σ H1 λy H2=>R x y H2) {Q:Value->Shared->Prop} {f:Value->Value->Sem Value}
  (hf:∀v u s2 x y H2,Inv X pins σ H2 s2->RelV x v->RelV y u->R x y H2->wpAny (model X.prog X.w) X.A (f v u) Q X.xe s2) :
  wpAny (model X.prog X.w) X.A (eval a X.env) (λv s₁=>wpAny (model X.prog X.w) X.A (eval b X.env) (λu s₂=>wpAny (model X.prog X.w) X.A (f v u) Q X.xe s₂) X.xe s₁) X.xe s:=by
 refine b4 (ha pins s σ H _ I h) λv s1 ⟨x,H1,I1,r1,q1⟩=>?_
 refine b4 (hb pins s1 σ H1 _ I1 q1) λu s2 ⟨y,H2,I2,r2,q2⟩=>?_
 exact hf v u s2 x y H2 I2 r1 r2 q2
def rM {op:Operator}{r:R2}(ho:lH X (binaryOp op) r)(ha:PE X a ta)(hb:PE X b tb):PE X (.BinOp a op b pos) (Fl r ta tb):=by
 intro pins s σ H Q I h
 exact wpAny_BinOp (Dj ha hb I h λv u s2 x y H2 I2 rx ry q=>ho pins s2 σ H2 x y v u Q I2 rx ry q)
def Fb {op:UnaryOp}{r:V->Hp->VK->Prop}(ho:Fg X (unaryOp op) r)(ha:PE X a ta):PE X (.UnaryOp op a pos) (Hl r ta):=by
 intro pins s σ H Q I h
 exact UnaryOp_ (b4 (ha pins s σ H _ I h) λv s1 ⟨x,H1,I1,r1,q1⟩=>ho pins s1 σ H1 x v Q I1 r1 q1)
def FI {f:Value->Value->Sem Value}{C:Int->Int->Prop}{g:Int->Int->Int}
  (rule:∀(i j:Int) (t u:Tok) (s:Shared) (Q:Value->Shared->Prop) (E:Value->Shared->Prop),C i j->Q (.int (g i j) s.toks) {s with toks:=s.toks + 1}->wpAny (model X.prog X.w) X.A (f (.int i t) (.int j u)) Q E s) :
  lH X f (rI C λi j=>.int (g i j)):=by
 intro pins s σ H x y v u Q I rx ry h
 obtain⟨i,j,rfl,rfl,hc,q⟩:=h
 obtain⟨t,rfl⟩:=rx
 obtain⟨t',rfl⟩:=ry
 exact rule i j t t' s _ _ hc ⟨.int (g i j),H,I.tok _,⟨_,rfl⟩,q⟩
def FL {f:Value->Value->Sem Value}{g:Int->Int->Int}
  (rule:∀(i j:Int) (t u:Tok) (s:Shared) (Q:Value->Shared->Prop) (E:Value->Shared->Prop),Q (.int (g i j) s.toks) {s with toks:=s.toks + 1}->wpAny (model X.prog X.w) X.A (f (.int i t) (.int j u)) Q E s) :
  lH X f (Bs λi j=>.int (g i j)):=by
 intro pins s σ H x y v u Q I rx ry h
 obtain⟨i,j,rfl,rfl,q⟩:=h
 obtain⟨t,rfl⟩:=rx
 obtain⟨t',rfl⟩:=ry
 exact rule i j t t' s _ _ ⟨.int (g i j),H,I.tok _,⟨_,rfl⟩,q⟩
def D4 {f:Value->Value->Sem Value}{g:Int->Int->Bool}
  (rule:∀(i j:Int) (t u:Tok) (s:Shared) (Q:Value->Shared->Prop) (E:Value->Shared->Prop),Q (.bool (g i j)) s->wpAny (model X.prog X.w) X.A (f (.int i t) (.int j u)) Q E s) :
  lH X f (Bs λi j=>.bl (g i j)):=by
 intro pins s σ H x y v u Q I rx ry h
 obtain⟨i,j,rfl,rfl,q⟩:=h
 obtain⟨t,rfl⟩:=rx
 obtain⟨t',rfl⟩:=ry
 exact rule i j t t' s _ _ ⟨.bl (g i j),H,I,rfl,q⟩
def AZ (i j:Int):Prop:=0 < j/\j < 1073741824
def yV (i j:Int):Prop:=(-(2 ^ 64) < i/\i < 2 ^ 64)\/(-(2 ^ 64) < j/\j < 2 ^ 64)
def yV.ok {i j:Int}(h:yV i j):IntMulOk i j:=by
 rcases h with⟨h1,h2⟩ | ⟨h1,h2⟩
 ·exact .of_left (intBits_le_64 h1 h2)
 ·exact .of_right (intBits_le_64 h1 h2)
def fI:lH X (binaryOp .Add) (Bs λi j=>.int (i + j)):=FL λ_ _ _ _ _ _ _ q=>add_int q
def iI:lH X (binaryOp .Mult) (rI yV λi j=>.int (i * j)):=FI λ_ _ _ _ _ _ _ hc q=>mul_int q hc.ok
def jQ:lH X (binaryOp .FloorDiv) (rI AZ λi j=>.int (i / j)):=FI λi j _ _ _ _ _ hc q=>by
 have h1:(0:Int) < j:=hc.1
 have h2:j < 1073741824:=hc.2
 exact floordiv_int (by omega) (by rw[Int.fdiv_eq_ediv_of_nonneg i (by omega)];exact q) (.inl (PyProof.noPylong_small (by omega)))
def jq:lH X (binaryOp .Mod) (rI (λ_ j=>0 < j) λi j=>.int (i % j)):=FI λi j _ _ _ _ _ hc q=>by
 have h1:(0:Int) < j:=hc
 exact mod_int' (by omega) (by rw[Int.fmod_eq_emod_of_nonneg i (by omega)];exact q)
def Hq {f:Value->Sem Value}{g:Int->Int}
  (rule:∀(i:Int) (t:Tok) (s:Shared) (Q:Value->Shared->Prop) (E:Value->Shared->Prop),Q (.int (g i) s.toks) {s with toks:=s.toks + 1}->wpAny (model X.prog X.w) X.A (f (.int i t)) Q E s) :
  Fg X f (rU λi=>.int (g i)):=by
 intro pins s σ H x v Q I rx h
 obtain⟨i,rfl,q⟩:=h
 obtain⟨t,rfl⟩:=rx
 exact rule i t s _ _ ⟨.int (g i),H,I.tok _,⟨_,rfl⟩,q⟩
def y2:Fg X (unaryOp .USub) (rU λi=>.int (-i)):=Hq λ_ _ _ _ _ q=>neg_int q
end
section
variable {X:Cx}{a b c:Expr}{ta tb tc:TE}{pos:Pos}
def B5:lH X (compareOp .Lt) (Bs λi j=>.bl (decide (i < j))):=D4 λ_ _ _ _ _ _ _ q=>lt_int q
def zg:lH X (compareOp .LtE) (Bs λi j=>.bl (decide (i<=j))):=D4 λ_ _ _ _ _ _ _ q=>le_int q
def bG (b:Expr){op:CmpOp}(h:op≠.In:=by decide)(h2:op≠.NotIn:=by decide):behindInMarks op b=false:=by
 have e1:(op == CmpOp.In)=false:=by cases op <;> first |rfl |exact absurd rfl h
 have e2:(op == CmpOp.NotIn)=false:=by cases op <;> first |rfl |exact absurd rfl h2
 cases b <;> simp[behindInMarks,e1,e2]
def AX {op:CmpOp}{r:R2}(ho:lH X (compareOp op) r)(ha:PE X a ta)(hb:PE X b tb)(hm:behindInMarks op b=false):PE X (.Compare a [op] [b] pos) (Fl r ta tb):=by
 intro pins s σ H Q I h
 exact wpAny_Compare1 (Dj ha hb I h λv u s2 x y H2 I2 rx ry q=>ho pins s2 σ H2 x y v u Q I2 rx ry q) hm
def EH (t:TE):TT:=λσ H Q=>t σ H λx H'=>∃k,x=.bl k/\Q k H'
def A5 {op:CmpOp}{r:R2}(ho:lH X (compareOp op) r)(ha:PE X a ta)(hb:PE X b tb)(hm:behindInMarks op b=false):PT X (.Compare a [op] [b] pos) (EH (Fl r ta tb)):=by
 intro pins s σ H Q I h
 refine wpAny_isTrue_Compare1 (b4 (ha pins s σ H _ I h) λv s1 ⟨x,H1,I1,r1,q1⟩=>b4 (hb pins s1 σ H1 _ I1 q1) λu s2 ⟨y,H2,I2,r2,q2⟩=>
  b4 (ho pins s2 σ H2 x y v u _ I2 r1 r2 q2) λc s3 ⟨z,H3,I3,r3,k,e,q3⟩=>?_) hm
 subst e
 cases r3
 exact IZ ⟨H3,I3,q3⟩
def Dq (r r':R2)(ta tb tc:TE):TE:=λσ H Q=>ta σ H λx H1=>tb σ H1 λy H2=>r x y H2 λz H3=>∃k,z=.bl k/\
 (if k=true then tc σ H3 λw' H4=>r' y w' H4 Q else Q (.bl false) H3)
theorem zl {op op':CmpOp}{r r':R2}(ho:lH X (compareOp op) r)(ho':lH X (compareOp op') r')(ha:PE X a ta)(hb:PE X b tb)(hc:PE X c tc)
  (hm:lastMarks [op,op'] [b,c]=false:=by with_unfolding_all rfl):PE X (.Compare a [op,op'] [b,c] pos) (Dq r r' ta tb tc):=by
 intro pins s σ H Q I h
 refine Compare_chain (b4 (ha pins s σ H _ I h) λv s1 ⟨x,H1,I1,r1,q1⟩=>chain_link (b4 (hb pins s1 σ H1 _ I1 q1) λu s2 ⟨y,H2,I2,r2,q2⟩=>
  b4 (ho pins s2 σ H2 x y v u _ I2 r1 r2 q2) λd s3 ⟨z,H3,I3,r3,k,e,q3⟩=>?_)) hm
 subst e
 cases r3
 refine IZ ?_
 cases k with
 |false=>exact ite_ff ⟨.bl false,H3,I3,rfl,q3⟩
 |true=>exact ite_tt (chain_last (b4 (hc pins s3 σ H3 _ I3 q3) λw' s4 ⟨z',H4,I4,r4,q4⟩=>ho' pins s4 σ H4 y z' u w' Q I4 r2 r4 q4))
def EB (K:Frag)(x:V)(H:Hp)(k:Bool):Prop:=
 match x with
 | .non=>k=false
 | .bl b=>k=b
 | .int i=>k=(i != 0)
 | .str y=>y.length<=sizeLine/\k=((y.length:Int) != 0)
 | .byt y=>y.size<=sizeLine/\k=((y.size:Int) != 0)
 | .ref p=>(∃xs,dJ K H p xs/\k= !xs.isEmpty)\/(∃xs,fK K H p xs/\k= !xs.isEmpty)\/∃kvs,H p=some (.dK kvs)/\k= !kvs.isEmpty
 |_=>False
def sY {κ:Type}{kvs:List (κ×V)}{vs:List (κ×Value)}(r:KV kvs vs):(!vs.isEmpty)= !kvs.isEmpty:=by
 cases r <;> rfl
def mS {xs:List V}{its:List Value}(r:Vals xs its):(!its.toArray.isEmpty)= !xs.isEmpty:=by
 cases r <;> simp
def kC:(sizeLine:Nat) < 2 ^ 63:=by rw[Iu];decide
theorem CH:FQ X (λx H Q=>∃k,EB X.K x H k/\Q k H):=by
 intro pins s σ H x v Q I rx h
 obtain⟨k,e,q⟩:=h
 have hl:=kC
 have hs:sizeLine=16777216:=Iu
 cases x with
 |non=>
  cases rx
  have e':k=false:=e
  subst e'
  exact truthy_none ⟨H,I,q⟩
 |bl b=>
  cases rx
  have e':k=b:=e
  subst e'
  exact IZ ⟨H,I,q⟩
 |int i=>
  obtain⟨t,rfl⟩:=rx
  have e':k=(i != 0):=e
  subst e'
  exact PySem.P.truthy_int ⟨H,I,q⟩
 |str y=>
  obtain⟨t,rfl⟩:=rx
  obtain⟨hy,e'⟩:y.length<=sizeLine/\k=((y.length:Int) != 0):=e
  subst e'
  exact PySem.P.truthy_str (by omega) ⟨H,I.tok _,q⟩
 |byt y=>
  obtain⟨t,rfl⟩:=rx
  obtain⟨hy,e'⟩:y.size<=sizeLine/\k=((y.size:Int) != 0):=e
  subst e'
  exact PySem.W.truthy_bytes (by omega) ⟨H,I.tok _,q⟩
 |ref p=>
  cases rx
  have e':(∃xs,dJ X.K H p xs/\k= !xs.isEmpty)\/(∃xs,fK X.K H p xs/\k= !xs.isEmpty)\/∃kvs,H p=some (.dK kvs)/\k= !kvs.isEmpty:=e
  rcases e' with⟨xs,hx,e'⟩ | ⟨xs,hx,e'⟩ | ⟨kvs,hx,e'⟩
  ·subst e'
   obtain⟨its,r,pl,hz⟩:=I.list hx
   have hlen:=r.length
   exact wpAny_truthy_list pl.isList (by simp only[HW];omega) ⟨H,I.tok _,by rw[mS r];exact q⟩
  ·subst e'
   obtain⟨its,r,pl,hz⟩:=I.tuple hx
   have hlen:=r.length
   exact truthy_tuple pl (by simp only[HW];omega) ⟨H,I.tok _,by rw[mS r];exact q⟩
  ·subst e'
   obtain⟨hz,hS,vs,r,m⟩:kvs.length<=sizeLine/\(p == sysModules)=false/\∃vs,KV kvs vs/\s.heap.DictOf (pF X.prog X.w) p vs:=I.hok p _ hx
   have hlen:kvs.length=vs.length:=Paired.length r
   exact wpAny_truthy_dict hS m (by omega) ⟨H,I.tok _,by rw[sY r];exact q⟩
 |_=>exact (show False from e).elim
def xV (ha:PE X a ta)(he:∀whole,isTrue a X.env whole=(do let v <-whole;standAt a.pos;holding [v] (truthy v))) :
  PT X a (λσ H Q=>ta σ H λx H'=>∃k,EB X.K x H' k/\Q k H'):=by
 intro pins s σ H Q I h
 exact isTrue_plain (b4 (ha pins s σ H _ I h) λv s1 ⟨x,H1,I1,r1,q1⟩=>CH pins s1 σ H1 x v Q I1 r1 q1) (he _)
theorem vals1 {x:V}{us:List Value}(r:Vals [x] us):∃u,us= [u]/\RelV x u:=by
 cases r with
 |cons r1 r2=>cases r2;exact⟨_,rfl,r1⟩
theorem vals2 {x y:V}{us:List Value}(r:Vals [x,y] us):∃u w',us= [u,w']/\RelV x u/\RelV y w':=by
 cases r with
 |cons r1 r2=>
  cases r2 with
  |cons r3 r4=>cases r4;exact⟨_,_,rfl,r1,r3⟩
def yR:cf X (.builtin "abs") (λxs H Q=>∃i,xs= [.int i]/\Q (.int (if i < 0 then -i else i)) H):=by
 intro pins s σ H xs us Q I r h
 obtain⟨i,rfl,q⟩:=h
 obtain⟨u,rfl,t,rfl⟩:=vals1 r
 exact call_abs_int λu tk=>⟨.int (if i < 0 then -i else i),H,I.tok _,⟨_,rfl⟩,q⟩
def vT (hc:X.calm=true):cf X (.builtin "max") (λxs H Q=>∃i j,xs= [.int i,.int j]/\Q (.int (if j > i then j else i)) H):=by
 intro pins s σ H xs us Q I r h
 obtain⟨i,j,rfl,q⟩:=h
 obtain⟨u,w',rfl,⟨t,rfl⟩,⟨t',rfl⟩⟩:=vals2 r
 refine max_two_ints (I.ok.hd hc) λh' tk k=>⟨_,H,I.kept k,?_,q⟩
 by_cases hj:j > i
 ·rw[HA hj,HA hj];exact⟨_,rfl⟩
 ·rw[HI hj,HI hj];exact⟨_,rfl⟩
def v5 (hc:X.calm=true):cf X (.builtin "min") (λxs H Q=>∃i j,xs= [.int i,.int j]/\Q (.int (if j < i then j else i)) H):=by
 intro pins s σ H xs us Q I r h
 obtain⟨i,j,rfl,q⟩:=h
 obtain⟨u,w',rfl,⟨t,rfl⟩,⟨t',rfl⟩⟩:=vals2 r
 refine min_two_ints (I.ok.hd hc) λh' tk k=>⟨_,H,I.kept k,?_,q⟩
 by_cases hj:j < i
 ·rw[HA hj,HA hj];exact⟨_,rfl⟩
 ·rw[HI hj,HI hj];exact⟨_,rfl⟩
def D9 (K:Frag)(x:V)(H:Hp)(n:Nat):Prop:=
 match x with
 | .str y=>y.length<=sizeLine/\n=y.length
 | .byt y=>y.size<=sizeLine/\n=y.size
 | .ref p=>(∃xs,dJ K H p xs/\n=xs.length)\/∃xs,fK K H p xs/\n=xs.length
 |_=>False
theorem b9:cf X (.builtin "len") (λxs H Q=>∃x n,xs= [x]/\D9 X.K x H n/\Q (.int n) H):=by
 intro pins s σ H xs us Q I r h
 obtain⟨x,n,rfl,e,q⟩:=h
 obtain⟨u,rfl,rx⟩:=vals1 r
 have hl:=kC
 have hs:sizeLine=16777216:=Iu
 cases x with
 |str y=>
  obtain⟨t,rfl⟩:=rx
  obtain⟨hy,e'⟩:y.length<=sizeLine/\n=y.length:=e
  subst e'
  exact len_str (by omega) ⟨.int _,H,I.tok _,⟨_,rfl⟩,q⟩
 |byt y=>
  obtain⟨t,rfl⟩:=rx
  obtain⟨hy,e'⟩:y.size<=sizeLine/\n=y.size:=e
  subst e'
  exact PySem.W.len_bytes (by omega) ⟨.int _,H,I.tok _,⟨_,rfl⟩,q⟩
 |ref p=>
  cases rx
  have e':(∃xs,dJ X.K H p xs/\n=xs.length)\/∃xs,fK X.K H p xs/\n=xs.length:=e
  rcases e' with⟨xs,hx,e'⟩ | ⟨xs,hx,e'⟩
  ·subst e'
   obtain⟨its,r',pl,hz⟩:=I.list hx
   have hlen:=r'.length
   exact Calls.call_len_list pl.isList (by simp only[HW];omega) ⟨.int xs.length,H,I.tok _,⟨_,by simp only[HW];rw[hlen]⟩,q⟩
  ·subst e'
   obtain⟨its,r',pl,hz⟩:=I.tuple hx
   have hlen:=r'.length
   exact len_tuple pl (by simp only[HW];omega) ⟨.int xs.length,H,I.tok _,⟨_,by simp only[HW];rw[hlen]⟩,q⟩
 |_=>exact (show False from e).elim
def rK:cf X (.builtin "divmod") (λxs H Q=>∃i j,xs= [.int i,.int j]/\AZ i j/\∀p,H p=none->Q (.ref p) (upd H p (.tup [.int (i / j),.int (i % j)]))):=by
 intro pins s σ H xs us Q I r h
 obtain⟨i,j,rfl,⟨h1,h2⟩,q⟩:=h
 obtain⟨u,w',rfl,⟨t,rfl⟩,⟨t',rfl⟩⟩:=vals2 r
 refine divmod_int (by omega) ?_ (.inl (PyProof.noPylong_small (by omega)))
 rw[Int.fdiv_eq_ediv_of_nonneg i (by omega),Int.fmod_eq_emod_of_nonneg i (by omega)]
 have hn:H s.heap.objs.size=none:=I.hok.fresh (Hy _)
 refine⟨.ref s.heap.objs.size,_,?_,rfl,q _ hn⟩
 refine I.laid (λb o e=>Hw _ e) (Hy _) ⟨by simp only[HX,Kh];rw[Iu];decide,[.int (i / j) s.toks,.int (i % j) (s.toks + 1)],.cons ⟨_,rfl⟩ (.cons ⟨_,rfl⟩ .nil),?_⟩
 exact⟨_,HU s.heap rfl,rfl,0,rfl,rfl⟩
end
structure Cz (h:Heap)(x dx C:Addr)(mA:Str->Option Value):Prop where
 obj:h.get? x=some (PySem.W.instObj C dx)
 ns:h.Ns1 dx mA
 ne:dx≠x
def wq {h:Heap}{dx:Addr}{mA:Str->Option Value}(n:h.Ns1 dx mA):∃od,h.get? dx=some od/\∀name,PySem.W.lookIn name od=some (mA name):=by
 obtain⟨o,es,ep,ho,hd,hk,_,hm⟩:=n
 refine⟨o,ho,λname=>?_⟩
 have e:=hm name
 unfold nsFind findBy at e
 rw[<-Array.find?_toList] at e
 unfold PySem.W.lookIn
 rw[hd]
 dsimp only
 split
 ·rename_i y q
  rw[q] at e
  exact congrArg some e
 ·rename_i q
  rw[q] at e
  have a:es.toList.any (·.refKey)=false:=by
   rw[Ku]
   intro y hy
   obtain⟨z,t,hkey⟩:=hk y (JO.mp hy)
   simp[DictEntry.refKey,hkey]
  have a':¬es.toList.any (·.refKey)=true:=by rw[a];exact Iw
  rw[HI a']
  exact congrArg some e
def Cz.look {h:Heap}{x dx C:Addr}{mA:Str->Option Value}(I:Cz h x dx C mA):∃od,PySem.W.InstAt h x (PySem.W.instObj C dx) C (some od)/\∀name,PySem.W.lookIn name od=some (mA name):=
 let ⟨od,ho,hl⟩:=wq I.ns
 ⟨od,⟨I.obj,rfl,rfl,ho⟩,hl⟩
section
variable {P:Program}{w:World}{H H':Hp}{h h':Heap}{a C dx:Addr}{fs fs':List (Str×V)}
def AE (hok:j4 P w H h)(e:H a=some (.ins C dx fs)):∃mA,Cz h a dx C mA/\(∀f,zo (fs.lookup f) (mA f))/\PySem.Within mA (fs.map (·.1))/\fs.length<=1000/\H dx=some (.own a):=by
 obtain⟨d,z,ne,ob,mA,n,r,q⟩:=(show bL P w H h a (.ins C dx fs) from hok a _ e)
 exact⟨mA,⟨ob,n,ne⟩,r,q,z,d⟩
end
structure GH (K:Frag)(C:Addr):Prop where
 pg:PySem.W.plainGet K C Str.empty=true
 hd:PySem.W.hasDictIn K C=true
 po:PySem.W.plainOver K C=true
 sa:PySem.W.findIn K (.ref C) "__setattr__"=some (some (.builtin "object.__setattr__"))
def GH.get {K:Frag}{C:Addr}(c:GH K C)(f:Str):PySem.W.plainGet K C f=true:=c.pg
section
variable {X:Cx}{pins:List (Addr×Obj)}{σ:St}{H:Hp}{s:Shared}{a C dx:Addr}{fs:List (Str×V)}{f:Str}{v:V}{A:Around}{E:Value->Shared->Prop}
def Inv.made (I:Inv X pins σ H s):Inv X pins σ (upd (upd H s.heap.objs.size (.own (s.heap.objs.size + 1))) (s.heap.objs.size + 1) (.ins C s.heap.objs.size []))
  {s with heap:=(s.heap.push PySem.W.emptyDict).push (PySem.W.instObj C s.heap.objs.size)}:=by
 have e1:(s.heap.push PySem.W.emptyDict).get? s.heap.objs.size=some PySem.W.emptyDict:=HU s.heap rfl
 have e2:((s.heap.push PySem.W.emptyDict).push (PySem.W.instObj C s.heap.objs.size)).get? (s.heap.objs.size + 1)=some (PySem.W.instObj C s.heap.objs.size):=by
  have:=HU (s.heap.push PySem.W.emptyDict) (o:=PySem.W.instObj C s.heap.objs.size) rfl
  rwa [Jo] at this
 have e3:(s.heap.push PySem.W.emptyDict).Ns s.heap.objs.size (λ_=>none):=⟨PySem.W.emptyDict,#[],_,e1,rfl,(λe he=>absurd he (by simp)),λ_=>rfl⟩
 have I1:=I.laid (a:=s.heap.objs.size) (o:=.own (s.heap.objs.size + 1)) (h':=s.heap.push PySem.W.emptyDict) (t':=s.toks) (λb u q=>Hw _ q) (Hy _) ⟨_,e1⟩
 refine I1.laid (a:=s.heap.objs.size + 1) (o:=.ins C s.heap.objs.size []) (t':=s.toks) (λb u q=>Hw _ q) (Nat.le_of_eq (Jo _ _)) ?_
 have ne:s.heap.objs.size≠s.heap.objs.size + 1:=Ih (Nat.lt_succ_self _)
 refine⟨by rw[ak ne,aq],Ia _,ne,e2,λ_=>none,(Heap.Ns1.of_empty e3).at λo q=>Hw _ q,λ_=>True.intro,λy hy=>absurd rfl hy⟩
end
section
variable {X:Cx}{pins:List (Addr×Obj)}{σ:St}{H:Hp}{s:Shared}{A:Around}{E:Value->Shared->Prop}{Q:Value->Shared->Prop}{c:Value}{b:Bool}
inductive lq (K:Frag)(H:Hp):V->Value->Prop where
 |non:lq K H .non (.type "NoneType")
 |bl (x:Bool):lq K H (.bl x) (.type "bool")
 |int (i:Int):lq K H (.int i) (.type "int")
 |str (x:Str):lq K H (.str x) (.type "str")
 |flt (x:UInt64):lq K H (.flt x) (.type "float")
 |lst {a:Addr} {xs:List V} (e:H a=some (.lst xs)):lq K H (.ref a) (.type "list")
 |aU {a:Addr} {o:Obj} {xs:List V} (e:H a=some (.aU o (.lst xs))):lq K H (.ref a) (.type "list")
 |tup {a:Addr} {xs:List V} (e:H a=some (.tup xs)):lq K H (.ref a) (.type "tuple")
 |dK {a:Addr} {kvs:List (Key×V)} (e:H a=some (.dK kvs)):lq K H (.ref a) (.type "dict")
 |dT {a:Addr} {kvs:List (List Key×V)} (e:H a=some (.dT kvs)):lq K H (.ref a) (.type "dict")
 |ins {a C dx:Addr} {fs:List (Str×V)} (e:H a=some (.ins C dx fs)) (cl:GH K C) (ha:PySem.W.findIn K (.ref C) "__class__"=some (some (.builtin "object.__class__")))
   (hn:PySem.W.specialIn K (.builtin "object.__class__") "__get__"=some (some (.builtin "getset_descriptor.__get__"))) (htk:PySem.W.takesIn K (.builtin "object.__class__")=some true)
   (hm:PySem.W.mroIn K C (.type "object")=some true):lq K H (.ref a) (.ref C)
theorem gK {x:V}{u t:Value}(I:Inv X pins σ H s)(rx:RelV x u)(ty:lq X.K H x t)(e:PySem.W.kitOne X.K t c=some b)(h:∀tk,Q (.bool b) {s with toks:=tk}) :
  wpAny (model X.prog X.w) A (call (.builtin "isinstance") [u,c]) Q E s:=by
 cases ty with
 |non=>cases (show u=Value.none from rx);exact II PySem.W.kitx_none I.kIn True.intro e (λz=>nomatch z) h
 |bl y=>cases (show u=Value.bool y from rx);exact II PySem.W.kitx_bool I.kIn True.intro e (λz=>nomatch z) h
 |int i=>obtain⟨t,q⟩:=(show ∃t,u=Value.int i t from rx);cases q;exact II PySem.W.kitx_int I.kIn True.intro e (λz=>nomatch z) h
 |str y=>obtain⟨t,q⟩:=(show ∃t,u=Value.str y t from rx);cases q;exact II PySem.W.kitx_str I.kIn True.intro e (λz=>nomatch z) h
 |flt y=>obtain⟨t,q⟩:=(show ∃t,u=Value.float y t from rx);cases q;exact II PySem.W.kitx_float I.kIn True.intro e (λz=>nomatch z) h
 | @lst a xs ea=>
  cases (show u=Value.ref a from rx)
  obtain⟨_,_,n,_,h1⟩:=(show bL X.prog X.w H s.heap a (.lst xs) from I.hok a _ ea)
  exact II PySem.W.kitx_list I.kIn ⟨_,h1,rfl⟩ e (λz=>nomatch z) h
 | @aU a ob xs ea=>
  cases (show u=Value.ref a from rx)
  obtain⟨_,_,_,n,_,h1⟩:=(show bL X.prog X.w H s.heap a (.aU ob (.lst xs)) from I.hok a _ ea)
  exact II PySem.W.kitx_list I.kIn ⟨_,h1,rfl⟩ e (λz=>nomatch z) h
 | @tup a xs ea=>
  cases (show u=Value.ref a from rx)
  obtain⟨_,_,_,p⟩:=(show bL X.prog X.w H s.heap a (.tup xs) from I.hok a _ ea)
  obtain⟨o,h1,h2,_⟩:=p
  exact II PySem.W.kitx_tuple I.kIn ⟨o,h1,h2⟩ e (λz=>nomatch z) h
 | @dK a kvs ea=>
  cases (show u=Value.ref a from rx)
  obtain⟨_,_,vs,_,p⟩:=(show bL X.prog X.w H s.heap a (.dK kvs) from I.hok a _ ea)
  obtain⟨o,es,ep,h1,h2,_⟩:=p
  exact II PySem.W.kitx_dict I.kIn ⟨o,h1,h2.1⟩ e (λz=>nomatch z) h
 | @dT a kvs ea=>
  cases (show u=Value.ref a from rx)
  obtain⟨_,_,xs,_,o,es,ep,h1,h2,_⟩:=(show bL X.prog X.w H s.heap a (.dT kvs) from I.hok a _ ea)
  exact II PySem.W.kitx_dict I.kIn ⟨o,h1,h2.1⟩ e (λz=>nomatch z) h
 | @ins a C dx fs ea cl ha hn htk hm=>
  cases (show u=Value.ref a from rx)
  obtain⟨mA,O,_⟩:=AE I.hok ea
  obtain⟨od,J,_⟩:=O.look
  exact II (PySem.W.kitx_own (cl.get _) cl.hd ha hn htk hm) I.kIn J e (λz=>nomatch z) h
end
structure cX (k:Nat)(A:Around):Prop where
 hd:A.handled=none
 dp:A.depth + 3 * k + 5 < recursionLimit
 un:A.units + 16 * k + 200 < cLine
 gd:A.guards=some []
def cX.mono {j k:Nat}{A:Around}(r:cX k A)(h:j<=k):cX j A:=⟨r.hd,by have:=r.dp;omega,by have:=r.un;omega,r.gd⟩
def cX.deeper {k:Nat}{A:Around}(r:cX (k + 1) A)(env:Env):cX k (A.deeper env):=
 ⟨r.hd,by have:=r.dp;show A.depth + 1 + 3 * k + 5 < _;omega,by have:=r.un;show A.units + 3 + 16 * k + 200 < _;omega,r.gd⟩
def cX.depth {k:Nat}{A:Around}(r:cX k A):A.depth < recursionLimit:=by have:=r.dp;omega
def cX.units {k:Nat}{A:Around}(r:cX k A):A.units + 64 < cLine:=by have:=r.un;omega
def F0:TA:=λ_ H Q=>Q [] H
def EM (ta:TE)(tr:TA):TA:=λσ H Q=>ta σ H λx H1=>tr σ H1 λxs H2=>Q (x :: xs) H2
section
variable {X:Cx}{e:Expr}{es:List Expr}{te:TE}{t:TA}{pos:Pos}
def aY:PA X [] F0:=λ_ _ _ _ H Q I h=>Calls.spliced_nil ⟨[],H,I,.nil,h⟩
def aC (ha:PE X e te)(hr:PA X es t)(hs:starEach (e :: es) X.env=(false,eval e X.env) :: starEach es X.env:=by rfl):PA X (e :: es) (EM te t):=by
 intro pos pins s σ H Q I h
 rw[hs]
 show wpAny _ _ (spliced ((false,eval e X.env) :: backTo pos (starEach es X.env))) _ _ s
 refine Calls.spliced_cons (b4 (ha pins s σ H _ I h) λu s1 ⟨x,H1,I1,r1,q1⟩=>?_)
 exact b4 (hr pos pins s1 σ H1 _ I1 q1) λus s2 ⟨xs,H2,I2,r2,q2⟩=>⟨x :: xs,H2,I2,.cons r1 r2,q2⟩
def FY (t:TA):TE:=λσ H Q=>t σ H λxs H1=>xs.length<=sizeLine/\∀p,H1 p=none->Q (.ref p) (upd H1 p (.tup xs))
def Gh (t:TA):TE:=λσ H Q=>t σ H λxs H1=>xs.length<=sizeLine/\∀p,H1 p=none->Q (.ref p) (upd H1 p (.lst xs))
def tu {x1}(h:PA X es t):PE X (.Tuple es x1 pos) (FY t):=by
 intro pins s σ H Q I hq
 refine wpAny_Tuple_spliced (b4 (h pos pins s σ H _ I hq) λus s1 ⟨xs,H1,I1,r,z,q⟩=>⟨by rw[<-r.length];exact z,?_⟩)
 have hf:H1 s1.heap.objs.size=none:=I1.hok.fresh (Hy _)
 refine⟨.ref s1.heap.objs.size,upd H1 s1.heap.objs.size (.tup xs),I1.laid (t':=s1.toks) (λb u e=>Hw _ e) (Hy _) ?_,rfl,q _ hf⟩
 exact⟨z,us,r,rY.new _ _⟩
def sQ (h:PA X es t):PE X (.List es pos) (Gh t):=by
 intro pins s σ H Q I hq
 refine wpAny_List_spliced (b4 (h pos pins s σ H _ I hq) λus s1 ⟨xs,H1,I1,r,z,q⟩=>⟨by rw[<-r.length];exact z,?_⟩)
 have hf:H1 s1.heap.objs.size=none:=I1.hok.fresh (Hy _)
 refine⟨.ref s1.heap.objs.size,upd H1 s1.heap.objs.size (.lst xs),I1.laid (t':=s1.toks) (λb u e=>Hw _ e) (Hy _) ?_,rfl,q _ hf⟩
 exact⟨z,us,0,r,HU _ rfl⟩
end
abbrev Sp:=List V->Hp->VK->XK->Prop
abbrev wa:=List Env->Hp->Shared->XK->Value->Shared->Prop
structure Am (P:Program)(w:World)(K:Frag)(mg:Str->Option Value)(base:Heap)(A:Around)(outer:List Env)(s:Shared)(H:Hp):Prop where
 frames:A.frames=some outer
 mod:Mod K mg base
 bs:∀b o,base.get? b=some o->s.heap.get? b=some o/\H b=none
 bsz:base.objs.size<=s.heap.objs.size
 funs:s.heap.FunFrames base outer
 frf:∀b∈jC outer,H b=none
 hok:j4 P w H s.heap
 bare:AllBare s.gens
def CE (outer:List Env)(P:Program)(w:World)(H:Hp)(s:Shared)(Q:VK)(u:Value)(s':Shared):Prop:=
 ∃v H',s'.os=s.os/\AllBare s'.gens/\Un (jC outer) [] H H' s.heap s'.heap/\j4 P w H' s'.heap/\RelV v u/\Q v H'
def CR (CX:wa)(outer:List Env)(P:Program)(w:World)(H:Hp)(s:Shared)(Q:VK)(E:XK)(r:Result)(s':Shared):Prop:=
 match r with
 | .ok (.ret u)=>CE outer P w H s Q u s'
 | .ok _=>False
 | .error e=>CX outer H s E e s'
structure dw (P:Program)(w:World)(K:Frag)(mg:Str->Option Value)(base:Heap)(CX:wa)(k:Nat)(f:Addr)(fd:FuncData)(ps:List Str)(sp:Sp):Prop where
 len:∀vs H Q E,sp vs H Q E->vs.length=ps.length
 run:∀(A:Around) (outer:List Env) (s:Shared) (H:Hp) (args:Args) (us:List Value) (vs:List V) (Q:VK) (E:XK),cX k A->Am P w K mg base A outer s H->BindsTo s fd args (ps.zip us)->Vals vs us->sp vs H Q E->
  codeAny (model P w) A (.call (.ref f) args) (CR CX outer P w H s Q E) s
def dw.mono {P:Program}{w:World}{K:Frag}{mg:Str->Option Value}{base:Heap}{CX:wa}{j k:Nat}{f:Addr}{fd:FuncData}{ps:List Str}{sp:Sp}(F:dw P w K mg base CX j f fd ps sp)(h:j<=k) :
  dw P w K mg base CX k f fd ps sp:=⟨F.len,λA outer s H args us vs Q E hr=>F.run A outer s H args us vs Q E (hr.mono h)⟩
def dw.imp {P:Program}{w:World}{K:Frag}{mg:Str->Option Value}{base:Heap}{CX:wa}{k:Nat}{f:Addr}{fd:FuncData}{ps:List Str}{sp sp':Sp}(F:dw P w K mg base CX k f fd ps sp)
  (h:∀vs H Q E,sp' vs H Q E->sp vs H Q E):dw P w K mg base CX k f fd ps sp':=
 ⟨λvs H Q E q=>F.len vs H Q E (h _ _ _ _ q),λA outer s H args us vs Q E hr he hb hv hs=>F.run A outer s H args us vs Q E hr he hb hv (h _ _ _ _ hs)⟩
section
variable {X:Cx}{pins:List (Addr×Obj)}{σ:St}{H:Hp}{s s':Shared}
def Inv.env0 (I:Inv X pins σ H s):Am X.prog X.w X.K X.mg X.base X.A X.stack s H:=
 ⟨I.ok.frames,I.ok.mod,I.bs,IW I.ok.bsz I.sz,I.stack,I.stkFree,I.hok,I.bare⟩
def Inv.after {Q:VK}{u:Value}(I:Inv X pins σ H s)(h:CE X.stack X.prog X.w H s Q u s'):EP X pins σ Q u s':=by
 obtain⟨v,H',os,bare,un,hok,r,q⟩:=h
 obtain⟨hh,g,d,t,os'⟩:=s'
 obtain rfl:os'=s.os:=os
 exact⟨v,H',I.call (h':=hh) (g':=g) (d':=d) (t':=t) (ch:=[]) un hok bare (λb z=>absurd z (by simp)),r,q⟩
end
def E1 (sp:Sp)(dvs:List V)(E:XK)(t:TA):TE:=λσ H Q=>t σ H λvs H1=>sp (vs ++ dvs) H1 Q E
def Binds (K:Frag)(fd:FuncData)(ps:List Str)(ds:List Value):Prop:=
 ∀(s:Shared) (us:List Value),K.In s.heap->(us ++ ds).length=ps.length->BindsTo s fd ⟨us,[]⟩ (ps.zip (us ++ ds))
def Binds.all {K:Frag}{fd:FuncData}{ps:List Str}(h:∀us:List Value,us.length=ps.length->bindArgs fd ⟨us,[]⟩=pure (ps.zip us)):Binds K fd ps []:=λs us _ hl=>by
 rw[Ju] at hl ⊢
 exact .of_eq (h us hl)
def Passes (CX:wa)(X:Cx)(E:XK):Prop:=∀(pins:List (Addr×Obj)) (σ:St) (H:Hp) (s:Shared) (e:Value) (s':Shared),Inv X pins σ H s->CX X.stack H s E e s'->X.xe e s'
section
variable {X:Cx}{CX:wa}{k:Nat}{f C:Addr}{fd:FuncData}{ps:List Str}{sp:Sp}{dvs:List V}{ds:List Value}{E:XK}{x m:Str}{p pos apos:Pos}{e o:Expr}{es:List Expr}{ta:TE}{t:TA}
theorem CO {pins:List (Addr×Obj)}{σ:St}{H:Hp}{s:Shared}{Q:VK}{us:List Value}{vs:List V}(F:dw X.prog X.w X.K X.mg X.base CX k f fd ps sp)(hr:cX k X.A)(hb:Binds X.K fd ps ds)(hd:Vals dvs ds)(hx:Passes CX X E)
  (I:Inv X pins σ H s) (r:Vals vs us) (h:sp (vs ++ dvs) H Q E):wpAny (model X.prog X.w) X.A (call (.ref f) us) (EP X pins σ Q) X.xe s:=by
 have r2:Vals (vs ++ dvs) (us ++ ds):=r.append hd
 have hl:(us ++ ds).length=ps.length:=by rw[<-r2.length];exact F.len _ _ _ _ h
 refine wpAny_call (Ki (F.run X.A X.stack s H ⟨us,[]⟩ (us ++ ds) (vs ++ dvs) Q E hr I.env0 (hb s us I.kIn hl) r2 h) λr s' hq=>?_)
 cases r with
 |error e=>exact hx pins σ H s e s' I hq
 |ok fl=>
  cases fl with
  |ret u=>exact I.after hq
  |next=>exact False.elim hq
  |brk=>exact False.elim hq
  |cont=>exact False.elim hq
def i9 (F:dw X.prog X.w X.K X.mg X.base CX k f fd ps sp)(hr:cX k X.A)(hg:Gl X x)(hm:X.mg x=some (.ref f))(hk:PySem.W.keepIn X.K (.ref f)=true)(hb:Binds X.K fd ps ds)(hd:Vals dvs ds)(hx:Passes CX X E)
  (ha:PA X (e :: es) t) (hdb:(x == ("__debug__":Str))=false:=by decide) (he:starEach (e :: es) X.env=(false,eval e X.env) :: starEach es X.env:=by rfl) (hpl:(backTo pos (starEach es X.env)).any (·.1)=false:=by rfl) :
  PE X (.Call (.Name x p) (e :: es) [] pos) (E1 sp dvs E t):=by
 intro pins s σ H Q I h
 refine wpAny_Call_Name_kw (vf I hg hm ?_ hdb)
 refine PySem.W.callWith_K (h₀:=X.base) I.ok.mod.kin hk (b4 (ha pos pins s σ H _ I h) λus s1 ⟨vs,H1,I1,r,q⟩=>⟨I1.kIn,?_⟩) he hpl
 exact CO F hr hb hd hx I1 r q
end
structure aF (N P:List Str)(sc:Scope):Prop where
 kind:sc.kind=.function
 co:sc.isCoroutine=false
 gen:sc.isGenerator=false
 nd:N.Nodup
 pre:N.take P.length=P
 par:∀x∈P,sc.names.lookup x=some .local\/sc.names.lookup x=some .cell
 nofree:∀y∈sc.names,y.2≠.free
theorem oz {kindOf:Str->Option NameKind}{x:Str}:∀{binds:List (Str×Value)} {m:Str->Option Value},(∀v,(x,v)∉binds)->bindL kindOf binds m x=m x
 | [],_,_=>rfl
 | (n,v) :: r,m,h=>by
  unfold bindL
  rw[oz λw hw=>h w (HG _ hw)]
  split
  ·have:x≠n:=by rintro rfl;exact h v Hz
   simp[this]
  ·rfl
theorem nV {kindOf:Str->Option NameKind}{x:Str}:∀{binds:List (Str×Value)} {m:Str->Option Value},(∀v,(x,v)∉binds)->bindC kindOf binds m x=m x
 | [],_,_=>rfl
 | (n,v) :: r,m,h=>by
  unfold bindC
  rw[nV λw hw=>h w (HG _ hw)]
  split
  ·rfl
  ·have:x≠n:=by rintro rfl;exact h v Hz
   simp[this]
theorem om {kindOf:Str->Option NameKind}{x:Str}{v:Value}:∀{P:List Str} {vs:List Value} {i:Nat} {m:Str->Option Value},P.Nodup->P[i]? =some x->vs[i]? =some v->kindOf x=some .local->
  bindL kindOf (P.zip vs) m x=some v
 | [],_,_,_,_,h,_,_=>by simp at h
 |_ :: _,[],_,_,_,_,h,_=>by simp at h
 |p :: P,w :: vs,0,m,nd,h1,h2,hk=>by
  simp at h1 h2;subst h1;subst h2
  show bindL kindOf ((p,w) :: P.zip vs) m p=_
  unfold bindL
  rw[oz λv hv=>(Il.mp nd).1 (List.of_mem_zip hv).1,HA hk]
  simp
 |p :: P,w :: vs,i + 1,m,nd,h1,h2,hk=>by
  show bindL kindOf ((p,w) :: P.zip vs) m x=_
  unfold bindL
  exact om (i:=i) (Il.mp nd).2 (by simpa using h1) (by simpa using h2) hk
theorem n9 {kindOf:Str->Option NameKind}{x:Str}{v:Value}:∀{P:List Str} {vs:List Value} {i:Nat} {m:Str->Option Value},P.Nodup->P[i]? =some x->vs[i]? =some v->kindOf x≠some .local->
  bindC kindOf (P.zip vs) m x=some v
 | [],_,_,_,_,h,_,_=>by simp at h
 |_ :: _,[],_,_,_,_,h,_=>by simp at h
 |p :: P,w :: vs,0,m,nd,h1,h2,hk=>by
  simp at h1 h2;subst h1;subst h2
  show bindC kindOf ((p,w) :: P.zip vs) m p=_
  unfold bindC
  rw[nV λv hv=>(Il.mp nd).1 (List.of_mem_zip hv).1,HI hk]
  simp
 |p :: P,w :: vs,i + 1,m,nd,h1,h2,hk=>by
  show bindC kindOf ((p,w) :: P.zip vs) m x=_
  unfold bindC
  exact n9 (i:=i) (Il.mp nd).2 (by simpa using h1) (by simpa using h2) hk
def start (N:List Str)(vs:List V):St:=vs.map some ++ List.replicate (N.length - vs.length) none
def nC (CX:wa)(P:Program)(w:World)(K:Frag)(mg:Str->Option Value)(base:Heap)(N:List Str)(qual:Str)(scope:Scope)(f:Addr)(cd:Value)(A:Around)(outer:List Env)(s:Shared)(H:Hp)(E:XK):Cx where
 prog:=P
 w:=w
 K:=K
 mg:=mg
 base:=base
 A:=A.deeper (envOfC qual scope s.heap.objs.size f cd)
 N:=N
 s₀:=s
 H₀:=H
 env:=envOfC qual scope s.heap.objs.size f cd
 outer:=outer
 stack:=envOfC qual scope s.heap.objs.size f cd :: outer
 ex:=[]
 calm:=true
 fn:=λ_=>true
 pn:=[]
 xe:=λe s'=>wpAny (model P w) (A.deeper (envOfC qual scope s.heap.objs.size f cd)) (leaving (envOfC qual scope s.heap.objs.size f cd) e) (λ_ s''=>CX outer H s E e s'') (λe' s''=>CX outer H s E e' s'') s'
def sg {sc:Scope}{n:Nat}{x:Str}(h:sc.names.lookup x=some .cell):∃c,(cellsFrom n sc.names []).lookup x=some c:=by
 have q:=PySem.W.cellsFrom_some sc.names n [] (.inl h)
 exact Option.isSome_iff_exists.mp q
def wJ {CX:wa}{P:Program}{w:World}{K:Frag}{mg:Str->Option Value}{base:Heap}{N ps:List Str}{qual:Str}{scope:Scope}{f:Addr}{cd:Value}{A:Around}{outer:List Env}{s s1:Shared}{H:Hp}{E:XK}{us:List Value}{vs:List V}
  (S:aF N ps scope) (hd:A.handled=none) (e0:Am P w K mg base A outer s H) (hl:vs.length=ps.length) (r:Vals vs us)
  (x:InCallC s s.heap.objs.size (bindL (envOfC qual scope s.heap.objs.size f cd).kindOf (ps.zip us) λ_=>none) (cellsFrom (s.heap.objs.size + 1) scope.names []) (bindC (envOfC qual scope s.heap.objs.size f cd).kindOf (ps.zip us) λ_=>none) s1) :
  Inv (nC CX P w K mg base N qual scope f cd A outer s H E) [] (start N vs) H s1:=by
 have hpl:ps.length<=N.length:=by have:=congrArg List.length S.pre;rw[IE] at this;omega
 obtain⟨h1,tk,rfl,hk⟩:=x.done
 have noA:∀b:Addr,b∉(nC CX P w K mg base N qual scope f cd A outer s H E).ex:=λb z=>absurd (show b∈([]:List Addr) from z) (by simp)
 refine⟨⟨e0.mod,S.kind,rfl,rfl,Hy _,λy z c h1 h2=>?_,λy hy=>?_,λy c _ h=>?_,λ_=>hd,Around.frames_deeper e0.frames,.inr ⟨rfl,rfl⟩,λb z=>absurd z (noA b),e0.bs,e0.bsz,λb _ _=>noA b,λb z=>absurd z (noA b),e0.funs,e0.frf⟩,
  rfl,e0.bare,Un.kept hk,⟨_,x.toInCall.ns,λi y v h1 h2 h3=>?_⟩,λy c h=>⟨_,x.cell y c h⟩,e0.hok.fresh (Hy _),λy c h=>?_,λp hp=>absurd (show p∈([]:List (Addr×Obj)) from hp) (by simp),e0.hok.kept hk,?_⟩
 ·exact name_of_addr x.apart (JE h1) (JE h2)
 ·have hy:scope.names.lookup y=some .cell\/scope.names.lookup y=some .free:=hy
  rcases hy with hy |hy
  ·exact sg hy
  ·exact absurd rfl (S.nofree _ (JE hy))
 ·exact Nat.le_of_lt (x.above y c (JE h))
 ·have hi:i < vs.length:=by
   unfold start at h2
   by_cases hi:i < vs.length
   ·exact hi
   ·rw[Iz (by simpa using hi)] at h2
    rw[Jf] at h2
    split at h2 <;> cases h2
  have ha:vs[i]? =some v:=by
   unfold start at h2
   rw[IB (by simpa using hi),HL] at h2
   cases e:vs[i]? with
   |none=>rw[e] at h2;cases h2
   |some a=>rw[e] at h2;cases h2;rfl
  obtain⟨u,hu,rv⟩:=r.get ha
  have hp:ps[i]? =some y:=by
   rw[<-S.pre,Kj (by omega)];exact h1
  have ndP:ps.Nodup:=by rw[<-S.pre];exact S.nd.sublist (JL _ _)
  refine⟨u,rv,?_⟩
  rcases S.par y (HN hp) with k |k
  ·exact .inl ⟨k,om ndP hp hu k⟩
  ·obtain⟨c,e⟩:=sg (n:=s.heap.objs.size + 1) k
   refine .inr ⟨.inl k,c,e,?_⟩
   have q:=x.cell y c e
   rw[n9 ndP hp hu (by show scope.names.lookup y≠_;rw[k];decide)] at q
   exact q
 ·exact e0.hok.fresh (Nat.le_of_lt (x.above y c (JE h)))
 ·unfold start
  show _=N.length
  rw[Ik,HF,JJ]
  omega
theorem Ca {CX:wa}{P:Program}{w:World}{K:Frag}{mg:Str->Option Value}{base:Heap}{k:Nat}{f:Addr}{name qual:Str}{params:Arguments}{body:List Stmt}{scope:Scope}{dV kV doc pm cdv ct oc:Value}{an od:Option Addr}
  {osl:Array (Option Value)} {N ps:List Str} {sp:Sp} (lk:K.lookup f=some ⟨oc,od,.func (PySem.W.fnOf name qual params body scope dV kV doc pm an cdv ct),osl⟩) (hcd:PySem.W.codeIn K cdv qual=true) (S:aF N ps scope)
  (len:∀vs H Q E,sp vs H Q E->vs.length=ps.length)
  (hbody:∀(A:Around) (outer:List Env) (s:Shared) (H:Hp) (vs:List V) (Q:VK) (E:XK),cX k (A.deeper (envOfC qual scope s.heap.objs.size f cdv))->sp vs H Q E->
   ∃t,nE (nC CX P w K mg base N qual scope f cdv A outer s H E) body t/\t {nx:=λ_ H'=>Q .non H',rt:=Q} (start N vs) H) :
  dw P w K mg base CX (k + 1) f (PySem.W.fnOf name qual params body scope dV kV doc pm an cdv ct) ps sp:=by
 refine⟨len,λA outer s H args us vs Q E hr e0 hb r hsp=>?_⟩
 have hl:=len _ _ _ _ hsp
 have KX:K.In s.heap:=e0.mod.kin.keeps λb o e=>(e0.bs b o e).1
 have lim:s.heap.NoLimit:=e0.mod.nolimit.keeps λb o e=>(e0.bs b o e).1
 have hkind:∀y∈ps.zip us,scope.names.lookup y.1=some .local\/(scope.names.lookup y.1=some .cell/\((cellsFrom (s.heap.objs.size + 1) scope.names []).lookup y.1).isSome=true):=λ⟨n,v⟩ hy=>by
  rcases S.par n (List.of_mem_zip hy).1 with q |q
  ·exact .inl q
  ·exact .inr ⟨q,PySem.W.cellsFrom_some _ _ _ (.inl q)⟩
 refine codeAny_call_function hr.depth (KX _ _ lk) rfl S.co S.gen rfl (PySem.W.codeRec_of KX hcd) (hb _ _ _ _ ?_)
 refine wpAny_newFunctionEnv_cells S.kind hkind λenv he s1 x=>?_
 subst he
 refine⟨lim.keeps x.toInCall.keep,codeAny_func ?_⟩
 obtain⟨t,ht,hq⟩:=hbody A outer s H vs Q E (hr.deeper _) hsp
 have I:Inv (nC CX P w K mg base N qual scope f cdv A outer s H E) [] (start N vs) H s1:=wJ S hr.hd e0 hl r x
 refine Jc (ht [] s1 (start N vs) H _ I hq) (λfl s' hs=>?_) λe s' hs=>hs
 have fin:∀{σ':St} {H':Hp} {v:V} {u:Value},Inv (nC CX P w K mg base N qual scope f cdv A outer s H E) [] σ' H' s'->RelV v u->Q v H'->CE outer P w H s Q u s':=
  λ{σ' H' v u} J rv q=>⟨v,H',J.os,J.bare,J.base,J.hok,rv,q⟩
 cases fl with
 |ret u=>
  obtain⟨v,σ',H',J,rv,q⟩:=hs
  exact fin J rv q
 |next=>
  obtain⟨σ',H',J,q⟩:=hs
  exact fin (v:=V.non) (u:=Value.none) J rfl q
 |brk=>
  obtain⟨_,_,_,q⟩:=hs
  exact False.elim q
 |cont=>
  obtain⟨_,_,_,q⟩:=hs
  exact False.elim q
section
variable {X:Cx}{x:Str}{p pos:Pos}{e:Expr}{es:List Expr}{t:TA}{id T:String}{r:List V->Hp->VK->Prop}
def Hg (r:List V->Hp->VK->Prop)(t:TA):TE:=λσ H Q=>t σ H λvs H1=>r vs H1 Q
def iN (hc:cf X (.builtin id) r)(hg:Gl X x)(hm:X.mg x=none)(hv:bootBuiltins x=some (.builtin id))(ha:PA X (e :: es) t)(hn:x≠"__name__":=by decide)(hdb:(x == ("__debug__":Str))=false:=by decide)
  (he:starEach (e :: es) X.env=(false,eval e X.env) :: starEach es X.env:=by rfl) (hpl:(backTo pos (starEach es X.env)).any (·.1)=false:=by rfl):PE X (.Call (.Name x p) (e :: es) [] pos) (Hg r t):=by
 intro pins s σ H Q I h
 refine wpAny_Call_Name_kw (kI I hg hm hv ?_ hn hdb)
 exact PyProof.Rows.callWith_builtin1 (b4 (ha pos pins s σ H _ I h) λus s1 ⟨vs,H1,I1,r1,q1⟩=>hc pins s1 σ H1 vs us Q I1 r1 q1) he hpl
def gM (hc:cf X (.type T) r)(hg:Gl X x)(hm:X.mg x=none)(hv:bootBuiltins x=some (.type T))(ha:PA X (e :: es) t)(hn:x≠"__name__":=by decide)(hdb:(x == ("__debug__":Str))=false:=by decide)
  (he:starEach (e :: es) X.env=(false,eval e X.env) :: starEach es X.env:=by rfl) (hpl:(backTo pos (starEach es X.env)).any (·.1)=false:=by rfl):PE X (.Call (.Name x p) (e :: es) [] pos) (Hg r t):=by
 intro pins s σ H Q I h
 refine wpAny_Call_Name_kw (kI I hg hm hv ?_ hn hdb)
 exact JG (b4 (ha pos pins s σ H _ I h) λus s1 ⟨vs,H1,I1,r1,q1⟩=>hc pins s1 σ H1 vs us Q I1 r1 q1) he hpl
end
end L2
namespace HT
open PySem PyProof.Rows
def lexLt:List Int->List Int->Bool
 | [],[]=>false
 | [],_ :: _=>true
 |_ :: _,[]=>false
 |x :: xs,y :: ys=>if x=y then lexLt xs ys else decide (x < y)
def hJ (x y:Int)(xs ys:List Int):lexLt (x :: xs) (y :: ys)=if x=y then lexLt xs ys else decide (x < y):=rfl
def xW (A:Around)(s:Shared)(a:Int)(t:Tok)(c:Int)(u:Tok):∃e,SeqAt.EqAt A s (.int a t) (.int c u) e/\(e=true↔a=c):=
 ⟨(a == c),SeqAt.EqAt.int_int a t c u,by simp⟩
def rB (A:Around)(s:Shared)(a:Int)(t:Tok)(c:Int)(u:Tok)(prog:Program)(w:World)(E:Value->Shared->Prop)(Q:Value->Shared->Prop)(h:Q (.bool (decide (a < c))) s) :
  wpAny (model prog w) A (richCompare .Lt (.int a t) (.int c u)) Q E s:=
 (PyProof.Rows.lt_int h:wpAny (model prog w) A (compareOp .Lt (.int a t) (.int c u)) Q E s)
section
open PySem.SeqAt
open PySem.AutoSeq1 (wpAny_loadPart')
open PySem.MeetsSeq PySem.MeetsSeq2 PySem.MeetsSeq3
end
section
variable {prog:Program}{w:World}{A:Around}{E:Value->Shared->Prop}{s:Shared}
def nZ (n d:Nat):Option Int->Nat
 |none=>d
 |some v=>if v < 0 then (v + (n:Int)).toNat else min v.toNat n
def rF (n d:Nat):nZ n d none=d:=rfl
def uw (n d k:Nat):nZ n d (some (k:Int))=min k n:=by
 show (if (k:Int) < 0 then ((k:Int) + (n:Int)).toNat else min (k:Int).toNat n)=min k n
 rw[HI (by omega),IJ]
end
end HT
namespace L2
open PySem PySem.Spec PyProof.Rows
abbrev TO:=St->Hp->(Option Int->Hp->Prop)->Prop
def PO (X:Cx)(e:Option Expr)(t:TO):Prop:=
 ∀(pins:List (Addr×Obj)) (s:Shared) (σ:St) (H:Hp) (Q:Option Int->Hp->Prop),Inv X pins σ H s->t σ H Q->
  wpAny (model X.prog X.w) X.A (evalPart e X.env) (λu s'=>∃o H',Inv X pins σ H' s'/\IsPart u o/\Q o H') X.xe s
def Aj:TO:=λ_ H Q=>Q none H
def Ei (t:TE):TO:=λσ H Q=>t σ H λx H1=>∃i,x=.int i/\Q (some i) H1
theorem intsAre_of {ns:List Int}:∀{us:List Value},Vals (ns.map V.int) us->IntsAre us ns:=by
 induction ns with
 |nil=>intro us r;rw[Kk] at r;cases r;exact .nil
 |cons n ns ih=>
  intro us r
  rw[ID] at r
  cases r with
  |cons r1 r2=>
   obtain⟨t,e⟩:=r1
   subst e
   exact .cons n t (ih r2)
section
variable {X:Cx}{e:Expr}{te:TE}{lo hi:Option Expr}{tl th:TO}{pos p2:Pos}
def By:PO X none Aj:=by
 intro pins s σ H Q I h
 rw[evalPart_none]
 exact HE ⟨none,H,I,.none,h⟩
def A7 (h:PE X e te):PO X (some e) (Ei te):=by
 intro pins s σ H Q I hw
 rw[evalPart_some]
 refine b4 (h pins s σ H _ I hw) λu s1 ⟨x,H1,I1,r1,q1⟩=>?_
 obtain⟨i,rfl,q⟩:=q1
 obtain⟨t,rfl⟩:=r1
 exact⟨some i,H1,I1,.int i t,q⟩
def GW (X:Cx)(r:V->Option Int->Option Int->Hp->VK->Prop):Prop:=
 ∀(pins:List (Addr×Obj)) (s:Shared) (σ:St) (H:Hp) (x:V) (v vl vu:Value) (lo hi:Option Int) (sl:Addr) (Q:VK),Inv X pins σ H s->RelV x v->s.heap.IsSliceOf sl vl vu .none->IsPart vl lo->IsPart vu hi->r x lo hi H Q->
  ∃T id,typeLookup (.type T) "__getitem__"=pure (some (.builtin id))/\s.TypeIs v T/\wpAny (model X.prog X.w) X.A (getItem v (.ref sl)) (EP X pins σ Q) X.xe s
def Hk (r:V->Option Int->Option Int->Hp->VK->Prop)(te:TE)(tl th:TO):TE:=λσ H Q=>te σ H λx H1=>tl σ H1 λl H2=>th σ H2 λu H3=>r x l u H3 Q
def zb {r:V->Option Int->Option Int->Hp->VK->Prop}(hr:GW X r)(he:PE X e te)(hl:PO X lo tl)(hu:PO X hi th):PE X (.Subscript e (.Slice lo hi none p2) pos) (Hk r te tl th):=by
 intro pins s σ H Q I h
 refine Subscript_ (b4 (he pins s σ H _ I h) λv s1 ⟨x,H1,I1,r1,q1⟩=>?_)
 refine wpAny_Slice (b4 (hl pins s1 σ H1 _ I1 q1) λvl s2 ⟨l,H2,I2,pl,q2⟩=>b4 (hu pins s2 σ H2 _ I2 q2) λvu s3 ⟨u,H3,I3,pu,q3⟩=>?_)
 rw[evalPart_none]
 refine HE ?_
 have I4:Inv X pins σ H3 {s3 with heap:=s3.heap.push {cls:=.type "slice",data:=.fields #[vl,vu,.none]}}:=I3.kept (t':=s3.toks) λb ob q=>Hw _ q
 obtain⟨T,id,hT,ht,hg⟩:=hr pins {s3 with heap:=s3.heap.push {cls:=.type "slice",data:=.fields #[vl,vu,.none]}} σ H3 x v vl vu l u s3.heap.objs.size Q I4 r1 (Heap.IsSliceOf.new ..) pl pu q3
 show wpAny (model X.prog X.w) X.A (subscriptTail e (.Slice lo hi none p2) v (.ref s3.heap.objs.size)) (EP X pins σ Q) X.xe {s3 with heap:=s3.heap.push {cls:=.type "slice",data:=.fields #[vl,vu,.none]}}
 exact tail_any (ops:=[.ref s3.heap.objs.size,v]) ht hT hg (by with_unfolding_all rfl)
def tE (xs:List V)(lo hi:Option Int):List V:=(xs.drop (HT.nZ xs.length 0 lo)).take (HT.nZ xs.length xs.length hi - HT.nZ xs.length 0 lo)
def qu (xs:List V)(lo hi:Option Int):(tE xs lo hi).length<=xs.length:=by
 unfold tE
 rw[IE,List.length_drop]
 omega
end
def vi (n:Nat)(i:Int):Option Nat:=if 0<=i then (if i < n then some i.toNat else none) else if -(n:Int)<=i then some (i + n).toNat else none
def i4 {α:Type}(xs:List α)(i:Int):Option α:=(vi xs.length i).bind λj=>xs[j]?
def vh {n:Nat}{i:Int}{j:Nat}(h:vi n i=some j):seqIndex? i n=some j/\j < n/\ -(n:Int)<=i/\i < n:=by
 unfold vi at h
 by_cases h0:0<=i
 ·rw[HA h0] at h
  by_cases h1:i < n
  ·rw[HA h1] at h
   have e:i.toNat=j:=Option.some.inj h
   exact⟨by rw[seqIndex_of h0 h1,e],by omega,by omega,h1⟩
  ·rw[HI h1] at h;cases h
 ·rw[HI h0] at h
  by_cases h1: -(n:Int)<=i
  ·rw[HA h1] at h
   have e:(i + n).toNat=j:=Option.some.inj h
   exact⟨by rw[seqIndex_neg (by omega) h1,e],by omega,h1,by omega⟩
  ·rw[HI h1] at h;cases h
theorem qk {α:Type}{xs:List α}{i:Int}{v:α}(h:i4 xs i=some v):∃j,seqIndex? i xs.length=some j/\xs[j]? =some v/\j < xs.length/\ -(xs.length:Int)<=i/\i < xs.length:=by
 unfold i4 at h
 cases e:vi xs.length i with
 |none=>rw[e] at h;cases h
 |some j=>
  rw[e] at h
  obtain⟨h1,h2,h3,h4⟩:=vh e
  exact⟨j,h1,h,h2,h3,h4⟩
def lF {α:Type}{xs:List α}{j:Nat}{v:α}(h:xs[j]? =some v):i4 xs (j:Int)=some v:=by
 have hj:j < xs.length:=(HB.mp h).1
 have e:vi xs.length (j:Int)=some j:=by
  unfold vi
  rw[HA (by omega),HA (by omega)];simp
 unfold i4;rw[e];exact h
def pG (b:Expr):Prop:=∀o i,subscripted b false o i=operate [o,i] (getItem o i)
def zf (X:Cx)(r:R2):Prop:=
 ∀(value slice:Expr) (pins:List (Addr×Obj)) (s:Shared) (σ:St) (H:Hp) (x y:V) (v u:Value) (Q:VK),Inv X pins σ H s->RelV x v->RelV y u->r x y H Q->
  subscripted slice false v u=operate [v,u] (getItem v u)->wpAny (model X.prog X.w) X.A (subscriptTail value slice v u) (EP X pins σ Q) X.xe s
def Ht (X:Cx)(id:String)(r:V->List V->Hp->VK->Prop):Prop:=
 ∀(pins:List (Addr×Obj)) (s:Shared) (σ:St) (H:Hp) (x:V) (xs:List V) (v:Value) (us:List Value) (Q:VK),Inv X pins σ H s->RelV x v->Vals xs us->r x xs H Q->
  wpAny (model X.prog X.w) X.A (call (.builtin id) (v :: us)) (EP X pins σ Q) X.xe s
section
variable {X:Cx}{a b:Expr}{ta tb:TE}{pos:Pos}
def zf.or {r r':R2}(h:zf X r)(h':zf X r'):zf X (λx y H Q=>r x y H Q\/r' x y H Q):=by
 intro value slice pins s σ H x y v u Q I rx ry q hs
 rcases q with q |q
 ·exact h value slice pins s σ H x y v u Q I rx ry q hs
 ·exact h' value slice pins s σ H x y v u Q I rx ry q hs
def iX {r:R2}(hr:zf X r)(ha:PE X a ta)(hb:PE X b tb)(hs:pG b):PE X (.Subscript a b pos) (Fl r ta tb):=by
 intro pins s σ H Q I h
 exact Subscript_ (Dj ha hb I h λv u s2 x y H2 I2 rx ry q=>hr a b pins s2 σ H2 x y v u Q I2 rx ry q (hs _ _))
def DR (K:Frag):R2:=λx y H Q=>∃p xs i v,x=.ref p/\y=.int i/\dJ K H p xs/\i4 xs i=some v/\Q v H
def Ea (K:Frag):R2:=λx y H Q=>∃p xs i v,x=.ref p/\y=.int i/\fK K H p xs/\i4 xs i=some v/\Q v H
def Ez:R2:=λx y H Q=>∃z i c,x=.str z/\y=.int i/\z.length<=sizeLine/\i4 z.cps.toList i=some c/\Q (.str ⟨#[c]⟩) H
def dA:zf X (DR X.K):=by
 intro value slice pins s σ H x y v u Q I rx ry h hs
 obtain⟨p,xs,i,z,rfl,rfl,hq,he,q⟩:=h
 cases rx
 obtain⟨t,rfl⟩:=ry
 obtain⟨its,r,pl,hz⟩:=I.list hq
 obtain⟨j,h1,h2,h3,h4,h5⟩:=qk he
 obtain⟨w,ew,rw'⟩:=r.get h2
 have hl:=r.length
 have hn:=kC
 have fin:EP X pins σ Q w s:=⟨z,H,I,rw',q⟩
 by_cases h0:0<=i
 ·have hj:i.toNat=j:=by
   rw[seqIndex_of h0 h5] at h1
   exact Option.some.inj h1
  exact item_listR pl.isList h0 (by omega) (by rw[hj];simpa using ew) fin hs
 ·have hj:(i + (its.toArray.size:Int)).toNat=j:=by
   rw[seqIndex_neg (by omega) h4] at h1
   rw[HW,<-hl]
   exact Option.some.inj h1
  exact subscriptTail_builtinR (x:=w) pl.isList.typeIs slot_list_getitem.lookup
   (wpAny_getItem_list_neg (Q:=λr s'=>r=w/\EP X pins σ Q r s') pl.isList (by omega) (by rw[HW] <;> omega) (by omega) (by rw[hj];simpa using ew) ⟨rfl,fin⟩) hs
def DM:zf X (Ea X.K):=by
 intro value slice pins s σ H x y v u Q I rx ry h hs
 obtain⟨p,xs,i,z,rfl,rfl,hq,he,q⟩:=h
 cases rx
 obtain⟨t,rfl⟩:=ry
 obtain⟨its,r,pl,hz⟩:=I.tuple hq
 obtain⟨j,h1,h2,h3,h4,h5⟩:=qk he
 obtain⟨w,ew,rw'⟩:=r.get h2
 have hl:=r.length
 have hn:=kC
 have fin:EP X pins σ Q w s:=⟨z,H,I,rw',q⟩
 exact subscriptTail_builtinR (x:=w) pl.typeIs slot_tuple_getitem.lookup
  (getItem_tuple (j:=j) (Q:=λr s'=>r=w/\EP X pins σ Q r s') pl (by omega) (by omega) (by rw[HW,<-hl];exact h1) (by simpa using ew) ⟨rfl,fin⟩) hs
def CW:zf X Ez:=by
 intro value slice pins s σ H x y v u Q I rx ry h hs
 obtain⟨z,i,c,rfl,rfl,hz,he,q⟩:=h
 obtain⟨t,rfl⟩:=rx
 obtain⟨t',rfl⟩:=ry
 obtain⟨j,h1,h2,h3,h4,h5⟩:=qk he
 have hl:z.cps.toList.length=z.length:=by simp[Str.length]
 rw[hl] at h1 h4 h5
 have hn:=kC
 exact tail_any (typeIs_str s z t) slot_str_getitem.lookup (getItem_str (c:=c) (by
  have e1:decide (i < -(2 ^ 63:Int))=false:=HV (by omega)
  have e2:decide (i>=2 ^ 63)=false:=HV (by omega)
  rw[e1,e2,Bool.or_false]) (by rw[h1];simpa using h2) ⟨.str ⟨#[c]⟩,H,I.tok _,⟨_,rfl⟩,q⟩) hs
def G6 (K:Frag):R2:=λx y H Q=>DR K x y H Q\/Ea K x y H Q\/Ez x y H Q
def bM:zf X (G6 X.K):=dA.or (DM.or CW)
def uc (its:List Value)(n j:Nat)(u:Value):Obj.mapSeq (·.setIfInBounds j u) {cls:=.type "list",data:=.seq its.toArray n}={cls:=.type "list",data:=.seq (its.set j u).toArray n}:=by
 simp[Obj.mapSeq]
def Inv.lst {pins:List (Addr×Obj)}{σ:St}{H:Hp}{s:Shared}{p:Addr}{xs:List V}(I:Inv X pins σ H s)(h:H p=some (.lst xs)) :
  ∃(its:List Value) (n:Nat),Vals xs its/\s.heap.get? p=some {cls:=.type "list",data:=.seq its.toArray n}/\xs.length<=sizeLine:=by
 obtain⟨z,its,n,r,e⟩:=I.hok p _ h
 exact⟨its,n,r,e,z⟩
def Inv.lstUpd {pins:List (Addr×Obj)}{σ:St}{H:Hp}{s:Shared}{p:Addr}{xs ys:List V}{its its':List Value}{n n':Nat}{f:Obj->Obj}(I:Inv X pins σ H s)(h:H p=some (.lst xs))
  (ho:s.heap.get? p=some {cls:=.type "list",data:=.seq its.toArray n}) (hf:f {cls:=.type "list",data:=.seq its.toArray n}={cls:=.type "list",data:=.seq its'.toArray n'}) (r:Vals ys its') (hz:ys.length<=sizeLine) (t:Nat) :
  Inv X pins σ (upd H p (.lst ys)) {s with heap:=s.heap.update p f,toks:=t}:=by
 have e:(s.heap.update p f).get? p=some {cls:=.type "list",data:=.seq its'.toArray n'}:=by
  rw[IL f ho (by rw[hf] <;> rfl),hf]
 refine I.write (x:=p) (e:=p) (by rw[h];trivial) (.inl rfl) (λb u hb q=>(IU _ _ (Ne.symm hb)).trans q) ⟨_,e⟩ ?_
 exact⟨hz,its',n',r,e⟩
def El:V->V->V->Hp->(Hp->Prop)->Prop:=λo i v H Q=>∃p xs k j,o=.ref p/\i=.int k/\H p=some (.lst xs)/\vi xs.length k=some j/\Q (upd H p (.lst (xs.set j v)))
def set_list:pE X El:=by
 intro pins s σ H o i v ov iv u Q I ro ri rv h
 obtain⟨p,xs,k,j,rfl,rfl,hp,hj,q⟩:=h
 cases ro
 obtain⟨t,rfl⟩:=ri
 obtain⟨its,n,r,ho,hz⟩:=I.lst hp
 obtain⟨h1,h2,h3,h4⟩:=vh hj
 have hl:=r.length
 have hn:=kC
 have I':Inv X pins σ (upd H p (.lst (xs.set j v))) {s with heap:=s.heap.update p (Obj.mapSeq (·.setIfInBounds j u))}:=
  I.lstUpd hp ho (uc its n j u) (r.set rv j) (by rw[Jh];exact hz) s.toks
 by_cases h0:0<=k
 ·have hk:k.toNat=j:=by
   rw[seqIndex_of h0 h4] at h1
   exact Option.some.inj h1
  exact PySem.W.ki_setAt ho h0 (by omega) (by rw[HW,<-hl];exact h4) (by rw[hk];exact⟨_,I',q⟩)
 ·have hk:(k + (its.toArray.size:Int)).toNat=j:=by
   rw[seqIndex_neg (by omega) h3] at h1
   rw[HW,<-hl]
   exact Option.some.inj h1
  exact PySem.W.ki_setBack ho (by omega) (by rw[HW,<-hl];exact h3) (by omega) (by rw[hk];exact⟨_,I',q⟩)
def p0 (lo hi:Option Int)(n:Nat):(sliceBounds lo hi none n).1=((HT.nZ n 0 lo:Nat):Int)/\(sliceBounds lo hi none n).2.1=((HT.nZ n n hi:Nat):Int)/\(sliceBounds lo hi none n).2.2=1:=by
 refine⟨?_,?_,rfl⟩
 ·cases lo with
  |none=>simp[sliceBounds,HT.nZ]
  |some i=>
   simp only[sliceBounds,HT.nZ,Option.getD_none,show (1:Int) > 0 by decide,IM]
   by_cases h:i < 0
   ·simp only[h,IM] <;> omega
   ·simp only[h,Im] <;> omega
 ·cases hi with
  |none=>simp[sliceBounds,HT.nZ]
  |some i=>
   simp only[sliceBounds,HT.nZ,Option.getD_none,show (1:Int) > 0 by decide,IM]
   by_cases h:i < 0
   ·simp only[h,IM] <;> omega
   ·simp only[h,Im] <;> omega
def nv (its:List Value)(lo hi:Option Int):slicePick its.toArray lo hi none=((its.drop (HT.nZ its.length 0 lo)).take (HT.nZ its.length its.length hi - HT.nZ its.length 0 lo)).toArray:=by
 obtain⟨h1,h2,h3⟩:=p0 lo hi its.toArray.size
 unfold slicePick
 rw[h1,h2,h3]
 simp only[sliceRange_one,pick_run,HW] <;> rfl
def GF (K:Frag):V->Option Int->Option Int->Hp->VK->Prop:=λx lo hi H Q=>∃a xs,x=.ref a/\dJ K H a xs/\∀p,H p=none->Q (.ref p) (upd H p (.lst (tE xs lo hi)))
def AH:GW X (GF X.K):=by
 intro pins s σ H x v vl vu lo hi sl Q I rx hs pl pu h
 obtain⟨a,xs,rfl,hx,q⟩:=h
 cases rx
 obtain⟨its,r,ht,hz⟩:=I.list hx
 have hlen:=r.length
 refine⟨"list",_,slot_list_getitem.lookup,ht.isList.typeIs,?_⟩
 refine wpAny_getItem_list_slice ht.isList hs pl pu .none (by simp) ?_ (by rw[HW] <;> omega)
 rw[nv,<-hlen]
 refine⟨.ref s.heap.objs.size,_,I.laid (t':=s.toks) (o:=.lst (tE xs lo hi)) (λb ob q=>Hw _ q) (Hy _) ?_,rfl,q _ (I.hok.fresh (Hy _))⟩
 exact⟨IW (qu xs lo hi) hz,_,0,(r.drop (HT.nZ xs.length 0 lo)).take (HT.nZ xs.length xs.length hi - HT.nZ xs.length 0 lo),HU _ rfl⟩
def pf:cf X (.type "list") (λxs H Q=>∃p ys,xs= [.ref p]/\(dJ X.K H p ys\/fK X.K H p ys)/\∀l,H l=none->Q (.ref l) (upd H l (.lst ys))):=by
 intro pins s σ H xs us Q I r h
 obtain⟨p,ys,rfl,hq,q⟩:=h
 obtain⟨u,rfl,rx⟩:=vals1 r
 cases rx
 have fin:∀(its:List Value),Vals ys its->ys.length<=sizeLine->∀(h':Heap) (c':Nat),(∀b o',s.heap.get? b=some o'->h'.get? b=some o')->
   h'.get? s.heap.objs.size=some {cls:=.type "list",dict:=none,data:=.seq its.toArray c',slots:=#[]}->EP X pins σ Q (.ref s.heap.objs.size) {s with heap:=h'}:=λits r' hz h' c' kp e=>
  ⟨.ref s.heap.objs.size,_,I.laid (t':=s.toks) kp (Hy _) (show bL X.prog X.w _ h' _ (.lst ys) from⟨hz,its,c',r',e⟩),rfl,q _ (I.hok.fresh (Hy _))⟩
 rcases hq with hq |hq
 ·obtain⟨its,r',pl,hz⟩:=I.list hq
  have hlen:=r'.length
  obtain⟨o,ho,hc,n,hd⟩:=pl.isList
  exact call_list_seq p (.inl rfl) ho hc hd (λh' c' kp e=>fin its r' hz h' c' kp e) (by simp only[HW] <;> omega)
 ·obtain⟨its,r',pl,hz⟩:=I.tuple hq
  have hlen:=r'.length
  obtain⟨o,ho,hc,n,hd⟩:=pl
  exact call_list_seq p (.inr rfl) ho hc hd (λh' c' kp e=>fin its r' hz h' c' kp e) (by simp only[HW] <;> omega)
def jl:cf X (.type "tuple") (λxs H Q=>∃p ys,xs= [.ref p]/\((dJ X.K H p ys/\∀l,H l=none->Q (.ref l) (upd H l (.tup ys)))\/(fK X.K H p ys/\Q (.ref p) H))):=by
 intro pins s σ H xs us Q I r h
 obtain⟨p,ys,rfl,h⟩:=h
 obtain⟨u,rfl,rx⟩:=vals1 r
 cases rx
 rcases h with⟨hq,q⟩ | ⟨hq,q⟩
 ·obtain⟨its,r',pl,hz⟩:=I.list hq
  have hlen:=r'.length
  refine call_tuple_list pl.isList (λh' kp=>?_) (by simp only[HW] <;> omega)
  have I1:Inv X pins σ H {s with heap:=h'}:=I.kept (t':=s.toks) kp
  have I2:Inv X pins σ (upd H h'.objs.size (.tup ys)) {s with heap:=h'.push {cls:=.type "tuple",data:=.seq its.toArray}}:=
   I1.laid (t':=s.toks) (λb o e=>Hw _ e) (Hy _) (show bL X.prog X.w _ _ _ (.tup ys) from⟨hz,its,r',rY.new _ _⟩)
  exact⟨.ref h'.objs.size,_,I2,rfl,q _ (I1.hok.fresh (Hy _))⟩
 ·obtain⟨its,r',pl,hz⟩:=I.tuple hq
  exact call_tuple_same pl ⟨.ref p,H,I,rfl,q⟩
def Ha (K:Frag)(T:String)(x:V)(H:Hp):Prop:=match x with
 | .str _=>T="str"
 | .int _=>T="int"
 | .ref p=>(T="list"/\∃xs,dJ K H p xs)\/(T="tuple"/\∃o,K.lookup p=some o/\o.cls=.type "tuple"/\o.dict=none)\/
   (T="dict"/\((∃kvs,H p=some (.dK kvs))\/∃kvs,H p=some (.dT kvs)))\/(T="set"/\∃S n,H p=some (.set S n))
 |_=>False
theorem CL {pins:List (Addr×Obj)}{σ:St}{H:Hp}{s:Shared}{T:String}{x:V}{v:Value}(I:Inv X pins σ H s)(r:RelV x v)(ty:Ha X.K T x H) :
  s.TypeIs v T/\∀a,v=.ref a->∃ob,s.heap.get? a=some ob/\ob.dict=none:=by
 cases x with
 |str z=>
  obtain⟨t,rfl⟩:=r
  cases (show T="str" from ty)
  exact⟨typeIs_str s z t,λ_ e=>nomatch e⟩
 |int i=>
  obtain⟨t,rfl⟩:=r
  cases (show T="int" from ty)
  exact⟨typeIs_int s i t,λ_ e=>nomatch e⟩
 |ref p=>
  cases r
  rcases ty with⟨rfl,xs,hq⟩ | ⟨rfl,o,hk,hc,hd⟩ | ⟨rfl,hk⟩ | ⟨rfl,S,n,hk⟩
  ·obtain⟨its,_,pl,_⟩:=I.list hq
   refine⟨pl.isList.typeIs,λa e=>?_⟩
   cases e
   obtain⟨o,n,e,c,hd,_⟩:=pl
   exact⟨o,e,hd⟩
  ·refine⟨⟨o,I.kIn p o hk,hc⟩,λa e=>?_⟩
   cases e
   exact⟨o,I.kIn _ o hk,hd⟩
  ·have z:∃o,s.heap.get? p=some o/\o.ExactDict:=by
    rcases hk with⟨kvs,hk⟩ | ⟨kvs,hk⟩
    ·obtain⟨_,_,_,_,o,_,_,e,ex,_⟩:=I.hok p _ hk
     exact⟨o,e,ex⟩
    ·obtain⟨_,_,_,_,o,_,_,e,ex,_⟩:=I.hok p _ hk
     exact⟨o,e,ex⟩
   obtain⟨o,e,ex⟩:=z
   refine⟨⟨o,e,ex.1⟩,λa e2=>?_⟩
   cases e2
   exact⟨o,e,ex.2.1⟩
  ·obtain⟨o,_,_,_,e,ex,_⟩:=I.hok p _ hk
   refine⟨⟨o,e,ex.1⟩,λa e2=>?_⟩
   cases e2
   exact⟨o,e,ex.2.1⟩
 |_=>exact False.elim ty
def Hm (K:Frag)(T:String)(r:V->List V->Hp->VK->Prop)(to:TE)(t:TA):TE:=λσ H Q=>to σ H λx H1=>Ha K T x H1/\t σ H1 λxs H2=>r x xs H2 Q
variable {o e:Expr}{es:List Expr}{to:TE}{t:TA}{name:Str}{apos cpos:Pos}{T id:String}{r:V->List V->Hp->VK->Prop}
def rW (pa:PlainAttrs T)(slot:Slot T name id)(hty:typeOf (.builtin id)=pure (.type "method_descriptor"))(hm:Ht X id r)(ho:PE X o to)(ha:PA X (e :: es) t)
  (hbase:attributeBase o name X.env (eval o X.env)=eval o X.env:=by rfl)
  (hfew:((backTo cpos (starEach (e :: es) X.env)).all (λx=> !x.1) && (backToKw cpos (keywordEach [] X.env)).all (λx=>x.1.isSome)
   && decide ((e :: es).length + ([]:List Keyword).length + (if ([]:List Keyword).isEmpty then 0 else 1) < 30))=true:=by rfl)
  (hline:(apos.endLine == cpos.line)=true:=by rfl) (hs:starEach (e :: es) X.env=(false,eval e X.env) :: starEach es X.env:=by rfl) (hplain:(backTo cpos (starEach es X.env)).any (·.1)=false:=by rfl) :
  PE X (.Call (.Attribute o name apos) (e :: es) [] cpos) (Hm X.K T r to t):=by
 intro pins s σ H Q I h
 refine wpAny_Call_method_late hbase hfew hline rfl (b4 (ho pins s σ H _ I h) λv s1 ⟨x,H1,I1,r1,ty,q1⟩=>?_)
 obtain⟨h1,h2⟩:=CL I1 r1 ty
 refine⟨T,id,pa,slot,hty,h1,h2,?_⟩
 have hA:=ha cpos pins s1 σ H1 _ I1 q1
 rw[hs] at hA ⊢
 refine Calls.callWith_builtin (by show (false || (backTo cpos (starEach es X.env)).any (·.1))=false;rw[hplain] <;> rfl) (Calls.evalArgs_plain ?_)
 exact b4 hA λus s2 ⟨vs,H2,I2,r2,q2⟩=>hm pins s2 σ H2 x vs v us Q I2 r1 r2 q2
end
def GX (X:Cx)(id:String)(r:V->List V->Hp->VK->Prop):Prop:=
 ∀(pins:List (Addr×Obj)) (s:Shared) (σ:St) (H:Hp) (x:V) (xs:List V) (v:Value) (us:List Value) (Q:VK),Inv X pins σ H s->RelV x v->Vals xs us->r x xs H Q->
  wpAny (model X.prog X.w) X.A (call (.builtin id) (v :: us)) (EP X pins σ Q) X.xe s
theorem Vals.one:∀{x:V} {us:List Value},Vals [x] us->∃u,us= [u]/\RelV x u
 |_,_,.cons r .nil=>⟨_,rfl,r⟩
theorem Vals.eraseIdx:∀{xs:List V} {us:List Value} (i:Nat),Vals xs us->Vals (xs.eraseIdx i) (us.eraseIdx i)
 |_,_,_,.nil=>.nil
 |_,_,0,.cons _ t=>t
 |_,_,i + 1,.cons r t=>.cons r (Vals.eraseIdx i t)
theorem Vals.rep {xs:List V}{us:List Value}(h:Vals xs us):∀k:Nat,Vals (List.replicate k xs).flatten (List.replicate k us).flatten
 | 0=>.nil
 |k + 1=>by
  rw[JU,JU,JM,JM]
  exact Vals.append h (Vals.rep h k)
theorem nQ {α:Type}:∀(l:List α) (i:Nat),(l.eraseIdx i).length<=l.length
 | [],_=>Hy _
 |_ :: _,0=>Nat.le_succ _
 |_ :: r,i + 1=>Nat.succ_le_succ (nQ r i)
theorem foldl_rep (its:List Value):∀(k:Nat) (acc:List Value),
  List.foldl (λx1 x2=>x1 ++ x2) acc.toArray (List.replicate k its.toArray)=(acc ++ (List.replicate k its).flatten).toArray
 | 0,acc=>by simp
 |k + 1,acc=>by
  have e:acc.toArray ++ its.toArray=(acc ++ its).toArray:=by simp
  have e2:(acc ++ its) ++ (List.replicate k its).flatten=acc ++ (List.replicate (k + 1) its).flatten:=by
   rw[JU,JM,I0]
  rw[<-e2,<-foldl_rep its k (acc ++ its),<-e,JU,foldl_cons]
section
variable {X:Cx}{pins:List (Addr×Obj)}{σ:St}{H:Hp}{s:Shared}{l b:Addr}{xs ys zs:List V}
def Inv.lset {its its':List Value}{n:Nat}{f:Array Value->Array Value}{t':Nat}(I:Inv X pins σ H s)(hH:H l=some (.lst xs))
  (e:s.heap.get? l=some {cls:=.type "list",data:=.seq its.toArray n}) (hf:f its.toArray=its'.toArray) (hv:Vals ys its') (hz:ys.length<=sizeLine) :
  Inv X pins σ (upd H l (.lst ys)) {s with heap:=s.heap.update l (Obj.mapSeq f),toks:=t'}:=by
 have q:=PySem.IsL.update e f
 rw[hf] at q
 refine I.write (x:=l) (e:=l) (by rw[hH];exact trivial) (.inl rfl) (λb' u hb hu=>(IU s.heap (Obj.mapSeq f) (Ne.symm hb)).trans hu) ⟨_,q⟩ ?_
 exact⟨hz,its',_,hv,q⟩
def Inv.lnew {its:List Value}{t':Nat}(I:Inv X pins σ H s)(hv:Vals ys its)(hz:ys.length<=sizeLine) :
  Inv X pins σ (upd H s.heap.objs.size (.lst ys)) {s with heap:=s.heap.push {cls:=.type "list",data:=.seq its.toArray},toks:=t'}:=
 I.laid (λ_ _ q=>Hw _ q) (Hy _) ⟨hz,its,0,hv,HU _ rfl⟩
def Inv.fresh (I:Inv X pins σ H s):H s.heap.objs.size=none:=I.hok.fresh (Hy _)
def Inv.lstM (I:Inv X pins σ H s)(hH:H l=some (.lst xs)):xs.length<=sizeLine/\∃(its:List Value) (n:Nat),Vals xs its/\xs.length=its.length/\s.heap.get? l=some {cls:=.type "list",data:=.seq its.toArray n}:=by
 obtain⟨z,its,n,r,e⟩:=I.hok l _ hH
 exact⟨z,its,n,r,r.length,e⟩
def zG {n:Nat}(h:n<=sizeLine):Builtin.List.listTooLong n=false:=by
 unfold Builtin.List.listTooLong
 exact HV (by omega)
end
section
variable {X:Cx}
def AO:V->List V->Hp->VK->Prop:=λx vs H Q=>∃l xs y,x=.ref l/\vs= [y]/\H l=some (.lst xs)/\xs.length < sizeLine/\Q .non (upd H l (.lst (xs ++ [y])))
def gL:GX X "list.append" AO:=by
 intro pins s σ H x vs v us Q I rx rv h
 obtain⟨l,xs,y,rfl,rfl,hH,hz,q⟩:=h
 cases rx
 obtain⟨u,rfl,ru⟩:=rv.one
 obtain⟨z,its,n,r,hl,e⟩:=I.lstM hH
 refine call_meets F.slot_list_append ⟨_,e,rfl⟩ F.entry_list_append (F.args_list_append_2 _ _) (PySem.list_append l its.toArray n u (by rw[HW];omega)) ⟨e,?_⟩
 refine⟨.non,_,I.lset (its':=its ++ [u]) hH e (by simp) (r.append (.cons ru .nil)) ?_,rfl,q⟩
 rw[Ik,List.length_singleton]
 omega
def DK:V->List V->Hp->VK->Prop:=λx vs H Q=>∃l xs i k y,x=.ref l/\vs= [.int i]/\H l=some (.lst xs)/\ -(2 ^ 63)<=i/\i < 2 ^ 63/\seqIndex? i xs.length=some k/\xs[k]? =some y/\Q y (upd H l (.lst (xs.eraseIdx k)))
def yM:GX X "list.pop" DK:=by
 intro pins s σ H x vs v us Q I rx rv h
 obtain⟨l,xs,i,k,y,rfl,rfl,hH,h1,h2,hk,hy,q⟩:=h
 cases rx
 obtain⟨u,rfl,ru⟩:=rv.one
 obtain⟨t,rfl⟩:=ru
 obtain⟨z,its,n,r,hl,e⟩:=I.lstM hH
 obtain⟨w,hw,rw'⟩:=r.get hy
 refine call_meets F.slot_list_pop ⟨_,e,rfl⟩ F.entry_list_pop (F.args_list_pop_2 _ _)
  (MeetsSeq.list_pop_at l its.toArray n i t k w (fitsIndex_both h1 h2) (by rw[HW,<-hl];exact hk) (by rw[<-Jp];exact hw) (by rw[HW];omega)) ⟨e,?_⟩
 refine⟨y,_,I.lset (its':=its.eraseIdx k) hH e ?_ (r.eraseIdx k) ?_,rw',q⟩
 ·show its.toArray.eraseIdxIfInBounds k=(its.eraseIdx k).toArray
  rw[List.eraseIdxIfInBounds_toArray]
 ·have:=nQ xs k
  omega
def GA:R2:=λx y H Q=>∃l k xs,x=.ref l/\y=.int k/\H l=some (.lst xs)/\ -(2 ^ 63)<=k/\k < 2 ^ 63/\xs.length * k.toNat<=sizeLine/\
 ∀p,H p=none->Q (.ref p) (upd H p (.lst (List.replicate k.toNat xs).flatten))
theorem len_rep {α:Type}(xs:List α)(k:Nat):(List.replicate k xs).flatten.length=k * xs.length:=by
 induction k with
 |zero=>simp
 |succ k ih=>rw[JU,JM,Ik,ih,Nat.succ_mul,Nat.add_comm]
def DC:lH X (binaryOp .Mult) GA:=by
 intro pins s σ H x y v u Q I rx ry h
 obtain⟨l,k,xs,rfl,rfl,hH,h1,h2,hz,q⟩:=h
 cases rx
 obtain⟨t,rfl⟩:=ry
 obtain⟨z,its,n,r,hl,e⟩:=I.lstM hH
 have hlen:its.toArray.size * k.toNat<=sizeLine:=by rw[HW,<-hl];exact hz
 have hcap:¬its.toArray.size * k.toNat > (2 ^ 63 - 1) / 8:=by
  have:(sizeLine:Nat)<=(2 ^ 63 - 1) / 8:=by decide
  omega
 have hfit:¬(!Builtin.List.listFitsIndex k)=true:=by
  rw[fitsIndex_both h1 h2]
  exact Iw
 have hlong:¬Builtin.List.listTooLong (its.toArray.size * k.toNat)=true:=by
  rw[zG hlen]
  exact Iw
 have hnew:List.foldl (λx1 x2=>x1 ++ x2) #[] (List.replicate (if its.toArray.isEmpty=true then 0 else k.toNat) its.toArray)=(List.replicate k.toNat its).flatten.toArray:=by
  have f0:∀m:Nat,List.foldl (λx1 x2=>x1 ++ x2) #[] (List.replicate m its.toArray)=(List.replicate m its).flatten.toArray:=λm=>by
   have:=foldl_rep its m []
   rw[List.nil_append] at this
   exact this
  rw[f0]
  cases its with
  |nil=>simp
  |cons a r'=>rw[HI (by simp)]
 refine wpAny_binaryOp_repeat_ref (T:="list") (U:="int") (by decide) ⟨_,e,rfl⟩ (λs'=>typeIs_int s' k t) noFill_list_mul F.fills_int_mul F.slot_int_rmul repeat_list F.slot_int_index.lookup
  (call_meets F.slot_int_rmul (typeIs_int s k t) F.entry_int_rmul (F.args_int_rmul_2 _ _) (int___rmul___int_list k t l its.toArray n)
   ⟨e,rfl,⟨_,e,rfl⟩,call_meets F.slot_list_mul ⟨_,e,rfl⟩ F.entry_list_mul (F.args_list_mul_2 _ _) (AutoListH.list___mul___list_int_3 l its.toArray n k t hfit hcap hlong) ⟨e,?_⟩⟩)
 rw[hnew]
 exact⟨.ref _,_,I.lnew (t':=s.toks) (r.rep k.toNat) (by rw[len_rep,Nat.mul_comm];exact hz),rfl,q _ I.fresh⟩
end
end L2
namespace Att
open PySem PySem.W PySem.Calls PyProof.Rows
theorem lr {P:Params}{h:Heap}:∀(ns:List Int) (vs:List Value),WellAll P h vs (ns.map WData.int)->IntsAre vs ns:=by
 intro ns
 induction ns with
 |nil=>
  intro vs w
  rw[Kk] at w
  cases w
  exact .nil
 |cons n ns ih=>
  intro vs w
  rw[ID] at w
  cases w with
  |cons a b=>
   cases a
   exact .cons _ _ (ih _ b)
theorem wc {l:OpenLaw}{n:Nat}(hn:l.most=some n){P:Params}{h:Heap}{args:List WData}{vals:List Value}
  (hpre:l.row.toRowW.claim.pre args=true) (hwl:WellAll P h vals args) :
  ∃a vs ns,vals= [Value.ref a]/\args= [WData.list (ns.map WData.int)]/\h.get? a=some {cls:=.type "list",data:=.seq vs.toArray}/\IntsAre vs ns/\ns.length<=n:=by
 have hsh:WShape.hasAll [] args [.list .int]=true:=(pre_splitW hpre).1
 have hc:l.pre.holds [] {args:=args}=true:=(pre_splitW hpre).2
 obtain⟨d,r,rfl,h1,h2⟩:=hasAllW_cons hsh
 obtain rfl:=hasAllW_nil h2
 obtain⟨xs,rfl,h3⟩:=hasW_list h1
 obtain⟨ns,rfl⟩:=items_int h3
 have hlen:ns.length<=n:=by
  unfold OpenLaw.pre at hc
  have h4:(WTm.not (.lt (.lit (.int (n:Int))) (.len (.arg 0)))).holds [] {args:=[.list (ns.map .int)]}=true:=by
   have h4:=(holds_andW hc).1
   rw[hn] at h4
   exact h4
  have h5:=condW_of h4 (w_not (w_lt w_lit (w_len_list (w_arg rfl))))
  rw[HF] at h5
  refine Nat.le_of_not_lt λq=>?_
  have q':(n:Int) < ((ns.length:Nat):Int):=by omega
  first
   | (rw[HK q'] at h5;exact absurd h5 (by decide))
   | (simp at h5;omega)
 cases hwl with
 |cons w1 w2=>
  cases w2
  cases w1 with
  |list ho hall=>exact⟨_,_,ns,rfl,rfl,ho,lr ns _ hall,hlen⟩
def wt (l:OpenLaw)(args:List WData):l.row.toRowW.claim.post args (.bool true) args=true:=
 postW_of (r:=l.row.toRowW) (X:=(true == true))
  (show WShape.has [] (.bool true) .bool=true by first |rfl |decide |simp[WShape.has,WShape.arms,WShape.armsAll])
  (show (WTm.eq .res (.lit (.bool true))).value [] {args:=args,res:=some (.bool true),after:=args}=some (.bool (true == true)) from w_eq_bool (w_res rfl) w_lit) rfl
def qD {l:OpenLaw}{n:Nat}{q:Program}{loose:List Str}{XP:(Str->Option Value)->Heap->Prop}{YP:World->Heap->Prop}{d:DefRec}
  (hn:l.most=some n) (hdf:d.params.defaults= [])
  (call:∀(w:World) (s₀ s₁:Shared) (mg mb:Str->Option Value) (fa:Addr) (o:Obj) (pm cd doc:Value) (a:Addr) (vs:List Value) (ns:List Int),
   Ground q loose [] XP w s₀ mg mb s₁.heap->YP w s₁.heap->
   s₁.heap.get? fa=some o->o.data=.func (docDef d.name d.params d.body d.scope pm cd doc)->s₁.heap.CodeRec cd d.name->mg d.name=some (.ref fa)->
   s₁.heap.get? a=some {cls:=.type "list",data:=.seq vs.toArray}->IntsAre vs ns->ns.length<=n->s₁.gens=#[]->
   codeAny (model l.prog w) callerA (.call (.ref fa) ⟨[.ref a],[]⟩) (λr s'=>r=.ok (.ret (.bool true))/\OldK s₁.heap s'.heap/\s'.os=s₁.os/\AllBare s'.gens) s₁) :
  WalkO q loose XP YP l.row.toRowW d [] (λf vs=>PySem.call f vs):=by
 intro w s₀ s₁ mg mb G Y fa o pm cd doc dV kV ho hd hcd hD hmg hg args vals as hpre hlay hrd hwl hlo
 obtain rfl:dV=.none:=Dflts.none hD hdf
 obtain rfl:kV=.none:=Dflts.noKw hD
 obtain⟨a,vs,ns,rfl,rfl,hobj,hints,hlen⟩:=wc hn hpre hwl
 refine enter_call (Ki (call w s₀ s₁ mg mb fa o pm cd doc a vs ns G Y ho (fd_plain hd) hcd hmg hobj hints hlen hg) λr s' hq=>?_)
 obtain⟨rfl,h2,h3,h4⟩:=hq
 exact⟨.inl ⟨.bool true,.bool true,[],rfl,λ_=>rfl,.bool true,wt l _,λ_=>⟨List.Pairwise.nil,λ_ hm=>(nomatch hm)⟩⟩,h2,h3,h4⟩
end Att
namespace L2
open PySem PySem.Spec PyProof.Rows
theorem n0:∀{vs:List Value} {ns:List Int},IntsAre vs ns->Vals (ns.map V.int) vs
 |_,_,.nil=>.nil
 |_,_,.cons n t h=>.cons ⟨t,rfl⟩ (n0 h)
def CY (H:Hp):Prop:=∀b,H b=none\/∃o xs,H b=some (.aU o (.lst xs))
theorem yK {P:Program}{w:World}{K:Frag}{mg mb:Str->Option Value}{CX:wa}{k:Nat}{fa a:Addr}{fd:FuncData}{x:Str}{sp:Sp}{s₁:Shared}{vs:List Value}{ns:List Int}
  (KX:K.In s₁.heap) (hns:s₁.heap.Ns mainGlobals mg) (hb:s₁.heap.Ns builtinsNs mb) (hbb:∀x:Str,x≠"__name__"->mb x=bootBuiltins x) (hlim:s₁.heap.NoLimit) (hsys:∃mm,s₁.heap.Ns sysModules mm) (hg:s₁.gens=#[])
  (ha:s₁.heap.get? a=some {cls:=.type "list",data:=.seq vs.toArray}) (hi:IntsAre vs ns) (hl:ns.length<=sizeLine) (hr:cX k callerA)
  (F:∀base:Heap,K.In base->base.Ns mainGlobals mg->dw P w K mg base CX k fa fd [x] sp) (hbind:∀(s:Shared) (u:Value),BindsTo s fd ⟨[u],[]⟩ [(x,u)])
  (hsp:∀H:Hp,CY H->dJ K H a (ns.map V.int)->sp [.ref a] H (λv _=>v=.bl true) λ_ _ _=>False)
  (hCX:∀H e s',CX [] H s₁ (λ_ _ _=>False) e s'->False) :
  codeAny (model P w) callerA (.call (.ref fa) ⟨[.ref a],[]⟩) (λr s'=>r=.ok (.ret (.bool true))/\OldK s₁.heap s'.heap/\s'.os=s₁.os/\AllBare s'.gens) s₁:=by
 have rv:=n0 hi
 have lenV:=hi.length
 have core:∀H:Hp,CY H->dJ K H a (ns.map V.int)->j4 P w H s₁.heap->(∀b,H b≠none->b=a)->(H a≠none->K.lookup a=none)->
   codeAny (model P w) callerA (.call (.ref fa) ⟨[.ref a],[]⟩) (λr s'=>r=.ok (.ret (.bool true))/\OldK s₁.heap s'.heap/\s'.os=s₁.os/\AllBare s'.gens) s₁:=by
  intro H hO hS hok hA hK
  have base_of:∀{b:Addr} {o:Obj},s₁.heap.get? b=some o->H b=none->(oV s₁.heap H).get? b=some o:=λe n=>zP e n
  have noA:∀{b:Addr} {o:Obj} {es:Array DictEntry} {ep:Nat},s₁.heap.get? b=some o->o.data=.dict es ep->H b=none:=λ{b o es ep} e d=>by
   cases q:H b with
   |none=>rfl
   |some u=>
    have e':b=a:=hA b (by rw[q];simp)
    subst e'
    rw[ha] at e;cases e
    have d':Data.seq vs.toArray _=Data.dict es ep:=d
    cases d'
  have nsK:∀{b:Addr} {m:Str->Option Value},s₁.heap.Ns b m->(oV s₁.heap H).Ns b m:=λ{b m} ⟨o,es,ep,e,d,r⟩=>⟨o,es,ep,base_of e (noA e d),d,r⟩
  have hKb:K.In (oV s₁.heap H):=λb o e=>base_of (KX b o e) (by
   cases q:H b with
   |none=>rfl
   |some u=>
    have e':b=a:=hA b (by rw[q];simp)
    subst e'
    rw[hK (by rw[q];simp)] at e;cases e)
  have hM:Mod K mg (oV s₁.heap H):=⟨hKb,nsK hns,⟨mb,nsK hb,hbb⟩,let ⟨mc,h1,h2⟩:=hlim;⟨mc,nsK h1,h2⟩,let ⟨mm,h1⟩:=hsys;⟨mm,nsK h1⟩⟩
  have e0:Am P w K mg (oV s₁.heap H) callerA [] s₁ H:=⟨rfl,hM,λb o e=>Av e,Nat.le_of_eq (vN _ _),trivial,λb hb=>absurd (show b∈([]:List Addr) from hb) (by simp),hok,.of_eq hg⟩
  refine Ki ((F _ hKb (nsK hns)).run callerA [] s₁ H ⟨[.ref a],[]⟩ [.ref a] [.ref a] _ _ hr e0 (hbind s₁ (.ref a)) (.cons rfl .nil) (hsp H hO hS)) λr s' h=>?_
  cases r with
  |error e=>exact (hCX H e s' h).elim
  |ok fl=>
   cases fl with
   |next=>exact False.elim h
   |brk=>exact False.elim h
   |cont=>exact False.elim h
   |ret u=>
    obtain⟨v,H',os,bare,un,hok',r',q⟩:=h
    have q':v=.bl true:=q
    subst q'
    obtain rfl:u=Value.bool true:=r'
    refine⟨rfl,OldK.of_keep λb o e=>?_,os,bare⟩
    cases q:H b with
    |none=>exact un.keep b o e q (by intro z;exact absurd (show b∈([]:List Addr) from z) (by simp)) (by simp)
    |some u=>
     rcases hO b with z | ⟨ob,xs,z⟩
     ·rw[q] at z;cases z
     ·have z2:=un.frzs b ob _ z
      obtain⟨e1,_⟩:=hok b _ z
      obtain⟨e2,_⟩:=hok' b _ z2
      rw[e] at e1;cases e1
      exact e2
 cases hk:K.lookup a with
 |some o=>
  have e:=KX a o hk
  rw[ha] at e
  cases e
  refine core (λ_=>none) (λ_=>.inl rfl) (.inr ⟨_,vs.toArray,_,hk,rfl,rfl,rfl,by rw[HW,lenV];exact hl,by simpa using rv⟩) (λb u z=>by have z':(none:Option HO)=some u:=z;cases z') (λb z=>absurd rfl z) λz=>absurd rfl z
 |none=>
  refine core (λb=>if b=a then some (.aU {cls:=.type "list",data:=.seq vs.toArray} (.lst (ns.map V.int))) else none) (λb=>?_) (.inl (.inr ⟨{cls:=.type "list",data:=.seq vs.toArray},HA rfl⟩)) (λb u z=>?_) (λb z=>?_) λ_=>hk
  ·by_cases hb:b=a
   ·exact .inr ⟨_,_,HA hb⟩
   ·exact .inl (HI hb)
  ·by_cases hb:b=a
   ·have z':=(HA hb).symm.trans z
    cases z'
    subst hb
    exact⟨ha,by rw[HF];exact hl,vs,_,rv,ha⟩
   ·have z':=(HI hb).symm.trans z
    cases z'
  ·by_cases hb:b=a
   ·exact hb
   ·exact absurd (HI hb) z
def Ak {l:PySem.W.OpenLaw}{n k:Nat}{q:Program}{loose:List Str}{XP:(Str->Option Value)->Heap->Prop}{YP:World->Heap->Prop}{d:DefRec}{K:Params->Frag}{CX:World->wa}{sp:World->Sp}{x:Str}
  (hn:l.most=some n) (hn2:n<=sizeLine) (hdf:d.params.defaults= []) (hi:PyProof.Rows.importsNone q=true) (hr:cX k callerA)
  (hY:∀(w:World) (h:Heap),YP w h->(K w.params).In h)
  (F:∀(w:World) (mg:Str->Option Value) (fa:Addr) (h:Heap),(K w.params).In h->h.Ns mainGlobals mg->mg d.name=some (.ref fa)->
   ∃fd:FuncData,(∀(s:Shared) (u:Value),BindsTo s fd ⟨[u],[]⟩ [(x,u)])/\
    ∀base:Heap,(K w.params).In base->base.Ns mainGlobals mg->dw l.prog w (K w.params) mg base (CX w) k fa fd [x] (sp w))
  (hsp:∀(w:World) (H:Hp) (a:Addr) (ns:List Int),ns.length<=n->CY H->dJ (K w.params) H a (ns.map V.int)->sp w [.ref a] H (λv _=>v=.bl true) λ_ _ _=>False)
  (hCX:∀(w:World) (H:Hp) (s:Shared) (e:Value) (s':Shared),CX w [] H s (λ_ _ _=>False) e s'->False) :
  PySem.W.WalkO q loose XP YP l.row.toRowW d [] (λf vs=>PySem.call f vs):=by
 refine Att.qD hn hdf λw s₀ s₁ mg mb fa o pm cd doc a vs ns G Y ho hd hcd hmg hobj hints hlen hg=>?_
 have KX:=hY w _ Y
 obtain⟨fd,hb,hF⟩:=F w mg fa _ KX G.T.g hmg
 exact yK KX G.T.g G.T.b G.T.builtins G.T.nolimit (let ⟨mm,h1,_⟩:=(G.T.seer hi).mods;⟨mm,h1⟩) hg hobj hints (IW hlen hn2) hr hF hb (λH hO hS=>hsp w H a ns hlen hO hS) λH e s'=>hCX w H s₁ e s'
def gc (s:Stmt):Arguments:=match s with
 | .FunctionDef _ a _ _ _ _ _ _ _ _=>a
 |_=>{posonlyargs:=[],args:=[],vararg:=none,kwonlyargs:=[],kw_defaults:=[],kwarg:=none,defaults:=[]}
def b6 (s:Stmt):List Stmt:=match s with
 | .FunctionDef _ _ b _ _ _ _ _ _ _=>b
 |_=>[]
def ar (s:Stmt):Scope:=match s with
 | .FunctionDef _ _ _ _ _ _ sc _ _ _=>sc
 |_=>{kind:=.function,names:=[],isGenerator:=false,isCoroutine:=false}
abbrev Cu:wa:=λ_ _ _ _ _ _=>False
abbrev E0:XK:=λ_ _ _=>False
def Fc {X:Cx}:Passes Cu X E0:=λ_ _ _ _ _ _ _ h=>h.elim
structure zY (K:Frag)(x qual:Str)(st:Stmt)(f:Addr)(fd:FuncData):Prop where
 ex:∃(oc:Value) (od:Option Addr) (kV doc pm:Value) (an:Option Addr) (cdv ct:Value) (osl:Array (Option Value)),
  fd=PySem.W.fnOf x qual (gc st) (b6 st) (ar st) .none kV doc pm an cdv ct/\K.lookup f=some ⟨oc,od,.func fd,osl⟩/\PySem.W.codeIn K cdv qual=true
 kp:PySem.W.keepIn K (.ref f)=true
section
variable {P:Program}{w:World}{K:Frag}{mg:Str->Option Value}{base:Heap}
def zY.ok {x qual:Str}{st:Stmt}{f:Addr}{fd:FuncData}{N ps:List Str}{k:Nat}{sp:Sp}(F:zY K x qual st f fd)(S:aF N ps (ar st))(len:∀vs H Q E,sp vs H Q E->vs.length=ps.length)
  (hbody:∀(cdv:Value) (A:Around) (outer:List Env) (s:Shared) (H:Hp) (vs:List V) (Q:VK) (E:XK),cX k (A.deeper (envOfC qual (ar st) s.heap.objs.size f cdv))->sp vs H Q E->
   ∃t,nE (nC Cu P w K mg base N qual (ar st) f cdv A outer s H E).nox (b6 st) t/\t {nx:=λ_ H'=>Q .non H',rt:=Q} (start N vs) H):dw P w K mg base Cu (k + 1) f fd ps sp:=by
 obtain⟨oc,od,kV,doc,pm,an,cdv,ct,osl,rfl,lk,hcd⟩:=F.ex
 refine Ca lk hcd S len λA outer s H vs Q E hr hsp=>?_
 obtain⟨t,h,q⟩:=hbody cdv A outer s H vs Q E hr hsp
 exact⟨t,h.nox,q⟩
def zY.binds {x qual:Str}{st:Stmt}{f:Addr}{fd:FuncData}{ps:List Str}(F:zY K x qual st f fd)
  (h:∀(kV doc pm:Value) (an:Option Addr) (cdv ct:Value) (us:List Value),us.length=ps.length->bindArgs (PySem.W.fnOf x qual (gc st) (b6 st) (ar st) .none kV doc pm an cdv ct) ⟨us,[]⟩=pure (ps.zip us)):Binds K fd ps []:=by
 obtain⟨oc,od,kV,doc,pm,an,cdv,ct,osl,rfl,lk,hcd⟩:=F.ex
 exact .all (h kV doc pm an cdv ct)
def tP {x qual:Str}{st:Stmt}{f:Addr}{oc:Value}{od an:Option Addr}{osl:Array (Option Value)}{kV doc pm cdv ct:Value}(l:K.lookup f=some ⟨oc,od,.func (PySem.W.fnOf x qual (gc st) (b6 st) (ar st) .none kV doc pm an cdv ct),osl⟩)
  (c:PySem.W.codeIn K cdv qual=true) (k:PySem.W.keepIn K (.ref f)=true):zY K x qual st f (PySem.W.fnOf x qual (gc st) (b6 st) (ar st) .none kV doc pm an cdv ct):=⟨⟨oc,od,kV,doc,pm,an,cdv,ct,osl,rfl,l,c⟩,k⟩
end
section
variable {X:Cx}
def pv (i:Nat){x:Str}{pos:Pos}(hN:X.N[i]? =some x:=by rfl)(hv:wW X.env.scope x:=by first |exact Or.inl rfl |exact Or.inr (Or.inl rfl) |exact Or.inr (Or.inr rfl))(hd:(x == ("__debug__":Str))=false:=by decide)
  (hcd:(x == ("__classdict__":Str))=false:=by decide):PE X (.Name x pos) (Be i):=fu hN hv hd hcd
end
def qX {A B:Prop}(h:B):if false=true then A else B:=by
 rw[HI Iw]
 exact h
def qZ {A B:Prop}(h:A):if true=true then A else B:=by
 rw[HA rfl]
 exact h
def Gq (o:Obj):Prop:=∃vs q t,o.data=.fields vs/\vs[1]? =some (.str q t)
def Kt (H:Hp)(b:Addr):HO->Prop
 | .tbl ps=>∃more:Array Value,H b=some (.tbl (ps ++ more))/\∀c,Value.ref c∈more.toList->∃o,H c=some (.aU o (.own 0))/\Gq o
 |o=>H b=some o
theorem Kt.of {H:Hp}{b:Addr}{o:HO}(h:H b=some o):Kt H b o:=by
 cases o with
 |tbl ps=>exact⟨#[],by rw[h];simp,λc hc=>by simp at hc⟩
 |_=>exact h
def af (H H':Hp):Prop:=∀b o,H b=some o->Kt H' b o
def af.refl (H:Hp):af H H:=λ_ _ h=>Kt.of h
theorem Kt.some {H:Hp}{b:Addr}{o:HO}(h:Kt H b o):∃u,H b=Option.some u/\((∀ps,o≠.tbl ps)->u=o)/\((∃ps,o=.tbl ps)->∃ps,u=.tbl ps):=by
 cases o with
 |tbl ps=>obtain⟨m,e,_⟩:=h;exact⟨_,e,λz=>absurd rfl (z ps),λ_=>⟨_,rfl⟩⟩
 |_=>exact⟨_,h,λ_=>rfl,λ⟨ps,z⟩=>by cases z⟩
theorem Kt.step {H H':Hp}{b:Addr}{o:HO}(h:Kt H b o)(s:af H H'):Kt H' b o:=by
 cases o with
 |tbl ps=>
  obtain⟨m,e,k⟩:=h
  obtain⟨m2,e2,k2⟩:=s b _ e
  refine⟨m ++ m2,by rw[e2,Array.append_assoc],λc hc=>?_⟩
  rw[Array.toList_append,HP] at hc
  rcases hc with hc |hc
  ·obtain⟨o,eo,io⟩:=k c hc;exact⟨o,s c _ eo,io⟩
  ·exact k2 c hc
 |lst xs=>exact s b _ h
 |tup xs=>exact s b _ h
 |dK xs=>exact s b _ h
 |dT xs=>exact s b _ h
 |set S n=>exact s b _ h
 |ins C dx fs=>exact s b _ h
 |own x=>exact s b _ h
 |xd fs=>exact s b _ h
 |met f x=>exact s b _ h
 |eZ lo hi=>exact s b _ h
 |aU o u=>exact s b _ h
 |ext φ=>exact s b _ h
def af.trans {H H1 H2:Hp}(a:af H H1)(b:af H1 H2):af H H2:=λc o h=>(a c o h).step b
theorem af.free {H H':Hp}(e:af H H'){l:Addr}(h:H' l=Option.none):H l=Option.none:=by
 cases q:H l with
 |none=>rfl
 |some o=>
  obtain⟨u,z,_⟩:=(e l o q).some
  rw[z] at h
  cases h
def af.seq {K:Frag}{H H':Hp}{a:Addr}{xs:List V}(e:af H H')(h:dJ K H a xs):dJ K H' a xs:=by
 rcases h with (h | ⟨o,h⟩) |h
 ·exact .inl (.inl (e _ _ h))
 ·exact .inl (.inr ⟨o,e _ _ h⟩)
 ·exact .inr h
end L2
end
namespace L2.ST
open PySem PySem.SetTable
abbrev hE (xs:Array Nat):Prop:=xs.toList.Pairwise (· < ·)
def gi {xs:Array Nat}(h:hE xs){i k d:Nat}(hik:i < k)(hk:k < xs.size):xs.getD i d < xs.getD k d:=by
 have hi:i < xs.size:=Nat.lt_trans hik hk
 have:=IC.mp h i k (by simpa using hi) (by simpa using hk) hik
 simpa[Array.getD,hi,hk] using this
theorem zI {xs:Array Nat}{j:Nat}(h:hE xs):∀(fuel lo hi:Nat),lo<=hi->hi<=xs.size->hi - lo<=fuel->
  (∀i,i < lo->xs.getD i j < j)->(∀i,hi<=i->i < xs.size->j<=xs.getD i j)->
  below.go xs j fuel lo hi<=xs.size/\(∀i,i < below.go xs j fuel lo hi->xs.getD i j < j)/\(∀i,below.go xs j fuel lo hi<=i->i < xs.size->j<=xs.getD i j):=by
 intro fuel
 induction fuel with
 |zero=>
  intro lo hi h1 h2 h3 h4 h5
  have:lo=hi:=by omega
  subst this
  exact⟨h2,h4,h5⟩
 |succ fuel ih=>
  intro lo hi h1 h2 h3 h4 h5
  unfold below.go
  by_cases hlt:lo < hi
  ·rw[HA hlt]
   dsimp only
   by_cases hm:xs.getD ((lo + hi) / 2) j < j
   ·rw[HA hm]
    refine ih _ _ (by omega) h2 (by omega) (λi hi'=>?_) h5
    by_cases e:i=(lo + hi) / 2
    ·rw[e];exact hm
    ·exact Nat.lt_trans (gi h (show i < (lo + hi) / 2 by omega) (by omega)) hm
   ·rw[HI hm]
    refine ih _ _ (by omega) (by omega) (by omega) h4 (λi hi' hs=>?_)
    by_cases e:i=(lo + hi) / 2
    ·rw[e];omega
    ·have:=gi (d:=j) h (show (lo + hi) / 2 < i by omega) hs
     omega
  ·rw[HI hlt]
   have:lo=hi:=by omega
   subst this
   exact⟨h2,h4,h5⟩
def cN {xs:Array Nat}(h:hE xs)(j:Nat) :
  below xs j<=xs.size/\(∀i,i < below xs j->xs.getD i j < j)/\(∀i,below xs j<=i->i < xs.size->j<=xs.getD i j):=
 zI h xs.size 0 xs.size (Ia _) (Hy _) (by omega) (λi hi=>by omega) (λi h1 h2=>by omega)
def wG {xs:Array Nat}(h:hE xs){i j:Nat}(hi:xs[i]? =some j):below xs j=i:=by
 obtain⟨b1,b2,b3⟩:=cN h j
 have hs:i < xs.size:=(IQ.mp hi).1
 have hv:xs.getD i j=j:=by rw[Iy,hi];rfl
 rcases Jy i (below xs j) with c |c |c
 ·have:=b2 i c;omega
 ·exact c.symm
 ·have hb:below xs j < xs.size:=by omega
  have q:=b3 (below xs j) (Hy _) hb
  have:=gi (d:=j) h c hs
  omega
def ve (j:Nat):has #[] j=false:=by
 unfold has
 simp
def ox {t:SetTable}(h:hE t.place){i j:Nat}(hi:t.place[i]? =some j):t.slot j=.live i:=by
 unfold slot
 dsimp only
 rw[wG h hi,HA (by simp[hi])]
def tW {t:SetTable}(hd:t.dummies=#[]){j:Nat}(hj:j∉t.place):t.slot j=.empty:=by
 unfold slot
 dsimp only
 have:¬(t.place[below t.place j]? == some j)=true:=by
  intro e
  have e':t.place[below t.place j]? =some j:=by simpa using e
  obtain⟨h1,h2⟩:=IQ.mp e'
  exact hj (Array.mem_iff_getElem.mpr ⟨_,h1,h2⟩)
 rw[HI this,hd,ve]
 rfl
def sE (mask:Nat)(p:Probe):Probe:=
 if p.more > 0 then {p with j:=p.j + 1,more:=p.more - 1} else
 {p with j:=(leap mask p.i p.perturb).1,more:=runEnd mask (leap mask p.i p.perturb).1 - (leap mask p.i p.perturb).1,i:=(leap mask p.i p.perturb).1,perturb:=(leap mask p.i p.perturb).2}
def wM (mask i perturb:Nat):Probe:={j:=i,more:=runEnd mask i - i,i,perturb,dummy:=none}
def st (mask:Nat)(h:Int):Probe:=wM mask (bits h % (mask + 1)) (bits h)
def yN (t:SetTable)(p:Probe):t.advance p=sE t.mask p:=rfl
def BV (t:SetTable)(h:Int):t.probeStart h=st t.mask h:=rfl
def dq (mask:Nat):Nat->Probe->Probe
 | 0,p=>p
 |n + 1,p=>dq mask n (sE mask p)
theorem iQ (mask:Nat):∀(n m:Nat) (p:Probe),dq mask (n + m) p=dq mask m (dq mask n p)
 | 0,m,p=>by rw[Jk];rfl
 |n + 1,m,p=>by rw[Nat.add_right_comm];exact iQ mask n m (sE mask p)
def za {mask:Nat}{p:Probe}(h:p.dummy=none):(sE mask p).dummy=none:=by
 unfold sE;split <;> exact h
def gF {mask i:Nat}(h:i<=mask):i<=runEnd mask i/\runEnd mask i<=mask/\runEnd mask i - i<=9:=by
 unfold runEnd;split <;> omega
def In (mask:Nat)(p:Probe):Prop:=p.j + p.more<=mask/\p.more<=9
def Dx {mask i q:Nat}(h:i<=mask):In mask (wM mask i q):=by
 have:=gF h
 unfold In wM;dsimp only;omega
def jJ (mask i q:Nat):(leap mask i q).1<=mask:=by
 unfold leap;exact Nat.lt_succ_iff.mp (Ka _ (Nat.succ_pos _))
def Dr {mask:Nat}{p:Probe}(h:In mask p):In mask (sE mask p):=by
 unfold sE
 by_cases hm:p.more > 0
 ·rw[HA hm];unfold In at *;dsimp only;omega
 ·rw[HI hm]
  have:=gF (jJ mask p.i p.perturb)
  unfold In;dsimp only;omega
theorem vA {mask:Nat}:∀(n:Nat) {p:Probe},In mask p->In mask (dq mask n p)
 | 0,_,h=>h
 |n + 1,_,h=>vA n (Dr h)
def Ee (mask:Nat)(h:Int):In mask (st mask h):=Dx (Nat.lt_succ_iff.mp (Ka _ (Nat.succ_pos _)))
theorem rR (mask:Nat):∀(k:Nat) (p:Probe),p.more=k->dq mask (k + 1) p={p with j:=(leap mask p.i p.perturb).1,more:=runEnd mask (leap mask p.i p.perturb).1 - (leap mask p.i p.perturb).1,i:=(leap mask p.i p.perturb).1,perturb:=(leap mask p.i p.perturb).2}
 | 0,p,h=>by
  show sE mask p=_
  unfold sE
  rw[HI (by omega)]
 |k + 1,p,h=>by
  have e:sE mask p={p with j:=p.j + 1,more:=p.more - 1}:=by unfold sE;rw[HA (by omega)]
  show dq mask (k + 1) (sE mask p)=_
  rw[e,rR mask k _ (by dsimp only;omega)]
def ku (mask i q:Nat):dq mask (runEnd mask i - i + 1) (wM mask i q)=wM mask (leap mask i q).1 (leap mask i q).2:=by
 exact rR mask _ (wM mask i q) rfl
theorem iq (mask i q:Nat):∀(k:Nat),k<=runEnd mask i - i->(dq mask k (wM mask i q))={wM mask i q with j:=i + k,more:=runEnd mask i - i - k}
 | 0,_=>rfl
 |k + 1,h=>by
  rw[iQ mask k 1,iq mask i q k (by omega)]
  show sE mask _=_
  unfold sE
  rw[HA (by dsimp only;omega)]
  simp only[Probe.mk.injEq]
  refine⟨by omega,by omega,?_⟩
  trivial
def dO (mask:Nat):Nat->Nat×Nat->Nat×Nat
 | 0,x=>x
 |k + 1,x=>dO mask k (leap mask x.1 x.2)
theorem k7 (mask:Nat):∀(k i q:Nat),i<=mask->∃n,n<=10 * k/\dq mask n (wM mask i q)=wM mask (dO mask k (i,q)).1 (dO mask k (i,q)).2
 | 0,i,q,_=>⟨0,Hy _,rfl⟩
 |k + 1,i,q,h=>by
  obtain⟨n,hn,e⟩:=k7 mask k (leap mask i q).1 (leap mask i q).2 (jJ _ _ _)
  have:=gF h
  refine⟨(runEnd mask i - i + 1) + n,by omega,?_⟩
  rw[iQ,ku,e]
  rfl
theorem nY (mask:Nat):∀(a b:Nat) (x:Nat×Nat),dO mask (a + b) x=dO mask b (dO mask a x)
 | 0,b,x=>by rw[Jk];rfl
 |a + 1,b,x=>by rw[Nat.add_right_comm];exact nY mask a b (leap mask x.1 x.2)
theorem qR (mask:Nat):∀(k:Nat) (x:Nat×Nat),x.1<=mask->(dO mask k x).1<=mask
 | 0,_,h=>h
 |k + 1,x,_=>qR mask k _ (jJ mask x.1 x.2)
theorem jg (mask:Nat):∀(k:Nat) (x:Nat×Nat),(dO mask k x).2=x.2 / 32 ^ k
 | 0,x=>by simp[dO]
 |k + 1,x=>by
  show (dO mask k (leap mask x.1 x.2)).2=_
  rw[jg mask k,Nat.pow_succ,Nat.mul_comm,<-Nat.div_div_eq_div_mul]
  rfl
def nx (mask i:Nat):Nat:=(i * 5 + 1) % (mask + 1)
def xw (mask:Nat):Nat->Nat->Nat
 | 0,i=>i
 |k + 1,i=>xw mask k (nx mask i)
theorem lD (mask:Nat):∀(a b i:Nat),xw mask (a + b) i=xw mask b (xw mask a i)
 | 0,b,i=>by rw[Jk];rfl
 |a + 1,b,i=>by rw[Nat.add_right_comm];exact lD mask a b (nx mask i)
theorem l8 (mask:Nat):∀(k i:Nat),dO mask k (i,0)=(xw mask k i,0)
 | 0,_=>rfl
 |k + 1,i=>by
  show dO mask k (leap mask i 0)=_
  have:leap mask i 0=(nx mask i,0):=by simp[leap,nx]
  rw[this,l8 mask k]
  rfl
def zU (mask:Nat):Prop:=mask=7\/mask=31\/mask=127
def DZ (mask:Nat)(hm:zU mask):xw mask (mask + 1) 0=0/\∀j,j<=mask->∃k,k<=mask/\xw mask k 0=j:=by
 have h7:∀j:Nat,j < 8->∃k,k < 8/\xw 7 k 0=j:=by decide +kernel
 have h31:∀j:Nat,j < 32->∃k,k < 32/\xw 31 k 0=j:=by decide +kernel
 have h127:∀j:Nat,j < 128->∃k,k < 128/\xw 127 k 0=j:=by decide +kernel
 rcases hm with rfl |rfl |rfl
 ·exact⟨by decide +kernel,λj hj=>let ⟨k,a,b⟩:=h7 j (by omega);⟨k,by omega,b⟩⟩
 ·exact⟨by decide +kernel,λj hj=>let ⟨k,a,b⟩:=h31 j (by omega);⟨k,by omega,b⟩⟩
 ·exact⟨by decide +kernel,λj hj=>let ⟨k,a,b⟩:=h127 j (by omega);⟨k,by omega,b⟩⟩
def Ed {mask:Nat}(hm:zU mask){i j:Nat}(hi:i<=mask)(hj:j<=mask):∃k,k<=mask/\xw mask k i=j:=by
 obtain⟨z,o⟩:=DZ mask hm
 obtain⟨a,ha,ea⟩:=o i hi
 obtain⟨b,hb,eb⟩:=o j hj
 have back:xw mask (mask + 1 - a) i=0:=by
  rw[<-ea,<-lD,show a + (mask + 1 - a)=mask + 1 by omega];exact z
 by_cases hab:a<=b
 ·refine⟨b - a,by omega,?_⟩
  rw[<-ea,<-lD,show a + (b - a)=b by omega];exact eb
 ·refine⟨mask + 1 - a + b,by omega,?_⟩
  rw[lD,back];exact eb
def l0 {mask:Nat}(hm:zU mask){i q j:Nat}(hi:i<=mask)(hq:q < 2 ^ 64)(hj:j<=mask):∃k,k<=mask + 13/\(dO mask k (i,q)).1=j:=by
 have hz:(dO mask 13 (i,q)).2=0:=by
  rw[jg]
  exact Nat.div_eq_of_lt (Ij hq (by decide))
 obtain⟨k,hk,e⟩:=Ed hm (qR mask 13 (i,q) hi) hj
 refine⟨13 + k,by omega,?_⟩
 rw[nY]
 have:dO mask 13 (i,q)=((dO mask 13 (i,q)).1,0):=Prod.ext rfl hz
 rw[this,l8]
 exact e
def vF (h:Int):bits h < 2 ^ 64:=by
 unfold bits
 have:=Int.emod_lt_of_pos h (show (0:Int) < 2 ^ 64 by decide)
 have:=Int.emod_nonneg h (show (2 ^ 64:Int)≠0 by decide)
 omega
def yJ {mask:Nat}(hm:zU mask)(h:Int){j:Nat}(hj:j<=mask):∃n,n < 10 * turns mask/\(dq mask n (st mask h)).j=j:=by
 have hi:bits h % (mask + 1)<=mask:=Nat.lt_succ_iff.mp (Ka _ (Nat.succ_pos _))
 obtain⟨k,hk,e⟩:=l0 hm hi (vF h) hj
 obtain⟨n,hn,q⟩:=k7 mask k (bits h % (mask + 1)) (bits h) hi
 refine⟨n,by unfold turns;omega,?_⟩
 show (dq mask n (wM mask _ _)).j=j
 rw[q];exact e
theorem yD {t:SetTable}{hashAt:Nat->Int}{h:Int}:∀(n fuel:Nat) (p:Probe),n < fuel->p.dummy=none->
  (∀m,m < n->∃i,t.slot (dq t.mask m p).j=.live i/\hashAt i≠h)->t.slot (dq t.mask n p).j=.empty->
  probe.go t hashAt h fuel p=some (.empty (dq t.mask n p).j none):=by
 intro n
 induction n with
 |zero=>
  intro fuel p hf hd _ he
  obtain⟨f,rfl⟩:∃f,fuel=f + 1:=⟨fuel - 1,by omega⟩
  unfold probe.go
  have he':t.slot p.j=.empty:=he
  rw[he',hd]
  rfl
 |succ n ih=>
  intro fuel p hf hd hl he
  obtain⟨f,rfl⟩:∃f,fuel=f + 1:=⟨fuel - 1,by omega⟩
  unfold probe.go
  obtain⟨i,e,ne⟩:=hl 0 (by omega)
  have e':t.slot p.j=.live i:=e
  rw[e']
  dsimp only
  rw[HI (by simpa using ne),yN]
  exact ih f (sE t.mask p) (by omega) (za hd) (λm hm=>hl (m + 1) (by omega)) he
theorem zV {t:SetTable}{hashAt:Nat->Int}{h:Int}:∀(n fuel:Nat) (p:Probe),n < fuel->
  (∀m,m<=n->∃i,t.slot (dq t.mask m p).j=.live i)->(∃i,t.slot (dq t.mask n p).j=.live i/\hashAt i=h)->
  ∃j i next,probe.go t hashAt h fuel p=some (.candidate j i next)/\t.slot j=.live i/\hashAt i=h:=by
 intro n
 induction n with
 |zero=>
  intro fuel p hf _ he
  obtain⟨f,rfl⟩:∃f,fuel=f + 1:=⟨fuel - 1,by omega⟩
  obtain⟨i,e,eh⟩:=he
  have e':t.slot p.j=.live i:=e
  unfold probe.go
  rw[e']
  dsimp only
  rw[HA (by simpa using eh)]
  exact⟨p.j,i,_,rfl,e',eh⟩
 |succ n ih=>
  intro fuel p hf hl he
  obtain⟨f,rfl⟩:∃f,fuel=f + 1:=⟨fuel - 1,by omega⟩
  obtain⟨i,e⟩:=hl 0 (by omega)
  have e':t.slot p.j=.live i:=e
  unfold probe.go
  rw[e']
  dsimp only
  by_cases hh:hashAt i=h
  ·rw[HA (by simpa using hh)]
   exact⟨p.j,i,_,rfl,e',hh⟩
  ·rw[HI (by simpa using hh),yN]
   exact ih f (sE t.mask p) (by omega) (λm hm=>hl (m + 1) (by omega)) he
def Reach (mask:Nat)(L:Nat->Prop)(h:Int)(j:Nat):Prop:=∃n,n < 10 * turns mask/\(dq mask n (st mask h)).j=j/\∀m,m < n->L (dq mask m (st mask h)).j
def Reach.mono {mask:Nat}{L L':Nat->Prop}{h:Int}{j:Nat}(r:Reach mask L h j)(k:∀x,L x->L' x):Reach mask L' h j:=
 let ⟨n,a,b,c⟩:=r;⟨n,a,b,λm hm=>k _ (c m hm)⟩
structure Tab (t:SetTable)(hs:List Int):Prop where
 mask:zU t.mask
 dum:t.dummies=#[]
 rise:hE t.place
 le:∀j,j∈t.place->j<=t.mask
 size:t.place.size=hs.length
 load:t.place.size * 5 < t.mask * 3
 reach:∀(i j:Nat) (h:Int),t.place[i]? =some j->hs[i]? =some h->Reach t.mask (· ∈t.place) h j
 plain:t.plain=true
theorem aO {α:Type}[DecidableEq α]:∀{l m:List α},l.Nodup->(∀x,x∈l->x∈m)->l.length<=m.length
 | [],_,_,_=>Ia _
 |a :: l,m,hn,hs=>by
  have ha:=hs a (Hz ..)
  have hl:=Il.mp hn
  have:=aO (l:=l) (m:=m.erase a) hl.2 λx hx=>by
   refine (List.mem_erase_of_ne ?_).mpr (hs x (HG _ hx))
   rintro rfl;exact hl.1 hx
  rw[Kl ha] at this
  have:0 < m.length:=List.length_pos_of_mem ha
  simp only[HX];omega
def sU {mask:Nat}{xs:Array Nat}(hl:xs.size<=mask):∃j,j<=mask/\j∉xs:=by
 refine Classical.byContradiction λhc=>?_
 have all:∀j,j∈List.range (mask + 1)->j∈xs.toList:=λj hj=>by
  have:=HR.mp hj
  refine Classical.byContradiction λhn=>hc ⟨j,by omega,λz=>hn (by simpa using z)⟩
 have:=aO JF all
 simp at this
 omega
theorem pR {P:Nat->Prop}(h:∃n,P n):∃n,P n/\∀m,m < n->¬P m:=by
 obtain⟨n,hn⟩:=h
 induction n using Nat.strongRecOn with
 |_ n ih=>
  by_cases hc:∃m,m < n/\P m
  ·obtain⟨m,hm,hp⟩:=hc
   exact ih m hm hp
  ·exact⟨n,hn,λm hm hp=>hc ⟨m,hm,hp⟩⟩
section
variable {t:SetTable}{hs:List Int}
def Tab.load' (T:Tab t hs):t.place.size<=t.mask:=by have:=T.load;omega
def Tab.slotL (T:Tab t hs){j:Nat}(hj:j∈t.place):∃i,t.slot j=.live i/\t.place[i]? =some j:=by
 obtain⟨i,hi,e⟩:=Array.mem_iff_getElem.mp hj
 have q:t.place[i]? =some j:=by rw[Ie hi,e]
 exact⟨i,ox T.rise q,q⟩
def Tab.slotE (T:Tab t hs){j:Nat}(hj:j∉t.place):t.slot j=.empty:=tW T.dum hj
def Tab.first (T:Tab t hs)(h:Int):∃n,n < 10 * turns t.mask/\(dq t.mask n (st t.mask h)).j∉t.place/\∀m,m < n->(dq t.mask m (st t.mask h)).j∈t.place:=by
 obtain⟨j,hj,hn⟩:=sU T.load'
 obtain⟨n,h1,h2⟩:=yJ T.mask h hj
 obtain⟨k,hk,hlt⟩:=pR (P:=λn=>(dq t.mask n (st t.mask h)).j∉t.place) ⟨n,by rw[h2];exact hn⟩
 refine⟨k,?_,hk,λm hm=>Classical.byContradiction λz=>hlt m hm z⟩
 rcases IH n k with c |c
 ·exact absurd (show (dq t.mask n (st t.mask h)).j∉t.place by rw[h2];exact hn) (hlt n c)
 ·omega
def Tab.absent (T:Tab t hs){hashAt:Nat->Int}(ha:∀i,i < hs.length->some (hashAt i)=hs[i]?){h:Int}(hn:h∉hs) :
  ∃j,t.probe hashAt h (t.probeStart h)=some (.empty j none)/\j∉t.place/\j<=t.mask/\Reach t.mask (· ∈t.place) h j:=by
 obtain⟨n,h1,h2,h3⟩:=T.first h
 refine⟨(dq t.mask n (st t.mask h)).j,?_,h2,?_,⟨n,h1,rfl,h3⟩⟩
 ·unfold probe
  rw[BV]
  refine yD n _ _ h1 rfl (λm hm=>?_) (T.slotE h2)
  obtain⟨i,e,q⟩:=T.slotL (h3 m hm)
  refine⟨i,e,λz=>hn ?_⟩
  have hi:i < hs.length:=by rw[<-T.size];exact (IQ.mp q).1
  have:=ha i hi
  rw[z] at this
  exact HN this.symm
 ·have:=vA n (Ee t.mask h)
  unfold In at this;omega
def Tab.present (T:Tab t hs){hashAt:Nat->Int}(ha:∀i,i < hs.length->some (hashAt i)=hs[i]?){h:Int}(hm:h∈hs) :
  ∃j i next,t.probe hashAt h (t.probeStart h)=some (.candidate j i next)/\t.slot j=.live i/\i < hs.length/\hs[i]? =some h:=by
 obtain⟨i,hi,e⟩:=Ir.mp hm
 have hi':hs[i]? =some h:=by rw[Hu hi,e]
 have hp:i < t.place.size:=by rw[T.size];exact hi
 obtain⟨n,h1,h2,h3⟩:=T.reach i t.place[i] h (Ie hp) hi'
 have hj:(dq t.mask n (st t.mask h)).j∈t.place:=by rw[h2];exact Array.getElem_mem hp
 obtain⟨j',i',nx,g1,g2,g3⟩:=zV (t:=t) (hashAt:=hashAt) (h:=h) n (10 * turns t.mask) (st t.mask h) h1 (λm hm=>by
   rcases IH m n with c |c
   ·obtain⟨i,e,_⟩:=T.slotL (h3 m c);exact⟨i,e⟩
   ·have:m=n:=by omega
    subst this
    obtain⟨i,e,_⟩:=T.slotL hj;exact⟨i,e⟩)
  ⟨i,by rw[h2];exact ox T.rise (Ie hp),by
   have:=ha i hi
   rw[hi'] at this
   exact Option.some.inj this⟩
 have hi2:i' < t.place.size:=by
  unfold slot at g2
  dsimp only at g2
  split at g2
  ·rename_i c
   have c':t.place[below t.place j']? =some j':=by simpa using c
   cases g2
   exact (IQ.mp c').1
  ·split at g2 <;> cases g2
 refine⟨j',i',nx,by unfold probe;rw[BV];exact g1,g2,by rw[<-T.size];exact hi2,?_⟩
 have:=ha i' (by rw[<-T.size];exact hi2)
 rw[g3] at this
 exact this.symm
end
def bC {α:Type}(xs:Array α)(p:Nat)(x:α)(_:p<=xs.size):(insertAt xs p x).toList=xs.toList.take p ++ x :: xs.toList.drop p:=by
 unfold insertAt
 simp[Array.toList_extract,List.extract_eq_take_drop]
 rw[Jl (by simp)]
def oK (t:SetTable)(j:Nat)(hd:t.dummies=#[]):(t.put j).1={t with place:=insertAt t.place (below t.place j) j}/\(t.put j).2=below t.place j:=by
 unfold put
 dsimp only
 rw[hd,ve]
 exact⟨by simp,rfl⟩
section
variable {t:SetTable}{hs:List Int}
def jK {α:Type}{xs:Array α}{p:Nat}{x y:α}(hp:p<=xs.size):y∈insertAt xs p x↔y∈xs\/y=x:=by
 rw[<-JO,bC xs p x hp,HP,Hx,<-JO]
 have:y∈xs.toList↔y∈xs.toList.take p\/y∈xs.toList.drop p:=by
  conv=>lhs;rw[<-Jq p xs.toList]
  exact HP
 rw[this]
 constructor
 ·rintro (a |a |a)
  ·exact .inl (.inl a)
  ·exact .inr a
  ·exact .inl (.inr a)
 ·rintro ((a |a) |a)
  ·exact .inl a
  ·exact .inr (.inr a)
  ·exact .inr (.inl a)
def nM {xs:Array Nat}(h:hE xs){j:Nat}(hj:j∉xs):hE (insertAt xs (below xs j) j):=by
 obtain⟨b1,b2,b3⟩:=cN h j
 unfold hE
 rw[bC _ _ _ b1]
 have hl:∀y,y∈xs.toList.take (below xs j)->y < j:=λy hy=>by
  obtain⟨i,hi,e⟩:=Ir.mp hy
  have hi1:i < below xs j:=by simp at hi;omega
  have hi2:i < xs.size:=by omega
  have:=b2 i hi1
  rw[Iy,Ie hi2] at this
  simp at e this
  omega
 have hr:∀y,y∈xs.toList.drop (below xs j)->j < y:=λy hy=>by
  obtain⟨i,hi,e⟩:=Ir.mp hy
  have hi2:below xs j + i < xs.size:=by simp at hi;omega
  have:=b3 (below xs j + i) (by omega) hi2
  rw[Iy,Ie hi2] at this
  simp at e this
  rcases IH j y with c |c
  ·exact c
  ·have:j=y:=by omega
   exact absurd (by rw[this,<-e];exact Array.getElem_mem _) hj
 refine IF.mpr ⟨List.Pairwise.sublist (JL ..) h,Jr.mpr ⟨λy hy=>hr y hy,List.Pairwise.sublist (List.drop_sublist ..) h⟩,λa ha b hb=>?_⟩
 rcases Hx.mp hb with rfl |hb
 ·exact hl a ha
 ·exact Nat.lt_trans (hl a ha) (hr b hb)
def rZ {α:Type}(l:List α)(p:Nat)(x:α)(hp:p<=l.length)(i:Nat):(l.take p ++ x :: l.drop p)[i]? =if i < p then l[i]? else if i=p then some x else l[i - 1]?:=by
 rcases Jy i p with c |c |c
 ·rw[HA c,IB (by simp;omega),Kj c]
 ·subst c
  rw[HI (Iv _),HA rfl,Iz (by simp;omega),IE,Nat.min_eq_left hp,Nat.sub_self]
  rfl
 ·rw[HI (by omega),HI (by omega),Iz (by simp;omega),IE,Nat.min_eq_left hp]
  obtain⟨k,rfl⟩:∃k,i=p + 1 + k:=⟨i - (p + 1),by omega⟩
  rw[show p + 1 + k - p=k + 1 by omega,List.getElem?_cons_succ,List.getElem?_drop]
  congr 1
  omega
def Tab.put (T:Tab t hs){j:Nat}{h:Int}(hj:j∉t.place)(hm:j<=t.mask)(r:Reach t.mask (· ∈t.place) h j)(hf:(t.place.size + 1) * 5 < t.mask * 3) :
  Tab (t.put j).1 (hs.take (t.put j).2 ++ h :: hs.drop (t.put j).2)/\(t.put j).2<=hs.length:=by
 obtain⟨e1,e2⟩:=oK t j T.dum
 obtain⟨b1,b2,b3⟩:=cN T.rise j
 have hsz:(insertAt t.place (below t.place j) j).size=t.place.size + 1:=by
  rw[<-Kf,bC _ _ _ b1]
  simp;omega
 have hl:below t.place j<=hs.length:=by rw[<-T.size];exact b1
 rw[e1,e2]
 refine⟨⟨T.mask,T.dum,nM T.rise hj,λy hy=>?_,?_,?_,λi y g hy hg=>?_,T.plain⟩,hl⟩
 ·rcases (jK b1).mp hy with z |z
  ·exact T.le y z
  ·rw[z];exact hm
 ·show (insertAt t.place _ j).size=_
  rw[hsz,T.size];simp;omega
 ·show (insertAt t.place _ j).size * 5 < t.mask * 3
  rw[hsz];exact hf
 ·show Reach t.mask (· ∈insertAt t.place (below t.place j) j) g y
  have hy':(t.place.toList.take (below t.place j) ++ j :: t.place.toList.drop (below t.place j))[i]? =some y:=by
   rw[<-bC _ _ _ b1,Jp];exact hy
  rw[rZ _ _ _ (by simpa using b1)] at hy'
  rw[rZ _ _ _ hl] at hg
  have old:∀{g y},Reach t.mask (· ∈t.place) g y->Reach t.mask (· ∈insertAt t.place (below t.place j) j) g y:=λr=>r.mono λx hx=>(jK b1).mpr (.inl hx)
  split at hy'
  ·rename_i c
   rw[HA c] at hg
   exact old (T.reach i y g (by simpa using hy') hg)
  ·rename_i c
   rw[HI c] at hg
   split at hy'
   ·rename_i c2
    rw[HA c2] at hg
    cases hg;cases hy'
    exact old r
   ·rename_i c2
    rw[HI c2] at hg
    exact old (T.reach (i - 1) y g (by simpa using hy') hg)
end
abbrev own (o:Array (Option Nat))(j:Nat):Option Nat:=o.getD j none
theorem v7 {mask:Nat}{o:Array (Option Nat)}(hsz:o.size=mask + 1):∀(fuel i q:Nat) (j:Nat),i<=mask->layClean.free mask o fuel i q=some j->
  ∃n,n < 10 * fuel/\(dq mask n (wM mask i q)).j=j/\(∀m,m < n->(own o (dq mask m (wM mask i q)).j).isSome=true)/\own o j=none/\j<=mask:=by
 intro fuel
 induction fuel with
 |zero=>intro i q j _ h;unfold layClean.free at h;cases h
 |succ fuel ih=>
  intro i q j hi h
  unfold layClean.free at h
  have hr:=gF hi
  have ind:∀k,k<=runEnd mask i - i->o.getD (i + k) (some 0)=own o (i + k):=λk hk=>by
   have:i + k < o.size:=by omega
   simp[own,Array.getD,this]
  cases hf:(List.range (runEnd mask i + 1 - i)).find? λk=>(o.getD (i + k) (some 0)).isNone with
  |some k=>
   rw[hf] at h
   dsimp only at h
   have hk:=List.find?_eq_some_iff_getElem.mp hf
   obtain⟨hn,ix,hix,eix,hbef⟩:=hk
   have ek:ix=k:=by simpa using eix
   subst ek
   have hix':ix < runEnd mask i + 1 - i:=by simpa using hix
   cases h
   refine⟨ix,by omega,?_,λm hm=>?_,?_,by omega⟩
   ·rw[iq mask i q ix (by omega)]
   ·rw[iq mask i q m (by omega)]
    have:=hbef m hm
    simp only[List.getElem_range] at this
    rw[ind m (by omega)] at this
    dsimp only
    cases e:own o (i + m) with
    |none=>rw[e] at this;simp at this
    |some _=>rfl
   ·rw[ind ix (by omega)] at hn
    cases e:own o (i + ix) with
    |none=>rfl
    |some _=>rw[e] at hn;simp at hn
  |none=>
   rw[hf] at h
   dsimp only at h
   obtain⟨n,h1,h2,h3,h4,h5⟩:=ih _ _ j (jJ mask i q) h
   have hnone:=List.find?_eq_none.mp hf
   refine⟨(runEnd mask i - i + 1) + n,by omega,?_,λm hm=>?_,h4,h5⟩
   ·rw[iQ,ku];exact h2
   ·rcases IH m (runEnd mask i - i + 1) with c |c
    ·rw[iq mask i q m (by omega)]
     have:=hnone m (HR.mpr (by omega))
     rw[ind m (by omega)] at this
     dsimp only
     cases e:own o (i + m) with
     |none=>rw[e] at this;simp at this
     |some _=>rfl
    ·obtain⟨k,rfl⟩:∃k,m=(runEnd mask i - i + 1) + k:=⟨m - (runEnd mask i - i + 1),by omega⟩
     rw[iQ,ku]
     exact h3 k (by omega)
theorem v9 {mask:Nat}{o:Array (Option Nat)}(hsz:o.size=mask + 1):∀(fuel i q k:Nat),i<=mask->k < fuel->own o (dO mask k (i,q)).1=none->∃j,layClean.free mask o fuel i q=some j:=by
 intro fuel
 induction fuel with
 |zero=>intro i q k _ hk;omega
 |succ fuel ih=>
  intro i q k hi hk hn
  unfold layClean.free
  cases hf:(List.range (runEnd mask i + 1 - i)).find? λk=>(o.getD (i + k) (some 0)).isNone with
  |some k=>exact⟨_,rfl⟩
  |none=>
   dsimp only
   cases k with
   |zero=>
    have hr:=gF hi
    have:=List.find?_eq_none.mp hf 0 (HR.mpr (by omega))
    have e:own o i=none:=hn
    have hi2:i < o.size:=by omega
    simp[own,Array.getD,hi2] at e this
    rw[e] at this;simp at this
   |succ k=>exact ih _ _ k (jJ mask i q) (by omega) hn
structure Lay (mask:Nat)(o:Array (Option Nat))(hs:List Int):Prop where
 size:o.size=mask + 1
 all:∀k h,hs[k]? =some h->∃j,own o j=some k/\Reach mask (λx=>(own o x).isSome=true) h j
 one:∀j j' k,own o j=some k->own o j'=some k->j=j'
 le:∀j k,own o j=some k->j<=mask/\k < hs.length
def jM {o:Array (Option Nat)}{j x k:Nat}(hj:j < o.size):own (o.setIfInBounds j (some k)) x=if x=j then some k else own o x:=by
 unfold own
 rw[Iy,Iy,Array.getElem?_setIfInBounds]
 by_cases e:x=j
 ·subst e;simp[hj]
 ·rw[HI e,HI (λz=>e z.symm)]
def zc {mask:Nat}(hm:zU mask){o:Array (Option Nat)}{hs:List Int}(L:Lay mask o hs)(h:Int)(hl:hs.length<=mask) :
  ∃j,layClean.free mask o (turns mask) (bits h % (mask + 1)) (bits h)=some j/\Lay mask (o.setIfInBounds j (some hs.length)) (hs ++ [h]):=by
 have hi:bits h % (mask + 1)<=mask:=Nat.lt_succ_iff.mp (Ka _ (Nat.succ_pos _))
 have hfree:∃j,j<=mask/\own o j=none:=by
  refine Classical.byContradiction λhc=>?_
  have hall:∀j,j<=mask->∃k,own o j=some k:=λj hj=>by
   cases e:own o j with
   |none=>exact absurd ⟨j,hj,e⟩ hc
   |some k=>exact⟨k,rfl⟩
  have nd:((List.range (mask + 1)).map λj=>(own o j).getD 0).Nodup:=by
   refine IA.mpr ?_
   refine Ip ?_ JF
   intro a b ha hb hab e
   obtain⟨ka,ea⟩:=hall a (by have:=HR.mp ha;omega)
   obtain⟨kb,eb⟩:=hall b (by have:=HR.mp hb;omega)
   rw[ea,eb] at e
   simp at e
   subst e
   exact hab (L.one a b ka ea eb)
  have:=aO (m:=List.range hs.length) nd λx hx=>by
   obtain⟨j,hj,rfl⟩:=HH.mp hx
   obtain⟨k,e⟩:=hall j (by have:=HR.mp hj;omega)
   rw[e]
   exact HR.mpr (L.le j k e).2
  simp at this
  omega
 obtain⟨j0,hj0,hn0⟩:=hfree
 obtain⟨k,hk,ek⟩:=l0 hm hi (vF h) hj0
 obtain⟨j,hj⟩:=v9 L.size (turns mask) _ (bits h) k hi (by unfold turns;omega) (by rw[ek];exact hn0)
 refine⟨j,hj,?_⟩
 obtain⟨n,h1,h2,h3,h4,h5⟩:=v7 L.size _ _ _ _ hi hj
 have hjs:j < o.size:=by rw[L.size];omega
 have grow:∀x,(own o x).isSome=true->(own (o.setIfInBounds j (some hs.length)) x).isSome=true:=λx hx=>by
  rw[jM hjs];split
  ·rfl
  ·exact hx
 refine⟨by rw[Array.size_setIfInBounds];exact L.size,λk g hg=>?_,λa b c ea eb=>?_,λa c ea=>?_⟩
 ·rcases IH k hs.length with c |c
  ·rw[IB c] at hg
   obtain⟨x,ex,rx⟩:=L.all k g hg
   refine⟨x,?_,rx.mono grow⟩
   rw[jM hjs,HI (λz=>?_)]
   ·exact ex
   ·subst z;rw[ex] at h4;cases h4
  ·rw[Iz c] at hg
   have:k=hs.length:=by
    have:=(HB.mp hg).1
    simp at this;omega
   subst this
   simp at hg
   subst hg
   exact⟨j,by rw[jM hjs,HA rfl],n,h1,h2,λm hm=>grow _ (h3 m hm)⟩
 ·rw[jM hjs] at ea eb
  split at ea
  ·cases ea
   split at eb
   ·omega
   ·have:=(L.le _ _ eb).2;omega
  ·split at eb
   ·cases eb
    have:=(L.le _ _ ea).2;omega
   ·exact L.one _ _ _ ea eb
 ·rw[jM hjs] at ea
  rw[Ik]
  split at ea
  ·cases ea;simp;omega
  ·have:=L.le _ _ ea;simp;omega
theorem uN {mask:Nat}(hm:zU mask):∀(rest hs:List Int) (o:Array (Option Nat)),Lay mask o hs->hs.length + rest.length<=mask->
  ∃o',rest.foldl (init:=some (o,hs.length)) (λacc h=>do
   let (owner,k) <-acc
   let j <-layClean.free mask owner (turns mask) (bits h % (mask + 1)) (bits h)
   pure (owner.setIfInBounds j (some k),k + 1))=some (o',hs.length + rest.length)/\Lay mask o' (hs ++ rest)
 | [],hs,o,L,_=>⟨o,rfl,by rw[Ju];exact L⟩
 |h :: rest,hs,o,L,hl=>by
  simp only[HX] at hl
  obtain⟨j,e,L'⟩:=zc hm L h (by omega)
  obtain⟨o',e',L2⟩:=uN hm rest (hs ++ [h]) _ L' (by simp;omega)
  refine⟨o',?_,by rw[I0] at L2;exact L2⟩
  rw[foldl_cons]
  simp only[Option.bind_eq_bind,Option.bind_some,e,Option.pure_def]
  have el:(hs ++ [h]).length=hs.length + 1:=by simp
  rw[el] at e'
  simp only[Option.bind_eq_bind,Option.pure_def] at e'
  rw[e']
  simp;omega
def u6 (n j:Nat):own (Array.replicate n none) j=none:=by
 unfold own
 rw[Iy,Array.getElem?_replicate]
 split <;> rfl
def AK (mask:Nat):Lay mask (Array.replicate (mask + 1) none) []:=
 ⟨by simp,λk h e=>by simp at e,λj j' k e _=>by (rw[u6] at e;cases e),λj k e=>by (rw[u6] at e;cases e)⟩
def wj {mask:Nat}(hm:zU mask)(hs:Array Int)(hl:hs.size * 5 < mask * 3)(finger moves:Nat)(led:Bool) :
  ∃t order,laid mask finger moves led true hs=some (t,order)/\t.led=led/\t.mask=mask/\order.toList.Nodup/\(∀k,k∈order.toList↔k < hs.size)/\
   Tab t (order.toList.map λk=>hs.toList.getD k 0):=by
 obtain⟨o,e,L⟩:=uN hm hs.toList [] _ (AK mask) (by simp;omega)
 simp only[List.nil_append] at L
 have ec:layClean mask hs=some o:=by
  unfold layClean
  rw[<-Array.foldl_toList]
  simp only[Kh] at e
  rw[e];rfl
 have hlive:∀j k,(j,k)∈((List.range (mask + 1)).filterMap λj=>(o.getD j none).map (j, ·))↔own o j=some k:=λj k=>by
  rw[JY]
  constructor
  ·rintro⟨x,_,q⟩
   cases ex:o.getD x none with
   |none=>rw[ex] at q;cases q
   |some y=>rw[ex] at q;simp at q;rw[<-q.1,<-q.2];exact ex
  ·intro q
   refine⟨j,HR.mpr (by have:=(L.le j k q).1;omega),?_⟩
   have:o.getD j none=some k:=q
   rw[this];rfl
 have hpw:((List.range (mask + 1)).filterMap λj=>(o.getD j none).map (j, ·)).Pairwise (λa b=>a.1 < b.1):=by
  refine List.pairwise_filterMap.mpr ?_
  refine List.Pairwise.imp ?_ JZ
  intro a b hab x hx y hy
  cases ea:o.getD a none with
  |none=>rw[ea] at hx;cases hx
  |some u=>
   cases eb:o.getD b none with
   |none=>rw[eb] at hy;cases hy
   |some v=>
    rw[ea] at hx;rw[eb] at hy
    simp at hx hy
    rw[<-hx,<-hy];exact hab
 generalize hlv:((List.range (mask + 1)).filterMap λj=>(o.getD j none).map (j, ·))=live at hlive hpw
 refine⟨{mask,place:=(live.map (·.1)).toArray,dummies:=#[],finger,led,moves,plain:=true},(live.map (·.2)).toArray,?_,rfl,rfl,?_,λk=>?_,?_⟩
 ·unfold laid
  rw[ec]
  simp only[Option.bind_eq_bind,Option.bind_some,Option.pure_def,hlv]
 ·have:(live.map (·.2)).Nodup:=by
   refine IA.mpr (Ip ?_ hpw)
   intro a b ha hb hab ee
   have h1:=(hlive a.1 a.2).mp ha
   have h2:=(hlive b.1 b.2).mp hb
   rw[ee] at h1
   have:=L.one _ _ _ h1 h2
   omega
  simpa using this
 ·rw[HH]
  constructor
  ·rintro⟨x,hx,rfl⟩
   have:=(L.le x.1 x.2 ((hlive x.1 x.2).mp hx)).2
   simpa using this
  ·intro hk
   have hk':k < hs.toList.length:=by simpa using hk
   obtain⟨j,ej,_⟩:=L.all k _ (Hu hk')
   exact⟨(j,k),(hlive j k).mpr ej,rfl⟩
 ·have hord:live.length=hs.size:=by
   have a1:(live.map (·.2)).Nodup:=by
    refine IA.mpr (Ip ?_ hpw)
    intro a b ha hb hab ee
    have h1:=(hlive a.1 a.2).mp ha
    have h2:=(hlive b.1 b.2).mp hb
    rw[ee] at h1
    have:=L.one _ _ _ h1 h2
    omega
   have b1:=aO (m:=List.range hs.size) a1 λx hx=>by
    obtain⟨y,hy,rfl⟩:=HH.mp hx
    have:=(L.le y.1 y.2 ((hlive y.1 y.2).mp hy)).2
    exact HR.mpr (by simpa using this)
   have b2:=aO (l:=List.range hs.size) (m:=live.map (·.2)) JF λx hx=>by
    have hk':x < hs.toList.length:=by simpa using HR.mp hx
    obtain⟨j,ej,_⟩:=L.all x _ (Hu hk')
    exact HH.mpr ⟨(j,x),(hlive j x).mpr ej,rfl⟩
   simp at b1 b2
   omega
  refine⟨hm,rfl,?_,λj hj=>?_,?_,?_,λi j h hi hh=>?_,rfl⟩
  ·show (live.map (·.1)).toArray.toList.Pairwise _
   rw[Ji]
   exact IA.mpr hpw
  ·have:j∈live.map (·.1):=by simpa using hj
   obtain⟨x,hx,rfl⟩:=HH.mp this
   exact (L.le x.1 x.2 ((hlive x.1 x.2).mp hx)).1
  ·simp
  ·show (live.map (·.1)).toArray.size * 5 < mask * 3
   simp[hord];exact hl
  ·have hi':(live.map (·.1))[i]? =some j:=by simpa using hi
   have hh':((live.map (·.2)).map λk=>hs.toList.getD k 0)[i]? =some h:=by simpa using hh
   rw[HL] at hi'
   rw[HL,HL] at hh'
   cases ex:live[i]? with
   |none=>rw[ex] at hi';cases hi'
   |some x=>
    rw[ex] at hi' hh'
    simp at hi' hh'
    have hxl:=(hlive x.1 x.2).mp (HN ex)
    have hk:=(L.le _ _ hxl).2
    have hk2:x.2 < hs.size:=by simpa using hk
    obtain⟨j2,ej2,r⟩:=L.all x.2 h (by
     rw[Hu hk]
     simp[hk2] at hh'
     simpa using hh')
    have:j2=j:=by rw[<-hi'];exact L.one _ _ _ ej2 hxl
    subst this
    refine r.mono λy hy=>?_
    show y∈(live.map (·.1)).toArray
    cases ey:own o y with
    |none=>rw[ey] at hy;cases hy
    |some k=>
     have:y∈live.map (·.1):=HH.mpr ⟨(y,k),(hlive y k).mpr ey,rfl⟩
     simpa using this
abbrev Pr:=Int×Int
def hp (p:Pr):Int:=reduceHash (Builtin.Tuple.tupleHashOf [hashInt p.1,hashInt p.2])
def Sm (p:Pr):Prop:=(0<=p.1/\p.1 < 8)/\(0<=p.2/\p.2 < 8)
def lT:List Pr:=(List.range 64).map λk=>(((k / 8:Nat):Int),((k % 8:Nat):Int))
def ju {p:Pr}(h:Sm p):p∈lT:=by
 unfold lT
 obtain⟨⟨a,b⟩,c,d⟩:=h
 refine HH.mpr ⟨p.1.toNat * 8 + p.2.toNat,HR.mpr (by omega),?_⟩
 refine Prod.ext ?_ ?_ <;> dsimp only <;> omega
def xP:(lT.map hp).Nodup:=by decide +kernel
theorem jR {α β:Type}{f:α->β}:∀{l:List α},(l.map f).Nodup->∀a b,a∈l->b∈l->f a=f b->a=b
 | [],_,_,_,h,_,_=>by cases h
 |x :: l,hn,a,b,ha,hb,e=>by
  have hn':=Il.mp hn
  rcases Hx.mp ha with ea |ha
  ·rcases Hx.mp hb with eb |hb
   ·rw[ea,eb]
   ·exact absurd (HH.mpr ⟨b,hb,by rw[<-e,ea]⟩) hn'.1
  ·rcases Hx.mp hb with eb |hb
   ·exact absurd (HH.mpr ⟨a,ha,by rw[e,eb]⟩) hn'.1
   ·exact jR hn'.2 a b ha hb e
def De {p q:Pr}(hp1:Sm p)(hq:Sm q)(e:hp p=hp q):p=q:=jR xP p q (ju hp1) (ju hq) e
def sR {l:List Pr}(hn:l.Nodup)(h:∀p,p∈l->Sm p):l.length<=64:=by
 have:=aO (m:=lT) hn λx hx=>ju (h x hx)
 simpa[lT] using this
section
variable {prog:Program}{w:World}{A:Around}{E:Value->Shared->Prop}{s:Shared}
abbrev bo (prog:Program)(w:World)(h:Heap)(p:Pr)(a:Addr):Prop:=IsTupleKey (intKind prog w) h [p.1,p.2] a
def bo.inj {h:Heap}{p q:Pr}{a:Addr}(x:bo prog w h p a)(y:bo prog w h q a):p=q:=by
 have:=IsTupleKey.inj x y
 simp at this
 exact Prod.ext this.1 this.2
structure pE (f:Pr->Int)(prog:Program)(w:World)(led:Bool)(h:Heap)(S:Addr)(ps:List (Addr×Pr)):Prop where
 ex:∃o ep t,h.get? S=some o/\o.ExactSet/\o.data=.set (ps.map λq=>(f q.2,Value.ref q.1)).toArray ep t/\Tab t (ps.map λq=>f q.2)/\t.led=led
 at':∀q,q∈ps->bo prog w h q.2 q.1/\Sm q.2
 nd:(ps.map (·.2)).Nodup
def l4 {t:SetTable}{hs:List Int}(T:Tab t hs){n:Nat}(e:n=hs.length):t.fits n=true:=by
 unfold SetTable.fits SetTable.fill
 have:=T.load'
 simp[T.size,T.dum,e]
 rw[T.size] at this;exact this
def yq (a:Addr)(wanted:Nat):setRelay a wanted=(do
  let (es,_,t) <-setState a
  if SetTable.sizeAbove wanted > sizeLine then unsupported "set:memory"
  let (es,t) <-(do
   let some (t,order):=t.relaid (es.map (·.1)) wanted |unsupported "internal:set-table-without-room"
   let es':=order.filterMap (es[·]?)
   if es'.size != es.size then unsupported "internal:set-table-lost-an-element"
   pure (es',t))
  storeSet a es t):=rfl
def vX (a:Addr)(x:Value)(h:Int)(fuel:Nat):setSearchFrom a x h true (fuel + 1) none=(do
  let (es,_,t) <-setState a
  if t.gaveWay then unsupported "set:on-a-table-that-gave-way"
  let some met:=t.probe (λi=>(es[i]?.map (·.1)).getD 0) h (t.probeStart h) |unsupported "internal:set-table-without-an-empty-slot"
  match met with
  | .empty j dummy=>
   match dummy with
   |none=>return .free j false
   |some d=>
    if true && t.slot d != .dummy then rule "set.search.the-dummy-was-taken";return <-setSearchFrom a x h true fuel none
    return .free d true
  | .candidate j i next=>
   if !t.led then
    if <-searchCouldBeSeen x ((es.filter (·.1 == h)).toList.map (·.2)) then unsupported "set:the-search-would-show-the-table"
   let some (_,y):=es[i]? |unsupported "internal:set-entry"
   let equal <-holding [y] (eqBool y x)
   let (es',_,t') <-setState a
   if true && equal then return .there none
   let some same:=t'.sameMemory t.moves t.mask |unsupported "set.changed-during-lookup:is-the-new-block-at-the-old-address"
   let still <-match (if same then t'.slot j else .empty) with
    | .live i'=>match es'[i']? with
     |some (_,y')=>do pure (if <-isSame y' y then some i' else none)
     |none=>pure none
    |_=>pure none
   match still with
   |none=>rule "set.search.anew";setSearchFrom a x h true fuel none
   |some i'=>if equal then return .there (some i') else setSearchFrom a x h true fuel (some next)):=rfl
theorem rV (n:Nat){v:Value}(h:carriedByValue v=true):ofAClassStatement n v=pure false:=by
 cases v with
 |ref a=>simp[carriedByValue] at h
 |_=>first |rfl | (unfold ofAClassStatement;rfl)
def tV (n:Nat){v:Value}{k:Int}(h:(intKind prog w).is k v=true):hashByValue n v=pure true:=by
 obtain⟨t,rfl⟩:=Jx h
 cases n <;> rfl
def jW {p:Pr}{a:Addr}{Q:Bool->Shared->Prop}(hk:bo prog w s.heap p a)(h:Q false s):wpAny (model prog w) A (ofAClassStatement 8 (.ref a)) Q E s:=by
 have hT:=hk.typeIs
 obtain⟨o,items,n,ho,hc,hd,hi⟩:=hk
 unfold ofAClassStatement
 refine Hv (wpAny_typeOf hT ?_)
 dsimp only
 rw[HA (by decide)]
 refine Hv (HE ?_)
 simp only[JW,HQ,Im]
 refine Hv (wpAny_seqItems ho hd ?_)
 dsimp only
 refine Hv ?_
 rw[<-Array.forIn_toList]
 refine wpAny_forIn_list _ (λrest r s'=>r.1=none/\s'=s/\∀v∈rest,carriedByValue v=true) _ ?_ ?_ _ _ ⟨rfl,rfl,hi.byValue⟩
 ·rintro v rest r s' ⟨hr,rfl,hall⟩
  rw[rV _ (hall v Hz)]
  refine Hv (HE ?_)
  simp only[HQ,Im]
  exact HE ⟨rfl,rfl,λu hu'=>hall u (HG _ hu')⟩
 ·rintro⟨r1,r2⟩ s' ⟨hr,rfl,_⟩
  simp only at hr
  subst hr
  exact HE h
def sv {p:Pr}{a:Addr}{Q:Bool->Shared->Prop}(hk:bo prog w s.heap p a)(h:Q true s):wpAny (model prog w) A (hashByValue 8 (.ref a)) Q E s:=by
 have hT:=hk.typeIs
 obtain⟨o,items,n,ho,hc,hd,hi⟩:=hk
 unfold hashByValue
 refine Hv (wpAny_specialOf hT F.slot_tuple_hash.lookup ?_)
 dsimp only
 refine Hv (wpAny_seqItems ho hd ?_)
 simp only[Option.getD_some]
 refine Hv ?_
 rw[<-Array.forIn_toList]
 refine wpAny_forIn_list _ (λrest r s'=>r.1=none/\s'=s/\∀v∈rest,∃k,(intKind prog w).is k v=true) _ ?_ ?_ _ _ ⟨rfl,rfl,λv hv=>?_⟩
 ·rintro v rest r s' ⟨hr,rfl,hall⟩
  obtain⟨k,hk⟩:=hall v Hz
  rw[tV _ hk]
  refine Hv (HE ?_)
  simp only[JW,HQ,Im]
  exact HE ⟨rfl,rfl,λu hu'=>hall u (HG _ hu')⟩
 ·rintro⟨r1,r2⟩ s' ⟨hr,rfl,_⟩
  simp only at hr
  subst hr
  exact HE h
 ·generalize items.toList=l at *
  cases hi with
  |cons h1 hi=>
   cases hi with
   |cons h2 hi=>
    cases hi
    rcases Hx.mp hv with rfl |hv
    ·exact⟨_,h1⟩
    ·rcases Hx.mp hv with rfl |hv
     ·exact⟨_,h2⟩
     ·cases hv
def tf {p:Pr}{a:Addr}(hk:bo prog w s.heap p a):∀(l:List Value) {Q:Bool->Shared->Prop},(∀v∈l,∃q b,v=.ref b/\bo prog w s.heap q b)->Q false s->wpAny (model prog w) A (searchCouldBeSeen (.ref a) l) Q E s:=by
 intro l Q hl h
 unfold searchCouldBeSeen
 refine Hv ?_
 refine wpAny_forIn_list _ (λrest r s'=>r.1=none/\s'=s/\∀v∈rest,∃q b,v=.ref b/\bo prog w s.heap q b) _ ?_ ?_ _ _ ⟨rfl,rfl,hl⟩
 ·rintro v rest r s' ⟨hr,rfl,hall⟩
  obtain⟨q,b,rfl,hb⟩:=hall v Hz
  have hrest:=λu hu'=>hall u (HG _ hu')
  dsimp only
  split
  ·exact HE ⟨rfl,rfl,hrest⟩
  ·refine Hv (wpAny_eqIsQuiet_tuple hk ?_)
   simp only[JW,HQ,Im]
   refine Hv (wpAny_eqIsQuiet_tuple hb ?_)
   simp only[JW,HQ,Im]
   refine Hv (jW hk ?_)
   simp only[HQ,Im]
   refine Hv (jW hb ?_)
   simp only[HQ,Im]
   exact HE ⟨rfl,rfl,hrest⟩
 ·rintro⟨r1,r2⟩ s' ⟨hr,rfl,_⟩
  simp only at hr
  subst hr
  exact HE h
end
section
variable {prog:Program}{w:World}{A:Around}{E:Value->Shared->Prop}{s:Shared}
def qE (t:SetTable)(hs:Array Int)(wanted:Nat)(hp:t.plain=true):t.relaid hs wanted=laid (sizeAbove wanted - 1) t.finger (t.movedTo (sizeAbove wanted - 1)) t.led true hs:=by
 unfold relaid;rw[hp]
def BU:sizeAbove (grown 5)=32/\sizeAbove (grown 19)=128:=by decide +kernel
theorem filterMap_get {α:Type}(es:Array α):∀(order:List Nat),(∀k,k∈order->k < es.size)->∃l:List α,order.filterMap (λi=>es[i]?)=l/\l.length=order.length/\(∀(i k:Nat),order[i]? =some k->l[i]? =es[k]?)/\∀x,x∈l->∃k,k∈order/\es[k]? =some x
 | [],_=>⟨[],rfl,rfl,λi k h=>by simp at h,λx hx=>by cases hx⟩
 |k :: r,h=>by
  obtain⟨l,e1,e2,e3,e4⟩:=filterMap_get es r λx hx=>h x (HG _ hx)
  have hk:=h k (Hz ..)
  refine⟨es[k] :: l,by rw[Ke,Ie hk,e1],by simp[e2],λi x hi=>?_,λx hx=>?_⟩
  ·cases i with
   |zero=>simp at hi;subst hi;simp[hk]
   |succ i=>simp at hi;simpa using e3 i x hi
  ·rcases Hx.mp hx with rfl |hx
   ·exact⟨k,Hz ..,by simp[hk]⟩
   ·obtain⟨y,hy,q⟩:=e4 x hx
    exact⟨y,HG _ hy,q⟩
abbrev cW (f:Pr->Int)(q:Addr×Pr):Int×Value:=(f q.2,Value.ref q.1)
def pX (f:Pr->Int){mask:Nat}(hm:zU mask){ps:List (Addr×Pr)}(hl:ps.length * 5 < mask * 3)(finger moves:Nat)(led:Bool) :
  ∃(t:SetTable) (order:Array Nat) (ps':List (Addr×Pr)),laid mask finger moves led true ((ps.map (cW f)).toArray.map (·.1))=some (t,order)/\order.filterMap (λi=>(ps.map (cW f)).toArray[i]?)=(ps'.map (cW f)).toArray/\ps'.length=ps.length/\
   (∀q,q∈ps'↔q∈ps)/\Tab t (ps'.map λq=>f q.2)/\t.led=led:=by
 obtain⟨t,order,e,el,em,nd,mem,T⟩:=wj hm ((ps.map (cW f)).toArray.map (·.1)) (by simpa using hl) finger moves led
 have hsz:((ps.map (cW f)).toArray.map (·.1)).size=ps.length:=by simp
 obtain⟨ps',f1,f2,f3,f4⟩:=filterMap_get ps.toArray order.toList λk hk=>by
  have:=(mem k).mp hk;rw[hsz] at this;simpa using this
 have hlen:order.toList.length=ps.length:=by
  have a1:=aO (m:=List.range ps.length) nd λx hx=>HR.mpr (by have:=(mem x).mp hx;rwa [hsz] at this)
  have a2:=aO (l:=List.range ps.length) (m:=order.toList) JF λx hx=>(mem x).mpr (by rw[hsz];exact HR.mp hx)
  simp at a1 a2 ⊢;omega
 refine⟨t,order,ps',e,?_,by omega,λq=>⟨λhq=>?_,λhq=>?_⟩,?_,el⟩
 ·apply Array.toList_inj.mp
  rw[Array.toList_filterMap,<-f1]
  simp only[Ji]
  rw[List.map_filterMap]
  congr 1
  funext i
  simp
 ·obtain⟨k,_,q2⟩:=f4 q hq
  rw[J4] at q2
  exact HN q2
 ·obtain⟨k,hk,q2⟩:=Ir.mp hq
  have hko:k∈order.toList:=(mem k).mpr (by rw[hsz];exact hk)
  obtain⟨i,hi,e2⟩:=Ir.mp hko
  have:=f3 i k (by rw[Hu hi,e2])
  rw[J4,Hu hk,q2] at this
  exact HN this
 ·have:(order.toList.map λk=>((ps.map (cW f)).toArray.map (·.1)).toList.getD k 0)=ps'.map λq=>f q.2:=by
   apply Kv
   intro i
   rw[HL,HL]
   cases hi:order.toList[i]? with
   |none=>
    have:ps'[i]? =none:=List.getElem?_eq_none_iff.mpr (by rw[f2];exact List.getElem?_eq_none_iff.mp hi)
    rw[this];rfl
   |some k=>
    have hk:k < ps.length:=by have:=(mem k).mp (HN hi);rwa [hsz] at this
    have:=f3 i k hi
    rw[J4,Hu hk] at this
    rw[this]
    simp[hk]
  rw[<-this];exact T
theorem lb:∀{l m:List Int},m.Nodup->(∀x,x∈m->x∈l)->l.length<=m.length->l.Nodup
 | [],_,_,_,_=>Kr
 |a :: l,m,hn,hs,hl=>by
  by_cases ha:a∈m
  ·have hnot:a∉l:=λz=>by
    have:=aO (m:=l) hn λx hx=>by
     rcases Hx.mp (hs x hx) with e |e
     ·rw[e];exact z
     ·exact e
    simp only[HX] at hl;omega
   refine Il.mpr ⟨hnot,lb (m:=m.erase a) (hn.erase a) (λx hx=>?_) ?_⟩
   ·have:=(hn.mem_erase_iff).mp hx
    rcases Hx.mp (hs x this.2) with e |e
    ·exact absurd e this.1
    ·exact e
   ·rw[Kl ha];simp only[HX] at hl;omega
  ·have:=aO (m:=l) hn λx hx=>by
    rcases Hx.mp (hs x hx) with e |e
    ·exact absurd (e▸hx) ha
    ·exact e
   simp only[HX] at hl;omega
def oU (a:Addr)(es:Array (Int×Value)):byScan (.ref a) es=false:=by unfold byScan Value.scannable;simp
def tZ {t:SetTable}(h:zU t.mask):t.gaveWay=false:=by
 unfold SetTable.gaveWay
 rcases h with e |e |e <;> rw[e] <;> decide
def pE.add {f:Pr->Int}(hinj:∀p q,Sm p->Sm q->f p=f q->p=q){led:Bool}{S a:Addr}{ps:List (Addr×Pr)}{p:Pr}{Q:Bool->Shared->Prop}(P:pE f prog w led s.heap S ps)(hk:bo prog w s.heap p a)(hs:Sm p)(hu:A.units < cLine)
  (h:∀(b:Bool) (h':Heap) (ps':List (Addr×Pr)),Heap.SameBut S s.heap h'->pE f prog w led h' S ps'->(∀q,q∈ps'->q∈ps\/q=(a,p))->(∀q,q∈ps->q∈ps')->(∃q,q∈ps'/\q.2=p)->Q b {s with heap:=h'}) :
  wpAny (model prog w) A (setAddHashed S (.ref a) (f p)) Q E s:=by
 obtain⟨o,ep,t,ho,hex,hd,T,hled⟩:=P.ex
 have hfit:t.fits (ps.map (cW f)).toArray.size=true:=l4 T (by simp)
 have ha:∀i,i < (ps.map λq=>f q.2).length->some ((((ps.map (cW f)).toArray)[i]?.map (·.1)).getD 0)=(ps.map λq=>f q.2)[i]?:=λi hi=>by
  have hi':i < ps.length:=by simpa using hi
  simp[hi']
 unfold setAddHashed
 refine IX ?_
 unfold setAddHashedIn
 refine Hv (IK ho hd hfit ?_)
 dsimp only
 rw[oU]
 simp only[HQ,Im]
 unfold setSearch
 rw[vX]
 refine Hv (Hv (IK ho hd hfit ?_))
 dsimp only
 rw[tZ T.mask]
 simp only[HQ,Im]
 by_cases hm:f p∈ps.map λq=>f q.2
 ·
  obtain⟨j,i,nx,e1,e2,e3,e4⟩:=T.present ha hm
  rw[e1]
  dsimp only
  have hi:i < ps.length:=by simpa using e3
  have e5:f (ps[i].2)=f p:=by
   rw[HL,Hu hi] at e4
   simpa using e4
  have hq:=P.at' ps[i] (IV hi)
  have e6:ps[i].2=p:=hinj _ _ hq.2 hs e5
  have hget:((ps.map (cW f)).toArray)[i]? =some (f ps[i].2,.ref ps[i].1):=by simp[hi]
  have rest:wpAny (model prog w) A (do
    let some (_,y):=((ps.map (cW f)).toArray)[i]? |unsupported "internal:set-entry"
    let equal <-holding [y] (eqBool y (.ref a))
    let (es',_,t') <-setState S
    if true && equal then return SetFound.there none
    let some same:=t'.sameMemory t.moves t.mask |unsupported "set.changed-during-lookup:is-the-new-block-at-the-old-address"
    let still <-match (if same then t'.slot j else .empty) with
     | .live i'=>match es'[i']? with
      |some (_,y')=>do pure (if <-isSame y' y then some i' else none)
      |none=>pure none
     |_=>pure none
    match still with
    |none=>rule "set.search.anew";setSearchFrom S (.ref a) (f p) true 99999 none
    |some i'=>if equal then return .there (some i') else setSearchFrom S (.ref a) (f p) true 99999 (some nx))
    (λr s'=>s'=s/\r=.there none) E s:=by
   rw[hget]
   dsimp only
   refine Hv (IX (wpAny_eqBool_tuple hu hq.1 hk ?_))
   rw[HK (by rw[e6])]
   refine Hv (IK ho hd hfit ?_)
   dsimp only
   simp only[Kc,IM]
   exact HE ⟨rfl,rfl⟩
  have fin:∀r s',s'=s/\r=SetFound.there none->wpAny (model prog w) A (match r with
    | .free slot wasDummy=>(do
     let (es,_,t) <-setState S
     let (t,p'):=t.put slot
     let byValue <-if t.plain then hashByValue 8 (.ref a) else pure true
     let t:=if byValue then t else {t with plain:=false}
     storeSet S (SetTable.insertAt es p' (f p,.ref a)) t
     if !wasDummy && t.tooFull then setRelay S (SetTable.grown (es.size + 1))
     return true)
    |_=>pure false) Q E s':=by
   rintro r s' ⟨rfl,rfl⟩
   exact HE (h false s'.heap ps (Heap.SameBut.refl ..) P (λq hq=>.inl hq) (λq hq=>hq) ⟨ps[i],IV hi,e6⟩)
  cases hl:led with
  |true=>
   rw[hled,hl]
   simp only[JW,HQ,Im]
   exact Jc rest (λr s' hr=>fin r s' hr) λ_ _ x=>x
  |false=>
   rw[hled,hl]
   simp only[Bool.not_false,IM]
   refine Hv (tf hk _ (λv hv=>?_) ?_)
   ·obtain⟨x,hx,rfl⟩:=HH.mp hv
    have hx':x∈(ps.map (cW f)).toArray:=(Array.mem_filter.mp (JO.mp hx)).1
    have hx2:x∈ps.map (cW f):=by simpa using hx'
    obtain⟨q,hq,rfl⟩:=HH.mp hx2
    exact⟨q.2,q.1,rfl,(P.at' q hq).1⟩
   ·simp only[HQ,Im]
    exact Jc rest (λr s' hr=>fin r s' hr) λ_ _ x=>x
 ·
  obtain⟨j,e1,e2,e3,e4⟩:=T.absent ha hm
  rw[e1]
  dsimp only
  refine HE ?_
  dsimp only
  refine Hv (IK ho hd hfit ?_)
  dsimp only
  obtain⟨q1,q2⟩:=oK t j T.dum
  have hpl:(t.put j).1.plain=true:=by rw[q1];exact T.plain
  rw[hpl]
  simp only[IM]
  refine Hv (sv hk ?_)
  simp only[IM]
  have hb:(t.put j).2<=ps.length:=by
   rw[q2]
   have:=(cN T.rise j).1
   rw[T.size] at this;simpa using this
  have hins:insertAt (ps.map (cW f)).toArray (t.put j).2 (f p,Value.ref a)=((ps.take (t.put j).2 ++ (a,p) :: ps.drop (t.put j).2).map (cW f)).toArray:=by
   apply Array.toList_inj.mp
   rw[bC _ _ _ (by simpa using hb)]
   simp[List.map_take,List.map_drop]
  rw[hins]
  generalize hps':ps.take (t.put j).2 ++ (a,p) :: ps.drop (t.put j).2=ps1
  have mem1:∀q,q∈ps1↔q∈ps\/q=(a,p):=λq=>by
   rw[<-hps',HP,Hx]
   conv=>rhs;rw[<-Jq (t.put j).2 ps,HP]
   constructor
   ·rintro (z |z |z)
    ·exact .inl (.inl z)
    ·exact .inr z
    ·exact .inl (.inr z)
   ·rintro ((z |z) |z)
    ·exact .inl z
    ·exact .inr (.inr z)
    ·exact .inr (.inl z)
  have len1:ps1.length=ps.length + 1:=by rw[<-hps'];simp;omega
  have nd1:(ps1.map (·.2)).Nodup:=by
   have hnot:p∉ps.map (·.2):=λz=>by
    obtain⟨q,hq,e⟩:=HH.mp z
    exact hm (HH.mpr ⟨q,hq,by rw[e]⟩)
   have perm:(ps1.map (·.2)).Perm (p :: ps.map (·.2)):=by
    rw[<-hps']
    have:(ps.take (t.put j).2 ++ (a,p) :: ps.drop (t.put j).2).Perm ((a,p) :: ps):=by
     refine List.perm_middle.trans ?_
     rw[Jq]
    exact this.map (·.2)
   exact perm.nodup_iff.mpr (Il.mpr ⟨hnot,P.nd⟩)
  have ne:∀b q,bo prog w s.heap q b->b≠S:=λb q ⟨o',_,_,ho',_,hd',_⟩ e=>by
   subst e
   rw[ho] at ho';cases ho'
   rw[hd] at hd';cases hd'
  have at1:∀{h':Heap},Heap.SameBut S s.heap h'->∀q,q∈ps1->bo prog w h' q.2 q.1/\Sm q.2:=λ{h'} hsb q hq=>by
   have key:∀{b:Addr} {q:Pr},bo prog w s.heap q b->bo prog w h' q b:=λ{b q} hb=>by
    have hne:=ne b q hb
    obtain⟨o',i',n',ho',r'⟩:=hb
    exact⟨o',i',n',(hsb.2 b hne).trans ho',r'⟩
   rcases (mem1 q).mp hq with z |z
   ·exact⟨key (P.at' q z).1,(P.at' q z).2⟩
   ·subst z;exact⟨key hk,hs⟩
  have hlen64:ps1.length<=64:=by
   have:=sR nd1 λx hx=>by
    obtain⟨q,hq,rfl⟩:=HH.mp hx
    exact (at1 (Heap.SameBut.refl ..) q hq).2
   simpa using this
  have hsize:((ps1.map (cW f)).toArray).size<=sizeLine:=by rw[Iu];simp;omega
  refine Hv (wpAny_storeSet_of ho hd ?_ hsize)
  have ho1:(s.heap.update S (Obj.putSet (ps1.map (cW f)).toArray (t.put j).1)).get? S=some {o with data:=.set (ps1.map (cW f)).toArray (ep + 1) (t.put j).1}:=by
   have:=IL (Obj.putSet (ps1.map (cW f)).toArray (t.put j).1) ho (by rw[putSet_of _ _ hd];rfl)
   rw[putSet_of _ _ hd] at this;exact this
  have sb1:=Heap.SameBut.update s.heap S (Obj.putSet (ps1.map (cW f)).toArray (t.put j).1)
  have hex1:({o with data:=.set (ps1.map (cW f)).toArray (ep + 1) (t.put j).1}:Obj).ExactSet:=hex
  have psz:(t.put j).1.place.size=ps.length + 1:=by
   rw[q1]
   show (insertAt t.place (below t.place j) j).size=_
   rw[<-Kf,bC _ _ _ (cN T.rise j).1]
   have:=T.size
   simp at this ⊢
   have:=(cN T.rise j).1
   omega
  have dum1:(t.put j).1.dummies=#[]:=by rw[q1];exact T.dum
  have mask1:(t.put j).1.mask=t.mask:=by rw[q1]
  have tsz:t.place.size=ps.length:=by simpa using T.size
  simp only[Bool.not_false,Bool.true_and]
  cases htf:(t.put j).1.tooFull with
  |false=>
   simp only[HQ,Im]
   have hload:(t.place.size + 1) * 5 < t.mask * 3:=by
    unfold SetTable.tooFull SetTable.fill at htf
    rw[psz,dum1,mask1] at htf
    simp at htf
    rw[tsz];exact htf
   obtain⟨T1,_⟩:=T.put e2 e3 e4 hload
   refine Hv (HE (HE (h true _ ps1 sb1 ⟨⟨_,ep + 1,_,ho1,hex1,rfl,?_,?_⟩,at1 sb1,nd1⟩ (λq hq=>(mem1 q).mp hq) (λq hq=>(mem1 q).mpr (.inl hq)) ⟨(a,p),(mem1 _).mpr (.inr rfl),rfl⟩)))
   ·rw[<-hps']
    simpa[List.map_take,List.map_drop] using T1
   ·rw[q1];exact hled
  |true=>
   simp only[IM]
   have hfull:t.mask * 3<=(ps.length + 1) * 5:=by
    unfold SetTable.tooFull SetTable.fill at htf
    rw[psz,dum1,mask1] at htf
    simpa using htf
   have hload:=T.load
   rw[tsz] at hload
   have hcase:∃mask',zU mask'/\sizeAbove (grown (ps.length + 1)) - 1=mask'/\sizeAbove (grown (ps.length + 1))<=sizeLine/\(ps.length + 1) * 5 < mask' * 3:=by
    rcases T.mask with e |e |e
    ·have:ps.length + 1=5:=by rw[e] at hfull hload;omega
     rw[this,BU.1]
     exact⟨31,.inr (.inl rfl),rfl,by rw[Iu];decide,by decide⟩
    ·have:ps.length + 1=19:=by rw[e] at hfull hload;omega
     rw[this,BU.2]
     exact⟨127,.inr (.inr rfl),rfl,by rw[Iu];decide,by decide⟩
    ·rw[e] at hfull;omega
   obtain⟨mask',hm3,em,hline,hl2⟩:=hcase
   have hes:(ps.map (cW f)).toArray.size + 1=ps.length + 1:=by simp
   rw[hes,yq]
   have hfit1:(t.put j).1.fits ((ps1.map (cW f)).toArray).size=true:=by
    unfold SetTable.fits SetTable.fill
    have hpl2:ps.length + 1<=t.mask:=by
     rcases T.mask with e |e |e <;> rw[e] at hload ⊢ <;> omega
    rw[psz,dum1,mask1]
    simp[len1,hpl2]
   refine Hv (Hv (IK ho1 rfl hfit1 ?_))
   dsimp only
   rw[HI (by omega)]
   rw[qE _ _ _ hpl,em]
   obtain⟨t2,order,ps2,g1,g2,g3,g4,g5,g6⟩:=pX f hm3 (ps:=ps1) (by rw[len1];exact hl2) (t.put j).1.finger ((t.put j).1.movedTo mask') (t.put j).1.led
   rw[g1]
   simp only[bind_pure_comp,pure_bind]
   rw[g2]
   have hne:((ps2.map (cW f)).toArray.size != (ps1.map (cW f)).toArray.size)=false:=by simp[g3]
   rw[hne]
   simp only[HQ,Im]
   have hsize2:((ps2.map (cW f)).toArray).size<=sizeLine:=by rw[Iu];simp;omega
   refine Hv (HE ?_)
   refine wpAny_storeSet_of ho1 rfl ?_ hsize2
   have ho2:((s.heap.update S (Obj.putSet (ps1.map (cW f)).toArray (t.put j).1)).update S (Obj.putSet (ps2.map (cW f)).toArray t2)).get? S=some {o with data:=.set (ps2.map (cW f)).toArray (ep + 1 + 1) t2}:=by
    have:=IL (Obj.putSet (ps2.map (cW f)).toArray t2) ho1 (by rw[putSet_of (ep:=ep + 1) _ _ rfl];rfl)
    rw[putSet_of (ep:=ep + 1) _ _ rfl] at this;exact this
   have sb2:=sb1.trans (Heap.SameBut.update _ S (Obj.putSet (ps2.map (cW f)).toArray t2))
   have nd2:(ps2.map (·.2)).Nodup:=by
    have hmem:∀q,q∈ps2.map (·.2)↔q∈ps1.map (·.2):=λq=>by
     rw[HH,HH]
     exact⟨λ⟨x,hx,e⟩=>⟨x,(g4 x).mp hx,e⟩,λ⟨x,hx,e⟩=>⟨x,(g4 x).mpr hx,e⟩⟩
    have hnd:(ps2.map λq=>f q.2).Nodup:=by
     refine lb (m:=ps1.map λq=>f q.2) ?_ (λx hx=>?_) (by simp[g3])
     ·have:(ps1.map λq=>f q.2)=(ps1.map (·.2)).map f:=by simp
      rw[this]
      refine IA.mpr (Ip ?_ nd1)
      intro x y hx hy hxy e
      obtain⟨q,hq,rfl⟩:=HH.mp hx
      obtain⟨r,hr,rfl⟩:=HH.mp hy
      exact hxy (hinj _ _ (at1 sb1 q hq).2 (at1 sb1 r hr).2 e)
     ·obtain⟨q,hq,rfl⟩:=HH.mp hx
      exact HH.mpr ⟨q,(g4 q).mpr hq,rfl⟩
    have:(ps2.map λq=>f q.2)=(ps2.map (·.2)).map f:=by simp
    rw[this] at hnd
    exact (IA.mp hnd).imp λhxy e=>hxy (by rw[e])
   refine HE (h true _ ps2 sb2 ⟨⟨_,ep + 1 + 1,t2,ho2,hex,rfl,g5,?_⟩,λq hq=>at1 sb2 q ((g4 q).mp hq),nd2⟩ (λq hq=>(mem1 q).mp ((g4 q).mp hq)) (λq hq=>(g4 q).mpr ((mem1 q).mpr (.inl hq))) ⟨(a,p),(g4 _).mpr ((mem1 _).mpr (.inr rfl)),rfl⟩)
   rw[g6,q1];exact hled
end
def gR (w:World):Bool:= !(w.params.followText "set-order")
def xu (prog:Program)(w:World)(p:Pr):Int:=tupleKeyHash (intKind prog w) [p.1,p.2]
def Au (prog:Program)(w:World):∀p q,Sm p->Sm q->xu prog w p=xu prog w q->p=q:=λp q h1 h2 e=>De h1 h2 e
section
variable {prog:Program}{w:World}{A:Around}{E:Value->Shared->Prop}{s:Shared}{R:Result->Shared->Prop}{I:Addr}{fp wr:List Addr}{n:Nat}{P:Nat->Value->Prop}{St:Nat->Heap->Prop}
def cu (prog:Program)(w:World)(h:Heap)(vs:List Value)(ps:List Pr):Prop:=vs.length=ps.length/\∀(i:Nat) (v:Value) (p:Pr),vs[i]? =some v->ps[i]? =some p->∃a,v=.ref a/\bo prog w h p a/\Sm p
abbrev lE (prog:Program)(w:World)(h:Heap)(S:Addr)(vs:List Value)(ps:List Pr)(k:Nat):Prop:=∃qs:List (Addr×Pr),pE (xu prog w) prog w (gR w) h S qs/\
 (∀q,q∈qs->Value.ref q.1∈vs.take k/\q.2∈ps.take k)/\∀p,p∈ps.take k->p∈qs.map (·.2)
theorem kl (W:Walks prog w A.in1 I fp wr n P St)(S:Addr)(hSf:S∉fp){vs:List Value}{ps:List Pr}(hn:vs.length=n)(hP:∀i v,P i v->vs[i]? =some v)(hu:A.in1.units < cLine)(h₀:Heap)
  (hps:cu prog w h₀ vs ps) (hwr:∀b o,b∈S :: wr->h₀.get? b=some o->False):∀(k i:Nat) (s:Shared),n - i=k->i<=n->St i s.heap->(∀b o,h₀.get? b=some o->s.heap.get? b=some o)->lE prog w s.heap S vs ps i->
   (∀h' tk,(∀b o,b∉S :: wr->s.heap.get? b=some o->h'.get? b=some o)->lE prog w h' S vs ps n->R (.ok (.ret .none)) {s with heap:=h',toks:=tk})->
   codeAny (model prog w) A (.builtin "set.update.loop" ⟨[.ref S,.ref I],[]⟩) R s:=by
 have nw:S∉wr:=λh=>hSf (W.sub _ h)
 intro k
 induction k with
 |zero=>
  intro i s hk hi hst hk0 hF hR
  obtain rfl:i=n:=by omega
  refine Jv PyProof.Rows.F.entry_set_update_loop ?_
  rw[Jd JH _]
  show wpAny _ A.in1 (pyNext (.ref I) >>= λr=>_) _ _ s
  refine Hv (W.done s _ _ hst λh' tk hm=>?_)
  show wpAny _ A.in1 (ret Value.none) _ _ _
  refine HE (hR h' tk (λb o hb e=>hm b o (λz=>hb (HG _ z)) e) ?_)
  obtain⟨qs,Q1,Q2,Q3⟩:=hF
  obtain⟨o,ep,t,ho,r⟩:=Q1.ex
  refine⟨qs,⟨⟨o,ep,t,hm S o nw ho,r⟩,λq hq=>⟨?_,(Q1.at' q hq).2⟩,Q1.nd⟩,Q2,Q3⟩
  obtain⟨m,hm1,hm2⟩:=Ir.mp (Je (Q2 q hq).1)
  have hm1':m < ps.length:=by rw[<-hps.1];exact hm1
  obtain⟨a,ea,ha,_⟩:=hps.2 m vs[m] ps[m] (Hu hm1) (Hu hm1')
  rw[hm2] at ea
  cases ea
  obtain⟨o',it',n',ho',r'⟩:=(Q1.at' q hq).1
  obtain⟨o2,it2,n2,ho2,r2⟩:=ha
  have:o'=o2:=Option.some.inj (ho'.symm.trans (hk0 _ _ ho2))
  subst this
  exact⟨o',it',n',hm _ _ (λz=>hwr _ _ (HG _ z) ho2) ho',r'⟩
 |succ k ih=>
  intro i s hk hi hst hk0 hF hR
  have hlt:i < n:=by omega
  refine Jv PyProof.Rows.F.entry_set_update_loop ?_
  rw[Jd JH _]
  show wpAny _ A.in1 (pyNext (.ref I) >>= λr=>_) _ _ s
  refine Hv (W.item i s _ _ hlt hst λv h1 tk1 hv hst1 hm=>?_)
  have hvi:=hP i v hv
  have hip:i < ps.length:=by rw[<-hps.1,hn];exact hlt
  obtain⟨a,rfl,ha,hsm⟩:=hps.2 i v ps[i] hvi (Hu hip)
  have k1:∀b o,h₀.get? b=some o->h1.get? b=some o:=λb o e=>hm b o (λz=>hwr b o (HG _ z) e) (hk0 b o e)
  obtain⟨qs,Q1,Q2,Q3⟩:=hF
  have old:∀{q:Addr×Pr} {h:Heap},q∈qs->(∀b o,h₀.get? b=some o->h.get? b=some o)->bo prog w h q.2 q.1:=λ{q h} hq kk=>by
   obtain⟨m,hm1,hm2⟩:=Ir.mp (Je (Q2 q hq).1)
   have hm1':m < ps.length:=by rw[<-hps.1];exact hm1
   obtain⟨a,ea,ha,_⟩:=hps.2 m vs[m] ps[m] (Hu hm1) (Hu hm1')
   rw[hm2] at ea
   cases ea
   obtain⟨o',it',n',ho',r'⟩:=(Q1.at' q hq).1
   obtain⟨o2,it2,n2,ho2,r2⟩:=ha
   have:o'=o2:=Option.some.inj (ho'.symm.trans (hk0 _ _ ho2))
   subst this
   exact⟨o',it',n',kk _ _ ho2,r'⟩
  have P1:pE (xu prog w) prog w (gR w) h1 S qs:=by
   obtain⟨o,ep,t,ho,r⟩:=Q1.ex
   exact⟨⟨o,ep,t,hm S o nw ho,r⟩,λq hq=>⟨old hq k1,(Q1.at' q hq).2⟩,Q1.nd⟩
  have ha1:bo prog w h1 ps[i] a:=by
   obtain⟨o',it',n',ho',r'⟩:=ha
   exact⟨o',it',n',k1 _ _ ho',r'⟩
  show wpAny _ A.in1 (holding [Value.ref a] (setAdd S (.ref a)) >>= λ_=>_) _ _ _
  refine Hv (IX ?_)
  unfold setAdd
  refine IX (Hv (wpAny_pyHash_tuple hu ha1 ?_))
  refine pE.add (Au prog w) (s:={s with heap:=h1,toks:=tk1 + ([ps[i].1,ps[i].2].length + 1)}) P1 ha1 hsm hu λb h2 qs' sb P2 m1 m2 m3=>?_
  have sbS:∀b o,h₀.get? b=some o->h2.get? b=some o:=λb o e=>(sb.2 b (λz=>hwr b o (by rw[z];exact Hz) e)).trans (k1 b o e)
  refine HE ⟨Kd JH _,ih (i + 1) _ (by omega) hlt (W.frame _ _ _ hst1 λb hb o e=>?_) sbS ⟨qs',P2,λq hq=>?_,λp hp=>?_⟩ λh' tk hm' F'=>?_⟩
  ·rw[sb.2 b λz=>hSf (by rw[<-z];exact hb)];exact e
  ·have htk:∀{α:Type} {l:List α} {x:α},x∈l.take i->x∈l.take (i + 1):=λ{α l x} hx=>by
    rw[JN];exact Jb _ hx
   rcases m1 q hq with z |z
   ·exact⟨htk (Q2 q z).1,htk (Q2 q z).2⟩
   ·subst z
    refine⟨?_,?_⟩
    ·rw[JN,hvi];exact HZ _ (by simp)
    ·rw[JN,Hu hip];exact HZ _ (by simp)
  ·rw[JN,Hu hip] at hp
   rcases HP.mp hp with z |z
   ·obtain⟨q,hq,rfl⟩:=HH.mp (Q3 p z)
    exact HH.mpr ⟨q,m2 q hq,rfl⟩
   ·have:p=ps[i]:=by simpa using z
    obtain⟨q,hq,e⟩:=m3
    exact HH.mpr ⟨q,hq,by rw[e,this]⟩
  ·refine hR h' tk (λb o hb e=>hm' b o hb ?_) F'
   show h2.get? b=some o
   rw[sb.2 b λz=>hb (by rw[z];exact Hz)]
   exact hm b o (λz=>hb (HG _ z)) e
def qC (a:Value){Q1:Value->Shared->Prop}
  (h:Q1 (.ref s.heap.objs.size) {s with heap:=s.heap.push {cls:=.type "set",dict:=none,data:=.set #[] 0 (.fresh 0 0 (gR w))}}) :
  codeAny (model prog w) A (.call (.builtin "set.__new__") ⟨[.type "set",a],[]⟩) (wants Q1 E) s:=by
 refine codeAny_of_tree ?_
 show wpAny _ A.in1 (do (checkBuiltinCall "set.__new__" ⟨[.type "set",a],[]⟩);again (.builtin "set.__new__" ⟨[.type "set",a],[]⟩)) _ _ s
 refine Hv (wpAny_of_eq (F.newCall_set_1 a) (HE ⟨Kd F.plain_set_new _,Jv F.entry_set_new ?_⟩))
 rw[Jd F.plain_set_new _]
 (unfold Builtin.«set.__new__» Builtin.Frozenset.newClass)
 have hsub0:=sub_set_self
 obtain⟨hp0,g0,d0,tk0,os0⟩:=s
 dsimp only
 wp_walk
 (refine Kb (HE ?_))
 dsimp only
 simp only[newObj]
 (refine Hv (wpAny_alloc (HE ?_)))
 exact HE h
def wY (led:Bool):Tab (.fresh 0 0 led) []:=
 ⟨.inl rfl,rfl,List.Pairwise.nil,λj h=>(by cases (JO.mpr h)),rfl,(by show (0:Nat) * 5 < 7 * 3;decide),λi j h e=>(by simp[SetTable.fresh] at e),rfl⟩
structure Src (prog:Program)(w:World)(h:Heap)(l:Addr)(vs:List Value)(T:String)(itO:Obj)(St:Addr->Nat->Heap->Prop):Prop where
 ty:∃o,h.get? l=some o/\o.cls=.type T
 ns:isSubtype (.type T) (.type "set")=pure false
 nf:isSubtype (.type T) (.type "frozenset")=pure false
 nd:(Value.type T == Value.type "dict")=false
 it:∀(A:Around) (s1:Shared) (Q:Value->Shared->Prop) (E:Value->Shared->Prop),(∀b o,h.get? b=some o->s1.heap.get? b=some o)->Q (.ref s1.heap.objs.size) {s1 with heap:=s1.heap.push itO}->wpAny (model prog w) A (pyIter (.ref l)) Q E s1
 st:∀(h1:Heap),(∀b o,h.get? b=some o->h1.get? b=some o)->St h1.objs.size 0 (h1.push itO)
 wk:∀(A:Around) (I:Addr),A.handled=none->l≠I->Walks prog w A I [I,l] [I] vs.length (λi v=>vs[i]? =some v) (St I)
def Src.list {h:Heap}{l:Addr}{vs:List Value}(hl:h.IsList l vs.toArray):Src prog w h l vs "list" {cls:=.type "list_iterator",data:=.fields #[.ref l,.int 0 0]} (λI i h'=>h'.IsListIter I l i/\h'.IsList l vs.toArray):=by
 obtain⟨o,ho,hc,n,hd⟩:=id hl
 refine⟨⟨o,ho,hc⟩,F.sub_list_set,F.sub_list_frozenset,by decide,λA s1 Q E k hQ=>J2 ⟨o,k _ _ ho,hc,n,hd⟩ hQ,λh1 k=>⟨⟨_,HU _ rfl,rfl,rfl⟩,⟨o,Hw _ (k _ _ ho),hc,n,hd⟩⟩,λA I hh hne=>?_⟩
 have:=Walks.list (prog:=prog) (w:=w) hh I l hne vs.toArray
 simpa using this
def sub_tuple_set:isSubtype (.type "tuple") (.type "set")=pure false:=by rw[Ks];kernel_rfl
def sub_tuple_frozenset:isSubtype (.type "tuple") (.type "frozenset")=pure false:=by rw[Ks];kernel_rfl
def Src.tuple {h:Heap}{l:Addr}{vs:List Value}(hl:h.IsTuple l vs.toArray):Src prog w h l vs "tuple" {cls:=.type "tuple_iterator",data:=.fields #[.ref l,.int 0 0]} (λI i h'=>h'.IsTupleIter I l i/\h'.IsTuple l vs.toArray):=by
 obtain⟨o,ho,hc,n,hd⟩:=id hl
 refine⟨⟨o,ho,hc⟩,sub_tuple_set,sub_tuple_frozenset,by decide,λA s1 Q E k hQ=>Km ⟨o,k _ _ ho,hc,n,hd⟩ hQ,λh1 k=>⟨⟨_,HU _ rfl,rfl,rfl⟩,⟨o,Hw _ (k _ _ ho),hc,n,hd⟩⟩,λA I hh hne=>?_⟩
 have:=Walks.tuple (prog:=prog) (w:=w) hh I l hne vs.toArray
 simpa using this
set_option maxHeartbeats 3200000 in
theorem mB {l:Addr}{vs:List Value}{ps:List Pr}{T:String}{itO:Obj}{St:Addr->Nat->Heap->Prop}{Q:Value->Shared->Prop}(X:Src prog w s.heap l vs T itO St)(hh:A.handled=none)(hu:A.units + 64 < cLine)(hps:cu prog w s.heap vs ps)
  (h:∀(h':Heap) (tk:Nat),lE prog w h' s.heap.objs.size vs ps vs.length->(∀b o,s.heap.get? b=some o->h'.get? b=some o)->Q (.ref s.heap.objs.size) {s with heap:=h',toks:=tk}) :
  wpAny (model prog w) A (call (.type "set") [.ref l]) Q E s:=by
 obtain⟨c0,tl0,hmro0⟩:=JQ.mro
 have hmade0:=JQ.made
 have hsub0:=JQ.sub
 refine wpAny_call (codeAny_of_tree ?_)
 show wpAny _ _ (callAny (.type "set") ⟨[.ref l],[]⟩) _ _ _
 refine HE ⟨Code.quiet_builtin _ (by decide +kernel),Jv F.entry_type_call ?_⟩
 (rw[Around.under_plain (weight_type_call_type "set" [.ref l] []) rfl])
 have g1:=JQ.notType
 have g2:=JQ.canCreate
 have g3:=F.typeCall_set_1 (.ref l)
 repeat (any_goals (first |assumption |wp_step))
 refine Ki (qC (.ref l) (E:=E) (Q1:=λobj s1=>obj=.ref s.heap.objs.size/\s1={s with heap:=s.heap.push {cls:=.type "set",dict:=none,data:=.set #[] 0 (.fresh 0 0 (gR w))}}) ⟨rfl,rfl⟩) λr s1 hr=>?_
 cases r with
 |error e=>exact hr
 |ok fl=>
  cases fl with
  |ret obj=>
   obtain⟨rfl,rfl⟩:=hr
   generalize hO:({cls:=.type "set",dict:=none,data:=.set #[] 0 (.fresh 0 0 (gR w))}:Obj)=O
   have hS0:(s.heap.push O).get? s.heap.objs.size=some O:=HU _ (by rw[<-hO];rfl)
   have hT0:Shared.TypeIs {s with heap:=s.heap.push O} (.ref s.heap.objs.size) "set":=⟨_,hS0,by rw[<-hO]⟩
   have g4:=JQ.init.lookup
   have g5:=JQ.init.bind (.ref s.heap.objs.size)
   repeat (any_goals (first |assumption |wp_step))
   refine Ki (codeAny_call_builtin (R:=wants (λr s2=>r=.none/\∃h' tk,s2={s with heap:=h',toks:=tk}/\lE prog w h' s.heap.objs.size vs ps vs.length/\(∀b o,s.heap.get? b=some o->h'.get? b=some o)) E)
    JQ.init.plain F.entry_set_init (check_set_init_1 hT0 ?_)) λr2 s2 hr2=>?_
   ·obtain⟨ol,hol,hcl⟩:=X.ty
    have hol':(s.heap.push O).get? l=some ol:=Hw _ hol
    have e1:=X.ns
    have e2:=X.nf
    have e3:=X.nd
    have hTl:Shared.TypeIs {s with heap:=s.heap.push O} (.ref l) T:=⟨ol,hol',hcl⟩
    have hdat:O.data=.set #[] 0 (.fresh 0 0 (gR w)):=by rw[<-hO]
    (unfold Builtin.«set.__init__» noKeywords Builtin.Frozenset.updateFrom)
    subst hO
    obtain⟨oc,od,odt,osl⟩:=ol
    simp only at hcl
    subst hcl
    (generalize hPI0:pyIter=PI0)
    wp_walk
    subst hPI0
    have kp:∀b o,s.heap.get? b=some o->(s.heap.push {cls:=.type "set",dict:=none,data:=.set #[] 0 (.fresh 0 0 (gR w))}).get? b=some o:=λb o e=>Hw _ e
    refine X.it _ _ _ _ kp ?_
    refine Hv (wpAny_runValue ?_)
    have hlS:l < s.heap.objs.size:=HJ hol
    have hh3:A.in1.in1.in1.handled=none:=by simp[hh]
    have hneI:l≠(s.heap.push {cls:=.type "set",dict:=none,data:=.set #[] 0 (.fresh 0 0 (gR w))}).objs.size:=by
     rw[Jo];exact Ih (Nat.lt_succ_of_lt hlS)
    have hSf:s.heap.objs.size∉ [(s.heap.push {cls:=.type "set",dict:=none,data:=.set #[] 0 (.fresh 0 0 (gR w))}).objs.size,l]:=by
     rw[Jo]
     intro z
     rcases Hx.mp z with e |z
     ·exact absurd e (Ih (Nat.lt_succ_self _))
     ·exact absurd (HC.mp z) (Nat.ne_of_gt hlS)
    refine kl (X.wk _ _ hh3 hneI) s.heap.objs.size hSf rfl (λi v e=>e) (by simp;omega) s.heap hps (λb o hb e=>?_) (vs.length - 0) 0 _ (by omega) (Ia _) (X.st _ kp) (λb o e=>Hw _ (kp b o e)) ?_ ?_
    ·have hlt:=HJ e
     rw[Jo] at hb
     rcases Hx.mp hb with z |z
     ·exact absurd hlt (by rw[z];exact Iv _)
     ·rw[HC.mp z] at hlt
      exact absurd hlt (Nat.not_lt.mpr (Nat.le_succ _))
    ·refine⟨[],⟨⟨_,0,_,Hw _ hS0,⟨rfl,rfl,rfl⟩,rfl,wY _,rfl⟩,λq hq=>(by cases hq),Kr⟩,λq hq=>(by cases hq),λp hp=>(by simp at hp)⟩
    ·intro h' tk hm F'
     show wpAny _ _ _ _ _ _
     refine HE ?_
     show wpAny _ _ (ret Value.none) _ _ _
     refine HE ⟨rfl,h',tk,rfl,F',λb o e=>hm b o (λz=>?_) (Hw _ (kp b o e))⟩
     have hlt:=HJ e
     rw[Jo] at z
     rcases Hx.mp z with z |z
     ·exact absurd hlt (by rw[z];exact Iv _)
     ·rw[HC.mp z] at hlt
      exact absurd hlt (Nat.not_lt.mpr (Nat.le_succ _))
   ·cases r2 with
    |error e=>exact hr2
    |ok fl2=>
     cases fl2 with
     |ret r=>
      obtain⟨rfl,h',tk,rfl,hF,hk⟩:=hr2
      repeat (any_goals (first |assumption |wp_step))
      exact h _ _ hF hk
     |_=>exact hr2.elim
  |_=>exact hr.elim
end
end L2.ST
namespace L2.SO
open PySem PySem.W PyProof.Rows
def iC {α:Type}(lt:Nat->Nat->Bool):KasT α->α
 | .ret a=>a
 | .ask i j k=>iC lt (k (lt i j))
theorem di {α β:Type}(lt:Nat->Nat->Bool)(f:α->KasT β):∀t:KasT α,iC lt (t.bind f)=iC lt (f (iC lt t))
 | .ret _=>rfl
 | .ask i j k=>di lt f (k (lt i j))
def ql {α:Type}(n:Nat)(lt:Nat->Nat->Bool):KasT α->Prop
 | .ret _=>True
 | .ask i j k=>i < n/\j < n/\ql n lt (k (lt i j))
theorem fy {α β:Type}{n:Nat}{lt:Nat->Nat->Bool}{f:α->KasT β}:∀{t:KasT α},ql n lt t->ql n lt (f (iC lt t))->ql n lt (t.bind f)
 | .ret _,_,h=>h
 | .ask i j k,h,h'=>⟨h.1,h.2.1,fy h.2.2 h'⟩
section
variable {n:Nat}{key:Nat->Int}
abbrev kZ (key:Nat->Int)(i j:Nat):Bool:=decide (key i < key j)
abbrev Kp (key:Nat->Int)(p:Array Nat)(k:Nat):Int:=key (p.getD k 0)
structure Pm (n:Nat)(p:Array Nat):Prop where
 sz:p.size=n
 nd:p.toList.Nodup
 lt:∀x,x∈p->x < n
def Pm.at {p:Array Nat}(P:Pm n p){k:Nat}(hk:k < n):p.getD k 0 < n:=by
 have h:k < p.size:=by rw[P.sz];exact hk
 simp only[Array.getD,h,dif_pos]
 exact P.lt _ (Array.getElem_mem h)
def Pm.ne {p:Array Nat}(P:Pm n p){i k:Nat}(hi:i < n)(hk:k < n)(hne:i≠k):p.getD i 0≠p.getD k 0:=by
 have h1:i < p.toList.length:=by simpa using (by rw[P.sz];exact hi:i < p.size)
 have h2:k < p.toList.length:=by simpa using (by rw[P.sz];exact hk:k < p.size)
 have h1':i < p.size:=by rw[P.sz];exact hi
 have h2':k < p.size:=by rw[P.sz];exact hk
 have a1:p.getD i 0=p.toList[i]:=by simp[Array.getD,h1']
 have a2:p.getD k 0=p.toList[k]:=by simp[Array.getD,h2']
 rw[a1,a2]
 have q:=IC.mp P.nd
 rcases IH i k with c |c
 ·exact q i k h1 h2 c
 ·exact (q k i h2 h1 (by omega)).symm
def Pm.perm {p q:Array Nat}(P:Pm n p)(h:q.Perm p):Pm n q:=by
 have h':=Array.perm_iff_toList_perm.mp h
 exact⟨by rw[h.size_eq];exact P.sz,h'.nodup_iff.mpr P.nd,λx hx=>P.lt x (by simpa using h'.mem_iff.mp (by simpa using hx))⟩
def rQ (n:Nat):Pm n (List.toArray (List.range n)):=⟨by simp,by simpa using JF,λx hx=>by simpa using hx⟩
def Inj (n:Nat)(key:Nat->Int):Prop:=∀i j,i < n->j < n->key i=key j->i=j
def Pm.tri {p:Array Nat}(P:Pm n p)(hi:Inj n key){i k:Nat}(h1:i < n)(h2:k < n)(hne:i≠k):Kp key p i < Kp key p k\/Kp key p k < Kp key p i:=by
 have:Kp key p i≠Kp key p k:=λe=>P.ne h1 h2 hne (hi _ _ (P.at h1) (P.at h2) e)
 omega
def Up (key:Nat->Int)(p:Array Nat)(m:Nat):Prop:=∀i j,i < j->j < m->Kp key p i < Kp key p j
def Dn (key:Nat->Int)(p:Array Nat)(m:Nat):Prop:=∀i j,i < j->j < m->Kp key p j < Kp key p i
def Up.snoc {p:Array Nat}{m:Nat}(U:Up key p m)(h1:1<=m)(h:Kp key p (m - 1) < Kp key p m):Up key p (m + 1):=λi j hij hj=>by
 rcases IH j m with c |c
 ·exact U i j hij c
 ·have:j=m:=by omega
  subst this
  rcases IH i (j - 1) with d |d
  ·exact Int.lt_trans (U i (j - 1) d (by omega)) h
  ·have:i=j - 1:=by omega
   rw[this];exact h
def Dn.snoc {p:Array Nat}{m:Nat}(U:Dn key p m)(h1:1<=m)(h:Kp key p m < Kp key p (m - 1)):Dn key p (m + 1):=λi j hij hj=>by
 rcases IH j m with c |c
 ·exact U i j hij c
 ·have:j=m:=by omega
  subst this
  rcases IH i (j - 1) with d |d
  ·exact Int.lt_trans h (U i (j - 1) d (by omega))
  ·have:i=j - 1:=by omega
   rw[this];exact h
theorem mG {p:Array Nat}(P:Pm n p)(hi:Inj n key):∀(f m:Nat),1<=m->m + f<=n->Up key p m->
  ∃r,(iC (kZ key) (kas_asc p f m)=r/\ql n (kZ key) (kas_asc p f m))/\m<=r/\r<=m + f/\Up key p r/\(r < m + f->Kp key p r < Kp key p (r - 1))
 | 0,m,_,_,U=>⟨m,⟨rfl,trivial⟩,Hy _,Hy _,U,λh=>absurd h (Iv _)⟩
 |f + 1,m,h1,hn,U=>by
  have b1:p.getD m 0 < n:=P.at (by omega)
  have b2:p.getD (m - 1) 0 < n:=P.at (by omega)
  unfold kas_asc iC ql
  by_cases c:Kp key p m < Kp key p (m - 1)
  ·rw[show kZ key (p.getD m 0) (p.getD (m - 1) 0)=true from HK c]
   simp only[IM]
   exact⟨m,⟨rfl,b1,b2,trivial⟩,Hy _,by omega,U,λ_=>c⟩
  ·rw[show kZ key (p.getD m 0) (p.getD (m - 1) 0)=false from HV c]
   simp only[HQ,Im]
   have up:Kp key p (m - 1) < Kp key p m:=(P.tri hi (by omega) (by omega) (by omega)).resolve_right c
   obtain⟨r,⟨e,o⟩,a,b,u,d⟩:=mG P hi f (m + 1) (by omega) (by omega) (U.snoc h1 up)
   exact⟨r,⟨e,b1,b2,o⟩,by omega,by omega,u,λh=>d (by omega)⟩
theorem oA {p:Array Nat}(P:Pm n p)(hi:Inj n key):∀(f m:Nat),1<=m->m + f<=n->Dn key p m->
  ∃r,(iC (kZ key) (kas_desc f p m 0)=(p,r,0)/\ql n (kZ key) (kas_desc f p m 0))/\m<=r/\r<=m + f/\Dn key p r
 | 0,m,_,_,U=>⟨m,⟨rfl,trivial⟩,Hy _,Hy _,U⟩
 |f + 1,m,h1,hn,U=>by
  have b1:p.getD m 0 < n:=P.at (by omega)
  have b2:p.getD (m - 1) 0 < n:=P.at (by omega)
  unfold kas_desc iC ql
  by_cases c:Kp key p m < Kp key p (m - 1)
  ·rw[show kZ key (p.getD m 0) (p.getD (m - 1) 0)=true from HK c]
   simp only[IM,Iv,gt_iff_lt,Im]
   obtain⟨r,⟨e,o⟩,a,b,u⟩:=oA P hi f (m + 1) (by omega) (by omega) (U.snoc h1 c)
   exact⟨r,⟨e,b1,b2,o⟩,by omega,by omega,u⟩
  ·rw[show kZ key (p.getD m 0) (p.getD (m - 1) 0)=false from HV c]
   simp only[HQ,Im]
   unfold iC ql
   have up:Kp key p (m - 1) < Kp key p m:=(P.tri hi (by omega) (by omega) (by omega)).resolve_right c
   rw[show kZ key (p.getD (m - 1) 0) (p.getD m 0)=true from HK up]
   simp only[IM]
   exact⟨m,⟨rfl,b1,b2,b2,b1,trivial⟩,Hy _,by omega,U⟩
def zL {p:Array Nat}{j k:Nat}(hj:j<=p.size)(hk:k < j):(kas_rev p 0 j).getD k 0=p.getD (j - 1 - k) 0:=by
 unfold kas_rev
 rw[Iy,getElem?_mirror_all hj k,HA ⟨Ia _,hk⟩,Iy]
 congr 2
 omega
def CP {p:Array Nat}{m:Nat}(hm:m<=p.size)(D:Dn key p m):Up key (kas_rev p 0 m) m:=λi j hij hj=>by
 unfold Kp
 rw[zL hm (by omega),zL hm hj]
 exact D (m - 1 - j) (m - 1 - i) (by omega) (by omega)
def Pm.rev {p:Array Nat}(P:Pm n p)(j:Nat):Pm n (kas_rev p 0 j):=P.perm (mirror_perm ..)
def tK {p:Array Nat}(P:Pm n p)(hi:Inj n key)(h1:1<=n) :
  ∃m q,(iC (kZ key) (kas_count n p)=(m,q)/\ql n (kZ key) (kas_count n p))/\Pm n q/\1<=m/\m<=n/\Up key q m:=by
 obtain⟨r,⟨e,o⟩,a,b,u,d⟩:=mG P hi (n - 1) 1 (Hy _) (by omega) (λi j hij hj=>by omega)
 have rest:∃m q,(iC (kZ key) (if (r == n)=true then KasT.ret (r,p) else if r > 1 then .ask (p.getD 0 0) (p.getD (r - 1) 0) λc=>if c=true then .ret (r,p) else kas_descPart r n (kas_rev p 0 r) else kas_descPart r n p)=(m,q)/\
   ql n (kZ key) (if (r == n)=true then KasT.ret (r,p) else if r > 1 then .ask (p.getD 0 0) (p.getD (r - 1) 0) λc=>if c=true then .ret (r,p) else kas_descPart r n (kas_rev p 0 r) else kas_descPart r n p))/\Pm n q/\1<=m/\m<=n/\Up key q m:=by
  by_cases c:(r == n)=true
  ·rw[HA c]
   exact⟨r,p,⟨rfl,trivial⟩,P,a,by omega,u⟩
  ·rw[HI c]
   have hrn:r≠n:=by simpa using c
   have dd:=d (by omega)
   by_cases c2:r > 1
   ·rw[HA c2]
    unfold iC ql
    rw[show kZ key (p.getD 0 0) (p.getD (r - 1) 0)=true from HK (u 0 (r - 1) (by omega) (by omega))]
    simp only[IM]
    exact⟨r,p,⟨rfl,P.at (by omega),P.at (by omega),trivial⟩,P,a,by omega,u⟩
   ·rw[HI c2]
    have hr1:r=1:=by omega
    subst hr1
    unfold kas_descPart
    rw[di]
    have D2:Dn key p 2:=λi j hij hj=>by
     have e1:i=0:=by omega
     have e2:j=1:=by omega
     rw[e1,e2];exact dd
    obtain⟨x,⟨e2,o2⟩,a2,b2,u2⟩:=oA P hi (n - 2) 2 (by omega) (by omega) D2
    obtain⟨y,⟨e3,o3⟩,a3,b3,u3,_⟩:=mG (P.rev x) hi (n - x) x (by omega) (by omega) (CP (by rw[P.sz];omega) u2)
    rw[show n - (1 + 1)=n - 2 from rfl,show (1 + 1:Nat)=2 from rfl]
    have t3:ql n (kZ key) (kas_tail3 x n p):=by
     unfold kas_tail3
     exact fy o3 trivial
    refine⟨y,kas_rev p 0 x,⟨?_,fy o2 ?_⟩,P.rev x,by omega,by omega,u3⟩
    ·rw[e2]
     simp only[Iv,gt_iff_lt,Im]
     unfold kas_tail3
     rw[di,e3]
     rfl
    ·rw[e2]
     simp only[Iv,gt_iff_lt,Im]
     exact t3
 obtain⟨m,q,⟨f1,f2⟩,f3⟩:=rest
 refine⟨m,q,⟨?_,?_⟩,f3⟩
 ·unfold kas_count
  rw[di,e]
  exact f1
 ·unfold kas_count
  refine fy o ?_
  rw[e]
  exact f2
theorem place_spec {p:Array Nat}{k:Nat}(P:Pm n p)(hi:Inj n key)(hk:k < n)(U:Up key p k):∀(f l r:Nat),l<=r->r<=k->r - l<=f->(∀i,i < l->Kp key p i < Kp key p k)->(∀i,r<=i->i < k->Kp key p k < Kp key p i)->
  ∃x,(iC (kZ key) (kas_place p k f l r)=x/\ql n (kZ key) (kas_place p k f l r))/\x<=k/\(∀i,i < x->Kp key p i < Kp key p k)/\(∀i,x<=i->i < k->Kp key p k < Kp key p i)
 | 0,l,r,h1,h2,h3,a,b=>⟨l,⟨rfl,trivial⟩,by omega,a,λi hi=>b i (by omega)⟩
 |f + 1,l,r,h1,h2,h3,a,b=>by
  unfold kas_place
  by_cases c:l>=r
  ·rw[HA c]
   exact⟨l,⟨rfl,trivial⟩,by omega,a,λi hi=>b i (by omega)⟩
  ·rw[HI c]
   have b1:p.getD k 0 < n:=P.at hk
   have b2:p.getD ((l + r) / 2) 0 < n:=P.at (by omega)
   unfold iC ql
   by_cases d:Kp key p k < Kp key p ((l + r) / 2)
   ·rw[show kZ key (p.getD k 0) (p.getD ((l + r) / 2) 0)=true from HK d]
    simp only[IM]
    have side:∀i,(l + r) / 2<=i->i < k->Kp key p k < Kp key p i:=λi h1 h2=>by
     rcases IH ((l + r) / 2) i with z |z
     ·exact Int.lt_trans d (U _ _ z h2)
     ·have:i=(l + r) / 2:=by omega
      rw[this];exact d
    obtain⟨x,⟨e1,e2⟩,e3⟩:=place_spec P hi hk U f l ((l + r) / 2) (by omega) (by omega) (by omega) a side
    exact⟨x,⟨e1,b1,b2,e2⟩,e3⟩
   ·rw[show kZ key (p.getD k 0) (p.getD ((l + r) / 2) 0)=false from HV d]
    simp only[HQ,Im]
    have d':Kp key p ((l + r) / 2) < Kp key p k:=(P.tri hi (by omega) hk (by omega)).resolve_right d
    have side:∀i,i < (l + r) / 2 + 1->Kp key p i < Kp key p k:=λi h=>by
     rcases IH i ((l + r) / 2) with z |z
     ·exact Int.lt_trans (U _ _ z (by omega)) d'
     ·have:i=(l + r) / 2:=by omega
      rw[this];exact d'
    obtain⟨x,⟨e1,e2⟩,e3⟩:=place_spec P hi hk U f ((l + r) / 2 + 1) r (by omega) h2 (by omega) side b
    exact⟨x,⟨e1,b1,b2,e2⟩,e3⟩
def zr {p:Array Nat}{k l j:Nat}(hk:k < p.size)(hl:l<=k):(bubble p k (k - l)).getD j 0=if j=l then p.getD k 0 else if l < j/\j<=k then p.getD (j - 1) 0 else p.getD j 0:=by
 rw[Iy,getElem?_bubble hk (k - l) (by omega) j,show k - (k - l)=l by omega]
 simp only[Iy]
 split
 ·rfl
 ·split <;> rfl
theorem rH (hi:Inj n key):∀(f k:Nat) (p:Array Nat),Pm n p->1<=k->k + f=n->Up key p k->∃q,(iC (kZ key) (kas_bin f p k)=q/\ql n (kZ key) (kas_bin f p k))/\Pm n q/\Up key q n
 | 0,k,p,P,_,e,U=>⟨p,⟨rfl,trivial⟩,P,by rw[<-e];exact U⟩
 |f + 1,k,p,P,h1,e,U=>by
  have hk:k < n:=by omega
  obtain⟨l,⟨el,ol⟩,hl,a,b⟩:=place_spec P hi hk U k 0 k (Ia _) (Hy _) (by omega) (λi h=>by omega) (λi h h'=>by omega)
  have side:Up key (bubble p k (k - l)) (k + 1):=λi j hij hj=>by
   have hks:k < p.size:=by rw[P.sz];exact hk
   unfold Kp
   rw[zr hks hl,zr hks hl]
   by_cases i1:i=l
   ·rw[HA i1,HI (by omega)]
    by_cases j2:l < j/\j<=k
    ·rw[HA j2];exact b _ (by omega) (by omega)
    ·omega
   ·rw[HI i1]
    by_cases i2:l < i/\i<=k
    ·rw[HA i2,HI (by omega),HA (by omega)]
     exact U _ _ (by omega) (by omega)
    ·rw[HI i2]
     by_cases j1:j=l
     ·rw[HA j1];exact a _ (by omega)
     ·rw[HI j1]
      by_cases j2:l < j/\j<=k
      ·rw[HA j2]
       rcases IH i (j - 1) with z |z
       ·exact U _ _ z (by omega)
       ·omega
      ·rw[HI j2];exact U _ _ hij (by omega)
  obtain⟨q,⟨q1,q2⟩,q3⟩:=rH hi f (k + 1) (bubble p k (k - l)) (P.perm (bubble_perm ..)) (by omega) (by omega) side
  refine⟨q,⟨?_,?_⟩,q3⟩
  ·unfold kas_bin;rw[di,el];exact q1
  ·unfold kas_bin;refine fy ol ?_;rw[el];exact q2
def vW (hi:Inj n key)(h2:2<=n):∃q,(iC (kZ key) (kas_sort n)=q/\ql n (kZ key) (kas_sort n))/\Pm n q/\Up key q n:=by
 obtain⟨m,q,⟨e,o⟩,P,a,b,u⟩:=tK (rQ n) hi (by omega)
 by_cases c:m < n
 ·obtain⟨q',⟨e1,o1⟩,r⟩:=rH hi (n - m) m q P a (by omega) u
  refine⟨q',⟨?_,?_⟩,r⟩
  ·unfold kas_sort;rw[di,e];dsimp only;rw[HA c,Nat.max_eq_left a];exact e1
  ·unfold kas_sort;refine fy o ?_;rw[e];dsimp only;rw[HA c,Nat.max_eq_left a];exact o1
 ·refine⟨q,⟨?_,?_⟩,P,λi j hij hj=>u i j hij (by omega)⟩
  ·unfold kas_sort;rw[di,e];dsimp only;rw[HI c];rfl
  ·unfold kas_sort;refine fy o ?_;rw[e];dsimp only;rw[HI c];trivial
theorem wp_run {α:Type}{n:Nat}{lt:Nat->Nat->Bool}{cmp:Nat->Nat->(Bool->Shared->Prop)->Shared->Prop}{Q:α->Shared->Prop}{s:Shared} :
  ∀(t:KasT α),(∀i j C,i < n->j < n->C (lt i j) s->cmp i j C s)->ql n lt t->Q (iC lt t) s->t.kasWp cmp Q s
 | .ret a,_,_,h=>h
 | .ask i j k,hc,ho,h=>hc i j _ ho.1 ho.2.1 (wp_run (k (lt i j)) hc ho.2.2 h)
end
end L2.SO
namespace L2.ST
open PySem PySem.SetTable PySem.W PyProof.Rows
def code (p:Pr):Int:=p.1 * 8 + p.2
def uT {p q:Pr}(h1:Sm p)(h2:Sm q):code p < code q↔p.1 < q.1\/(p.1=q.1/\p.2 < q.2):=by
 unfold code Sm at *;omega
def code_inj {p q:Pr}(h1:Sm p)(h2:Sm q)(e:code p=code q):p=q:=by
 unfold code Sm at *
 refine Prod.ext ?_ ?_ <;> omega
section
variable {prog:Program}{w:World}{A:Around}{E:Value->Shared->Prop}{s:Shared}
abbrev nJ (ps:List Pr)(i:Nat):Int:=code (ps.getD i (0,0))
def zK {ps:List Pr}(nd:ps.Nodup)(hs:∀p,p∈ps->Sm p):L2.SO.Inj ps.length (nJ ps):=λi j hi hj e=>by
 have a1:ps.getD i (0,0)=ps[i]:=by simp[hi]
 have a2:ps.getD j (0,0)=ps[j]:=by simp[hj]
 unfold nJ at e
 rw[a1,a2] at e
 have e':=code_inj (hs _ (IV hi)) (hs _ (IV hj)) e
 have q:=IC.mp nd
 rcases Jy i j with c |c |c
 ·exact absurd e' (q i j hi hj c)
 ·exact c
 ·exact absurd e'.symm (q j i hj hi c)
theorem Bb {a b:Addr}{p q:Pr}{Q:Bool->Shared->Prop}(ha:bo prog w s.heap p a)(hb:bo prog w s.heap q b)(hp:Sm p)(hq:Sm q)(h:Q (decide (code p < code q)) s) :
  wpAny (model prog w) A (keyLt' (tuples' true) (.ref a) (.ref b)) Q E s:=by
 obtain⟨oa,ia,na,hoa,hca,hda,hia⟩:=ha
 obtain⟨ob,ib,nb,hob,hcb,hdb,hib⟩:=hb
 obtain⟨l1,rfl⟩:∃l,ia=List.toArray l:=⟨ia.toList,by simp⟩
 obtain⟨l2,rfl⟩:∃l,ib=List.toArray l:=⟨ib.toList,by simp⟩
 simp only[Ji] at hia hib
 cases hia with
 | @cons _ v1 _ _ h1 hia=>
  cases hia with
  | @cons _ v2 _ _ h2 hia=>
   cases hia
   cases hib with
   | @cons _ u1 _ _ g1 hib=>
    cases hib with
    | @cons _ u2 _ _ g2 hib=>
     cases hib
     obtain⟨t1,rfl⟩:=Jx h1
     obtain⟨t2,rfl⟩:=Jx h2
     obtain⟨t3,rfl⟩:=Jx g1
     obtain⟨t4,rfl⟩:=Jx g2
     refine kat_lt hoa hda hob hdb ?_
     have hc:=uT hp hq
     refine kat_cons (wpAny_eqBool_int ?_)
     by_cases e1:p.1=q.1
     ·rw[show (p.1 == q.1)=true by simpa using e1]
      refine kat_yes (kat_cons (wpAny_eqBool_int ?_))
      by_cases e2:p.2=q.2
      ·rw[show (p.2 == q.2)=true by simpa using e2]
       refine kat_yes (kat_nil ?_)
       have:decide (code p < code q)=false:=HV (by rw[hc];omega)
       rw[this] at h
       simpa using h
      ·rw[show (p.2 == q.2)=false by simpa using e2]
       refine kat_no ?_
       show wpAny _ _ (oneLt' false _ _) _ _ _
       refine kat_one _ _ (lt_int ?_)
       have:decide (code p < code q)=decide (p.2 < q.2):=by
        by_cases z:p.2 < q.2
        ·rw[HK z];exact HK (hc.mpr (.inr ⟨e1,z⟩))
        ·rw[HV z];exact HV (by rw[hc];omega)
       rw[this] at h;exact h
     ·rw[show (p.1 == q.1)=false by simpa using e1]
      refine kat_no ?_
      show wpAny _ _ (oneLt' true _ _) _ _ _
      refine oneLt_int ?_
      have:decide (code p < code q)=decide (p.1 < q.1):=by
       by_cases z:p.1 < q.1
       ·rw[HK z];exact HK (hc.mpr (.inl z))
       ·rw[HV z];exact HV (by rw[hc];omega)
      rw[this] at h;exact h
theorem uo:∀{vs:List Value} {ps:List Pr},cu prog w s.heap vs ps->∃fs,KatTups s.heap vs fs/\fs.length=vs.length/\∀v∈fs,∃(i:Int) (t:Tok),v=.int i t
 | [],ps,_=>⟨[],KatTups.nil,rfl,λv hv=>by cases hv⟩
 |v :: vs,[],h=>by have:=h.1;simp at this
 |v :: vs,p :: ps,h=>by
  obtain⟨a,rfl,⟨o,items,n,ho,hc,hd,hi⟩,_⟩:=h.2 0 v p rfl rfl
  obtain⟨fs,k,e,f⟩:=uo (vs:=vs) (ps:=ps) ⟨by simpa using h.1,λi v p h1 h2=>h.2 (i + 1) v p (by simpa using h1) (by simpa using h2)⟩
  obtain⟨l1,rfl⟩:∃l,items=List.toArray l:=⟨items.toList,by simp⟩
  simp only[Ji] at hi
  cases hi with
  | @cons _ v1 _ _ h1 hi=>
   obtain⟨t1,rfl⟩:=Jx h1
   exact⟨_ :: fs,KatTups.cons ho hc hd rfl k,by simp[e],λv hv=>by
    rcases Hx.mp hv with z |z
    ·exact⟨_,_,z⟩
    ·exact f v z⟩
def rf {a:Addr}{vs:List Value}{ps:List Pr}{n:Nat}{P:PySem.Fin->Shared->Prop}(ho:s.heap.get? a=some (seqObj "list" vs.toArray n))(hps:cu prog w s.heap vs ps)(nd:ps.Nodup)(h64:vs.length < 64)
  (h:∀(h':Heap) (c:Nat) (ix:Array Nat),L2.SO.Pm vs.length ix->L2.SO.Up (nJ ps) ix vs.length->(∀b o,b≠a->s.heap.get? b=some o->h'.get? b=some o)->
   h'.get? a=some (seqObj "list" (ix.toList.map λi=>vs.getD i Value.none).toArray c)->P (.done (.ret .none)) {s with heap:=h'}) :
  wpAny (model prog w) A (Builtin.«list.sort» ⟨[.ref a],[]⟩) P E s:=by
 have ha:a < s.heap.objs.size:=HJ ho
 obtain⟨e1,ho1⟩:∃e1,(s.heap.update a (Obj.mapSeq λ_=>(#[]:Array Value))).get? a=some (seqObj "list" #[] e1):=⟨_,get?_update_seq ho λ_=>#[]⟩
 generalize hH1:(s.heap.update a (Obj.mapSeq λ_=>(#[]:Array Value)))=H1 at ho1
 have sb1:Heap.SameBut a s.heap H1:=by rw[<-hH1];exact Heap.SameBut.update ..
 have kp2:∀b o,H1.get? b=some o->((H1.push (seqObj "tuple" vs.toArray 0)).push (seqObj "list" #[] 0)).get? b=some o:=λb o e=>Hw _ (Hw _ e)
 generalize hH2:((H1.push (seqObj "tuple" vs.toArray 0)).push (seqObj "list" #[] 0))=H2 at kp2
 have kp:∀b o,b≠a->s.heap.get? b=some o->H2.get? b=some o:=λb o hb e=>kp2 b o ((sb1.2 b hb).trans e)
 have ho2:=kp2 _ _ ho1
 have hps2:cu prog w H2 vs ps:=⟨hps.1,λi v p h1 h2=>by
  obtain⟨b,e,⟨o,it,m,hb,hc,hd,r⟩,hs⟩:=hps.2 i v p h1 h2
  refine⟨b,e,⟨o,it,m,kp b o (λz=>?_) hb,hc,hd,r⟩,hs⟩
  subst z
  rw[ho] at hb;cases hb
  exact absurd hc (by simp[seqObj])⟩
 have hz:vs.length<=sizeLine:=by rw[Iu];omega
 rw[list_sort_plain]
 refine Hv (listItems_at ho rfl (Hv (listUpdate_at ho rfl ?_ (by simpa using hz) (Ia _))))
 rw[hH1]
 refine Hv (seqEpoch_at (s:={s with heap:=H1}) ho1 rfl (Hv (wpAny_newTuple ?_ (by simpa using hz))))
 refine Hv (wpAny_newList ?_ (Ia _))
 refine IX ?_
 show wpAny (model prog w) A _ P E {s with heap:=(H1.push (seqObj "tuple" vs.toArray 0)).push (seqObj "list" #[] 0)}
 rw[hH2]
 have fin:∀(ix:Array Nat) (st:SortSt),L2.SO.Pm vs.length ix->L2.SO.Up (nJ ps) ix vs.length->(arrOf st).map (·.2)=List.toArray (ix.toList.map λi=>vs.getD i Value.none)->failedOf st=none->
   wpAny (model prog w) A (do
    let sorted:=(arrOf st).map (·.2)
    let touched:=(<-seqEpoch a) != e1
    Builtin.List.listUpdate (.ref a) λ_=>sorted
    if let some e:=failedOf st then rule "list.sort.comparison-raised";throw e
    if touched then rule "list.sort.modified";raiseError "ValueError" "list modified during sort"
    ret .none) P E {s with heap:=H2}:=λix st P1 U1 hout hf=>by
  dsimp only
  rw[hout]
  have hsz:(List.toArray (ix.toList.map λi=>vs.getD i Value.none)).size=vs.length:=by simp[P1.sz]
  refine Hv (seqEpoch_at (s:={s with heap:=H2}) ho2 rfl ?_)
  refine Hv (listUpdate_at (s:={s with heap:=H2}) ho2 rfl ?_ (Ia _) (IW (Nat.le_of_eq hsz) (Nat.le_succ_of_le hz)))
  rw[hf]
  simp only[bne_self_eq_false,HQ,Im]
  obtain⟨c2,hc2⟩:∃c2,(H2.update a (Obj.mapSeq λ_=>List.toArray (ix.toList.map λi=>vs.getD i Value.none))).get? a=some (seqObj "list" (List.toArray (ix.toList.map λi=>vs.getD i Value.none)) c2):=⟨_,get?_update_seq ho2 λ_=>List.toArray (ix.toList.map λi=>vs.getD i Value.none)⟩
  exact HE (h _ c2 ix P1 U1 (λb o hb e=>((Heap.SameBut.update H2 a _).2 b hb).trans (kp b o hb e)) hc2)
 by_cases h2:vs.length < 2
 ·have h2':vs.toArray.size < 2:=by simpa using h2
  dsimp only
  rw[HA h2',HA h2']
  refine Hv (HE ?_)
  rw[StateT.run_pure]
  refine Hv (HE ?_)
  refine fin (List.toArray (List.range vs.length)) (SortSt.mk' general' (vs.toArray.zip vs.toArray) #[] 7 none) (L2.SO.rQ _) (λi j hij hj=>by omega) ?_ rfl
  have:∀{l:List Value},l.length < 2->((l.toArray.zip l.toArray).map (·.2))=List.toArray ((List.range l.length).map λi=>l.getD i Value.none):=λ{l} hl=>by
   match l,hl with
   | [],_=>simp
   | [x],_=>simp
  exact (this h2).trans (by simp)
 ·have h2':¬vs.toArray.size < 2:=by simpa using h2
  dsimp only
  rw[HI h2',HI h2']
  obtain⟨fs,kt,fl,ff⟩:=uo (s:={s with heap:=H2}) hps2
  refine Hv (kat_kind (s:={s with heap:=H2}) (T:=.type "int") kt (by omega) (λv hv=>?_) (by decide) ?_)
  ·obtain⟨i,t,rfl⟩:=ff v hv
   exact .now
  ·rw[show ((Value.type "int" != Value.type "tuple"):Bool)=true by decide]
   have hinj:L2.SO.Inj vs.length (nJ ps):=by
    rw[hps.1]
    refine zK nd λp hp=>?_
    obtain⟨i,hi,e⟩:=Ir.mp hp
    have hi':i < vs.length:=by rw[hps.1];exact hi
    obtain⟨_,_,_,hs⟩:=hps.2 i vs[i] p (Hu hi') (by rw[Hu hi,e])
    exact hs
   obtain⟨ix,⟨er,ok⟩,P1,U1⟩:=L2.SO.vW hinj (by omega)
   refine Hv (Jc (kat_run (s:={s with heap:=H2}) (κ:=tuples' true) (ks:=vs) (Q:=λst s'=>s'={s with heap:=H2}/\arrOf st=ix.map (kas_item (vs.toArray.zip vs.toArray))/\failedOf st=none)
    (G:=λp s'=>p=ix/\s'={s with heap:=H2}) rfl (by omega) h64 (λp st s' a1 a2 a3 a4=>?_) (L2.SO.wp_run (n:=vs.length) (lt:=L2.SO.kZ (nJ ps)) _ (λi j C hi hj hC=>?_) ok ⟨er,rfl⟩)) ?_ λ_ _ x=>x)
   ·obtain⟨rfl,rfl⟩:=a4
    exact⟨rfl,a2,a3⟩
   ·unfold kas_ask
    have hi':i < ps.length:=by rw[<-hps.1];exact hi
    have hj':j < ps.length:=by rw[<-hps.1];exact hj
    obtain⟨b1,eb1,hb1,s1⟩:=hps2.2 i vs[i] ps[i] (Hu hi) (Hu hi')
    obtain⟨b2,eb2,hb2,s2⟩:=hps2.2 j vs[j] ps[j] (Hu hj) (Hu hj')
    have e1:vs.getD i Value.none=.ref b1:=by rw[<-eb1];simp[hi]
    have e2:vs.getD j Value.none=.ref b2:=by rw[<-eb2];simp[hj]
    rw[e1,e2]
    refine Bb (s:={s with heap:=H2}) hb1 hb2 s1 s2 ?_
    have:L2.SO.kZ (nJ ps) i j=decide (code ps[i] < code ps[j]):=by
     unfold L2.SO.kZ nJ;simp[hi',hj']
    rw[<-this];exact hC
   ·rintro⟨⟨⟩,st⟩ s' ⟨rfl,har,hf⟩
    exact fin ix st P1 U1 (kat_snds rfl har) hf
end
def bz:Slot "set_iterator" "__next__" "set_iterator.__next__":=
 Slot.of (owner:="set_iterator") (n:="__next__") (by rw[typeLookup_type,builtinLookup_eq_fast];kernel_rfl) (by decide +kernel) (by decide +kernel) (by decide +kernel) (by first |exact .inl (by decide +kernel) |exact .inr (by decide +kernel)) (by rw[Ks];kernel_rfl)
def gB:entryFor table "set_iterator.__next__"=some Builtin.«set_iterator.__next__»:=entryFor_of_tree (by kernel_rfl)
def iz (a:Value):argsOk "set_iterator.__next__" ⟨[a],[]⟩:=by unfold argsOk;kernel_rfl
def mY:entryFor table "set.__iter__"=some Builtin.«frozenset.__iter__»:=entryFor_alias (id':="frozenset.__iter__") (by kernel_rfl) rfl (by decide +kernel) (by kernel_rfl)
def iw:Slot "set_iterator" "__iter__" "set_iterator.__iter__":=
 Slot.of (owner:="set_iterator") (n:="__iter__") (by rw[typeLookup_type,builtinLookup_eq_fast];kernel_rfl) (by decide +kernel) (by decide +kernel) (by decide +kernel) (by first |exact .inl (by decide +kernel) |exact .inr (by decide +kernel)) (by rw[Ks];kernel_rfl)
def ko:entryFor table "set_iterator.__iter__"=some Builtin.«dict_keyiterator.__iter__»:=entryFor_alias (id':="dict_keyiterator.__iter__") (by kernel_rfl) rfl (by decide +kernel) (by kernel_rfl)
def lB (a:Value):argsOk "set_iterator.__iter__" ⟨[a],[]⟩:=by unfold argsOk;kernel_rfl
def BM (a:Addr)(slot given ep0:Nat):setNext a slot given ep0=(do
  let (es,epoch,t) <-setState a
  if (<-ask).params.followText "set-order" then
   if epoch != ep0 then unsupported "set_iterator.__next__:elements-changed"
   return ((<-setWalk a)[given]?).map λe=>(e.2,slot)
  if !t.plain && es.size > 1 then unsupported "set_iterator.__next__:the-table-is-plain-no-more"
  let u:Unit <-(show Sem Unit from do if !t.led && !es.isEmpty then unsupported "set:maker-not-led")
  let i:=SetTable.below t.place slot
  return match es[i]?,t.place[i]? with
   |some (_,x),some j=>some (x,j + 1)
   |_,_=>none):=by
 unfold setNext setsByText
 simp only[bind_assoc,pure_bind]
 rfl
def Aq (a:Addr):setWalk a=(do
  let (es,epoch,t) <-setState a
  if (<-ask).params.followText "set-order" then return pickOrder ((<-ask).params.setOrder a epoch) es
  if !t.plain && es.size > 1 then return (<-drawOrder es.size es.toList).toArray
  let u:Unit <-(show Sem Unit from do if !t.led && es.size > 1 then unsupported "set:maker-not-led")
  return es):=by
 unfold setWalk setsByText
 simp only[bind_assoc,pure_bind]
 rfl
def yt (a:Addr):setDrawn a=(do
  let (es,_,t) <-setState a
  let byText <-(do return (<-ask).params.followText "set-order")
  return !byText && (!t.plain && es.size > 1)):=rfl
theorem fE {α:Type}:∀(l:List α) (i:Nat) (h:i < l.length),(l[i] :: l.eraseIdx i).Perm l
 |a :: l,0,_=>List.Perm.refl _
 |a :: l,i + 1,h=>by
  have hi:i < l.length:=by simpa using h
  show (l[i] :: a :: l.eraseIdx i).Perm (a :: l)
  exact (List.Perm.swap ..).trans ((fE l i hi).cons a)
theorem ou {α:Type}(next:Nat->Nat):∀(fuel k:Nat) (left:List α) (out:Array α),left.length=fuel->(pickOrder.go next fuel k left out).toList.Perm (out.toList ++ left)
 | 0,k,left,out,h=>by
  have:left= []:=List.length_eq_zero_iff.mp h
  subst this
  unfold pickOrder.go
  simp
 |fuel + 1,k,left,out,h=>by
  unfold pickOrder.go
  have hlt:next k % left.length < left.length:=Ka _ (by omega)
  rw[Hu hlt]
  dsimp only
  refine (ou next fuel (k + 1) _ _ (by rw[List.length_eraseIdx_of_lt hlt];omega)).trans ?_
  rw[Array.toList_push,I0]
  refine J5 _ ?_
  exact fE left _ hlt
def iO {α:Type}(next:Nat->Nat)(xs:Array α):(pickOrder next xs).toList.Perm xs.toList:=by
 have:=ou next xs.size 0 xs.toList #[] (by simp)
 simpa[pickOrder] using this
section
variable {prog:Program}{w:World}{A:Around}{E:Value->Shared->Prop}{s:Shared}
def told (w:World)(S:Addr)(ep:Nat)(es:Array (Int×Value)):Array (Int×Value):=if w.params.followText "set-order" then pickOrder (w.params.setOrder S ep) es else es
def oD (w:World)(S:Addr)(ep:Nat)(es:Array (Int×Value)):(told w S ep es).toList.Perm es.toList:=by
 unfold told;split
 ·exact iO _ _
 ·exact List.Perm.refl _
abbrev qp (S:Addr)(slot k n ep:Nat):Obj:={cls:=.type "set_iterator",data:=.fields #[.int (slot:Int) 0,.int (k:Int) 0,.ref S,.int (n:Int) 0,.int (ep:Int) 0]}
structure j9 (w:World)(S:Addr)(o:Obj)(es:Array (Int×Value))(ep:Nat)(t:SetTable)(I:Addr)(k:Nat)(h:Heap):Prop where
 set:h.get? S=some o
 data:o.data=.set es ep t
 cls:o.cls=.type "set"
 tab:Tab t (es.toList.map (·.1))
 led:t.led=gR w
 it:∃slot,h.get? I=some (qp S slot k es.size ep)/\(gR w=true->slot=if k=0 then 0 else t.place.getD (k - 1) 0 + 1)
def j9.fits {S I:Addr}{o:Obj}{es:Array (Int×Value)}{ep k:Nat}{t:SetTable}{h:Heap}(X:j9 w S o es ep t I k h):t.fits es.size=true:=l4 X.tab (by simp)
theorem vK {S I:Addr}{o:Obj}{es:Array (Int×Value)}{ep k slot:Nat}{t:SetTable}{Q:Option (Value×Nat)->Shared->Prop}(X:j9 w S o es ep t I k s.heap)(hk:k<=es.size)(hs:gR w=true->slot=if k=0 then 0 else t.place.getD (k - 1) 0 + 1)
  (h:∀(r:Option (Value×Nat)),(k < es.size->∃x nx,r=some (x,nx)/\(told w S ep es)[k]?.map (·.2)=some x/\(gR w=true->nx=t.place.getD k 0 + 1))->(k=es.size->r=none)->Q r s) :
  wpAny (model prog w) A (setNext S slot k ep) Q E s:=by
 rw[BM]
 refine Hv (IK X.set X.data X.fits ?_)
 dsimp only
 refine Hv (Kb ?_)
 dsimp only
 cases hb:w.params.followText "set-order" with
 |true=>
  rw[HA (show (model prog w).w.params.followText "set-order"=true from hb)]
  simp only[bne_self_eq_false,HQ,Im]
  rw[Aq]
  refine Hv (Hv (IK X.set X.data X.fits ?_))
  dsimp only
  refine Hv (Kb ?_)
  dsimp only
  rw[HA (show (model prog w).w.params.followText "set-order"=true from hb)]
  refine Hv (Kb (HE (HE ?_)))
  have et:told w S ep es=pickOrder (w.params.setOrder S ep) es:=by unfold told;rw[HA hb]
  have hsz:(pickOrder (w.params.setOrder S ep) es).size=es.size:=by
   have:=(iO (w.params.setOrder S ep) es).length_eq;simpa using this
  refine h _ (λhlt=>?_) (λe=>?_)
  ·have hlt':k < (pickOrder (w.params.setOrder S ep) es).size:=by rw[hsz];exact hlt
   refine⟨(pickOrder (w.params.setOrder S ep) es)[k].2,slot,?_,?_,λz=>?_⟩
   ·show Option.map _ (pickOrder (w.params.setOrder S ep) es)[k]? =_
    rw[Ie hlt'];rfl
   ·rw[et,Ie hlt'];rfl
   ·unfold gR at z;rw[hb] at z;cases z
  ·show Option.map _ (pickOrder (w.params.setOrder S ep) es)[k]? =_
   rw[J0 (by rw[hsz];omega)];rfl
 |false=>
  rw[HI (show ¬(model prog w).w.params.followText "set-order"=true by intro z;rw[show (model prog w).w.params.followText "set-order"=false from hb] at z;cases z)]
  have hl:gR w=true:=by unfold gR;rw[hb];rfl
  rw[X.tab.plain,X.led,hl]
  simp only[JW,Bool.false_and,HQ,Im]
  have et:told w S ep es=es:=by unfold told;rw[hb];simp
  have hps:t.place.size=es.size:=by simpa using X.tab.size
  have hbl:below t.place slot=k:=by
   rw[hs hl]
   obtain⟨b1,b2,b3⟩:=cN X.tab.rise (if k=0 then 0 else t.place.getD (k - 1) 0 + 1)
   by_cases k0:k=0
   ·subst k0
    simp only[IM] at b1 b2 b3 ⊢
    rcases Nat.eq_zero_or_pos (below t.place 0) with z |z
    ·exact z
    ·have:=b2 0 z;omega
   ·rw[HI k0] at b1 b2 b3 ⊢
    have hk1:k - 1 < t.place.size:=by omega
    rcases Jy (below t.place (t.place.getD (k - 1) 0 + 1)) k with z |z |z
    ·have q:=b3 (k - 1) (by omega) hk1
     have e:t.place.getD (k - 1) (t.place.getD (k - 1) 0 + 1)=t.place.getD (k - 1) 0:=by simp[Array.getD,hk1]
     omega
    ·exact z
    ·have hks:k < t.place.size:=by omega
     have q:=b2 k z
     have e:t.place.getD k (t.place.getD (k - 1) 0 + 1)=t.place.getD k 0:=by simp[Array.getD,hks]
     have:=gi (d:=0) X.tab.rise (show k - 1 < k by omega) hks
     omega
  refine HE ?_
  rw[hbl]
  refine h _ (λhlt=>?_) (λe=>?_)
  ·have hlt2:k < t.place.size:=by omega
   refine⟨es[k].2,t.place[k] + 1,?_,?_,λ_=>?_⟩
   ·rw[Ie hlt,Ie hlt2]
   ·rw[et,Ie hlt];rfl
   ·simp[Array.getD,hlt2]
  ·rw[J0 (by omega)]
def xh {S I:Addr}{o:Obj}{es:Array (Int×Value)}{ep:Nat}{t:SetTable}(hh:A.handled=none)(hne:S≠I) :
  Walks prog w A I [I,S] [I] es.size (λi v=>(told w S ep es)[i]?.map (·.2)=some v) (λi h=>j9 w S o es ep t I i h) where
 sub:=λb hb=>Hx.mpr (.inl (HC.mp hb))
 frame:=λi h h' X k=>by
  obtain⟨slot,e,r⟩:=X.it
  exact⟨k S (by simp) _ X.set,X.data,X.cls,X.tab,X.led,slot,k I (by simp) _ e,r⟩
 item:=λi s Q E hi X hQ=>by
  obtain⟨slot,e,r⟩:=X.it
  have hT:s.TypeIs (.ref I) "set_iterator":=⟨_,e,rfl⟩
  unfold pyNext
  refine Hv (wpAny_attempt (wpAny_callSpecial?_slot (name:=Str.ofString "__next__") hT bz (JR bz hT gB ?_ (iz _))))
  unfold Builtin.«set_iterator.__next__»
  refine Hv (m:=slotArgs "__next__" 0 _) (HE ?_)
  dsimp only
  unfold fieldsOf
  refine Hv (Hv (wpAny_load e (HE ?_)))
  dsimp only
  unfold setEntries
  refine Hv (Hv (IK X.set X.data X.fits (HE ?_)))
  dsimp only
  rw[HI (by simp)]
  refine Hv ?_
  simp only[IJ]
  refine vK X (Nat.le_of_lt hi) r λrr h1 _=>?_
  obtain⟨x,nx,rfl,h2,h3⟩:=h1 hi
  dsimp only
  refine Hv (J6 e rfl (by simp) ?_)
  have e2:=IL (Obj.mapFields λvs=>vs.setIfInBounds 0 (rawInt (nx:Int))) e rfl
  refine Hv (J6 e2 rfl (by simp) ?_)
  refine HE ⟨x,rfl,HE ?_⟩
  have sb:=(Heap.SameBut.update s.heap I (Obj.mapFields λvs=>vs.setIfInBounds 0 (rawInt (nx:Int)))).trans (Heap.SameBut.update _ I (Obj.mapFields λvs=>vs.setIfInBounds 1 (rawInt ((i:Int) + 1))))
  refine hQ x _ _ h2 ⟨(sb.2 S hne).trans X.set,X.data,X.cls,X.tab,X.led,nx,?_,λz=>?_⟩ λb o hb eb=>(sb.2 b (by simpa using hb)).trans eb
  ·exact IL (Obj.mapFields λvs=>vs.setIfInBounds 1 (rawInt ((i:Int) + 1))) e2 rfl
  ·rw[HI (by omega)];exact h3 z
 done:=λs Q E X hQ=>by
  obtain⟨slot,e,r⟩:=X.it
  have hT:s.TypeIs (.ref I) "set_iterator":=⟨_,e,rfl⟩
  unfold pyNext
  refine Hv (wpAny_attempt (wpAny_callSpecial?_slot (name:=Str.ofString "__next__") hT bz (JR bz hT gB ?_ (iz _))))
  unfold Builtin.«set_iterator.__next__»
  refine Hv (m:=slotArgs "__next__" 0 _) (HE ?_)
  dsimp only
  unfold fieldsOf
  refine Hv (Hv (wpAny_load e (HE ?_)))
  dsimp only
  unfold setEntries
  refine Hv (Hv (IK X.set X.data X.fits (HE ?_)))
  dsimp only
  rw[HI (by simp)]
  refine Hv ?_
  simp only[IJ]
  refine vK X (Hy _) r λrr _ h1=>?_
  rw[h1 rfl]
  dsimp only
  refine Hv (J6 e rfl (by simp) ?_)
  (show wpAny _ _ (newExc (.type "StopIteration") [] >>= λx=>raiseNew x) _ _ _)
  refine Hv ?_
  simp only[newExc,newTuple]
  (refine Hv (J3 ?_ (by size_fits)))
  (refine Hv (m:=firstArgMember _ _) (wpAny_of_eq (a:=Value.none) (by first |rfl | (simp only[firstArgMember];rfl)) ?_))
  (refine J3 ?_ (by size_fits))
  simp only[raiseNew]
  refine Hv (wpAny_handled ?_)
  (rw[show A.in1.handled=none from hh])
  refine Hv (HE (wpAny_throw ?_))
  refine Hv (wpAny_isInstance (T:="StopIteration") (b:=true) ⟨_,HU _ rfl,rfl⟩ isSubtype_stop (HE (hQ _ _ λb o hb eb=>?_)))
  exact Hw _ (Hw _ (((Heap.SameBut.update ..).2 b (by simpa using hb)).trans eb))
 self:=λi s Q E X hQ=>by
  obtain⟨slot,e,r⟩:=X.it
  have hT:s.TypeIs (.ref I) "set_iterator":=⟨_,e,rfl⟩
  refine wpAny_pyIter_slot hT iw (JR iw hT ko ?_ (lB _))
  show wpAny _ _ (ret (.ref I)) _ _ s
  exact HE ⟨_,rfl,"set_iterator",_,hT,bz.lookup,hQ⟩
def x9 {S:Addr}{o:Obj}{es:Array (Int×Value)}{ep:Nat}{t:SetTable}{Q:Value->Shared->Prop}(ho:s.heap.get? S=some o)(hd:o.data=.set es ep t)(hc:o.cls=.type "set")(T:Tab t (es.toList.map (·.1)))(hl:t.led=gR w)
  (h:Q (.ref s.heap.objs.size) {s with heap:=s.heap.push (qp S 0 0 es.size ep)}):wpAny (model prog w) A (pyIter (.ref S)) Q E s:=by
 have hT:s.TypeIs (.ref S) "set":=⟨o,ho,hc⟩
 have hf:t.fits es.size=true:=l4 T (by simp)
 refine wpAny_pyIter_slot hT F.slot_set_iter (JR F.slot_set_iter hT mY ?_ (F.args_set_iter_1 _))
 unfold Builtin.«frozenset.__iter__» Builtin.Frozenset.slot0
 refine Hv (Hv (m:=slotArgs "__iter__" 0 _) (HE (HE ?_)))
 unfold Builtin.Frozenset.sizeOf setEntries
 refine Hv (Hv (Hv (IK ho hd hf (HE (HE ?_)))))
 rw[yt]
 refine Hv (Hv (IK ho hd hf ?_))
 dsimp only
 refine Hv (Hv (Kb (HE (HE ?_))))
 rw[T.plain]
 simp only[JW,Bool.false_and,Bool.and_false,HQ,Im]
 refine Hv (HE ?_)
 unfold setEpoch
 refine Hv (Hv (IK ho hd hf (HE ?_)))
 refine Hv (J3 (HE ⟨_,rfl,"set_iterator",_,⟨_,HU _ rfl,rfl⟩,bz.lookup,h⟩))
def sk {S:Addr}{o:Obj}{es:Array (Int×Value)}{ep:Nat}{t:SetTable}{Q:List Value->Shared->Prop}(hh:A.handled=none)(ho:s.heap.get? S=some o)(hd:o.data=.set es ep t)(hc:o.cls=.type "set")(T:Tab t (es.toList.map (·.1)))(hl:t.led=gR w)
  (hn:es.size<=64) (h:∀h' tk vs,vs=(told w S ep es).toList.map (·.2)->(∀b o,s.heap.get? b=some o->h'.get? b=some o)->Q vs {s with heap:=h',toks:=tk}):wpAny (model prog w) A (collect (.ref S)) Q E s:=by
 have hz:es.size<=sizeLine:=by rw[Iu];omega
 unfold collect
 (refine Hv (wpAny_runValue (Jv F.entry_proto_collect ?_)))
 (rw[Jd F.plain_proto_collect _])
 show wpAny _ A.in1 (newList [] >>= λl=>again (.builtin "list.__iadd__" ⟨[l,.ref S],[]⟩)) _ _ s
 refine Hv (J3 ?_)
 (refine HE ⟨Kd F.plain_list_iadd _,Jv F.entry_list_iadd ?_⟩)
 (rw[Jd F.plain_list_iadd _])
 show wpAny _ A.in1 (Builtin.List.listExtendWith (.ref s.heap.objs.size) (.ref S) (.ref s.heap.objs.size)) _ _ {s with heap:=s.heap.push (seqObj "list" #[] 0)}
 generalize hH:s.heap.push (seqObj "list" #[] 0)=H1
 have kp1:∀b o,s.heap.get? b=some o->H1.get? b=some o:=λb o e=>by rw[<-hH];exact Hw _ e
 have hD:H1.get? s.heap.objs.size=some (seqObj "list" #[] 0):=by rw[<-hH];exact HU _ rfl
 have hHs:H1.objs.size=s.heap.objs.size + 1:=by rw[<-hH];exact Jo ..
 have hSD:S≠s.heap.objs.size:=Ih (HJ ho)
 have hT:Shared.TypeIs {s with heap:=H1} (.ref S) "set":=⟨o,kp1 _ _ ho,hc⟩
 unfold Builtin.List.listExtendWith
 refine Hv (wpAny_typeOf hT ?_)
 have h1:Builtin.List.listSameRef (.ref s.heap.objs.size) (.ref S)=false:=by simp[Builtin.List.listSameRef,Ne.symm hSD]
 have h2:(Value.type "set" == Value.type "list")=false:=by decide
 have h3:(Value.type "set" == Value.type "tuple")=false:=by decide
 rw[h1,h2,h3]
 simp only[Bool.or_false,HQ,Im]
 refine Hv (x9 (s:={s with heap:=H1}) (kp1 _ _ ho) hd hc T hl ?_)
 refine Hv (IX ?_)
 unfold Builtin.List.listLengthHint
 have hT2:Shared.TypeIs {s with heap:=H1.push (qp S 0 0 es.size ep)} (.ref S) "set":=⟨o,Hw _ (kp1 _ _ ho),hc⟩
 refine Hv (wpAny_specialOf hT2 F.slot_set_len.lookup ?_)
 wp_delta
 refine Hv (wpAny_isInstance hT2 (b:=true) (by rw[Ks];kernel_rfl) ?_)
 show wpAny _ A.in1 (typeOf (Value.ref S) >>= λ_=>_) _ _ _
 refine Hv (wpAny_typeOf hT2 ?_)
 refine HE ?_
 show wpAny _ A.in1 (rule "list.extend.makes-room" >>= λ_=>Builtin.List.listTouch (.ref s.heap.objs.size) >>= λ_=>again (.builtin "list.extend.loop" ⟨[.ref s.heap.objs.size,.ref H1.objs.size,.ref s.heap.objs.size],[]⟩)) _ _ _
 refine Hv (wpAny_rule (Hv ?_))
 generalize hH2:H1.push (qp S 0 0 es.size ep)=H2
 have kp2:∀b o,H1.get? b=some o->H2.get? b=some o:=λb o e=>by rw[<-hH2];exact Hw _ e
 have hI:H2.get? H1.objs.size=some (qp S 0 0 es.size ep):=by rw[<-hH2];exact HU _ rfl
 have hS0:=kp2 _ _ hD
 show wpAny _ A.in1 (updateSeq s.heap.objs.size (·.push .none) >>= λ_=>updateSeq s.heap.objs.size (·.pop)) _ _ _
 refine Hv (wpAny_updateSeq (s:={s with heap:=H2}) hS0 rfl ?_)
 have hS2:=IL (Obj.mapSeq (·.push Value.none)) hS0 rfl
 refine wpAny_updateSeq (hz:=by seq_fits) hS2 rfl ?_
 have hS3:=IL (Obj.mapSeq (·.pop)) hS2 rfl
 have oth:∀b o,b≠s.heap.objs.size->H2.get? b=some o->((H2.update s.heap.objs.size (Obj.mapSeq (·.push Value.none))).update s.heap.objs.size (Obj.mapSeq (·.pop))).get? b=some o:=λb o hb e=>
  ((Heap.SameBut.update _ s.heap.objs.size (Obj.mapSeq (·.pop))).2 b hb).trans (((Heap.SameBut.update H2 s.heap.objs.size (Obj.mapSeq (·.push Value.none))).2 b hb).trans e)
 have hIS:S≠H1.objs.size:=by rw[hHs];exact Ih (Nat.lt_succ_of_lt (HJ ho))
 have hID:H1.objs.size≠s.heap.objs.size:=by rw[hHs];exact Nat.succ_ne_self _
 have hDf:s.heap.objs.size∉ [H1.objs.size,S]:=λz=>by
  rcases Hx.mp z with e |z
  ·exact hID e.symm
  ·exact hSD (HC.mp z).symm
 have X0:j9 w S o es ep t H1.objs.size 0 ((H2.update s.heap.objs.size (Obj.mapSeq (·.push Value.none))).update s.heap.objs.size (Obj.mapSeq (·.pop))):=
  ⟨oth _ _ hSD (kp2 _ _ (kp1 _ _ ho)),hd,hc,T,hl,0,oth _ _ hID hI,λ_=>rfl⟩
 refine HE ⟨Kd F.plain_extend_loop _,codeAny_extend_loopS (xh (A:=A.in1) (o:=o) (t:=t) hh hIS).toS hz _ hDf _ es.size 0 _ _ _ rfl (Ia _) X0 hS3 (ItemsOf.nil _) λs' acc' c' hm hS' hacc=>?_⟩
 show wpAny _ A (load s.heap.objs.size >>= λ_=>_) _ _ s'
 refine Hv (wpAny_load hS' (HE ?_))
 obtain⟨h',g',d',tk',os'⟩:=s'
 have eg:g'=s.gens:=hm.gens
 have ed:d'=s.drawn:=hm.drawn
 have eo:os'=s.os:=hm.os
 subst eg ed eo
 refine h h' tk' acc'.toList ?_ λb ob e=>hm.heap b ob (λhb=>?_) (oth b ob (Ih (HJ e)) (kp2 _ _ (kp1 _ _ e)))
 ·have hts:(told w S ep es).size=es.size:=by have:=(oD w S ep es).length_eq;simpa using this
  apply Kv
  intro i
  rw[HL]
  by_cases hi:i < es.size
  ·have hi1:i < acc'.size:=by rw[hacc.1];exact hi
   have q:=hacc.2 i acc'[i] (Ie hi1)
   rw[Jp,Jp,Ie hi1]
   exact q.symm
  ·rw[Jp,Jp,J0 (by rw[hacc.1];omega),J0 (by omega)];rfl
 ·have hlt:=HJ e
  rcases Hx.mp hb with z |z
  ·rw[z] at hlt;exact Iv _ hlt
  ·rw[HC.mp z,hHs] at hlt;exact absurd hlt (Nat.not_lt.mpr (Nat.le_succ _))
end
end L2.ST
namespace OM
abbrev Pr:=Int×Int
def BR (p q:Pr):Prop:=p.1 < q.1\/(p.1=q.1/\p.2 < q.2)
def gX (p:Pr):¬BR p p:=by unfold BR;omega
def vM {p q r:Pr}(a:BR p q)(b:BR q r):BR p r:=by unfold BR at *;omega
abbrev rX (l:List Pr):Prop:=l.Pairwise BR
theorem gP:∀{l m:List Pr},rX l->rX m->(∀x,x∈l↔x∈m)->l=m
 | [],[],_,_,_=>rfl
 | [],b :: m,_,_,h=>absurd ((h b).mpr (Hz ..)) (by simp)
 |a :: l,[],_,_,h=>absurd ((h a).mp (Hz ..)) (by simp)
 |a :: l,b :: m,hl,hm,h=>by
  have hl':=Jr.mp hl
  have hm':=Jr.mp hm
  have e:a=b:=by
   rcases Hx.mp ((h a).mp (Hz ..)) with e |e
   ·exact e
   ·rcases Hx.mp ((h b).mpr (Hz ..)) with e' |e'
    ·exact e'.symm
    ·exact absurd (vM (hm'.1 a e) (hl'.1 b e')) (gX _)
  subst e
  congr 1
  refine gP hl'.2 hm'.2 λx=>⟨λhx=>?_,λhx=>?_⟩
  ·rcases Hx.mp ((h x).mp (HG _ hx)) with e |e
   ·subst e;exact absurd (hl'.1 x hx) (gX _)
   ·exact e
  ·rcases Hx.mp ((h x).mpr (HG _ hx)) with e |e
   ·subst e;exact absurd (hm'.1 x hx) (gX _)
   ·exact e
def gx {l:List Pr}(h:rX l):l.Nodup:=h.imp λ{a b} hab e=>by subst e;exact gX _ hab
def ug {l:List Pr}(p:Pr->Bool)(h:rX l):rX (l.filter p):=h.sublist List.filter_sublist
def fF (n:Nat):List Pr:=(List.range (n * n)).map λk=>(((k / n:Nat):Int),((k % n:Nat):Int))
def fx {n:Nat}{p:Pr}:p∈fF n↔(0<=p.1/\p.1 < n)/\(0<=p.2/\p.2 < n):=by
 unfold fF
 rw[HH]
 constructor
 ·rintro⟨k,hk,rfl⟩
  have hk:=HR.mp hk
  have hn:0 < n:=by
   rcases Nat.eq_zero_or_pos n with e |e
   ·subst e;omega
   ·exact e
  have h1:k / n < n:=Nat.div_lt_of_lt_mul hk
  have h2:k % n < n:=Ka _ hn
  generalize k / n=q at h1
  generalize k % n=r at h2
  exact⟨⟨Int.natCast_nonneg _,by dsimp only;omega⟩,⟨Int.natCast_nonneg _,by dsimp only;omega⟩⟩
 ·rintro⟨⟨a0,a1⟩,⟨b0,b1⟩⟩
  have hn:0 < n:=by omega
  refine⟨p.1.toNat * n + p.2.toNat,HR.mpr ?_,?_⟩
  ·have h1:p.1.toNat + 1<=n:=by omega
   have h2:p.2.toNat < n:=by omega
   have:=Nat.mul_le_mul_right n h1
   rw[Nat.add_mul] at this
   omega
  ·have h2:p.2.toNat < n:=by omega
   have e1:(p.1.toNat * n + p.2.toNat) / n=p.1.toNat:=by
    rw[Nat.mul_comm,Nat.mul_add_div hn,Nat.div_eq_of_lt h2];rfl
   have e2:(p.1.toNat * n + p.2.toNat) % n=p.2.toNat:=by
    rw[Nat.mul_comm,Nat.mul_add_mod,Nat.mod_eq_of_lt h2]
   rw[e1,e2]
   refine Prod.ext ?_ ?_ <;> dsimp only <;> omega
def rP (n:Nat):rX (fF n):=by
 unfold fF
 refine IA.mpr (Ip ?_ JZ)
 intro a b ha hb hab
 have ha:=HR.mp ha
 have hb:=HR.mp hb
 have hn:0 < n:=by
  rcases Nat.eq_zero_or_pos n with e |e
  ·subst e;omega
  ·exact e
 have h1:a / n<=b / n:=Nat.div_le_div_right (Nat.le_of_lt hab)
 have e1:=Nat.div_add_mod a n
 have e2:=Nat.div_add_mod b n
 unfold BR
 dsimp only
 rcases IH (a / n) (b / n) with c |c
 ·left;omega
 ·right
  have e:a / n=b / n:=by omega
  rw[e] at e1
  omega
open Classical in
noncomputable def bK (n:Nat)(R:Int->Int->Prop):List Pr:=(fF n).filter λp=>decide (R p.1 p.2)
def aS {n:Nat}{R:Int->Int->Prop}{p:Pr}:p∈bK n R↔((0<=p.1/\p.1 < n)/\(0<=p.2/\p.2 < n))/\R p.1 p.2:=by
 unfold bK
 rw[Iq,fx]
 simp
def cG (n:Nat)(R:Int->Int->Prop):rX (bK n R):=ug _ (rP n)
def t7 {n:Nat}{R S:Int->Int->Prop}(h:∀a b:Int,0<=a->a < n->0<=b->b < n->(R a b↔S a b)):bK n R=bK n S:=by
 refine gP (cG n R) (cG n S) λx=>?_
 rw[aS,aS]
 constructor
 ·rintro⟨⟨⟨a,b⟩,c,d⟩,r⟩;exact⟨⟨⟨a,b⟩,c,d⟩,(h _ _ a b c d).mp r⟩
 ·rintro⟨⟨⟨a,b⟩,c,d⟩,r⟩;exact⟨⟨⟨a,b⟩,c,d⟩,(h _ _ a b c d).mpr r⟩
def Wn (n:Nat)(l:List Pr):Prop:=∀p,p∈l->(0<=p.1/\p.1 < n)/\(0<=p.2/\p.2 < n)
abbrev Mem (l:List Pr)(a b:Int):Prop:=(a,b)∈l
def vQ {n:Nat}{l:List Pr}(w:Wn n l)(r:rX l):bK n (Mem l)=l:=by
 refine gP (cG n _) r λx=>?_
 rw[aS]
 exact⟨λh=>h.2,λh=>⟨w x h,h⟩⟩
def qc (n:Nat)(R:Int->Int->Prop):Wn n (bK n R):=λ_ h=>(aS.mp h).1
def yk (n:Nat)(R:Int->Int->Prop):(bK n R).length<=n * n:=by
 unfold bK
 refine IW (Js ..) ?_
 unfold fF;simp
inductive Tr (R:Int->Int->Prop):Int->Int->Prop
 |one {a b}:R a b->Tr R a b
 |more {a b c}:R a b->Tr R b c->Tr R a c
theorem Tr.trans {R:Int->Int->Prop}{a b c:Int}(h:Tr R a b)(k:Tr R b c):Tr R a c:=by
 induction h with
 |one r=>exact .more r k
 |more r _ ih=>exact .more r (ih k)
theorem Tr.least {R S:Int->Int->Prop}(f:∀a b,R a b->S a b)(t:∀a b c,S a b->S b c->S a c){a b:Int}(h:Tr R a b):S a b:=by
 induction h with
 |one r=>exact f _ _ r
 |more r _ ih=>exact t _ _ _ (f _ _ r) ih
theorem Tr.wn {n:Nat}{l:List Pr}(w:Wn n l){a b:Int}(h:Tr (Mem l) a b):(0<=a/\a < n)/\(0<=b/\b < n):=by
 induction h with
 |one r=>exact w _ r
 |more r _ ih=>exact⟨(w _ r).1,ih.2⟩
structure Ord (n:Nat)(l:List Pr):Prop where
 lo:1<=n
 hi:n<=8
 wn:Wn n l
 ris:rX l
 irr:∀a,(a,a)∉l
 tr:∀a b c,(a,b)∈l->(b,c)∈l->(a,c)∈l
def Ord.tr_mem {n:Nat}{l:List Pr}(O:Ord n l){a b:Int}:Tr (Mem l) a b↔(a,b)∈l:=
 ⟨λh=>h.least (λ_ _ r=>r) λa b c=>O.tr a b c,λh=>.one h⟩
def Ord.closed {n:Nat}{l:List Pr}(O:Ord n l):bK n (Tr (Mem l))=l:=by
 rw[t7 (S:=Mem l) λa b _ _ _ _=>O.tr_mem,vQ O.wn O.ris]
def Cy {n:Nat}{l:List Pr}(h1:1<=n)(h8:n<=8)(w:Wn n l)(hr:∀a,¬Tr (Mem l) a a):Ord n (bK n (Tr (Mem l))):=
 ⟨h1,h8,qc n _,cG n _,λa h=>hr a (aS.mp h).2,λa b c h k=>aS.mpr ⟨⟨(aS.mp h).1.1,(aS.mp k).1.2⟩,(aS.mp h).2.trans (aS.mp k).2⟩⟩
theorem m9 {l m:List Pr}(hl:l.Nodup)(h:∀x,x∈l->x∈m):l.length<=m.length:=by
 induction l generalizing m with
 |nil=>exact Ia _
 |cons a l ih=>
  have ha:=h a (Hz ..)
  have hl':=Il.mp hl
  have:=ih (m:=m.erase a) hl'.2 λx hx=>by
   refine (List.mem_erase_of_ne ?_).mpr (h x (HG _ hx))
   rintro rfl;exact hl'.1 hx
  rw[Kl ha] at this
  have:0 < m.length:=List.length_pos_of_mem ha
  simp only[HX];omega
def sub_eq {l m:List Pr}(hl:rX l)(hm:rX m)(h:∀x,x∈l->x∈m)(e:l.length=m.length):l=m:=by
 refine gP hl hm λx=>⟨h x,λhx=>Classical.byContradiction λhn=>?_⟩
 have:=m9 (l:=x :: l) (m:=m) (Il.mpr ⟨hn,gx hl⟩) λy hy=>by
  rcases Hx.mp hy with e |e
  ·subst e;exact hx
  ·exact h y e
 simp only[HX] at this
 omega
def more (l:List Pr):List Pr:=l.flatMap λp=>(l.filter λq=>decide (q.1=p.2)).map λq=>(p.1,q.2)
def mw {l:List Pr}{x:Pr}:x∈more l↔∃b,(x.1,b)∈l/\(b,x.2)∈l:=by
 unfold more
 rw[List.mem_flatMap]
 constructor
 ·rintro⟨p,hp,hx⟩
  obtain⟨q,hq,rfl⟩:=HH.mp hx
  obtain⟨hq,e⟩:=Iq.mp hq
  have e:q.1=p.2:=by simpa using e
  exact⟨p.2,hp,by rw[<-e];exact hq⟩
 ·rintro⟨b,h1,h2⟩
  exact⟨(x.1,b),h1,HH.mpr ⟨(b,x.2),Iq.mpr ⟨h2,by simp⟩,rfl⟩⟩
noncomputable def iE (n:Nat)(l:List Pr):List Pr:=bK n (Mem (l ++ more l))
structure Cb (n:Nat)(ps l:List Pr):Prop where
 wn:Wn n l
 ris:rX l
 sub:∀x,x∈ps->x∈l
 sup:∀x,x∈l->Tr (Mem ps) x.1 x.2
def vY {n:Nat}{ps:List Pr}(w:Wn n ps):Cb n ps (bK n (Mem ps)):=
 ⟨qc n _,cG n _,λx hx=>aS.mpr ⟨w x hx,hx⟩,λ_ hx=>.one (aS.mp hx).2⟩
def yX {n:Nat}{ps l:List Pr}(B:Cb n ps l):Wn n (l ++ more l):=λx hx=>by
 rcases HP.mp hx with h |h
 ·exact B.wn x h
 ·obtain⟨b,h1,h2⟩:=mw.mp h
  exact⟨(B.wn _ h1).1,(B.wn _ h2).2⟩
def qt {n:Nat}{ps l:List Pr}(B:Cb n ps l):Cb n ps (iE n l)/\∀x,x∈l->x∈iE n l:=by
 have hs:∀x,x∈l->x∈iE n l:=λx hx=>aS.mpr ⟨B.wn x hx,Jb _ hx⟩
 refine⟨⟨qc n _,cG n _,λx hx=>hs x (B.sub x hx),λx hx=>?_⟩,hs⟩
 rcases HP.mp (aS.mp hx).2 with h |h
 ·exact B.sup _ h
 ·obtain⟨b,h1,h2⟩:=mw.mp h
  exact (B.sup _ h1).trans (B.sup _ h2)
def xF {n:Nat}{ps l:List Pr}(B:Cb n ps l)(e:(iE n l).length=l.length):iE n l=bK n (Tr (Mem ps)):=by
 obtain⟨B2,hs⟩:=qt B
 have q:l=iE n l:=sub_eq B.ris B2.ris hs e.symm
 refine gP B2.ris (cG n _) λx=>⟨λh=>aS.mpr ⟨B2.wn x h,B2.sup x h⟩,λh=>?_⟩
 rw[<-q]
 have tr:∀a b c:Int,(a,b)∈l->(b,c)∈l->(a,c)∈l:=λa b c h1 h2=>by
  rw[q]
  exact aS.mpr ⟨⟨(B.wn _ h1).1,(B.wn _ h2).2⟩,HZ _ (mw.mpr ⟨b,h1,h2⟩)⟩
 exact (aS.mp h).2.least (S:=Mem l) (λa b r=>B.sub _ r) tr
abbrev Tb:=Nat->Nat->Bool
def Tb.set (M:Tb)(a b:Nat):Tb:=λx y=>if x=a/\y=b then true else M x y
def Bj (M:Tb)(m:Nat):Prop:=∀k a b,k < m->M a k=true->M k b=true->M a b=true
def Phase (M0 M:Tb)(m:Nat)(D:Nat->Nat->Prop):Prop:=∀a b,M a b=true↔M0 a b=true\/(D a b/\M0 a m=true/\M0 m b=true)
def Phase.start (M:Tb)(m:Nat):Phase M M m λ_ _=>False:=λa b=>by simp
def Phase.row {M0 M:Tb}{m:Nat}{D:Nat->Nat->Prop}(P:Phase M0 M m D)(a:Nat):M a m=true↔M0 a m=true:=by
 rw[P]
 exact⟨λh=>h.elim id λh=>h.2.1,.inl⟩
def Phase.col {M0 M:Tb}{m:Nat}{D:Nat->Nat->Prop}(P:Phase M0 M m D)(b:Nat):M m b=true↔M0 m b=true:=by
 rw[P]
 exact⟨λh=>h.elim id λh=>h.2.2,.inl⟩
def Phase.step {M0 M:Tb}{m:Nat}{D:Nat->Nat->Prop}(P:Phase M0 M m D)(x y:Nat) :
  Phase M0 (if M x m=true/\M m y=true then M.set x y else M) m (λa b=>D a b\/(a=x/\b=y)):=λa b=>by
 have r:=P.row x
 have c:=P.col y
 by_cases h:M x m=true/\M m y=true
 ·rw[HA h]
  unfold Tb.set
  by_cases e:a=x/\b=y
  ·rw[HA e]
   obtain⟨rfl,rfl⟩:=e
   simp only[true_iff]
   exact .inr ⟨.inr (by simp),r.mp h.1,c.mp h.2⟩
  ·rw[HI e,P]
   constructor
   ·rintro (q | ⟨d,q⟩)
    ·exact .inl q
    ·exact .inr ⟨.inl d,q⟩
   ·rintro (q | ⟨d |d,q⟩)
    ·exact .inl q
    ·exact .inr ⟨d,q⟩
    ·exact absurd d e
 ·rw[HI h,P]
  constructor
  ·rintro (q | ⟨d,q⟩)
   ·exact .inl q
   ·exact .inr ⟨.inl d,q⟩
  ·rintro (q | ⟨d | ⟨rfl,rfl⟩,q1,q2⟩)
   ·exact .inl q
   ·exact .inr ⟨d,q1,q2⟩
   ·exact absurd ⟨r.mpr q1,c.mpr q2⟩ h
def Phase.done {M0 M:Tb}{m n:Nat}{D:Nat->Nat->Prop}(P:Phase M0 M m D)(hD:∀a b,a < n->b < n->D a b)(hM:∀a b,M0 a b=true->a < n/\b < n)(T:Bj M0 m) :
  Bj M (m + 1)/\∀a b,M a b=true->a < n/\b < n:=by
 have hM':∀a b,M a b=true->a < n/\b < n:=λa b h=>by
  rcases (P a b).mp h with q | ⟨_,q1,q2⟩
  ·exact hM a b q
  ·exact⟨(hM _ _ q1).1,(hM _ _ q2).2⟩
 have put:∀a b,M0 a m=true->M0 m b=true->M a b=true:=λa b h1 h2=>(P a b).mpr (.inr ⟨hD a b (hM _ _ h1).1 (hM _ _ h2).2,h1,h2⟩)
 refine⟨λk a b hk h1 h2=>?_,hM'⟩
 rcases IH k m with c |c
 ·rcases (P a k).mp h1 with q1 | ⟨_,q1,q1'⟩
  ·rcases (P k b).mp h2 with q2 | ⟨_,q2,q2'⟩
   ·exact (P a b).mpr (.inl (T k a b c q1 q2))
   ·exact put a b (T k a m c q1 q2) q2'
  ·rcases (P k b).mp h2 with q2 | ⟨_,q2,q2'⟩
   ·exact put a b q1 (T k m b c q1' q2)
   ·exact put a b q1 q2'
 ·have e:k=m:=by omega
  subst e
  exact put a b ((P.row a).mp h1) ((P.col b).mp h2)
structure Tab (n:Nat)(ps:List Pr)(M:Tb):Prop where
 inn:∀a b,M a b=true->a < n/\b < n
 sub:∀a b:Nat,((a:Int),(b:Int))∈ps->M a b=true
 sup:∀a b:Nat,M a b=true->Tr (Mem ps) a b
def Tab.phase {n:Nat}{ps:List Pr}{M0 M:Tb}{m:Nat}{D:Nat->Nat->Prop}(T:Tab n ps M0)(P:Phase M0 M m D):Tab n ps M:=
 ⟨λa b h=>by
  rcases (P a b).mp h with q | ⟨_,q1,q2⟩
  ·exact T.inn a b q
  ·exact⟨(T.inn _ _ q1).1,(T.inn _ _ q2).2⟩,
  λa b h=>(P a b).mpr (.inl (T.sub a b h)),
  λa b h=>by
  rcases (P a b).mp h with q | ⟨_,q1,q2⟩
  ·exact T.sup a b q
  ·exact (T.sup _ _ q1).trans (T.sup _ _ q2)⟩
def Tab.all {n:Nat}{ps:List Pr}{M:Tb}(w:Wn n ps)(T:Tab n ps M)(H:Bj M n)(a b:Nat):M a b=true↔Tr (Mem ps) a b:=by
 refine⟨T.sup a b,λh=>?_⟩
 have key:∀{x y:Int},Tr (Mem ps) x y->M x.toNat y.toNat=true:=λ{x y} h=>by
  induction h with
  | @one x y r=>
   have:=w _ r
   refine T.sub _ _ ?_
   have e1:((x.toNat:Nat):Int)=x:=by simp only at this;omega
   have e2:((y.toNat:Nat):Int)=y:=by simp only at this;omega
   rw[e1,e2];exact r
  | @more x y z r _ ih=>
   have:=w _ r
   have e1:((x.toNat:Nat):Int)=x:=by simp only at this;omega
   have e2:((y.toNat:Nat):Int)=y:=by simp only at this;omega
   have q:M x.toNat y.toNat=true:=T.sub _ _ (by rw[e1,e2];exact r)
   exact H y.toNat _ _ (T.inn _ _ q).2 q ih
 have:=key h
 simpa using this
end OM
namespace L2.ST
open PySem PySem.SetTable PySem.W PyProof.Rows
section
variable {prog:Program}{w:World}{A:Around}{E:Value->Shared->Prop}{s:Shared}
def CA {ps:List Pr}(hs:∀p,p∈ps->Sm p){ix:Array Nat}(P:L2.SO.Pm ps.length ix)(U:L2.SO.Up (nJ ps) ix ps.length):OM.rX (ix.toList.map λi=>ps.getD i (0,0)):=by
 refine IA.mpr (IC.mpr λi j hi hj hij=>?_)
 have hi':i < ix.size:=by simpa using hi
 have hj':j < ix.size:=by simpa using hj
 have q:=U i j hij (by rw[<-P.sz];exact hj')
 unfold L2.SO.Kp nJ at q
 have ei:ix.getD i 0=ix.toList[i]:=by simp[Array.getD,hi']
 have ej:ix.getD j 0=ix.toList[j]:=by simp[Array.getD,hj']
 rw[ei,ej] at q
 have ai:ix.toList[i] < ps.length:=P.lt _ (by simp)
 have aj:ix.toList[j] < ps.length:=P.lt _ (by simp)
 have bi:Sm (ps.getD ix.toList[i] (0,0)):=by rw[IS,Hu ai];exact hs _ (IV ai)
 have bj:Sm (ps.getD ix.toList[j] (0,0)):=by rw[IS,Hu aj];exact hs _ (IV aj)
 exact (uT bi bj).mp q
def Dy {n:Nat}{ix:Array Nat}(P:L2.SO.Pm n ix){k:Nat}(hk:k < n):k∈ix.toList:=by
 refine Classical.byContradiction λhn=>?_
 have:=aO (l:=k :: ix.toList) (m:=List.range n) (Il.mpr ⟨hn,P.nd⟩) λx hx=>by
  rcases Hx.mp hx with e |e
  ·rw[e];exact HR.mpr hk
  ·exact HR.mpr (P.lt x (by simpa using e))
 simp[P.sz] at this
 omega
theorem EX {h:Heap}{vs:List Value}{ps:List Pr}(hps:cu prog w h vs ps){ix:Array Nat}(P:L2.SO.Pm vs.length ix) :
  cu prog w h (ix.toList.map λi=>vs.getD i Value.none) (ix.toList.map λi=>ps.getD i (0,0)):=by
 refine⟨by simp,λi v p h1 h2=>?_⟩
 rw[HL] at h1 h2
 cases e:ix.toList[i]? with
 |none=>rw[e] at h1;cases h1
 |some k=>
  rw[e] at h1 h2
  have hk:k < vs.length:=P.lt k (by simpa using HN e)
  have hk':k < ps.length:=by rw[<-hps.1];exact hk
  simp[hk,hk'] at h1 h2
  exact hps.2 k v p (by rw[Hu hk,h1]) (by rw[Hu hk',h2])
def vV {v:Value}{vs:List Value}{ps:List Pr}{Q:Value->Shared->Prop}(hps:cu prog w s.heap vs ps)(nd:ps.Nodup)(h64:vs.length < 64)
  (hcol:∀(Q':List Value->Shared->Prop),(∀h' tk,(∀b o,s.heap.get? b=some o->h'.get? b=some o)->Q' vs {s with heap:=h',toks:=tk})->wpAny (model prog w) A.in1 (collect v) Q' (λe s'=>E e s') s)
  (h:∀(h1 h':Heap) (tk:Nat) (D:Addr) (out:List Value) (qs:List Pr) (c:Nat),(∀b o,s.heap.get? b=some o->h1.get? b=some o)->D=h1.objs.size->(∀b o,h1.get? b=some o->h'.get? b=some o)->h'.get? D=some (seqObj "list" out.toArray c)->cu prog w h' out qs->(∀u,u∈out->u∈vs)->OM.rX qs->(∀p,p∈qs↔p∈ps)->
   Q (.ref D) {s with heap:=h',toks:=tk}):wpAny (model prog w) A (call (.builtin "sorted") [v]) Q E s:=by
 have hsm:∀p,p∈ps->Sm p:=λp hp=>by
  obtain⟨i,hi,e⟩:=Ir.mp hp
  have hi':i < vs.length:=by rw[hps.1];exact hi
  obtain⟨_,_,_,hs⟩:=hps.2 i vs[i] p (Hu hi') (by rw[Hu hi,e])
  exact hs
 (refine Calls.call_function_entry kind_sorted plain_sorted entry_sorted (args_sorted1 _) ?_)
 unfold Builtin.«sorted»
 refine Hv (m:=checkCount "sorted" 1 1 ([v]:List Value).length) (HE ?_)
 refine Hv (hcol _ λh1 tk1 k1=>?_)
 have hz:vs.length<=sizeLine:=by rw[Iu];omega
 refine Hv (wpAny_newList ?_ hz)
 show wpAny _ _ _ _ _ {s with heap:=h1.push (seqObj "list" vs.toArray 0),toks:=tk1}
 have hoL:(h1.push (seqObj "list" vs.toArray 0)).get? h1.objs.size=some (seqObj "list" vs.toArray 0):=HU _ rfl
 have kp:∀b o,s.heap.get? b=some o->(h1.push (seqObj "list" vs.toArray 0)).get? b=some o:=λb o e=>Hw _ (k1 b o e)
 have hp1:cu prog w (h1.push (seqObj "list" vs.toArray 0)) vs ps:=⟨hps.1,λi v p a b=>by
  obtain⟨c,e,⟨o,it,n,ho,r⟩,hs⟩:=hps.2 i v p a b
  exact⟨c,e,⟨o,it,n,kp _ _ ho,r⟩,hs⟩⟩
 have hne:∀b o,s.heap.get? b=some o->b≠h1.objs.size:=λb o e=>Ih (HJ (k1 b o e))
 refine Hv (IX (JR slot_list_sort ⟨_,hoL,rfl⟩ entry_list_sort ?_ (args_list_sort _)))
 refine rf (s:={s with heap:=h1.push (seqObj "list" vs.toArray 0),toks:=tk1}) hoL hp1 nd h64 λh' c ix P U hk ho=>?_
 refine⟨_,rfl,HE ⟨_,rfl,?_⟩⟩
 have kk:∀b o,s.heap.get? b=some o->h'.get? b=some o:=λb o e=>hk b o (hne b o e) (kp b o e)
 have P':L2.SO.Pm ps.length ix:=by rw[<-hps.1];exact P
 have k2:∀b o,h1.get? b=some o->h'.get? b=some o:=λb o e=>hk b o (Ih (HJ e)) (Hw _ e)
 refine h h1 h' tk1 h1.objs.size _ (ix.toList.map λi=>ps.getD i (0,0)) c k1 rfl k2 ho (EX ⟨hps.1,λi v p a b=>?_⟩ P) (λu hu=>?_) (CA hsm P' (by rw[<-hps.1];exact U)) λp=>⟨λhp=>?_,λhp=>?_⟩
 ·obtain⟨c,e,⟨o,it,n,ho,r⟩,hs⟩:=hps.2 i v p a b
  exact⟨c,e,⟨o,it,n,kk _ _ ho,r⟩,hs⟩
 ·obtain⟨i,hi,rfl⟩:=HH.mp hu
  have:i < vs.length:=P.lt i (by simpa using hi)
  rw[IS,Hu this]
  exact IV this
 ·obtain⟨i,hi,rfl⟩:=HH.mp hp
  have:i < ps.length:=P'.lt i (by simpa using hi)
  rw[IS,Hu this]
  exact IV this
 ·obtain⟨i,hi,e⟩:=Ir.mp hp
  refine HH.mpr ⟨i,Dy P' hi,?_⟩
  rw[IS,Hu hi,e];rfl
end
end L2.ST
namespace L2
open PySem PySem.Spec PyProof.Rows
abbrev Pr:=Int×Int
abbrev Sm:=L2.ST.Sm
section
variable {X:Cx}{pins:List (Addr×Obj)}{σ:St}{H H':Hp}{s:Shared}
def fL (H H':Hp):Prop:=(∀b xs,H b=some (.tup xs)->H' b=some (.tup xs))/\∀b o u,H b=some (.aU o u)->H' b=some (.aU o u)
def fL.trans {H H1 H2:Hp}(a:fL H H1)(b:fL H1 H2):fL H H2:=⟨λc xs h=>b.1 c xs (a.1 c xs h),λc o u h=>b.2 c o u (a.2 c o u h)⟩
def af.grow {H H':Hp}(e:af H H'):fL H H':=⟨λb xs h=>e b _ h,λb o u h=>e b _ h⟩
def fL.new {H:Hp}{l:Addr}{o:HO}(h:H l=none):fL H (upd H l o):=⟨λb xs e=>by rw[ak (ax e h)];exact e,λb o' u e=>by rw[ak (ax e h)];exact e⟩
def af.new {H:Hp}{l:Addr}{o:HO}(h:H l=none):af H (upd H l o):=λb u e=>Kt.of (by rw[ak (ax e h)];exact e)
def fK.grow {K:Frag}{a:Addr}{xs:List V}(h:fK K H a xs)(g:fL H H'):fK K H' a xs:=by
 rcases h with (h | ⟨o,h⟩) |h
 ·exact .inl (.inl (g.1 _ _ h))
 ·exact .inl (.inr ⟨o,g.2 _ _ _ h⟩)
 ·exact .inr h
def fL.list {a:Addr}{ys:List V}{o:HO}(h:H a=some (.lst ys)):fL H (upd H a o):=
 ⟨λb xs e=>by rw[ak (BY e h (by intro z;cases z))];exact e,λb o' u e=>by rw[ak (BY e h (by intro z;cases z))];exact e⟩
theorem nq {α β:Type}{f:α->β}:∀{l:List α} {m:List β},m.Perm (l.map f)->∃l':List α,m=l'.map f/\l'.Perm l:=by
 intro l m h
 generalize hk:l.map f=k at h
 induction h generalizing l with
 |nil=>
  have:l= []:=by simpa using hk
  exact⟨[],rfl,by rw[this]⟩
 | @cons x m1 m2 _ ih=>
  cases l with
  |nil=>cases hk
  |cons a l=>
   simp only[ID,List.cons.injEq] at hk
   obtain⟨l',e,p⟩:=ih hk.2
   exact⟨a :: l',by rw[ID,hk.1,e],p.cons a⟩
 |swap x y m1=>
  cases l with
  |nil=>cases hk
  |cons a l=>
   cases l with
   |nil=>simp at hk
   |cons b l=>
    simp only[ID,List.cons.injEq] at hk
    exact⟨b :: a :: l,by rw[ID,ID,hk.1,hk.2.1,hk.2.2],List.Perm.swap ..⟩
 |trans _ _ ih1 ih2=>
  obtain⟨l1,e1,p1⟩:=ih2 hk
  obtain⟨l2,e2,p2⟩:=ih1 e1.symm
  exact⟨l2,e2,p2.trans p1⟩
def aJ (K:Frag)(H:Hp):List V->List Pr->Prop:=Paired λv p=>∃a,v=.ref a/\fK K H a [.int p.1,.int p.2]
def aJ.grow {K:Frag}{vs:List V}{ps:List Pr}(h:aJ K H vs ps)(g:fL H H'):aJ K H' vs ps:=Paired.mapP h λv p ⟨a,e,q⟩=>⟨a,e,q.grow g⟩
theorem Paired.getP {α β:Type}{F:α->β->Prop}:∀{l:List α} {m:List β} {i:Nat} {x:α},Paired F l m->l[i]? =some x->∃y,m[i]? =some y/\F x y
 |_,_,_,_,.nil,e=>by simp at e
 |_,_,0,_,.cons r _,e=>by simp at e;subst e;exact⟨_,rfl,r⟩
 |_,_,i + 1,x,.cons _ t,e=>by
  obtain⟨u,h1,h2⟩:=Paired.getP (i:=i) (x:=x) t (by simpa using e)
  exact⟨u,by simpa using h1,h2⟩
theorem Paired.getQ {α β:Type}{F:α->β->Prop}:∀{l:List α} {m:List β} {i:Nat} {y:β},Paired F l m->m[i]? =some y->∃x,l[i]? =some x/\F x y
 |_,_,_,_,.nil,e=>by simp at e
 |_,_,0,_,.cons r _,e=>by simp at e;subst e;exact⟨_,rfl,r⟩
 |_,_,i + 1,x,.cons _ t,e=>by
  obtain⟨u,h1,h2⟩:=Paired.getQ (i:=i) (y:=x) t (by simpa using e)
  exact⟨u,by simpa using h1,h2⟩
theorem qg (I:Inv X pins σ H s){a:Addr}{p:Pr}(h:fK X.K H a [.int p.1,.int p.2]):L2.ST.bo X.prog X.w s.heap p a:=by
 obtain⟨its,r,⟨o,ho,hc,n,hd⟩,_⟩:=I.tuple h
 cases r with
 |cons r1 r=>
  cases r with
  |cons r2 r=>
   cases r
   obtain⟨t1,rfl⟩:=r1
   obtain⟨t2,rfl⟩:=r2
   exact⟨o,_,n,ho,hc,hd,.cons (intKind_is ..) (.cons (intKind_is ..) .nil)⟩
def pairs_at (I:Inv X pins σ H s){vs:List V}{us:List Value}{ps:List Pr}(hv:Vals vs us)(h:aJ X.K H vs ps)(hs:∀p,p∈ps->Sm p):L2.ST.cu X.prog X.w s.heap us ps:=by
 refine⟨by rw[<-hv.length];exact Paired.length h,λi u p e1 e2=>?_⟩
 obtain⟨v,ev,a,rfl,q⟩:=Paired.getQ h e2
 obtain⟨u',eu,ru⟩:=hv.get ev
 rw[e1] at eu;cases eu
 cases ru
 exact⟨a,rfl,qg I q,hs p (HN e2)⟩
theorem mD (I:Inv X pins σ H s){vs:List V}{us:List Value}{ps:List Pr}(hv:Vals vs us)(h:aJ X.K H vs ps){h':Heap}(k:∀b o,s.heap.get? b=some o->h'.get? b=some o):∀{out:List Value} {qs:List Pr},
  (∀u,u∈out->u∈us)->L2.ST.cu X.prog X.w h' out qs->∃ws,Vals ws out/\aJ X.K H ws qs
 | [],[],_,_=>⟨[],.nil,.nil⟩
 | [],_ :: _,_,hp=>by have:=hp.1;simp at this
 |_ :: _,[],_,hp=>by have:=hp.1;simp at this
 |u :: out,q :: qs,hm,hp=>by
  obtain⟨ws,a1,a2⟩:=mD I hv h k (out:=out) (qs:=qs) (λx hx=>hm x (HG _ hx)) ⟨by have:=hp.1;simpa using this,λi v p e1 e2=>hp.2 (i + 1) v p (by simpa using e1) (by simpa using e2)⟩
  obtain⟨i,hi,e⟩:=Ir.mp (hm u (Hz ..))
  have hi':i < vs.length:=by rw[hv.length];exact hi
  obtain⟨u',eu,ru⟩:=hv.get (Hu hi')
  rw[Hu hi,e] at eu
  cases eu
  obtain⟨p,ep,a,ea,qa⟩:=Paired.getP h (Hu hi')
  rw[ea] at ru
  cases ru
  obtain⟨b,eb,hb,_⟩:=hp.2 0 (.ref a) q rfl rfl
  cases eb
  have pa:L2.ST.bo X.prog X.w h' p a:=by
   obtain⟨o,it,n,ho,r⟩:=qg I qa
   exact⟨o,it,n,k _ _ ho,r⟩
  have:p=q:=L2.ST.bo.inj pa hb
  subst this
  exact⟨.ref a :: ws,.cons rfl a1,.cons ⟨a,rfl,qa⟩ a2⟩
def tY (I:Inv X pins σ H s){vs:List V}{us:List Value}{ps:List Pr}(hv:Vals vs us)(hp:aJ X.K H vs ps)(hlen:ps.length < 64){Q:VK}
  (q:∀l ws qs,H l=none->aJ X.K H ws qs->OM.rX qs->(∀p,p∈qs↔p∈ps)->Q (.ref l) (upd H l (.lst ws)))
  {h1 h':Heap} {tk:Nat} {D:Addr} {out:List Value} {qs:List Pr} {c:Nat} (k1:∀b o,s.heap.get? b=some o->h1.get? b=some o) (eD:D=h1.objs.size) (k2:∀b o,h1.get? b=some o->h'.get? b=some o)
  (ho:h'.get? D=some (seqObj "list" out.toArray c)) (hpq:L2.ST.cu X.prog X.w h' out qs) (hm:∀u,u∈out->u∈us) (hr:OM.rX qs) (hmem:∀p,p∈qs↔p∈ps):EP X pins σ Q (.ref D) {s with heap:=h',toks:=tk}:=by
 obtain⟨ws,r1,r2⟩:=mD I hv hp (λb o e=>k2 b o (k1 b o e)) hm hpq
 have I1:Inv X pins σ H {s with heap:=h1,toks:=tk}:=I.kept k1
 have hf:H D=none:=by rw[eD];exact I1.hok.fresh (Hy _)
 have hz:ws.length<=sizeLine:=by
  have e1:=r1.length
  have e2:out.length=qs.length:=hpq.1
  have e3:=OM.m9 (OM.gx hr) λx hx=>(hmem x).mp hx
  rw[Iu];omega
 have I2:Inv X pins σ (upd H D (.lst ws)) {s with heap:=h',toks:=tk}:=I1.laid (t':=tk) k2 (by rw[eD];exact Hy _) (show bL X.prog X.w _ h' _ (.lst ws) from⟨hz,out,c,r1,ho⟩)
 exact⟨.ref D,_,I2,rfl,q D ws qs hf r2 hr hmem⟩
abbrev vq (qs:List (Addr×Pr)):List V:=qs.map λq=>V.ref q.1
abbrev pq (qs:List (Addr×Pr)):List Pr:=qs.map (·.2)
def Cn (prog:Program)(w:World)(S:Addr)(qs:List (Addr×Pr))(h:Heap):Prop:=∃o ep t,h.get? S=some o/\o.ExactSet/\o.data=.set (qs.map λq=>(L2.ST.xu prog w q.2,Value.ref q.1)).toArray ep t/\L2.ST.Tab t (qs.map λq=>L2.ST.xu prog w q.2)/\t.led=L2.ST.gR w
def wu (prog:Program)(w:World)(S:Addr)(qs:List (Addr×Pr)):HO:=.ext (Cn prog w S qs)
def EY (P:Program)(w:World)(K:Frag):List V->Hp->VK->Prop:=λxs H Q=>∃a vs ps,xs= [.ref a]/\(dJ K H a vs\/fK K H a vs)/\aJ K H vs ps/\(∀p,p∈ps->Sm p)/\
 ∀S qs,H S=none->aJ K H (vq qs) (pq qs)->(pq qs).Nodup->(∀p,p∈pq qs↔p∈ps)->Q (.ref S) (upd H S (wu P w S qs))
def zy (hc:X.calm=true)(hu:X.A.units + 64 < cLine):cf X (.type "set") (EY X.prog X.w X.K):=by
 intro pins s σ H xs us Q I r h
 obtain⟨a,vs,ps,rfl,hq,hp,hs,q⟩:=h
 obtain⟨u,rfl,rx⟩:=vals1 r
 cases rx
 have hh:=I.ok.hd hc
 have core:∀{its:List Value} {T:String} {itO:Obj} {St:Addr->Nat->Heap->Prop},Vals vs its->L2.ST.Src X.prog X.w s.heap a its T itO St->wpAny (model X.prog X.w) X.A (call (.type "set") [.ref a]) (EP X pins σ Q) X.xe s:=λ{its T itO St} rv src=>by
  refine L2.ST.mB src hh hu (pairs_at I rv hp hs) λh' tk F k=>?_
  obtain⟨qs,P1,P2,P3⟩:=F
  have hlen:its.length=vs.length:=rv.length.symm
  have back:∀qv:Addr×Pr,qv∈qs->∃b,b=qv.1/\fK X.K H b [.int qv.2.1,.int qv.2.2]:=λqv hqv=>by
   obtain⟨i,hi,e⟩:=Ir.mp (Je (P2 qv hqv).1)
   have hi':i < vs.length:=by rw[<-hlen];exact hi
   obtain⟨u',eu,ru⟩:=rv.get (Hu hi')
   rw[Hu hi,e] at eu
   cases eu
   obtain⟨p,ep,b,eb,qb⟩:=Paired.getP hp (Hu hi')
   rw[eb] at ru
   cases ru
   have pa:L2.ST.bo X.prog X.w h' p qv.1:=by
    obtain⟨o,it,n,ho,r⟩:=qg I qb
    exact⟨o,it,n,k _ _ ho,r⟩
   have:p=qv.2:=L2.ST.bo.inj pa (P1.at' qv hqv).1
   subst this
   exact⟨_,rfl,qb⟩
  have hpv:∀{l:List (Addr×Pr)},(∀x,x∈l->x∈qs)->aJ X.K H (vq l) (pq l):=λ{l}=>by
   induction l with
   |nil=>intro _;exact .nil
   |cons y l ih=>
    intro hl
    obtain⟨b,eb,qb⟩:=back y (hl y (Hz ..))
    subst eb
    exact .cons ⟨_,rfl,qb⟩ (ih λx hx=>hl x (HG _ hx))
  have hmem:∀p,p∈pq qs↔p∈ps:=λp=>by
   have hpl:ps.length=its.length:=by rw[hlen];exact (Paired.length hp).symm
   constructor
   ·intro hx
    obtain⟨qv,hqv,rfl⟩:=HH.mp hx
    exact Je (P2 qv hqv).2
   ·intro hx
    exact P3 p (by rw[<-hpl,Jl (Hy _)];exact hx)
  have hf:H s.heap.objs.size=none:=I.hok.fresh (Hy _)
  obtain⟨o,ep,t,ho,r1⟩:=P1.ex
  have new:bL X.prog X.w (upd H s.heap.objs.size (wu X.prog X.w s.heap.objs.size qs)) h' s.heap.objs.size (wu X.prog X.w s.heap.objs.size qs):=
   ⟨⟨o,ep,t,ho,r1⟩,⟨o,ho⟩,λh1 h2 ⟨o1,ep1,t1,g1,g2⟩ kk=>⟨o1,ep1,t1,kk _ g1,g2⟩⟩
  exact⟨.ref _,_,I.laid (t':=tk) k (Hy _) new,rfl,q _ qs hf (hpv λx hx=>hx) P1.nd hmem⟩
 rcases hq with hq |hq
 ·obtain⟨its,rv,pl,hz⟩:=I.list hq
  exact core rv (L2.ST.Src.list pl.isList)
 ·obtain⟨its,rv,pl,hz⟩:=I.tuple hq
  exact core rv (L2.ST.Src.tuple pl)
def sx (P:Program)(w:World)(K:Frag):List V->Hp->VK->Prop:=λxs H Q=>∃S qs,xs= [.ref S]/\H S=some (wu P w S qs)/\aJ K H (vq qs) (pq qs)/\(∀p,p∈pq qs->Sm p)/\(pq qs).Nodup/\qs.length < 64/\
 ∀l ws rs,H l=none->aJ K H ws rs->OM.rX rs->(∀p,p∈rs↔p∈pq qs)->Q (.ref l) (upd H l (.lst ws))
def pH (hc:X.calm=true):cf X (.builtin "sorted") (sx X.prog X.w X.K):=by
 intro pins s σ H xs us Q I r h
 obtain⟨S,qs,rfl,hS,hp,hs,nd,hl,q⟩:=h
 obtain⟨u,rfl,rx⟩:=vals1 r
 cases rx
 have hh:=I.ok.hd hc
 obtain⟨⟨o,ep,t,ho,hex,hd,T,hled⟩,_,_⟩:Cn X.prog X.w S qs s.heap/\_:=I.hok S _ hS
 have T':L2.ST.Tab t ((qs.map λq=>(L2.ST.xu X.prog X.w q.2,Value.ref q.1)).toArray.toList.map (·.1)):=by
  rw[Ji,Ja];exact T
 have htp:=L2.ST.oD X.w S ep (qs.map λq=>(L2.ST.xu X.prog X.w q.2,Value.ref q.1)).toArray
 have hmem:∀x,x∈(L2.ST.told X.w S ep (qs.map λq=>(L2.ST.xu X.prog X.w q.2,Value.ref q.1)).toArray).toList->∃q,q∈qs/\x=(L2.ST.xu X.prog X.w q.2,Value.ref q.1):=λx hx=>by
  have:=htp.mem_iff.mp hx
  simp only[Ji] at this
  obtain⟨q,hq,e⟩:=HH.mp this
  exact⟨q,hq,e.symm⟩
 obtain⟨q2,e2,p2⟩:∃q2:List (Addr×Pr),(L2.ST.told X.w S ep (qs.map λq=>(L2.ST.xu X.prog X.w q.2,Value.ref q.1)).toArray).toList=q2.map (λq=>(L2.ST.xu X.prog X.w q.2,Value.ref q.1))/\q2.Perm qs:=by
  have:=htp
  simp only[Ji] at this
  exact nq this
 have hp2:aJ X.K H (vq q2) (pq q2):=by
  have key:∀{l:List (Addr×Pr)},(∀x,x∈l->x∈qs)->aJ X.K H (vq l) (pq l):=λ{l}=>by
   induction l with
   |nil=>intro _;exact .nil
   |cons y l ih=>
    intro hl
    obtain⟨i,hi,e⟩:=Ir.mp (hl y (Hz ..))
    obtain⟨p,ep',a,ea,qa⟩:=Paired.getP (l:=vq qs) (m:=pq qs) (i:=i) (x:=.ref y.1) hp (by simp[hi,e])
    have:p=y.2:=by simp[hi,e] at ep';exact ep'.symm
    subst this
    exact .cons ⟨a,ea,qa⟩ (ih λx hx=>hl x (HG _ hx))
  exact key λx hx=>p2.mem_iff.mp hx
 have hv2:Vals (vq q2) (q2.map λq=>Value.ref q.1):=by
  induction q2 with
  |nil=>exact .nil
  |cons y l ih=>exact .cons rfl (by
    clear ih e2 p2 hp2
    induction l with
    |nil=>exact .nil
    |cons z l ih2=>exact .cons rfl ih2)
 have hm2:∀p,p∈pq q2↔p∈pq qs:=λp=>(p2.map (·.2)).mem_iff
 have hpa:=pairs_at I hv2 hp2 λp hpp=>hs p ((hm2 p).mp hpp)
 have hl2:q2.length < 64:=by rw[p2.length_eq];exact hl
 refine L2.ST.vV (v:=.ref S) hpa ((p2.map (·.2)).nodup_iff.mpr nd) (by simpa using hl2) (λQ' hQ'=>L2.ST.sk (by simpa using hh) ho hd hex.1 T' hled (by simp;omega) λh' tk vs ev k=>?_) λh1 h' tk D out qs' c k1 eD k2 ho' hpq hm hr hmem'=>?_
 ·rw[ev,e2]
  rw[Ja]
  exact hQ' h' tk k
 ·exact tY I hv2 hp2 (by simpa using hl2) (λl ws rs a1 a2 a3 a4=>q l ws rs a1 a2 a3 λp=>(a4 p).trans (hm2 p)) k1 eD k2 ho' hpq hm hr hmem'
end
def kJ (cells:List (Str×Addr)):List (Str×NameKind)->List (Str×Addr)->List (Str×Addr)
 | [],cs=>cs
 | (n,k) :: r,cs=>kJ cells r (if k == .free then (n,(cells.lookup n).getD 0) :: cs else cs)
def lM {scope:Scope}{env:Env}(h:∀y∈scope.names,y.2=.free->∃c,env.cells.lookup y.1=some c):closureFor scope env=pure (kJ env.cells scope.names []):=by
 unfold closureFor
 have key:∀(l:List (Str×NameKind)) (cs:List (Str×Addr)),(∀y∈l,y.2=.free->∃c,env.cells.lookup y.1=some c)->
   (forIn l cs (λ(x:Str×NameKind) (r:List (Str×Addr))=>if (x.2 == NameKind.free)=true then (do let a <-cellOf env x.1;pure (ForInStep.yield ((x.1,a) :: r)):Sem _) else pure (ForInStep.yield r)):Sem (List (Str×Addr)))=pure (kJ env.cells l cs):=by
  intro l
  induction l with
  |nil=>intro cs _;rfl
  |cons y l ih=>
   intro cs hy
   obtain⟨n,k⟩:=y
   rw[List.forIn_cons]
   unfold kJ
   by_cases hk:(k == NameKind.free)=true
   ·have hk':k=.free:=by simpa using hk
    obtain⟨c,hc⟩:=hy (n,k) (Hz ..) hk'
    have hce:cellOf env n=pure c:=by unfold cellOf;rw[hc]
    simp only[hk,IM]
    have hc':env.cells.lookup n=some c:=hc
    rw[hce,hc']
    simp only[pure_bind,Option.getD_some]
    exact ih _ λz hz=>hy z (HG _ hz)
   ·simp only[hk,Im,HQ]
    simp only[pure_bind]
    exact ih _ λz hz=>hy z (HG _ hz)
 have:=key scope.names [] h
 simp only[bind_pure_comp] at this ⊢
 first
  |exact this
  | (rw[this];rfl)
  | (simpa using this)
theorem kA {cells:List (Str×Addr)}{x:Str}:∀{l:List (Str×NameKind)} {cs:List (Str×Addr)},((x,NameKind.free)∈l\/cs.lookup x=some ((cells.lookup x).getD 0))->(kJ cells l cs).lookup x=some ((cells.lookup x).getD 0)
 | [],cs,h=>by
  rcases h with h |h
  ·cases h
  ·exact h
 | (n,k) :: r,cs,h=>by
  unfold kJ
  refine kA ?_
  by_cases hk:(k == NameKind.free)=true
  ·rw[HA hk]
   by_cases hx:x=n
   ·subst hx;right;simp
   ·rcases h with h |h
    ·rcases Hx.mp h with e |e
     ·injection e with e1 _;exact absurd e1 hx
     ·exact .inl e
    ·right
     rw[lookup_cons,show (x == n)=false by simpa using hx]
     exact h
  ·rw[HI hk]
   rcases h with h |h
   ·rcases Hx.mp h with e |e
    ·injection e with _ e2;exact absurd (by rw[<-e2];rfl) hk
    ·exact .inl e
   ·exact .inr h
theorem kN {cells:List (Str×Addr)}{x:Str}{c:Addr}:∀{l:List (Str×NameKind)} {cs:List (Str×Addr)},(kJ cells l cs).lookup x=some c->((x,NameKind.free)∈l/\c=(cells.lookup x).getD 0)\/cs.lookup x=some c
 | [],cs,h=>.inr h
 | (n,k) :: r,cs,h=>by
  unfold kJ at h
  rcases kN h with⟨a,b⟩ |a
  ·exact .inl ⟨HG _ a,b⟩
  ·by_cases hk:(k == NameKind.free)=true
   ·rw[HA hk,lookup_cons] at a
    by_cases hx:x=n
    ·subst hx
     simp at a
     have:k=.free:=by simpa using hk
     subst this
     exact .inl ⟨Hz ..,a.symm⟩
    ·rw[show (x == n)=false by simpa using hx] at a
     exact .inr a
   ·rw[HI hk] at a
    exact .inr a
theorem kY {f:Str->NameKind->NameKind}{x:Str}:∀(l:List (Str×NameKind)),(l.map λy=>(y.1,f y.1 y.2)).lookup x=(l.lookup x).map (f x)
 | []=>rfl
 | (n,k) :: l=>by
  rw[ID,lookup_cons,lookup_cons]
  by_cases hx:x=n
  ·subst hx;simp
  ·have hb:(x == n)=false:=by simpa using hx
   simp only[hb]
   exact kY l
def mf (scope:Scope)(env:Env)(x:Str):(relabel scope env).names.lookup x=(scope.names.lookup x).map λk=>if (k == .free && env.scope.kind == .function && env.kindOf x == some .cell) then .cell else k:=by
 have e:(relabel scope env).names=scope.names.map λy=>(y.1,if (y.2 == .free && env.scope.kind == .function && env.kindOf y.1 == some .cell) then .cell else y.2):=by
  unfold relabel
  dsimp only
  refine Jj λy _=>?_
  obtain⟨n,k⟩:=y
  dsimp only
  split <;> rfl
 rw[e]
 exact kY (f:=λn k=>if (k == .free && env.scope.kind == .function && env.kindOf n == some .cell) then .cell else k) scope.names
def gu (X:Cx)(NB:List Str)(scope:Scope)(C:Addr)(ex:List Addr)(s3:Shared)(H3:Hp)(pn:List (Addr×Obj)):Cx:=
 {X with N:=NB,s₀:=s3,H₀:=H3,env:=compEnvC scope (kJ X.env.cells scope.names []) C X.env,outer:=X.stack,ex:=ex,fn:=λ_=>false,pn:=pn,xe:=λ_ _=>False}
def nS (own:Nat)(ixs:List Nat)(σ:St):St:=List.replicate own none ++ ixs.map λi=>(σ[i]?).join
structure cj (X:Cx)(NB:List Str)(own:Nat)(ixs:List Nat)(scope:Scope):Prop where
 kind:scope.kind=.function
 nocell:∀y∈scope.names,y.2≠.cell
 names:∀y∈scope.names,scope.names.lookup y.1=some y.2
 frees:∀y∈scope.names,y.2=.free->X.env.kindOf y.1=some .cell\/X.env.kindOf y.1=some .free
 nd:NB.Nodup
 len:NB.length=own + ixs.length
 at':∀k,k < ixs.length->NB[own + k]? =X.N[ixs.getD k 0]?/\∀x,NB[own + k]? =some x->(x,NameKind.free)∈scope.names
section
variable {X:Cx}{NB:List Str}{own:Nat}{ixs:List Nat}{scope:Scope}{pins:List (Addr×Obj)}{σ:St}{H:Hp}{s:Shared}
def xk (S:cj X NB own ixs scope)(I:Inv X pins σ H s){fp:List Addr}(hfp:∀b∈fp,lC X pins H b)(hob:∀b∈fp,∃o,s.heap.get? b=some o){h1:Heap}{tk:Nat}
  (hn:h1.Ns s.heap.objs.size (λ_=>none)) (hk:∀b o,s.heap.get? b=some o->h1.get? b=some o) :
  Inv (gu X NB scope s.heap.objs.size fp s H (X.pn ++ pins)) [] (nS own ixs σ) H {s with heap:=h1,toks:=tk}:=by
 have stk:=I.stack
 have frees:∀{x:Str},(x,NameKind.free)∈scope.names->∃c,X.env.cells.lookup x=some c:=λ{x} hx=>I.ok.has x (S.frees _ hx rfl)
 have clE:∀{x:Str} {c:Addr},(kJ X.env.cells scope.names []).lookup x=some c->(x,NameKind.free)∈scope.names/\X.env.cells.lookup x=some c:=λ{x c} h=>by
  rcases kN h with⟨a,b⟩ |a
  ·obtain⟨c',e⟩:=frees a
   rw[e] at b
   exact⟨a,by rw[e,b];rfl⟩
  ·simp at a
 have kindB:∀x,(gu X NB scope s.heap.objs.size fp s H (X.pn ++ pins)).env.kindOf x=(scope.names.lookup x).map λk=>if (k == .free && X.env.scope.kind == .function && X.env.kindOf x == some .cell) then .cell else k:=λx=>mf scope X.env x
 have isFree:∀{x:Str},((gu X NB scope s.heap.objs.size fp s H (X.pn ++ pins)).env.kindOf x=some .cell\/(gu X NB scope s.heap.objs.size fp s H (X.pn ++ pins)).env.kindOf x=some .free)->(x,NameKind.free)∈scope.names:=λ{x} h=>by
  rw[kindB] at h
  cases e:scope.names.lookup x with
  |none=>rw[e] at h;simp at h
  |some k=>
   have hm:=JE e
   cases k with
   |free=>exact hm
   |cell=>exact absurd rfl (S.nocell _ hm)
   |_=>rw[e] at h;simp at h
 have neN:∀b o,s.heap.get? b=some o->b≠s.heap.objs.size:=λb o e=>Ih (HJ e)
 have cellN:∀{x:Str} {c:Addr},X.env.cells.lookup x=some c->c < s.heap.objs.size:=λ{x c} e=>by
  obtain⟨v,o,ho,_⟩:=I.cell x c e
  exact HJ ho
 have ok:(gu X NB scope s.heap.objs.size fp s H (X.pn ++ pins)).Ok:=by
  refine⟨I.ok.mod,S.kind,I.ok.glob,I.ok.blt,Hy _,λx y c h1 h2=>I.ok.inj x y c (clE h1).2 (clE h2).2,λx hx=>?_,λx c h=>(by cases h),I.ok.hd,I.ok.frames,.inl rfl,λb hb=>?_,I.bs,IW I.ok.bsz I.sz,λb o e hb=>?_,λb hb hs=>?_,stk,I.stkFree⟩
  ·have hm:=isFree hx
   exact⟨_,kA (.inl hm)⟩
  ·obtain⟨_,f1,f2,f3,f4,f5⟩:=hfp b hb
   refine⟨?_,λx c h z=>f4 x c (clE h).2 z⟩
   obtain⟨o,ho⟩:=hob b hb
   exact neN b o ho
  ·obtain⟨_,f1,f2,f3,f4,f5⟩:=hfp b hb
   rcases f3 with f3 |f3
   ·exact I.ok.noex b o e f3
   ·exact absurd (Ij (HJ e) (IW I.ok.bsz f3)) (Iv _)
  ·obtain⟨_,f1,f2,f3,f4,f5⟩:=hfp b hb
   rcases Hx.mp (I.stkSub b hs) with z |z
   ·exact f1 z
   ·exact f2 z
 refine⟨ok,rfl,I.bare,Un.kept hk,⟨_,hn,λi x v h1' h2' h3'=>?_⟩,λx c h=>?_,I.hok.fresh (Hy _),λx c h=>I.freeC x c (clE h).2,λp hp=>?_,I.hok.kept hk,?_⟩
 ·
  have h1':NB[i]? =some x:=h1'
  have hown:own<=i:=by
   refine Classical.byContradiction λhc=>?_
   have hlt:i < own:=Nat.lt_of_not_le hc
   unfold nS at h2'
   rw[IB (by simpa using hlt),Jf,HA hlt] at h2'
   cases h2'
  obtain⟨k,rfl⟩:∃k,i=own + k:=⟨i - own,by omega⟩
  have hk':k < ixs.length:=by
   have:=(HB.mp h1').1
   rw[S.len] at this;omega
  obtain⟨e1,e2⟩:=S.at' k hk'
  have hm:=e2 x h1'
  unfold nS at h2'
  rw[Iz (by simp),JJ,Nat.add_sub_cancel_left,HL,Hu hk'] at h2'
  simp only[Option.map_some,Option.some.injEq] at h2'
  have hix:ixs.getD k 0=ixs[k]:=by simp[hk']
  have hσ:σ[ixs[k]]? =some (some v):=by
   cases e:σ[ixs[k]]? with
   |none=>rw[e] at h2';cases h2'
   |some o=>rw[e] at h2';simp at h2';rw[h2']
  rw[e1,hix] at h1'
  have hkind:=S.frees _ hm rfl
  have hvis:wW X.env.scope x:=hkind.elim (λz=>.inr (.inl z)) (λz=>.inr (.inr z))
  obtain⟨m,hm',hl⟩:=I.loc
  obtain⟨u,r,look⟩:=hl _ x v h1' hσ hvis
  refine⟨u,r,.inr ⟨?_,?_⟩⟩
  ·rw[kindB]
   have hfr:scope.names.lookup x=some .free:=S.names _ hm
   rw[hfr]
   simp only[Option.map_some]
   split
   ·exact .inl rfl
   ·exact .inr rfl
  ·rcases look with⟨z,_⟩ | ⟨_,c,hc,hcell⟩
   ·rcases hkind with q |q
    ·rw[q] at z;cases z
    ·rw[q] at z;cases z
   ·refine⟨c,?_,?_⟩
    ·have:=kA (cells:=X.env.cells) (cs:=[]) (.inl hm)
     rw[hc] at this
     exact this
    ·obtain⟨o,ho,hd⟩:=hcell
     exact⟨o,hk _ _ ho,hd⟩
 ·obtain⟨v,o,ho,hd⟩:=I.cell x c (clE h).2
  exact⟨v,o,hk _ _ ho,hd⟩
 ·have hp':p∈X.pn ++ pins:=by
   rcases HP.mp hp with z |z
   ·exact z
   ·cases z
  obtain⟨e,n,ne,nf,d⟩:=I.pin p hp'
  refine⟨hk _ _ e,n,neN _ _ e,λz=>?_,d⟩
  rcases Hx.mp (I.stkSub _ z) with q |q
  ·exact ne q
  ·exact nf q
 ·show (nS own ixs σ).length=NB.length
  unfold nS
  rw[S.len];simp
end
abbrev uS (ifs:List Expr)(env:Env):Sem Bool:=forIn ifs true λc r=>if r=true then do let ok <-isTrue c env (eval c env);pure (ForInStep.yield ok) else pure (ForInStep.yield r)
theorem wN {prog:Program}{w:World}{A:Around}{R:Result->Shared->Prop}{s:Shared}{elt target iter:Expr}{ifs:List Expr}{scope:Scope}{pos:Pos}{it acc:Value}{env:Env}(I:Nat->Shared->Prop)
  (turn:∀n s,I n s->wpAny (model prog w) A (pyNext it) (λr s1=>match r with
   |none=>R (.ok .next) s1
   |some v=>wpAny (model prog w) A (letOwnedTupleGo target it v) (λ_ s1'=>wpAny (model prog w) A (assign target env v) (λ_ s2=>
     wpAny (model prog w) A (uS ifs env) (λok s3=>
      if ok=true then wpAny (model prog w) A (eval elt env) (λx s4=>wpAny (model prog w) A (call (.builtin "list.append") [acc,x]) (λ_ s5=>∃m,m < n/\I m s5) (λ_ _=>False) s4) (λ_ _=>False) s3
      else ∃m,m < n/\I m s3) (λ_ _=>False) s2) (λ_ _=>False) s1') (λ_ _=>False) s1) (λ_ _=>False) s)
  (n:Nat) (h:I n s):codeAny (model prog w) A (.compLoop (.ListComp elt [⟨target,iter,ifs,0⟩] scope pos) 0 it acc env) R s:=by
 refine codeAny_loop rfl I (λn s hI=>?_) n h
 (show wpAny _ A ((compTurn (.ListComp elt [⟨target,iter,ifs,0⟩] scope pos) 0 it acc env).onRaise (λx=>do (noteFrame x env);theTreesLotGoes x)) _ _ s)
 refine wpAny_noted ?_
 rw[compTurn_list]
 refine Hv (wpAny_standAt (Hv (Jc (turn n s hI) (λr s1 h1=>?_) λ_ _ z=>z.elim)))
 cases r with
 |none=>exact HE h1
 |some v=>
  refine Hv (Jc h1 (λ_ s1' h1'=>?_) λ_ _ z=>z.elim)
  refine Hv (Jc h1' (λ_ s2 h2=>Hv (Jc h2 (λok s3 h3=>?_) λ_ _ z=>z.elim)) λ_ _ z=>z.elim)
  cases ok with
  |false=>exact HE ⟨rfl,h3⟩
  |true=>exact Hv (Hv (Jc h3 (λx s4 h4=>Hv (Jc h4 (λ_ s5 h5=>HE (HE ⟨rfl,h5⟩)) λ_ _ z=>z.elim)) λ_ _ z=>z.elim))
def zS (X:Cx)(ifs:List Expr)(t:TT):Prop:=
 ∀(pins:List (Addr×Obj)) (s:Shared) (σ:St) (H:Hp) (Q:Bool->Hp->Prop),Inv X pins σ H s->t σ H Q->wpAny (model X.prog X.w) X.A (uS ifs X.env) (TP X pins σ Q) X.xe s
def Cr:TT:=λ_ H Q=>Q true H
def pK {X:Cx}:zS X [] Cr:=λpins s σ H Q I h=>HE ⟨H,I,h⟩
def vv {X:Cx}{c:Expr}{t:TT}(h:PT X c t):zS X [c] t:=λpins s σ H Q I q=>wpAny_tests_one (h pins s σ H Q I q)
def tH (own:Nat)(ixs:List Nat)(wi:TI)(g:TG)(tt:TT)(te:TE)(σ:St)(H:Hp)(Q:VK):Prop:=wi σ H λJ H1=>∀D,H1 D=none->∃W:Nat->Nat->St->Hp->Prop,(∃m,W 0 m (nS own ixs σ) (upd H1 D (.lst [])))/\∀i m σ' H',W i m σ' H'->
 (J.stop i H'/\(∃acc,H' D=some (.lst acc))/\Q (.ref D) H')\/
 (J.go i H'/\∃N:St->Hp->Prop,(∀σ2 H2,N σ2 H2->∃m',m' < m/\W (i + 1) m' σ2 H2)/\∀x H2,J.yld i H' x H2->g x σ' H2 λσ3 H3=>tt σ3 H3 λb H4=>
  if b=true then te σ3 H4 λv H5=>∃acc,H5 D=some (.lst acc)/\acc.length < sizeLine/\N σ3 (upd H5 D (.lst (acc ++ [v]))) else N σ3 H4)
section
variable {X:Cx}{NB:List Str}{own:Nat}{ixs:List Nat}{scope:Scope}{elt tg iter:Expr}{ifs:List Expr}{pos:Pos}{wi:TI}{g:TG}{tt:TT}{te:TE}
def nX (hc:X.calm=true)(S:cj X NB own ixs scope)
  (hg:∀C ex s3 H3 pn,PG (gu X NB scope C ex s3 H3 pn) tg g) (ht:∀C ex s3 H3 pn,zS (gu X NB scope C ex s3 H3 pn) ifs tt) (he:∀C ex s3 H3 pn,PE (gu X NB scope C ex s3 H3 pn) elt te)
  {pins:List (Addr×Obj)} {σ:St} {H1:Hp} {s2:Shared} {it:Addr} {fp:List Addr} {tn:Nat->Heap->Prop} {J:It} {Q:VK} (I2:Inv X pins σ H1 s2) (T:Turn X.prog X.w X.K tg J fp it tn) (st2:tn 0 s2.heap) (f2:∀b∈fp,lC X pins H1 b)
  (hQ:∀D,H1 D=none->∃W:Nat->Nat->St->Hp->Prop,(∃m,W 0 m (nS own ixs σ) (upd H1 D (.lst [])))/\∀i m σ' H',W i m σ' H'->
   (J.stop i H'/\(∃acc,H' D=some (.lst acc))/\Q (.ref D) H')\/
   (J.go i H'/\∃N:St->Hp->Prop,(∀σ2 H2,N σ2 H2->∃m',m' < m/\W (i + 1) m' σ2 H2)/\∀x H2,J.yld i H' x H2->g x σ' H2 λσ3 H3=>tt σ3 H3 λb H4=>
    if b=true then te σ3 H4 λv H5=>∃acc,H5 D=some (.lst acc)/\acc.length < sizeLine/\N σ3 (upd H5 D (.lst (acc ++ [v]))) else N σ3 H4))
  {E:Value->Shared->Prop} {RR:Value->Addr->Result->Shared->Prop}
  (fin:∀D C H' s' m,Inv X pins σ H' s'->Q (.ref D) H'->s'.heap.Ns C m->H' C=none->C≠X.env.locals->(∀x c,X.env.cells.lookup x=some c->c≠C)->X.s₀.heap.objs.size<=C->(∀p∈X.pn ++ pins,p.1≠C)->RR (.ref D) C (.ok .next) s') :
  wpAny (model X.prog X.w) X.A (newList []) (λacc s3=>wpAny (model X.prog X.w) X.A (newFunctionEnv scope X.env.globals (kJ X.env.cells scope.names []) [] X.env.qual none .none (some X.env)) (λcenv s4=>
   codeAny (model X.prog X.w) X.A (.compStart (.ListComp elt [⟨tg,iter,ifs,0⟩] scope pos) 0 (.ref it) acc {cenv with scope:=relabel scope X.env}) (RR acc cenv.locals) s4) E s3) E s2:=by
 refine wpAny_newList ?_ (Ia _)
 have hD:H1 s2.heap.objs.size=none:=I2.hok.fresh (Hy _)
 obtain⟨W,⟨m0,w0⟩,turn⟩:=hQ s2.heap.objs.size hD
 generalize hs3:({s2 with heap:=s2.heap.push (seqObj "list" ([]:List Value).toArray 0)}:Shared)=s3
 have I3:Inv X pins σ (upd H1 s2.heap.objs.size (.lst [])) s3:=by
  rw[<-hs3]
  exact I2.lnew (ys:=[]) (its:=[]) (t':=s2.toks) .nil (Ia _)
 have k3:∀b o,s2.heap.get? b=some o->s3.heap.get? b=some o:=λb o e=>by rw[<-hs3];exact Hw _ e
 have sz3:s3.heap.objs.size=s2.heap.objs.size + 1:=by rw[<-hs3];exact Jo ..
 have ob2:∀b∈fp,∃o,s2.heap.get? b=some o:=λb hb=>let ⟨o,e,_⟩:=T.obj 0 _ st2 b hb;⟨o,e⟩
 have neD:∀b∈fp,b≠s2.heap.objs.size:=λb hb=>let ⟨o,e⟩:=ob2 b hb;Ih (HJ e)
 have f3:∀b∈fp,lC X pins (upd H1 s2.heap.objs.size (.lst [])) b:=λb hb=>by
  obtain⟨a1,a2⟩:=f2 b hb
  exact⟨by rw[ak (neD b hb)];exact a1,a2⟩
 have st3:tn 0 s3.heap:=T.keep _ _ _ st2 λb _ o e=>k3 b o e
 refine wpAny_newFunctionEnv S.nocell (λy hy=>by simp at hy) (λh4 hn4 sb4=>?_) S.kind
 have k4:∀b o,s3.heap.get? b=some o->h4.get? b=some o:=λb o e=>sb4.extBut b o (Ih (HJ e)) (Hw _ e)
 have I4:Inv (gu X NB scope s3.heap.objs.size fp s3 (upd H1 s2.heap.objs.size (.lst [])) (X.pn ++ pins)) [] (nS own ixs σ) (upd H1 s2.heap.objs.size (.lst [])) {s3 with heap:=h4,toks:=s3.toks + ([]:List (Str×Value)).length}:=
  xk S I3 f3 (λb hb=>let ⟨o,e⟩:=ob2 b hb;⟨o,k3 _ _ e⟩) (by simpa using hn4) k4
 have st4:tn 0 h4:=T.keep _ _ _ st3 λb _ o e=>k4 b o e
 generalize hB:gu X NB scope s3.heap.objs.size fp s3 (upd H1 s2.heap.objs.size (.lst [])) (X.pn ++ pins)=B at I4
 have hgB:PG B tg g:=by rw[<-hB];exact hg _ _ _ _ _
 have htB:zS B ifs tt:=by rw[<-hB];exact ht _ _ _ _ _
 have heB:PE B elt te:=by rw[<-hB];exact he _ _ _ _ _
 have eP:B.prog=X.prog:=by rw[<-hB];rfl
 have eW:B.w=X.w:=by rw[<-hB];rfl
 have eK:B.K=X.K:=by rw[<-hB];rfl
 have eA:B.A=X.A:=by rw[<-hB];rfl
 have eC:B.calm=true:=by rw[<-hB];exact hc
 have eX:B.xe=λ_ _=>False:=by rw[<-hB];rfl
 have eE:B.env=compEnvC scope (kJ X.env.cells scope.names []) s3.heap.objs.size X.env:=by rw[<-hB];rfl
 have ex:B.ex=fp:=by rw[<-hB];rfl
 have eL:B.env.locals=s3.heap.objs.size:=by rw[eE];rfl
 have stat:∀{H':Hp},(∀b∈fp,H' b=none)->∀b∈fp,lC B [] H' b:=λ{H'} hn b hb=>by
  obtain⟨a1,a2,a3,a4,a5,a6⟩:=f3 b hb
  obtain⟨o,eo⟩:=ob2 b hb
  refine⟨hn b hb,?_,λz=>?_,.inl (by rw[ex];exact hb),λx c e z=>?_,λp hp z=>?_⟩
  ·rw[eL];exact Ih (HJ (k3 _ _ eo))
  ·have hz:b∈jC X.stack:=by rw[<-hB] at z;exact z
   rcases Hx.mp (I3.stkSub b hz) with q |q
   ·exact a2 q
   ·exact a3 q
  ·rw[eE] at e
   rcases kN e with⟨m1,m2⟩ |m1
   ·obtain⟨c',e'⟩:=I3.ok.has x (S.frees _ m1 rfl)
    rw[e'] at m2
    exact a5 x c' e' (by rw[<-z,m2];rfl)
   ·simp at m1
  ·have hp':p∈X.pn ++ pins:=by
    rw[<-hB] at hp
    rcases HP.mp hp with q |q
    ·exact q
    ·cases q
   exact a6 p hp' z
 have back:∀{σ':St} {H':Hp} {s':Shared},Inv B [] σ' H' s'->Inv X pins σ H' s':=λ{σ' H' s'} J'=>by
  have u:=J'.base
  have os:=J'.os
  have bare:=J'.bare
  have hok:=J'.hok
  subst hB
  exact I3.call' (ch:=fp) os u hok bare λb hb=>by
   obtain⟨a1,a2,a3,a4,a5,a6⟩:=f3 b hb
   exact⟨a4,a2,a5,a6⟩
 have loop:∀s5:Shared,s5={s3 with heap:=h4,toks:=s3.toks + ([]:List (Str×Value)).length}->
   codeAny (model X.prog X.w) X.A (.compLoop (.ListComp elt [⟨tg,iter,ifs,0⟩] scope pos) 0 (.ref it) (.ref s2.heap.objs.size) (compEnvC scope (kJ X.env.cells scope.names []) s3.heap.objs.size X.env)) (RR (.ref s2.heap.objs.size) s3.heap.objs.size) s5:=by
  rintro s5 rfl
  refine wN (λn s'=>∃i σ' H',Inv B [] σ' H' s'/\tn i s'.heap/\(∀b∈fp,H' b=none)/\W i n σ' H') ?_ m0 ⟨0,_,_,I4,st4,λb hb=>(f3 b hb).1,w0⟩
  rintro n s6 ⟨i,σ6,H6,I6,st6,fr6,w6⟩
  rcases turn i n σ6 H6 w6 with⟨stop,⟨acc,hacc⟩,qn⟩ | ⟨go,N,hN,step⟩
  ·have:=T.done B eP eW eK eC i [] s6 σ6 H6 (λ_ _=>False) I6 (stat fr6) st6 stop
   rw[eA] at this
   refine b4 this λr s7 ⟨hr,I7⟩=>?_
   subst hr
   obtain⟨m7,hn7,_⟩:=I7.loc
   rw[eL] at hn7
   have J7:=back I7
   refine fin _ _ H6 s7 m7 J7 qn hn7 (by rw[<-eL];exact I7.free) (λz=>?_) (λx c e z=>?_) ?_ λp hp z=>?_
   ·have:=I3.lt
    rw[<-z] at this
    exact Iv _ this
   ·obtain⟨v,o,ho,_⟩:=I3.cell x c e
    exact absurd (HJ ho) (by rw[z];exact Iv _)
   ·exact I3.sz
   ·have:=HJ (I3.pin p hp).1
    rw[z] at this
    exact Iv _ this
  ·have hitem:=T.item B eP eW eK eC i [] s6 σ6 H6 (λ_ _=>False) I6 (stat fr6) st6 go
   rw[eA] at hitem
   refine b4 hitem λr s7 ⟨u,hr,h7⟩=>?_
   subst hr
   refine b4 h7 λ_ s8 ⟨x,H8,I8,r8,y8,st8,fr8⟩=>?_
   have I8':=I8.pinned (stat fr8) (T.obj _ _ st8)
   have ha:=hgB _ s8 σ6 H8 x u _ I8' r8 (step x H8 y8)
   rw[eP,eW,eA,eE,eX] at ha
   refine b4 ha λ_ s9 ⟨σ9,H9,I9,q9⟩=>?_
   have hb:=htB _ s9 σ9 H9 _ I9 q9
   rw[eP,eW,eA,eE,eX] at hb
   refine b4 hb λok s10 ⟨H10,I10,q10⟩=>?_
   have again:∀{σ7:St} {H7:Hp} {s7:Shared},Inv B ([] ++ mU fp s8.heap) σ7 H7 s7->N σ7 H7->∃m,m < n/\∃i σ' H',Inv B [] σ' H' s7/\tn i s7.heap/\(∀b∈fp,H' b=none)/\W i m σ' H':=λ{σ7 H7 s7} I7 n7=>by
    obtain⟨m',hm,w7⟩:=hN σ7 H7 n7
    refine⟨m',hm,i + 1,σ7,H7,I7.unpinned,T.keep _ _ _ st8 λb hb o e=>(I7.pin (b,o) (HZ _ (HZ _ (hX hb e)))).1,λb hb=>?_,w7⟩
    obtain⟨o,e,d⟩:=T.obj _ _ st8 b hb
    exact (I7.pin (b,o) (HZ _ (HZ _ (hX hb e)))).2.1
   cases ok with
   |false=>
    simp only[HQ,Im] at q10 ⊢
    exact again I10 q10
   |true=>
    simp only[IM] at q10 ⊢
    have hv:=heB _ s10 σ9 H10 _ I10 q10
    rw[eP,eW,eA,eE,eX] at hv
    refine b4 hv λy s11 ⟨v,H11,I11,r11,acc,hacc,hz,q11⟩=>?_
    have hap:=gL (X:=B) _ s11 σ9 H11 (.ref s2.heap.objs.size) [v] (.ref s2.heap.objs.size) [y] (λz H'=>z=.non/\N σ9 H') I11 rfl (.cons r11 .nil) ⟨_,acc,v,rfl,rfl,hacc,hz,rfl,q11⟩
    rw[eP,eW,eA,eX] at hap
    exact b4 hap λ_ s12 ⟨_,H12,I12,_,_,q12⟩=>again I12 q12
 exact codeAny_compStart_list (loop _ rfl) (T.self X.A 0 _ _ _ st4 (loop _ rfl))
def rm (hc:X.calm=true)(S:cj X NB own ixs scope)(hi:PI X tg iter wi)
  (hg:∀C ex s3 H3 pn,PG (gu X NB scope C ex s3 H3 pn) tg g) (ht:∀C ex s3 H3 pn,zS (gu X NB scope C ex s3 H3 pn) ifs tt) (he:∀C ex s3 H3 pn,PE (gu X NB scope C ex s3 H3 pn) elt te)
  (hs:∀x,foldedSetIterable iter X.env x=pure x:=by intro _;rfl) :
  PE X (.ListComp elt [⟨tg,iter,ifs,0⟩] scope pos) (tH own ixs wi g tt te):=by
 intro pins s σ H Q I h
 rw[eval_ListComp]
 refine wpAny_comprehension_free (use:=none) rfl hs (lM λy hy e=>I.ok.has _ (S.frees y hy e)) S.kind (λy hy e=>by rw[S.names y hy,e]) ?_
 refine b4 (hi pins s σ H _ I h) λv s1 h1=>b4 h1 λitv s2 h2=>?_
 obtain⟨it,fp,tn,J,H2,e,I2,T,st2,f2,q2⟩:=h2
 subst e
 refine nX hc S hg ht he I2 T st2 f2 q2 (RR:=λacc C=>compPost (model X.prog X.w) X.A X.xe none (EP X pins σ Q) acc C) λD C H' s' m J' q hn hC n1 n2 n3 n4=>?_
 refine⟨m,hn,λh'' sb=>⟨.ref D,H',?_,rfl,q⟩⟩
 exact J'.turned (t':=s'.toks) (it:=C) (λb o hb e=>sb.extBut b o hb e) hC n1 (.inr n3) n2 n4
def y1 {i:Nat}{y:Str}{py spos:Pos}(hc:X.calm=true)(S:cj X NB own ixs scope)(hi:PI X tg iter wi)
  (hg:∀C ex s3 H3 pn,PG (gu X NB scope C ex s3 H3 pn) tg g) (ht:∀C ex s3 H3 pn,zS (gu X NB scope C ex s3 H3 pn) ifs tt) (he:∀C ex s3 H3 pn,PE (gu X NB scope C ex s3 H3 pn) elt te)
  (hN:X.N.Nodup) (hy:X.N[i]? =some y) (hl:X.env.scope.names.lookup y=some .local)
  (hsw:swapsWith (.ListComp elt [⟨tg,iter,ifs,0⟩] scope pos) (some (.Name y py)) spos.line X.env=pure true)
  (hs:∀x,foldedSetIterable iter X.env x=pure x:=by intro _;rfl) :
  PS X (.Assign [.Name y py] (.ListComp elt [⟨tg,iter,ifs,0⟩] scope pos) spos) (λD σ H=>tH own ixs wi g tt te σ H λv H'=>D.nx (σ.set i (some v)) H'):=by
 intro pins s σ H D I h
 rw[exec_Assign_Name_used _ _ _ _ hsw]
 refine Hv (wpAny_standAt (Hv ?_))
 show wpAny _ X.A (comprehension (.ListComp elt [⟨tg,iter,ifs,0⟩] scope pos) scope X.env _ (newList []) false (eval iter X.env) (some (assign (.Name y py) X.env)) >>= λ_=>pure ()) _ _ s
 refine Hv (Jc (wpAny_comprehension_free (use:=some (assign (.Name y py) X.env)) (Q:=λ_ s'=>SP X pins D .next s') rfl hs (lM λy hy e=>I.ok.has _ (S.frees y hy e)) S.kind (λy hy e=>by rw[S.names y hy,e]) ?_)
  (λ_ s' hq=>HE (HE hq)) λ_ _ e=>e)
 refine b4 (hi pins s σ H _ I h) λv s1 h1=>b4 h1 λitv s2 h2=>?_
 obtain⟨it,fp,tn,J,H2,e,I2,T,st2,f2,q2⟩:=h2
 subst e
 refine nX hc S hg ht he I2 T st2 f2 q2 (Q:=λv H'=>D.nx (σ.set i (some v)) H') (RR:=λacc C=>compPost (model X.prog X.w) X.A X.xe (some (assign (.Name y py) X.env)) (λ_ s'=>SP X pins D .next s') acc C) λD' C H' s' m J' q hn hC n1 n2 n3 n4=>?_
 show wpAny _ X.A (assign (.Name y py) X.env (.ref D')) _ _ s'
 refine wpAny_assign_Name (oC J' hN hy (.inl hl) (v:=.ref D') rfl (λs'' I'' ⟨a,sb,ha⟩=>?_) (.inr hl))
 have hCa:C≠a:=by
  rcases ha with z |z
  ·rw[z];exact n1
  ·exact (n2 _ _ z).symm
 refine⟨m,hn.sameBut sb hCa,λh3 sb3=>⟨_,H',?_,q⟩⟩
 exact I''.turned (t':=s''.toks) (it:=C) (λb o hb e=>sb3.extBut b o hb e) hC n1 (.inr n3) n2 n4
end
section
variable {own:Nat}{ixs:List Nat}{g:TG}{tt:TT}{te:TE}{σ:St}{H:Hp}{Q:VK}{K:Frag}{D a:Addr}{xs:List V}
abbrev c6 (g:TG)(tt:TT)(te:TE)(D:Addr)(x:V)(σ:St)(H:Hp)(N:St->Hp->Prop):Prop:=g x σ H λσ3 H3=>tt σ3 H3 λb H4=>
  if b=true then te σ3 H4 λv H5=>∃acc,H5 D=some (.lst acc)/\acc.length < sizeLine/\N σ3 (upd H5 D (.lst (acc ++ [v]))) else N σ3 H4
def vO (Pv:Nat->St->Hp->Prop)(h0:Pv 0 (nS own ixs σ) (upd H D (.lst [])))(hl:∀i σ H,i<=xs.length->Pv i σ H->dJ K H a xs)
  (hs:∀i x σ H,xs[i]? =some x->Pv i σ H->c6 g tt te D x σ H (Pv (i + 1))) (hd:∀σ H,Pv xs.length σ H->(∃acc,H D=some (.lst acc))/\Q (.ref D) H) :
  ∃W:Nat->Nat->St->Hp->Prop,(∃m,W 0 m (nS own ixs σ) (upd H D (.lst [])))/\∀i m σ' H',W i m σ' H'->
   ((xb K a).stop i H'/\(∃acc,H' D=some (.lst acc))/\Q (.ref D) H')\/
   ((xb K a).go i H'/\∃N:St->Hp->Prop,(∀σ2 H2,N σ2 H2->∃m',m' < m/\W (i + 1) m' σ2 H2)/\∀x H2,(xb K a).yld i H' x H2->c6 g tt te D x σ' H2 N):=by
 refine⟨λi m σ H=>m=xs.length - i/\i<=xs.length/\Pv i σ H,⟨xs.length,by simp,Ia _,h0⟩,?_⟩
 rintro i m σ H ⟨rfl,hi,p⟩
 have q:=hl i σ H hi p
 by_cases hlt:i < xs.length
 ·refine .inr ⟨⟨xs,xs[i],q,by simp[hlt]⟩,Pv (i + 1),λσ' H' p'=>⟨xs.length - (i + 1),by omega,rfl,hlt,p'⟩,λx H' y=>?_⟩
  obtain⟨e,y⟩:=y
  subst e
  exact hs i x σ _ (y xs q) p
 ·have e:i=xs.length:=by omega
  subst e
  exact .inl ⟨⟨xs,q,Hy _⟩,hd σ H p⟩
def tx {lo:Int}{n:Nat}(Pv:Nat->St->Hp->Prop)(h0:Pv 0 (nS own ixs σ) (upd H D (.lst [])))
  (hs:∀i σ H,i < n->Pv i σ H->c6 g tt te D (.int (lo + i)) σ H (Pv (i + 1))) (hd:∀σ H,Pv n σ H->(∃acc,H D=some (.lst acc))/\Q (.ref D) H) :
  ∃W:Nat->Nat->St->Hp->Prop,(∃m,W 0 m (nS own ixs σ) (upd H D (.lst [])))/\∀i m σ' H',W i m σ' H'->
   ((wL lo n).stop i H'/\(∃acc,H' D=some (.lst acc))/\Q (.ref D) H')\/
   ((wL lo n).go i H'/\∃N:St->Hp->Prop,(∀σ2 H2,N σ2 H2->∃m',m' < m/\W (i + 1) m' σ2 H2)/\∀x H2,(wL lo n).yld i H' x H2->c6 g tt te D x σ' H2 N):=by
 refine⟨λi m σ H=>m=n - i/\i<=n/\Pv i σ H,⟨n,by simp,Ia _,h0⟩,?_⟩
 rintro i m σ H ⟨rfl,hi,p⟩
 by_cases hlt:i < n
 ·refine .inr ⟨hlt,Pv (i + 1),λσ' H' p'=>⟨n - (i + 1),by omega,rfl,hlt,p'⟩,λx H' y=>?_⟩
  obtain⟨e,y⟩:=y
  subst e y
  exact hs i σ _ hlt p
 ·have e:i=n:=by omega
  subst e
  exact .inl ⟨Hy _,hd σ H p⟩
end
mutual
inductive Rep (K:Frag)(H:Hp):V->PyData->Prop
 |non:Rep K H .non .none
 |bl (b:Bool):Rep K H (.bl b) (.bool b)
 |int (i:Int):Rep K H (.int i) (.int i)
 |str (x:Str):Rep K H (.str x) (.str x)
 |tup {a:Addr} {xs:List V} {ds:List PyData}:fK K H a xs->iL K H xs ds->Rep K H (.ref a) (.tuple ds)
 |lst {a:Addr} {xs:List V} {ds:List PyData}:dJ K H a xs->iL K H xs ds->Rep K H (.ref a) (.list ds)
inductive iL (K:Frag)(H:Hp):List V->List PyData->Prop
 |nil:iL K H [] []
 |cons {x:V} {xs:List V} {d:PyData} {ds:List PyData}:Rep K H x d->iL K H xs ds->iL K H (x :: xs) (d :: ds)
end
section
variable {X:Cx}{pins:List (Addr×Obj)}{σ:St}{H H':Hp}{s:Shared}
mutual
theorem Rep.reads (I:Inv X pins σ H s):∀{x:V} {d:PyData} {u:Value},Rep X.K H x d->RelV x u->∃as,Reads s.heap u d as
 |_,_,_,.non,r=>by cases r;exact⟨_,.none⟩
 |_,_,_,.bl b,r=>by cases r;exact⟨_,.bool b⟩
 |_,_,_,.int i,r=>by obtain⟨t,rfl⟩:=r;exact⟨_,.int i t⟩
 |_,_,_,.str x,r=>by obtain⟨t,rfl⟩:=r;exact⟨_,.str x t⟩
 |_,_,_,.tup h hs,r=>by
  cases r
  obtain⟨its,rv,⟨o,ho,hc,n,hd⟩,_⟩:=I.tuple h
  obtain⟨as,q⟩:=iL.reads I hs rv
  exact⟨_,.tuple ho hc hd (by simpa using q)⟩
 |_,_,_,.lst h hs,r=>by
  cases r
  obtain⟨its,rv,pl,_⟩:=I.list h
  obtain⟨o,ho,hc,n,hd⟩:=pl.isList
  obtain⟨as,q⟩:=iL.reads I hs rv
  exact⟨_,.list ho hc hd (by simpa using q)⟩
theorem iL.reads (I:Inv X pins σ H s):∀{xs:List V} {ds:List PyData} {us:List Value},iL X.K H xs ds->Vals xs us->∃as,ReadsAll s.heap us ds as
 |_,_,_,.nil,r=>by cases r;exact⟨_,.nil⟩
 |_,_,_,.cons h hs,r=>by
  cases r with
  |cons r1 r2=>
   obtain⟨as,q⟩:=Rep.reads I h r1
   obtain⟨bs,q'⟩:=iL.reads I hs r2
   exact⟨_,.cons q q'⟩
end
def C7 (K:Frag)(neg:Bool):R2:=λx y H Q=>∃d e,Rep K H x d/\Rep K H y e/\SeqAt.shaped d=true/\SeqAt.shaped e=true/\Q (.bl (if neg then !PyData.eqv d e else PyData.eqv d e)) H
def gj (hu:X.A.units + 64 < cLine):lH X (compareOp .Eq) (C7 X.K false):=by
 intro pins s σ H x y v u Q I rx ry h
 obtain⟨d,e,h1,h2,s1,s2,q⟩:=h
 obtain⟨as,r1⟩:=h1.reads I rx
 obtain⟨bs,r2⟩:=h2.reads I ry
 exact SeqAt.compareEq_shaped r1 r2 s1 s2 hu ⟨.bl _,H,I,rfl,q⟩
def gp (hu:X.A.units + 64 < cLine):lH X (compareOp .NotEq) (C7 X.K true):=by
 intro pins s σ H x y v u Q I rx ry h
 obtain⟨d,e,h1,h2,s1,s2,q⟩:=h
 obtain⟨as,r1⟩:=h1.reads I rx
 obtain⟨bs,r2⟩:=h2.reads I ry
 exact SeqAt.compareNe_shaped r1 r2 s1 s2 hu ⟨.bl _,H,I,rfl,q⟩
def EE (K:Frag)(neg:Bool):R2:=λx y H Q=>∃p xs d ds,y=.ref p/\(dJ K H p xs\/fK K H p xs)/\iL K H xs ds/\Rep K H x d/\SeqAt.shaped d=true/\(∀e,e∈ds->SeqAt.shaped e=true)/\
 Q (.bl (if neg then !(ds.any λe=>PyData.eqv e d) else ds.any λe=>PyData.eqv e d)) H
theorem iL.at' {K:Frag}:∀{xs:List V} {ds:List PyData} {i:Nat} {x:V},iL K H xs ds->xs[i]? =some x->∃d,ds[i]? =some d/\Rep K H x d
 |_,_,_,_,.nil,e=>by simp at e
 |_,_,0,_,.cons r _,e=>by simp at e;subst e;exact⟨_,rfl,r⟩
 |_,_,i + 1,x,.cons _ t,e=>by
  obtain⟨u,h1,h2⟩:=iL.at' (i:=i) (x:=x) t (by simpa using e)
  exact⟨u,by simpa using h1,h2⟩
open Classical in
theorem rN (I:Inv X pins σ H s)(d:PyData):∀{xs:List V} {us:List Value} {ds:List PyData},Vals xs us->iL X.K H xs ds->(∀e,e∈ds->SeqAt.shaped e=true)->∃f:Value->Bool,us.any f=(ds.any λe=>PyData.eqv e d)/\∀u,u∈us->∃e as,e∈ds/\Reads s.heap u e as/\f u=PyData.eqv e d:=by
 intro xs us ds hv hr hs
 let f:Value->Bool:=λu=>if h:∃e as,SeqAt.shaped e=true/\Reads s.heap u e as then PyData.eqv (Classical.choose h) d else false
 have hf:∀{u:Value} {e:PyData} {as:List Addr},SeqAt.shaped e=true->Reads s.heap u e as->f u=PyData.eqv e d:=λ{u e as} h1 h2=>by
  have hx:∃e as,SeqAt.shaped e=true/\Reads s.heap u e as:=⟨e,as,h1,h2⟩
  show (if h:∃e as,SeqAt.shaped e=true/\Reads s.heap u e as then PyData.eqv (Classical.choose h) d else false)=_
  rw[dif_pos hx]
  obtain⟨bs,q1,q2⟩:=Classical.choose_spec hx
  rw[SeqAt.Reads.unique _ _ _ _ _ (J1 q1) q2 h2]
 refine⟨f,?_,?_⟩
 ·induction hv generalizing ds with
  |nil=>cases hr;rfl
  | @cons x u xs us r1 r2 ih=>
   cases hr with
   | @cons _ _ e es h1 h2=>
    obtain⟨as,q⟩:=h1.reads I r1
    rw[JA,JA,hf (hs e (Hz ..)) q,ih h2 λz hz=>hs z (HG _ hz)]
 ·intro u hu
  obtain⟨i,hi,e0⟩:=Ir.mp hu
  have hi':i < xs.length:=by rw[hv.length];exact hi
  obtain⟨u',eu,ru⟩:=hv.get (Hu hi')
  rw[Hu hi,e0] at eu
  cases eu
  obtain⟨e,ee,re⟩:=iL.at' hr (Hu hi')
  obtain⟨as,q⟩:=re.reads I ru
  have hm:=HN ee
  exact⟨e,as,hm,q,hf (hs e hm) q⟩
inductive Bn (K:Frag)(H:Hp):V->String->Prop
 |non:Bn K H .non "NoneType"
 |bl (b:Bool):Bn K H (.bl b) "bool"
 |int (i:Int):Bn K H (.int i) "int"
 |str (x:Str):Bn K H (.str x) "str"
 |tup {a:Addr} {xs:List V}:fK K H a xs->Bn K H (.ref a) "tuple"
 |lst {a:Addr} {xs:List V}:dJ K H a xs->Bn K H (.ref a) "list"
 |dic {a:Addr} {kvs:List (Key×V)}:H a=some (.dK kvs)->Bn K H (.ref a) "dict"
def Gi (K:Frag):List V->Hp->VK->Prop:=λxs H Q=>∃x T t b,xs= [x,.ty T]/\Bn K H x t/\PySem.W.kitOne K (.type t) (.type T)=some b/\Q (.bl b) H
theorem zt:cf X (.builtin "isinstance") (Gi X.K):=by
 intro pins s σ H xs us Q I r h
 obtain⟨x,T,t,b,rfl,ty,e,q⟩:=h
 obtain⟨u,c,rfl,rx,rc⟩:=vals2 r
 cases rc
 have fin:∀tk,EP X pins σ Q (.bool b) {s with toks:=tk}:=λtk=>⟨.bl b,H,I.tok tk,rfl,q⟩
 cases ty with
 |non=>exact gK I rx .non e fin
 |bl b=>exact gK I rx (.bl b) e fin
 |int i=>exact gK I rx (.int i) e fin
 |str z=>exact gK I rx (.str z) e fin
 |dic hk=>exact gK I rx (.dK hk) e fin
 |tup hq=>
  cases rx
  obtain⟨its,rv,⟨o,h1,h2,_⟩,_⟩:=I.tuple hq
  exact II PySem.W.kitx_tuple I.kIn ⟨o,h1,h2⟩ e (λz=>nomatch z) fin
 |lst hq=>
  cases rx
  obtain⟨its,rv,pl,_⟩:=I.list hq
  obtain⟨o,h1,h2,_⟩:=pl.isList
  exact II PySem.W.kitx_list I.kIn ⟨o,h1,h2⟩ e (λz=>nomatch z) fin
def sd {A:Around}{its:List Value}{bs:List Bool}(hv:Vals (bs.map V.bl) its):TruthOf X.prog X.w A (λi v=>its[i]? =some v) (λi=>bs.getD i false):=λi v s Q E hi hq=>by
 have hl:=hv.length
 have hi2:i < bs.length:=by
  have:=(HB.mp hi).1
  rw[<-hl] at this;simpa using this
 obtain⟨u,eu,ru⟩:=hv.get (i:=i) (x:=.bl bs[i]) (by simp[hi2])
 rw[hi] at eu;cases eu
 cases ru
 refine IZ ?_
 have:bs.getD i false=bs[i]:=by simp[hi2]
 rw[<-this];exact hq
theorem range_all (bs:List Bool):(List.range bs.length).all (λi=>bs.getD i false)=bs.all id:=by
 induction bs with
 |nil=>rfl
 |cons b bs ih=>
  rw[HX,List.range_succ_eq_map,JX,List.all_map,JX,<-ih]
  rfl
theorem range_any (bs:List Bool):(List.range bs.length).any (λi=>bs.getD i false)=bs.any id:=by
 induction bs with
 |nil=>rfl
 |cons b bs ih=>
  rw[HX,List.range_succ_eq_map,JA,List.any_map,JA,<-ih]
  rfl
def sI (K:Frag)(f:List Bool->Bool):List V->Hp->VK->Prop:=λxs H Q=>∃a bs,xs= [.ref a]/\dJ K H a (bs.map V.bl)/\Q (.bl (f bs)) H
def mV (hc:X.calm=true){a:Addr}{bs:List Bool}{Q:VK}(I:Inv X pins σ H s)(hq:dJ X.K H a (bs.map V.bl)){f:List Bool->Bool}{g:(Nat->Bool)->Nat->Bool}(hfg:g (λi=>bs.getD i false) bs.length=f bs)(q:Q (.bl (f bs)) H) :
  wpAny (model X.prog X.w) X.A.in1 (pyIter (.ref a)) (λit s2=>∃Ii fp wr n P St tr,it=.ref Ii/\Walks X.prog X.w X.A.in1 Ii fp wr n P St/\St 0 s2.heap/\TruthOf X.prog X.w X.A.in1 P tr/\
   ∀h' tk,(∀b o,b∉wr->s2.heap.get? b=some o->h'.get? b=some o)->EP X pins σ Q (.bool (g tr n)) {s2 with heap:=h',toks:=tk}) X.xe s:=by
 obtain⟨its,rv,pl,hz⟩:=I.list hq
 have hh:X.A.in1.handled=none:=I.ok.hd hc
 have hlen:its.length=bs.length:=by rw[<-rv.length];simp
 obtain⟨o,ho,_⟩:=id pl.isList
 refine J2 pl.isList ?_
 have W:=Walks.list (prog:=X.prog) (w:=X.w) hh s.heap.objs.size a (Ih (HJ ho)) its.toArray
 refine⟨s.heap.objs.size,_,_,_,_,_,λi=>bs.getD i false,rfl,W,⟨⟨_,HU _ rfl,rfl,rfl⟩,pl.isList.push _⟩,?_,λh' tk k=>?_⟩
 ·have:=sd (X:=X) (A:=X.A.in1) rv
  simpa using this
 ·have e:its.toArray.size=bs.length:=by simpa using hlen
  rw[e,hfg]
  have I1:Inv X pins σ H {s with heap:=s.heap.push {cls:=.type "list_iterator",data:=.fields #[.ref a,.int 0 0]}}:=I.kept (t':=s.toks) λb o e=>Hw _ e
  have hf:H s.heap.objs.size=none:=I.hok.fresh (Hy _)
  have fp:=I.fpOk (H':=H) (b:=s.heap.objs.size) (Hy _) hf
  refine⟨.bl _,H,I1.turned (it:=s.heap.objs.size) (t':=tk) (λb o hb e=>k b o (by simpa using hb) e) hf fp.2.1 fp.2.2.2.1 fp.2.2.2.2.1 fp.2.2.2.2.2,rfl,q⟩
def mz (hc:X.calm=true):cf X (.builtin "all") (sI X.K λbs=>bs.all id):=by
 intro pins s σ H xs us Q I r h
 obtain⟨a,bs,rfl,hq,q⟩:=h
 obtain⟨u,rfl,rx⟩:=vals1 r
 cases rx
 exact call_all_walk (mV hc I hq (f:=λbs=>bs.all id) (g:=λtr n=>(List.range n).all tr) (range_all bs) q)
def rq (hc:X.calm=true):cf X (.builtin "any") (sI X.K λbs=>bs.any id):=by
 intro pins s σ H xs us Q I r h
 obtain⟨a,bs,rfl,hq,q⟩:=h
 obtain⟨u,rfl,rx⟩:=vals1 r
 cases rx
 exact call_any_walk (mV hc I hq (f:=λbs=>bs.any id) (g:=λtr n=>(List.range n).any tr) (range_any bs) q)
def xN:cf X (.type "range") (λxs H Q=>∃n:Int,xs= [.int n]/\∀p,H p=none->Q (.ref p) (upd H p (.eZ 0 n))):=by
 intro pins s σ H xs us Q I r h
 obtain⟨n,rfl,q⟩:=h
 obtain⟨u,rfl,rx⟩:=vals1 r
 obtain⟨t,rfl⟩:=rx
 refine call_range_1 ⟨.ref s.heap.objs.size,upd H s.heap.objs.size (.eZ 0 n),?_,rfl,q _ (I.hok.fresh (Hy _))⟩
 exact I.laid (λb o e=>Hw _ e) (Hy _) ⟨_,_,_,HU _ rfl⟩
def nk (hc:X.calm=true):cf X (.type "list") (λxs H Q=>∃p n,xs= [.ref p]/\H p=some (.eZ 0 n)/\0<=n/\n<=1000/\∀l,H l=none->Q (.ref l) (upd H l (.lst ((List.range n.toNat).map λ(i:Nat)=>V.int (i:Int))))):=by
 intro pins s σ H xs us Q I r h
 obtain⟨p,n,rfl,hp,h0,h1,q⟩:=h
 obtain⟨u,rfl,rx⟩:=vals1 r
 cases rx
 obtain⟨t,u,v,hr⟩:∃t u v,s.heap.get? p=some {cls:=.type "range",data:=.fields #[.int 0 t,.int n u,.int 1 v]}:=I.hok p _ hp
 have hsz:Builtin.Range.rangeSize 0 n 1=(n.toNat:Int):=by rw[rangeSize_one];split <;> omega
 refine call_list_range (I.ok.hd hc) hr (small_one (by omega) (by omega) (by omega) (by omega)) hsz (by omega) λh' tk acc c k hS hacc=>?_
 have hv:Vals ((List.range n.toNat).map λ(i:Nat)=>V.int (i:Int)) acc.toList:=by
  have key:∀(m:Nat) (us:List Value) (j:Nat),us.length=m->(∀(i:Nat) (v:Value),us[i]? =some v->∃t,v=Value.int ((j + i:Nat):Int) t)->Vals ((List.range' j m).map λ(i:Nat)=>V.int (i:Int)) us:=by
   intro m
   induction m with
   |zero=>intro us j hl _;cases us with
    |nil=>exact .nil
    |cons a b=>simp at hl
   |succ m ih=>
    intro us j hl hh
    cases us with
    |nil=>simp at hl
    |cons u us=>
     rw[List.range'_succ,ID]
     refine .cons (by have:=hh 0 u rfl;simp at this;exact this) (ih us (j + 1) (by simpa using hl) λi v hi=>?_)
     obtain⟨t,e⟩:=hh (i + 1) v (by simpa using hi)
     exact⟨t,by rw[e];congr 2;omega⟩
  have:=key n.toNat acc.toList 0 (by simpa using hacc.1) λi v hi=>by
   obtain⟨t,e⟩:=hacc.2 i v (by simpa using hi)
   exact⟨t,by rw[e];simp⟩
  rw[List.range_eq_range'];exact this
 refine⟨.ref s.heap.objs.size,_,I.laid (t':=tk) k (Hy _) (show bL X.prog X.w _ h' _ (.lst _) from⟨by simp;rw[Iu];omega,acc.toList,c,hv,by simpa using hS⟩),rfl,q _ (I.hok.fresh (Hy _))⟩
end
def Rc (h:Heap)(e:Addr)(cls:Value)(T:Addr)(fl:Value):Prop:=∃oe vs oT ts,h.get? e=some oe/\oe.cls=cls/\oe.dict=none/\oe.data=.fields vs/\vs[1]? =some (.ref T)/\vs[2]? =some .none/\T≠e/\h.get? T=some oT/\oT.data=.fields ts/\ts[3]? =some fl
abbrev Keeps (F:List Addr)(ch:List Addr)(h h':Heap):Prop:=∀b o,h.get? b=some o->b∉F->b∉ch->h'.get? b=some o
abbrev Slots (F:List Addr)(h h':Heap):Prop:=∀b o,h.get? b=some o->b∈F->∃sl,h'.get? b=some {o with slots:=sl}
section
variable {M:Model}{A:Around}{E:Value->Shared->Prop}{s:Shared}{base:Heap}{env:Env}{outer:List Env}{L e:Addr}{cls:Value}{Q:Unit->Shared->Prop}
def Dg {oe:Obj}{vs:Array Value}{head:Value}{hadNext:Bool}(hfr:A.frames=some (env :: outer))(hl:s.heap.FunFrames base (env :: outer))(hf:env.frame=some L)(he:s.heap.get? e=some oe)(hc:oe.cls=cls)(hdd:oe.dict=none)(hd:oe.data=.fields vs)(hsz:1 < vs.size)(h2:vs[2]? =some .none)
  (h:∀h' T,Keeps (jC (env :: outer)) [e] s.heap h'->Slots (jC (env :: outer)) s.heap h'->s.heap.get? T=none->Rc h' e cls T (rawInt L)->Q () {s with heap:=h'}) :
  wpAny M A (do let a <-frameOf env;let pl <-entryPlaceOf L hadNext;let b <-EntryCells.newEntry head a .none (rawInt L) .none pl;setField (.ref e) 1 b) Q E s:=by
 have eF:e∉jC (env :: outer):=λz=>by
  obtain⟨_,o,q,n⟩:=hl.mem z
  rw[he] at q;cases q;exact n _ hd
 refine Hv (wpAny_frameOf_fun hfr hl hf λh1 s1=>?_)
 refine Hv (wpAny_entryPlaceOf λpl hpl=>?_)
 unfold EntryCells.newEntry newFields
 refine Hv (J3 ?_ (hpl.sizeOk5 _ _ _ _ _))
 have e1:h1.get? e=some oe:=(s1.2.1 e eF).trans he
 have e2:=Hw (h:=h1) {cls:=.type "traceback",dict:=none,data:=.fields ([head,.ref L,.none,rawInt L,.none] ++ (if pl.isEmpty then List.replicate 6 Value.none else pl)).toArray} e1
 have tn:h1.objs.size≠e:=Nat.ne_of_gt (HJ e1)
 refine J6 e2 hd hsz (h _ h1.objs.size (λb o q hb hn=>?_) (λb o q hb=>?_) ?_ ?_)
 ·have hbe:b≠e:=by simpa using hn
  have q1:h1.get? b=some o:=(s1.2.1 b hb).trans q
  rw[IU _ _ (Ne.symm hbe)]
  exact Hw _ q1
 ·obtain⟨sl,q1⟩:=s1.2.2 b o q
  have hbe:b≠e:=λz=>eF (z▸hb)
  refine⟨sl,?_⟩
  rw[IU _ _ (Ne.symm hbe)]
  exact Hw _ q1
 ·cases q:s.heap.get? h1.objs.size with
  |none=>rfl
  |some o=>obtain⟨sl,q1⟩:=s1.2.2 _ o q;exact absurd (HJ q1) (Iv _)
 ·have d3:=Obj.data_mapFields hd (·.setIfInBounds 1 (Value.ref h1.objs.size))
  have e3:=IL (Obj.mapFields (·.setIfInBounds 1 (Value.ref h1.objs.size))) e2 (Obj.isFreed_of_fields d3)
  refine⟨_,_,_,_,e3,(Obj.cls_mapFields _ _).trans hc,?_,d3,by simp[hsz],by rw[Array.getElem?_setIfInBounds_ne (by omega)];exact h2,tn,(IU _ _ (Ne.symm tn)).trans (HU h1 rfl),rfl,?_⟩
  ·unfold Obj.mapFields
   split <;> exact hdd
  ·rcases hpl with rfl | ⟨_,_,_,_,_,_,_,rfl⟩ <;> simp
def wy {T0:Addr}(hfr:A.frames=some (env :: outer))(hl:s.heap.FunFrames base (env :: outer))(hf:env.frame=some L)(r:Rc s.heap e cls T0 .none)
  (h:∀h' T,Keeps (jC (env :: outer)) [e,T0] s.heap h'->Slots (jC (env :: outer)) s.heap h'->(s.heap.get? T=none\/T=T0)->Rc h' e cls T (rawInt L)->Q () {s with heap:=h'}):wpAny M A (noteFrame (.ref e) env) Q E s:=by
 obtain⟨oe,vs,oT,ts,he,hc,hdd,hd,h1,h2,hTe,hT,hdT,h3⟩:=r
 have tF:T0∉jC (env :: outer):=λz=>by
  obtain⟨_,o,q,n⟩:=hl.mem z
  rw[hT] at q;cases q;exact n _ hdT
 unfold noteFrame
 simp only[hf]
 refine Hv (wpAny_field he hd h1 ?_)
 rw[HA (show (Value.ref T0 != Value.none)=true from by simp)]
 refine Hv (wpAny_field hT hdT h3 ?_)
 rw[HI (show ¬((Value.none == rawInt L)=true) from by simp[rawInt])]
 refine Hv (J6 hT hdT (IQ.mp h3).1 ?_)
 have oth:∀b,b≠T0->(s.heap.update T0 (Obj.mapFields (·.setIfInBounds 3 Value.none))).get? b=s.heap.get? b:=λb hb=>IU _ _ (Ne.symm hb)
 have nf:∀b o,s.heap.get? b=some o->(∀ws,o.data≠.fields ws)->b≠T0:=λb o q n z=>by
  rw[z,hT] at q;cases q;exact n _ hdT
 refine Dg (base:=base) hfr (hl.of_keeps λb o q n=>⟨o,(oth b (nf b o q n)).trans q,rfl⟩) hf ((oth e (Ne.symm hTe)).trans he) hc hdd hd (IQ.mp h1).1 h2 λh' T kp sl tn rc=>?_
 refine h h' T (λb o q hb hn=>?_) (λb o q hb=>?_) ?_ rc
 ·simp only[Hx,Jn,or_false,not_or] at hn
  exact kp b o ((oth b hn.2).trans q) hb (by simp[hn.1])
 ·exact sl b o ((oth b λz=>tF (z▸hb)).trans q) hb
 ·by_cases z:T=T0
  ·exact .inr z
  ·exact .inl ((oth T z).symm.trans tn)
def Bx {T:Addr}{fl:Value}(r:Rc s.heap e cls T fl)(h:∀h',Keeps [] [T] s.heap h'->Rc h' e cls T .none->Q () {s with heap:=h'}):wpAny M A (setFlight (.ref e) none) Q E s:=by
 obtain⟨oe,vs,oT,ts,he,hc,hdd,hd,h1,h2,hTe,hT,hdT,h3⟩:=r
 have sz:3 < ts.size:=(IQ.mp h3).1
 unfold setFlight
 refine Hv (wpAny_field he hd h1 ?_)
 rw[HA (show (Value.ref T != Value.none)=true from by simp)]
 refine J6 hT hdT sz (h _ (λb o q _ hn=>?_) ?_)
 ·have hb:b≠T:=by simpa using hn
  exact (IU _ _ (Ne.symm hb)).trans q
 ·have d3:=Obj.data_mapFields hdT (·.setIfInBounds 3 ((none:Option Addr).elim Value.none λf=>rawInt f))
  exact⟨oe,vs,_,_,(IU _ _ hTe).trans he,hc,hdd,hd,h1,h2,hTe,IL _ hT (Obj.isFreed_of_fields d3),d3,by simp[sz]⟩
end
section
variable {P:Program}{w:World}
theorem bL.there {H:Hp}{h:Heap}{a:Addr}{o:HO}(x:bL P w H h a o):∃u,h.get? a=some u:=by
 cases o with
 |lst xs=>obtain⟨_,_,_,_,e⟩:=x;exact⟨_,e⟩
 |tup xs=>obtain⟨_,_,_,u,e,_⟩:=x;exact⟨u,e⟩
 |dK kvs=>obtain⟨_,_,_,_,o,_,_,e,_⟩:=x;exact⟨_,e⟩
 |dT kvs=>obtain⟨_,_,_,_,o,_,_,e,_⟩:=x;exact⟨_,e⟩
 |set S n=>obtain⟨o,_,_,_,e,_⟩:=x;exact⟨_,e⟩
 |ins C dx fs=>obtain⟨_,_,_,e,_⟩:=x;exact⟨_,e⟩
 |own y=>obtain⟨_,e⟩:=x;exact⟨_,e⟩
 |xd fs=>obtain⟨_,⟨_,_,_,e,_⟩,_⟩:=x;exact⟨_,e⟩
 |eZ lo hi=>obtain⟨_,_,_,e⟩:=x;exact⟨_,e⟩
 |aU ob u=>obtain⟨e,_⟩:=x;exact⟨_,e⟩
 |tbl ps=>exact⟨_,show h.get? a=some _ from x⟩
 |met f y=>exact⟨_,show h.get? a=some _ from x⟩
 |ext φ=>obtain⟨_,⟨_,e⟩,_⟩:=x;exact⟨_,e⟩
end
structure Lies (h₀:Heap)(H:Hp)(h:Heap)(e:Addr)(cls:Value):Prop where
 free:H e=none
 new:h₀.get? e=none
 ob:∃T,Rc h e cls T .none/\H T=none/\h₀.get? T=none
def nh (P:Program)(w:World):wa:=λouter H s E e s'=>∃ea cls H',e=.ref ea/\s'.os=s.os/\AllBare s'.gens/\Un (jC outer) [] H H' s.heap s'.heap/\j4 P w H' s'.heap/\Lies s.heap H' s'.heap ea cls/\E cls none H'
section
variable {P:Program}{w:World}{M:Model}{A:Around}{E':Value->Shared->Prop}{s:Shared}{env:Env}{outer:List Env}{L e:Addr}{cls:Value}{base h₀:Heap}{H:Hp}{Q:Unit->Shared->Prop}
def zT {h h':Heap}(hok:j4 P w H h)(k:∀b o,h.get? b=some o->(∃u,H b=some u)->h'.get? b=some o):j4 P w H h':=λa o ha=>
 (hok a o ha).stay (λb u hb q=>k b u q (hb.elim (λz=>⟨o,by rw[z];exact ha⟩) λz=>⟨_,z⟩)) (λ_ q=>q) λ_ _ q=>q
def yG (hfr:A.frames=some (env :: outer))(hf:env.frame=some L)(hfn:s.heap.FunFrames base (env :: outer))(hok:j4 P w H s.heap)(hff:∀b∈jC (env :: outer),H b=none)(Ly:Lies h₀ H s.heap e cls)(hex:∀b o,h₀.get? b=some o->∃o',s.heap.get? b=some o')
  (hQ:∀h',(∀b o,s.heap.get? b=some o->b∉jC (env :: outer)->((∃o0,h₀.get? b=some o0)\/∃u,H b=some u)->h'.get? b=some o)->(∀b o,s.heap.get? b=some o->b∈jC (env :: outer)->∃sl,h'.get? b=some {o with slots:=sl})->Lies h₀ H h' e cls->j4 P w H h'->Q () {s with heap:=h'}) :
  wpAny M A (leaving env (.ref e)) Q E' s:=by
 obtain⟨fr,nw,T0,rc,hHT,hnT⟩:=Ly
 obtain⟨oe,vs,oT,ts,he,hc,hdd,hd,h1,h2,hTe,hT,hdT,h3⟩:=id rc
 have tF:T0∉jC (env :: outer):=λz=>by
  obtain⟨_,o,q,n⟩:=hfn.mem z
  rw[hT] at q;cases q;exact n _ hdT
 unfold leaving
 refine Hv (wy hfr hfn hf rc λh4 T kp sl tn rc4=>Bx rc4 λh5 kp5 rc5=>?_)
 have nT:∀b o,s.heap.get? b=some o->b≠T0->b≠T:=λb o q n z=>by
  rcases tn with tn |tn
  ·rw[z,tn] at q;cases q
  ·exact n (z.trans tn)
 have kept:∀b o,s.heap.get? b=some o->b∉jC (env :: outer)->((∃o0,h₀.get? b=some o0)\/∃u,H b=some u)->h5.get? b=some o:=λb o q hb hor=>by
  have be:b≠e:=λz=>by subst z;rcases hor with⟨_,z⟩ | ⟨_,z⟩ <;> simp_all
  have bT:b≠T0:=λz=>by subst z;rcases hor with⟨_,z⟩ | ⟨_,z⟩ <;> simp_all
  exact kp5 b o (kp b o q hb (by simp[be,bT])) (by simp) (by simp[nT b o q bT])
 have slot:∀b o,s.heap.get? b=some o->b∈jC (env :: outer)->∃sl,h5.get? b=some {o with slots:=sl}:=λb o q hb=>by
  obtain⟨x,q4⟩:=sl b o q hb
  exact⟨x,kp5 b _ q4 (by simp) (by simp[nT b o q λz=>tF (z▸hb)])⟩
 have fresh:H T=none/\h₀.get? T=none:=by
  rcases tn with tn |tn
  ·refine⟨?_,?_⟩
   ·cases q:H T with
    |none=>rfl
    |some u=>obtain⟨o,qo⟩:=(hok T u q).there;rw[tn] at qo;cases qo
   ·cases q:h₀.get? T with
    |none=>rfl
    |some u=>obtain⟨o,qo⟩:=hex T u q;rw[tn] at qo;cases qo
  ·rw[tn];exact⟨hHT,hnT⟩
 refine hQ h5 kept slot ⟨fr,nw,T,rc5,fresh.1,fresh.2⟩ (zT hok λb o q hu=>kept b o q (λz=>?_) (.inr hu))
 obtain⟨u,hu⟩:=hu
 rw[hff b z] at hu;cases hu
end
section
variable {P:Program}{w:World}{K:Frag}{mg:Str->Option Value}{base:Heap}{N:List Str}{qual:Str}{scope:Scope}{f:Addr}{cd:Value}{A:Around}{outer:List Env}{s0:Shared}{H0:Hp}{E:XK}
def bq:Passes (nh P w) (nC (nh P w) P w K mg base N qual scope f cd A outer s0 H0 E) E:=by
 intro pins σ H s e s' I hcx
 obtain⟨ea,cls,H',rfl,os,bare,un,hok,Ly,q⟩:=hcx
 have I':=I.call' os un hok bare (λb hb=>absurd hb (by simp))
 have old:∀{b:Addr},s.heap.get? b=none->s0.heap.get? b=none:=λ{b} hb=>by
  cases z:s0.heap.get? b with
  |none=>rfl
  |some o=>obtain⟨o',z'⟩:=I.base.there b o z (show b∉([]:List Addr) by simp);rw[hb] at z';cases z'
 have Ly0:Lies s0.heap H' s'.heap ea cls:=by
  obtain⟨fr,nw,T,rc,hHT,hnT⟩:=Ly
  exact⟨fr,old nw,T,rc,hHT,old hnT⟩
 have above:s0.heap.objs.size<=(envOfC qual scope s0.heap.objs.size f cd).locals:=I.ok.above
 refine yG (base:=base) (h₀:=s0.heap) I'.ok.frames rfl I'.stack I'.hok I'.stkFree Ly0 (λb o z=>I'.base.there b o z (show b∉([]:List Addr) by simp)) λh' kept slot Ly' hok'=>?_
 have nL:∀{b:Addr} {o:Obj},s0.heap.get? b=some o->b∉jC outer->b∉jC (envOfC qual scope s0.heap.objs.size f cd :: outer):=λ{b o} z hb hm=>by
  rcases Hx.mp (I'.stkSub b hm) with e |e
  ·have:=HJ z
   rw[e] at this
   exact absurd (Ij this above) (Iv _)
  ·exact hb e
 have inn:∀{b:Addr},b∈jC outer->b∈jC (envOfC qual scope s0.heap.objs.size f cd :: outer):=λ{b} hb=>by
  obtain⟨en,h1,h2⟩:=JY.mp hb
  exact JY.mpr ⟨en,HG _ h1,h2⟩
 refine⟨ea,cls,H',rfl,os.trans I.os,bare,⟨λb o z n hb _=>?_,λb o z n hb _=>?_,λb o z n _=>I'.base.free b o z n (show b∉([]:List Addr) by simp),λb o z _=>?_,I'.base.tups,I'.base.frzs,I'.base.tbls⟩,hok',Ly',q⟩
 ·exact kept b o (I'.base.keep b o z n hb (show b∉([]:List Addr) by simp)) (nL z hb) (.inl ⟨o,z⟩)
 ·obtain⟨sl,z1⟩:=I'.base.slot b o z n hb (show b∉([]:List Addr) by simp)
  obtain⟨sl2,z2⟩:=slot b _ z1 (inn hb)
  exact⟨sl2,z2⟩
 ·obtain⟨o',z1⟩:=I'.base.there b o z (show b∉([]:List Addr) by simp)
  by_cases hb:b∈jC (envOfC qual scope s0.heap.objs.size f cd :: outer)
  ·obtain⟨sl,z2⟩:=slot b o' z1 hb
   exact⟨_,z2⟩
  ·exact⟨o',kept b o' z1 hb (.inl ⟨o,z⟩)⟩
end
def mroIn (K:Frag)(C:Addr):List Value:=match K.lookup C with
 |some ⟨_,_,.cls cd,_⟩=>cd.mro
 |_=>[]
structure zv (k:Nat)(A:Around):Prop where
 dp:A.depth + 3 * k + 5 < recursionLimit
 un:A.units + 16 * k + 200 < cLine
 gd:A.guards=some []
def cX.h {k:Nat}{A:Around}(r:cX k A):zv k A:=⟨r.dp,r.un,r.gd⟩
def zv.units {k:Nat}{A:Around}(r:zv k A):A.units + 64 < cLine:=by have:=r.un;omega
section
variable {P:Program}{w:World}{K:Frag}{mg:Str->Option Value}{base:Heap}
def zY.xr {x qual:Str}{st:Stmt}{f:Addr}{fd:FuncData}{N ps:List Str}{k:Nat}{sp:Sp}(F:zY K x qual st f fd)(S:aF N ps (ar st))(len:∀vs H Q E,sp vs H Q E->vs.length=ps.length)
  (hbody:∀(cdv:Value) (A:Around) (outer:List Env) (s:Shared) (H:Hp) (vs:List V) (Q:VK) (E:XK),cX k (A.deeper (envOfC qual (ar st) s.heap.objs.size f cdv))->sp vs H Q E->
   ∃t,nE (nC (nh P w) P w K mg base N qual (ar st) f cdv A outer s H E) (b6 st) t/\t {nx:=λ_ H'=>Q .non H',rt:=Q} (start N vs) H):dw P w K mg base (nh P w) (k + 1) f fd ps sp:=by
 obtain⟨oc,od,kV,doc,pm,an,cdv,ct,osl,rfl,lk,hcd⟩:=F.ex
 exact Ca lk hcd S len λA outer s H vs Q E hr hsp=>hbody cdv A outer s H vs Q E hr hsp
end
section
variable {X:Cx}
def i6 (hu:X.A.units + 100 < cLine):lH X (compareOp .NotIn) (EE X.K true):=by
 intro pins s σ H x y v u Q I rx ry h
 obtain⟨p,xs,d,ds,rfl,hq,hs,hx,s1,s2,q⟩:=h
 cases ry
 obtain⟨bs,r2⟩:=hx.reads I rx
 have key:∀{e:PyData} {as:List Addr} {u:Value},SeqAt.shaped e=true->Reads s.heap u e as->SeqAt.EqAt X.A.in1 s u v (PyData.eqv e d):=λ{e as u} h1 h2=>by
  refine SeqAt.eqAt_reads _ _ _ _ _ _ _ _ h2 r2 (J1 h1) (J1 s1) ?_
  have:=SeqAt.depth_of_shaped h1
  show X.A.units + 1 + _ < _
  omega
 rcases hq with hq |hq
 ·obtain⟨its,r,pl,hz⟩:=I.list hq
  obtain⟨f,e1,e2⟩:=rN I d r hs s2
  refine SeqAt.notIn_listAt f pl.isList (λw hw=>?_) ⟨.bl _,H,I,rfl,?_⟩
  ·obtain⟨e,as,hm,rd,ef⟩:=e2 w (by simpa using hw)
   rw[ef];exact key (s2 e hm) rd
  ·rw[show its.toArray.any f=its.any f by simp,e1];exact q
 ·obtain⟨its,r,pl,hz⟩:=I.tuple hq
  obtain⟨f,e1,e2⟩:=rN I d r hs s2
  refine SeqAt.notIn_tupleAt f pl (λw hw=>?_) ⟨.bl _,H,I,rfl,?_⟩
  ·obtain⟨e,as,hm,rd,ef⟩:=e2 w (by simpa using hw)
   rw[ef];exact key (s2 e hm) rd
  ·rw[show its.toArray.any f=its.any f by simp,e1];exact q
end
abbrev D:=PyData
def kD:Key->D
 | .inl i=>.int i
 | .inr x=>.str x
mutual
inductive Rp (K:Frag)(G:Hp):V->D->Prop
 |non:Rp K G .non .none
 |bl (b:Bool):Rp K G (.bl b) (.bool b)
 |int (i:Int):Rp K G (.int i) (.int i)
 |str (x:Str):Rp K G (.str x) (.str x)
 |tup {a:Addr} {xs:List V} {ds:List D}:fK K G a xs->bw K G xs ds->Rp K G (.ref a) (.tuple ds)
 |lst {a:Addr} {xs:List V} {ds:List D}:G a=some (.lst xs)->bw K G xs ds->Rp K G (.ref a) (.list ds)
 |scr {a:Addr} {ns:List Int}:dJ K G a (ns.map V.int)->Rp K G (.ref a) (.dict [(.none,.list (ns.map int))])
 |dK {a:Addr} {kvs:List (Key×V)} {ds:List (D×D)}:G a=some (.dK kvs)->xo K G kvs ds->Rp K G (.ref a) (.dict ds)
 |dT {a:Addr} {kvs:List (List Key×V)} {ds:List (D×D)}:G a=some (.dT kvs)->xm K G kvs ds->Rp K G (.ref a) (.dict ds)
inductive bw (K:Frag)(G:Hp):List V->List D->Prop
 |nil:bw K G [] []
 |cons {x:V} {xs:List V} {d:D} {ds:List D}:Rp K G x d->bw K G xs ds->bw K G (x :: xs) (d :: ds)
inductive xo (K:Frag)(G:Hp):List (Key×V)->List (D×D)->Prop
 |nil:xo K G [] []
 |cons {k:Key} {x:V} {xs:List (Key×V)} {d:D} {ds:List (D×D)}:Rp K G x d->xo K G xs ds->xo K G ((k,x) :: xs) ((kD k,d) :: ds)
inductive xm (K:Frag)(G:Hp):List (List Key×V)->List (D×D)->Prop
 |nil:xm K G [] []
 |cons {k:List Key} {x:V} {xs:List (List Key×V)} {d:D} {ds:List (D×D)}:Rp K G x d->xm K G xs ds->xm K G ((k,x) :: xs) ((.tuple (k.map kD),d) :: ds)
end
section
variable {K:Frag}{G G' H H':Hp}
def EA {b:Addr}{o:HO}(h:Kt H b o)(hu:∀ps,o≠.tbl ps):H b=some o:=by
 obtain⟨u,e,k,_⟩:=h.some
 rw[e,k hu]
def yE {b:Addr}{o:HO}{xs:List V}(h:Kt H b o)(e:H b=some (.lst xs)):o=.lst xs:=by
 obtain⟨u,eu,k1,k2⟩:=h.some
 rw[e] at eu
 cases eu
 by_cases c:∃ps,o=.tbl ps
 ·obtain⟨ps,z⟩:=k2 c;cases z
 ·exact (k1 λps z=>c ⟨ps,z⟩).symm
theorem gr {a b:Addr}{o u:HO}(h:Kt H b u)(hb:b≠a)(ha:∀x y,H a≠some (.aU x y)):Kt (upd H a o) b u:=by
 cases u with
 |tbl ps=>
  obtain⟨m,e,k⟩:=h
  refine⟨m,by rw[ak hb];exact e,λc hc=>?_⟩
  obtain⟨x,ex,ix⟩:=k c hc
  exact⟨x,by rw[ak (λz=>ha x _ (z▸ex))];exact ex,ix⟩
 |_=>exact (ak hb).trans h
def Rd.mono {a:Addr}{u:HO}(h:Rd G a u)(s:af G G')(hu:∀ps,u≠.tbl ps:=by intro _ z;cases z):Rd G' a u:=h.elim (λe=>.inl (EA (s _ _ e) hu)) λ⟨o,e⟩=>.inr ⟨o,s _ _ e⟩
mutual
theorem Rp.mono (s:af G G'):∀{x:V} {d:D},Rp K G x d->Rp K G' x d
 |_,_,.non=>.non
 |_,_,.bl b=>.bl b
 |_,_,.int i=>.int i
 |_,_,.str x=>.str x
 |_,_,.tup h hs=>.tup (h.grow s.grow) (bw.mono s hs)
 |_,_,.lst h hs=>.lst (s _ _ h) (bw.mono s hs)
 |_,_,.scr h=>.scr (s.seq h)
 |_,_,.dK h hs=>.dK (s _ _ h) (xo.mono s hs)
 |_,_,.dT h hs=>.dT (s _ _ h) (xm.mono s hs)
theorem bw.mono (s:af G G'):∀{xs:List V} {ds:List D},bw K G xs ds->bw K G' xs ds
 |_,_,.nil=>.nil
 |_,_,.cons h hs=>.cons (Rp.mono s h) (bw.mono s hs)
theorem xo.mono (s:af G G'):∀{xs:List (Key×V)} {ds:List (D×D)},xo K G xs ds->xo K G' xs ds
 |_,_,.nil=>.nil
 |_,_,.cons h hs=>.cons (Rp.mono s h) (xo.mono s hs)
theorem xm.mono (s:af G G'):∀{xs:List (List Key×V)} {ds:List (D×D)},xm K G xs ds->xm K G' xs ds
 |_,_,.nil=>.nil
 |_,_,.cons h hs=>.cons (Rp.mono s h) (xm.mono s hs)
end
theorem bw.len:∀{xs:List V} {ds:List D},bw K G xs ds->xs.length=ds.length
 |_,_,.nil=>rfl
 |_,_,.cons _ t=>by simp[bw.len t]
theorem bw.at:∀{xs:List V} {ds:List D} {i:Nat} {d:D},bw K G xs ds->ds[i]? =some d->∃x,xs[i]? =some x/\Rp K G x d
 |_,_,_,_,.nil,e=>by simp at e
 |_,_,0,_,.cons r _,e=>by simp at e;subst e;exact⟨_,rfl,r⟩
 |_,_,i + 1,x,.cons _ t,e=>by
  obtain⟨u,h1,h2⟩:=bw.at (i:=i) (d:=x) t (by simpa using e)
  exact⟨u,by simpa using h1,h2⟩
theorem bw.at':∀{xs:List V} {ds:List D} {i:Nat} {x:V},bw K G xs ds->xs[i]? =some x->∃d,ds[i]? =some d/\Rp K G x d
 |_,_,_,_,.nil,e=>by simp at e
 |_,_,0,_,.cons r _,e=>by simp at e;subst e;exact⟨_,rfl,r⟩
 |_,_,i + 1,x,.cons _ t,e=>by
  obtain⟨u,h1,h2⟩:=bw.at' (i:=i) (x:=x) t (by simpa using e)
  exact⟨u,by simpa using h1,h2⟩
theorem bw.append:∀{xs ys:List V} {ds es:List D},bw K G xs ds->bw K G ys es->bw K G (xs ++ ys) (ds ++ es)
 |_,_,_,_,.nil,s=>s
 |_,_,_,_,.cons r t,s=>.cons r (bw.append t s)
def bw.snoc {xs:List V}{ds:List D}{x:V}{d:D}(h:bw K G xs ds)(q:Rp K G x d):bw K G (xs ++ [x]) (ds ++ [d]):=h.append (.cons q .nil)
theorem bw.take:∀{xs:List V} {ds:List D} (n:Nat),bw K G xs ds->bw K G (xs.take n) (ds.take n)
 |_,_,0,_=>.nil
 |_,_,_ + 1,.nil=>.nil
 |_,_,n + 1,.cons r t=>.cons r (bw.take n t)
theorem bw.drop:∀{xs:List V} {ds:List D} (n:Nat),bw K G xs ds->bw K G (xs.drop n) (ds.drop n)
 |_,_,0,r=>r
 |_,_,_ + 1,.nil=>.nil
 |_,_,n + 1,.cons _ t=>bw.drop n t
mutual
def xY:D->Bool
 | .dict _=>false
 | .list ds=>nK ds
 | .tuple ds=>nK ds
 |_=>true
def nK:List D->Bool
 | []=>true
 |d :: ds=>xY d && nK ds
end
mutual
theorem Rp.rep:∀{x:V} {d:D},Rp K G x d->xY d=true->Rep K G x d
 |_,_,.non,_=>.non
 |_,_,.bl b,_=>.bl b
 |_,_,.int i,_=>.int i
 |_,_,.str x,_=>.str x
 |_,_,.tup h hs,e=>.tup h (bw.reps hs (by simpa[xY] using e))
 |_,_,.lst h hs,e=>.lst (.inl (.inl h)) (bw.reps hs (by simpa[xY] using e))
 |_,_,.scr _,e=>by simp[xY] at e
 |_,_,.dK _ _,e=>by simp[xY] at e
 |_,_,.dT _ _,e=>by simp[xY] at e
theorem bw.reps:∀{xs:List V} {ds:List D},bw K G xs ds->nK ds=true->iL K G xs ds
 |_,_,.nil,_=>.nil
 |_,_,.cons h hs,e=>.cons (Rp.rep h (by simp[nK] at e;exact e.1)) (bw.reps hs (by simp[nK] at e;exact e.2))
end
def Own (K:Frag)(G H:Hp)(a:Addr):D->Prop
 | .list ds=>∃xs,H a=some (.lst xs)/\bw K G xs ds
 | .dict ds=>(∃kvs,H a=some (.dK kvs)/\xo K G kvs ds)\/∃kvs,H a=some (.dT kvs)/\xm K G kvs ds
 |_=>False
def Own.obj {a:Addr}{d:D}(h:Own K G H a d):∃o,H a=some o:=by
 cases d <;> first |exact h.elim |skip
 ·obtain⟨xs,e,_⟩:=h;exact⟨_,e⟩
 ·rcases h with⟨_,e,_⟩ | ⟨_,e,_⟩ <;> exact⟨_,e⟩
def Own.mono {a:Addr}{d:D}(h:Own K G H a d)(s:af G G')(m:∀o,H a=some o->Kt H' a o):Own K G' H' a d:=by
 cases d <;> first |exact h.elim |skip
 ·obtain⟨xs,e,r⟩:=h;exact⟨xs,m _ e,r.mono s⟩
 ·rcases h with⟨k,e,r⟩ | ⟨k,e,r⟩
  ·exact .inl ⟨k,m _ e,r.mono s⟩
  ·exact .inr ⟨k,m _ e,r.mono s⟩
def Own.rp {a:Addr}{d:D}(h:Own K G H a d)(n:G a=none){G':Hp}(s:af G G')(e:∀o,H a=some o->G' a=some o):Rp K G' (.ref a) d:=by
 cases d <;> first |exact h.elim |skip
 ·obtain⟨xs,q,r⟩:=h;exact .lst (e _ q) (r.mono s)
 ·rcases h with⟨k,q,r⟩ | ⟨k,q,r⟩
  ·exact .dK (e _ q) (r.mono s)
  ·exact .dT (e _ q) (r.mono s)
def jk (K:Frag)(B:Option Addr)(G H:Hp)(v:V)(d:D):Prop:=Rp K G v d\/∃a,v=.ref a/\B≠some a/\Own K G H a d
def fm (B:Option Addr)(H H':Hp):Prop:=(∀b o,H b=some o->B≠some b->Kt H' b o)/\∀b o u,H b=some (.aU o u)->H' b=some (.aU o u)
def fm.refl (B:Option Addr)(H:Hp):fm B H H:=⟨λ_ _ h _=>Kt.of h,λ_ _ _ h=>h⟩
theorem lQ {B:Option Addr}{b:Addr}{o:HO}(h1:Kt H b o)(y:fm B H H')(n:B≠some b):Kt H' b o:=by
 cases o with
 |tbl ps=>
  obtain⟨m,e,k⟩:=h1
  obtain⟨m2,e2,k2⟩:=y.1 b _ e n
  refine⟨m ++ m2,by rw[e2,Array.append_assoc],λc hc=>?_⟩
  rw[Array.toList_append,HP] at hc
  rcases hc with hc |hc
  ·obtain⟨o,eo,io⟩:=k c hc;exact⟨o,y.2 c _ _ eo,io⟩
  ·exact k2 c hc
 |_=>exact y.1 b _ h1 n
def fm.trans {B:Option Addr}{H1:Hp}(x:fm B H H1)(y:fm B H1 H'):fm B H H':=⟨λb o h n=>lQ (x.1 b o h n) y n,λb o u h=>y.2 b o u (x.2 b o u h)⟩
def af.mov (s:af H H')(B:Option Addr):fm B H H':=⟨λb o h _=>s b o h,λb o u h=>s b _ h⟩
def jk.mono {B:Option Addr}{v:V}{d:D}(h:jk K B G H v d)(s:af G G')(m:fm B H H'):jk K B G' H' v d:=by
 rcases h with h | ⟨a,e,n,h⟩
 ·exact .inl (h.mono s)
 ·exact .inr ⟨a,e,n,h.mono s λo q=>m.1 a o q n⟩
def jk.rpH {B:Option Addr}{v:V}{d:D}(h:jk K B G H v d)(s:af G H):Rp K H v d:=by
 rcases h with h | ⟨a,rfl,n,h⟩
 ·exact h.mono s
 ·cases d <;> first |exact h.elim |skip
  ·obtain⟨xs,q,r⟩:=h;exact .lst q (r.mono s)
  ·rcases h with⟨k,q,r⟩ | ⟨k,q,r⟩
   ·exact .dK q (r.mono s)
   ·exact .dT q (r.mono s)
def jk.list {B:Option Addr}{v:V}{ds:List D}(h:jk K B G H v (.list ds))(s:af G H):∃a xs,v=.ref a/\Rd H a (.lst xs)/\bw K G xs ds:=by
 rcases h with h | ⟨a,rfl,n,xs,q,r⟩
 ·cases h with
  |lst h r=>exact⟨_,_,rfl,.inl (s _ _ h),r⟩
 ·exact⟨a,xs,rfl,.inl q,r⟩
def jk.tuple {B:Option Addr}{v:V}{ds:List D}(h:jk K B G H v (.tuple ds))(s:af G H):∃a xs,v=.ref a/\fK K H a xs/\bw K G xs ds:=by
 rcases h with h | ⟨a,rfl,n,h⟩
 ·cases h with
  |tup h r=>exact⟨_,_,rfl,h.grow s.grow,r⟩
 ·exact h.elim
def jk.int {B:Option Addr}{v:V}{i:Int}(h:jk K B G H v (.int i)):v=.int i:=by
 rcases h with h | ⟨a,rfl,n,h⟩
 ·cases h;rfl
 ·exact h.elim
def jk.bool {B:Option Addr}{v:V}{b:Bool}(h:jk K B G H v (.bool b)):v=.bl b:=by
 rcases h with h | ⟨a,rfl,n,h⟩
 ·cases h;rfl
 ·exact h.elim
def jk.str {B:Option Addr}{v:V}{x:Str}(h:jk K B G H v (.str x)):v=.str x:=by
 rcases h with h | ⟨a,rfl,n,h⟩
 ·cases h;rfl
 ·exact h.elim
def jk.none {B:Option Addr}{v:V}(h:jk K B G H v .none):v=.non:=by
 rcases h with h | ⟨a,rfl,n,h⟩
 ·cases h;rfl
 ·exact h.elim
end
def Fz:HO->Prop
 | .tup _=>True
 | .aU _ _=>True
 |_=>False
def Mx (H:Hp)(b:Addr):Prop:=H b≠none/\∀o,H b=some o->¬Fz o
def Mx.lst {H:Hp}{b:Addr}{xs:List V}(h:H b=some (.lst xs)):Mx H b:=⟨by rw[h];simp,λys z=>by rw[h] at z;cases z;exact λy=>y⟩
theorem Mx.same {H H':Hp}{b:Addr}(h:Mx H b)(m:∀o,H b=some o->Kt H' b o):Mx H' b:=by
 obtain⟨h1,h2⟩:=h
 cases e:H b with
 |none=>exact absurd e h1
 |some o=>
  obtain⟨u,eu,k1,k2⟩:=(m o e).some
  refine⟨by rw[eu];simp,λxs z=>?_⟩
  rw[eu] at z
  cases z
  by_cases c:∃ps,o=.tbl ps
  ·obtain⟨ps,e⟩:=k2 c;rw[e];exact λy=>y
  ·rw[k1 λps e=>c ⟨ps,e⟩];exact h2 o e
def Own.mx {K:Frag}{G H:Hp}{a:Addr}{d:D}(h:Own K G H a d):Mx H a:=by
 cases d <;> first |exact h.elim |skip
 ·obtain⟨xs,e,_⟩:=h;exact Mx.lst e
 ·rcases h with⟨k,e,_⟩ | ⟨k,e,_⟩ <;> exact⟨by rw[e];simp,λys z=>by rw[e] at z;cases z;exact λy=>y⟩
open Classical in
noncomputable def fB (G H:Hp):Hp:=λb=>match G b with
 |some o=>some o
 |none=>match H b with
  |some o=>if Fz o then some o else none
  |none=>none
def oI {G H:Hp}:af G (fB G H):=λb o e=>Kt.of (by unfold fB;rw[e])
theorem vC {G H:Hp}(s:af G H){b:Addr}{o:HO}(e:H b=some o)(f:Fz o):fB G H b=some o:=by
 unfold fB
 cases q:G b with
 |some u=>
  obtain⟨u',eu,k1,k2⟩:=(s b u q).some
  rw[e] at eu
  cases eu
  by_cases c:∃ps,u=.tbl ps
  ·obtain⟨ps,z⟩:=k2 c;subst z;exact f.elim
  ·rw[k1 λps z=>c ⟨ps,z⟩]
 |none=>simp only[e];rw[HA f]
theorem mT {G H:Hp}(s:af G H):af (fB G H) H:=λb o e=>by
 unfold fB at e
 cases q:G b with
 |some u=>rw[q] at e;cases e;exact s b _ q
 |none=>
  rw[q] at e
  cases q2:H b with
  |none=>rw[q2] at e;cases e
  |some u=>
   rw[q2] at e
   dsimp only at e
   split at e
   ·cases e;exact Kt.of q2
   ·cases e
theorem uy {G H H':Hp}(hh:af H H'){b:Addr}(m:Mx H b):fB G H' b=G b:=by
 unfold fB
 cases q:G b with
 |some u=>rfl
 |none=>
  obtain⟨h1,h2⟩:=m
  cases e:H b with
  |none=>exact absurd e h1
  |some o=>
   have hm:=(show Mx H b from⟨h1,h2⟩).same (hh b)
   cases e2:H' b with
   |none=>rfl
   |some u=>simp only;rw[HI (hm.2 u e2)]
def ke {K:Frag}{G H:Hp}(s:af G H){a:Addr}{xs:List V}(h:fK K H a xs):fK K (fB G H) a xs:=by
 rcases h with (h | ⟨o,h⟩) |h
 ·exact .inl (.inl (vC s h trivial))
 ·exact .inl (.inr ⟨o,vC s h trivial⟩)
 ·exact .inr h
structure Fx where
 K:Frag
 H0:Hp
 G0:Hp
 par:List Addr
 ca:Str->Addr
 br:Nat->Bool
 bx:Option Addr
inductive Sl where
 |no |fz (d:D) |ow (d:D) |bx |br (d:D)
abbrev En:=List Sl
inductive Nv where
 |no |da (d:D) |bx
def Sl.val:Sl->Nv
 | .no=>.no
 | .fz d=>.da d
 | .ow d=>.da d
 | .br d=>.da d
 | .bx=>.bx
def vl (env:En):List Nv:=env.map Sl.val
def FK (Γ:Fx)(B:Option Addr)(G H:Hp)(i:Nat)(o:Option (Option V)):Sl->Prop
 | .no=>True
 | .fz d=>∃v,o=some (some v)/\Rp Γ.K G v d
 | .ow d=>∃a,o=some (some (.ref a))/\Γ.H0 a=none/\G a=none/\B≠some a/\Own Γ.K G H a d
 | .bx=>∃a,o=some (some (.ref a))/\B=some a
 | .br d=>Γ.br i=true/\∃a,o=some (some (.ref a))/\B≠some a/\a∉Γ.par/\Own Γ.K G H a d
structure SR (Γ:Fx)(B:Option Addr)(G H:Hp)(σ:St)(env:En)(β:Int):Prop where
 sub:af G H
 old:af Γ.G0 G
 new:∀b,Mx Γ.H0 b->Γ.G0 b=none->G b=none
 keep:∀b o,Γ.H0 b=some o->b∉Γ.par->Kt H b o
 pin:∀b,b∈Γ.par->Mx H b
 fix:∀b,Γ.bx=some b->B=some b
 box:∀b,B=some b->H b=some (.lst [.int β])/\G b=none/\(b∈Γ.par\/Γ.H0 b=none)
 len:σ.length=env.length
 slot:∀(i:Nat) (s:Sl),env[i]? =some s->FK Γ B G H i (σ[i]?) s
 sep:∀(i j:Nat) (a:Addr) (d e:D),env[i]? =some (.ow d)->env[j]? =some (.ow e)->σ[i]? =some (some (.ref a))->σ[j]? =some (some (.ref a))->i=j
structure Ext (G H G' H':Hp):Prop where
 hh:af H H'
 gg:af G G'
 gh:af G' H'
 on:∀b,Mx H b->G' b=G b
def Ext.refl {G H:Hp}(s:af G H):Ext G H G H:=⟨af.refl _,af.refl _,s,λ_ _=>rfl⟩
def Ext.tups {G H H':Hp}(s:af G H)(hh:af H H'):Ext G H (fB G H') H':=⟨hh,oI,mT (s.trans hh),λ_ m=>uy hh m⟩
def Ext.new {G H:Hp}(s:af G H){p:Addr}{o:HO}(h:H p=none):Ext G H (upd G p o) (upd H p o):=by
 refine⟨af.new h,af.new (s.free h),λb u e=>?_,λb hb=>?_⟩
 ·by_cases z:b=p
  ·subst z;rw[aq] at e;exact Kt.of (by rw[aq];exact e)
  ·rw[ak z] at e;exact gr (s b u e) z (λx y w=>by rw[h] at w;cases w)
 ·exact ak (λz=>hb.1 (by rw[z];exact h))
def Ext.own {G H:Hp}(s:af G H){p:Addr}{o:HO}(h:H p=none):Ext G H G (upd H p o):=
 ⟨af.new h,af.refl _,s.trans (af.new h),λ_ _=>rfl⟩
def Ext.trans {G H G1 H1 G2 H2:Hp}(x:Ext G H G1 H1)(y:Ext G1 H1 G2 H2):Ext G H G2 H2:=by
 refine⟨x.hh.trans y.hh,x.gg.trans y.gg,y.gh,λb hb=>?_⟩
 rw[y.on b (hb.same λo e=>x.hh b o e),x.on b hb]
section
variable {Γ:Fx}{B:Option Addr}{G H G' H':Hp}{σ:St}{env:En}{β:Int}
def SR.there (I:SR Γ B G H σ env β){b:Addr}(h:Γ.H0 b≠none):H b≠none:=by
 by_cases hp:b∈Γ.par
 ·exact (I.pin b hp).1
 ·cases e:Γ.H0 b with
  |none=>exact absurd e h
  |some o=>obtain⟨u,eu,_⟩:=(I.keep b o e hp).some;rw[eu];simp
def SR.thereM (I:SR Γ B G H σ env β){b:Addr}(h:Mx Γ.H0 b):Mx H b:=by
 by_cases hp:b∈Γ.par
 ·exact I.pin b hp
 ·exact h.same λo e=>I.keep b o e hp
def SR.ext (I:SR Γ B G H σ env β)(x:Ext G H G' H'):SR Γ B G' H' σ env β:=by
 refine⟨x.gh,I.old.trans x.gg,λb h1 h2=>?_,λb o h1 h2=>(I.keep b o h1 h2).step x.hh,λb hb=>?_,I.fix,λb e=>?_,I.len,λi s e=>?_,I.sep⟩
 ·rw[x.on b (I.thereM h1)];exact I.new b h1 h2
 ·exact (I.pin b hb).same λo e=>x.hh b o e
 ·obtain⟨h1,h2,h3⟩:=I.box b e
  exact⟨x.hh b _ h1,by rw[x.on b (Mx.lst h1)];exact h2,h3⟩
 ·have q:=I.slot i s e
  cases s with
  |no=>trivial
  |fz d=>obtain⟨v,h1,h2⟩:=q;exact⟨v,h1,h2.mono x.gg⟩
  |ow d=>
   obtain⟨a,h1,h2,h3,h4,h5⟩:=q
   exact⟨a,h1,h2,by rw[x.on a h5.mx];exact h3,h4,h5.mono x.gg λo q=>x.hh a o q⟩
  |bx=>exact q
  |br d=>obtain⟨b1,a,h1,h4,hp,h5⟩:=q;exact⟨b1,a,h1,h4,hp,h5.mono x.gg λo q=>x.hh a o q⟩
def gH (env:En)(i:Nat):En:=match env[i]? with
 |some (.ow d)=>env.set i (.fz d)
 |_=>env
def aU (L:List Nat)(env:En):En:=L.foldl gH env
def dB (L M:List Nat)(env:En):aU (L ++ M) env=aU M (aU L env):=by unfold aU;rw[List.foldl_append]
def sM (env:En)(i:Nat)(s:Sl)(h:∀t,env[i]? =some t->t.val=s.val):vl (env.set i s)=vl env:=by
 unfold vl
 apply Kv
 intro j
 rw[HL,HL,Kw]
 by_cases e:i=j
 ·subst e
  by_cases hi:i < env.length
  ·simp only[IM,hi]
   have:=h _ (Hu hi)
   simp[Hu hi,this]
  ·simp only[IM,hi,Im]
   rw[List.getElem?_eq_none (by omega)]
 ·simp[e]
def Bg (env:En)(i:Nat):vl (gH env i)=vl env:=by
 unfold gH
 split
 ·rename_i d e
  exact sM _ _ _ λt ht=>by rw[e] at ht;cases ht;rfl
 ·rfl
theorem iS (L:List Nat)(env:En):vl (aU L env)=vl env:=by
 unfold aU
 induction L generalizing env with
 |nil=>rfl
 |cons i L ih=>rw[foldl_cons,ih,Bg]
theorem Ce {i:Nat}{d:D}(h:(vl env)[i]? =some (.da d)):env[i]? =some (.fz d)\/env[i]? =some (.ow d)\/env[i]? =some (.br d):=by
 unfold vl at h
 rw[HL] at h
 cases e:env[i]? with
 |none=>rw[e] at h;simp at h
 |some s=>
  rw[e] at h
  cases s with
  |no=>simp[Sl.val] at h
  |fz d'=>simp[Sl.val] at h;subst h;exact .inl rfl
  |ow d'=>simp[Sl.val] at h;subst h;exact .inr (.inl rfl)
  |bx=>simp[Sl.val] at h
  |br d'=>simp[Sl.val] at h;subst h;exact .inr (.inr rfl)
theorem E7 {i:Nat}(h:(vl env)[i]? =some .bx):env[i]? =some .bx:=by
 unfold vl at h
 rw[HL] at h
 cases e:env[i]? with
 |none=>rw[e] at h;simp at h
 |some s=>
  rw[e] at h
  cases s with
  |bx=>rfl
  |_=>simp[Sl.val] at h
def SR.freeze (I:SR Γ B G H σ env β)(i:Nat)(hb:Γ.br i=false){d:D}(h:(vl env)[i]? =some (.da d)):∃G' v,SR Γ B G' H σ (gH env i) β/\af G G'/\σ[i]? =some (some v)/\Rp Γ.K G' v d:=by
 rcases Ce h with e |e |e
 ·obtain⟨v,h1,h2⟩:=I.slot i _ e
  exact⟨G,v,by unfold gH;rw[e];exact I,af.refl _,h1,h2⟩
 rotate_left
 ·obtain⟨z,_⟩:=I.slot i _ e
  rw[hb] at z;cases z
 ·obtain⟨a,h1,h2,h3,h4,h5⟩:=I.slot i _ e
  obtain⟨o,ho⟩:=h5.obj
  have sG:af G (upd G a o):=af.new h3
  have hi:i < env.length:=(HB.mp e).1
  have hr:Rp Γ.K (upd G a o) (.ref a) d:=h5.rp h3 sG λo' q=>by rw[ho] at q;cases q;exact aq
  refine⟨upd G a o,.ref a,?_,sG,h1,hr⟩
  unfold gH
  rw[e]
  refine⟨λb u q=>?_,I.old.trans sG,λb n1 n2=>?_,I.keep,I.pin,I.fix,λb q=>?_,by rw[Jh];exact I.len,λj s q=>?_,λj k c d1 d2 q1 q2 q3 q4=>?_⟩
  ·by_cases z:b=a
   ·subst z;rw[aq] at q;cases q;exact Kt.of ho
   ·rw[ak z] at q;exact I.sub b u q
  ·rw[ak (λz=>n1.1 (by rw[z];exact h2))];exact I.new b n1 n2
  ·obtain⟨k1,k2,k3⟩:=I.box b q
   exact⟨k1,by rw[ak (λz=>h4 (by rw[<-z];exact q))];exact k2,k3⟩
  ·by_cases z:j=i
   ·subst z
    rw[HY hi] at q
    cases q
    exact⟨.ref a,h1,hr⟩
   ·rw[HS (Ne.symm z)] at q
    have w:=I.slot j s q
    cases s with
    |no=>trivial
    |fz d'=>obtain⟨v,w1,w2⟩:=w;exact⟨v,w1,w2.mono sG⟩
    |ow d'=>
     obtain⟨c,w1,w2,w3,w4,w5⟩:=w
     have ca:c≠a:=λz2=>z (I.sep j i c d' d q e w1 (by rw[z2];exact h1))
     exact⟨c,w1,w2,by rw[ak ca];exact w3,w4,w5.mono sG λo q=>Kt.of q⟩
    |bx=>exact w
    |br d'=>obtain⟨b1,c,w1,w4,wp,w5⟩:=w;exact⟨b1,c,w1,w4,wp,w5.mono sG λo q=>Kt.of q⟩
  ·have ne:∀{j:Nat} {d':D},(env.set i (Sl.fz d))[j]? =some (.ow d')->env[j]? =some (.ow d'):=λ{j d'} q=>by
    by_cases z:j=i
    ·subst z;rw[HY hi] at q;cases q
    ·rw[HS (Ne.symm z)] at q;exact q
   exact I.sep j k c d1 d2 (ne q1) (ne q2) q3 q4
theorem SR.aU (I:SR Γ B G H σ env β)(L:List Nat)(hb:∀i,i∈L->Γ.br i=false):∃G',SR Γ B G' H σ (aU L env) β/\af G G':=by
 induction L generalizing env G with
 |nil=>exact⟨G,I,af.refl _⟩
 |cons i L ih=>
  show ∃G',SR Γ B G' H σ (L2.aU L (gH env i)) β/\af G G'
  have key:∃G1,SR Γ B G1 H σ (gH env i) β/\af G G1:=by
   cases e:env[i]? with
   |none=>exact⟨G,by unfold gH;rw[e];exact I,af.refl _⟩
   |some s=>
    cases s with
    |ow d=>
     obtain⟨G1,v,h1,h2,_⟩:=I.freeze i (hb i (Hz ..)) (d:=d) (by unfold vl;rw[HL,e];rfl)
     exact⟨G1,h1,h2⟩
    |_=>exact⟨G,by unfold gH;rw[e];exact I,af.refl _⟩
  obtain⟨G1,I1,s1⟩:=key
  obtain⟨G2,I2,s2⟩:=ih I1 λj hj=>hb j (HG _ hj)
  exact⟨G2,I2,s1.trans s2⟩
def SR.set (I:SR Γ B G H σ env β){i:Nat}(hi:i < env.length){v:V}{d:D}(h:Rp Γ.K G v d):SR Γ B G H (σ.set i (some v)) (env.set i (.fz d)) β:=by
 have hs:i < σ.length:=by rw[I.len];exact hi
 refine⟨I.sub,I.old,I.new,I.keep,I.pin,I.fix,I.box,by rw[Jh,Jh];exact I.len,λj s q=>?_,λj k c d1 d2 q1 q2 q3 q4=>?_⟩
 ·by_cases z:j=i
  ·subst z
   rw[HY hi] at q
   cases q
   exact⟨v,by rw[HY hs],h⟩
  ·rw[HS (Ne.symm z)] at q ⊢
   exact I.slot j s q
 ·have ne:∀{j:Nat} {d':D},(env.set i (Sl.fz d))[j]? =some (.ow d')->j≠i/\env[j]? =some (.ow d'):=λ{j d'} q=>by
   by_cases z:j=i
   ·subst z;rw[HY hi] at q;cases q
   ·rw[HS (Ne.symm z)] at q;exact⟨z,q⟩
  obtain⟨n1,e1⟩:=ne q1
  obtain⟨n2,e2⟩:=ne q2
  rw[HS (Ne.symm n1)] at q3
  rw[HS (Ne.symm n2)] at q4
  exact I.sep j k c d1 d2 e1 e2 q3 q4
def SR.setOw (I:SR Γ B G H σ env β){i:Nat}(hi:i < env.length){a:Addr}{d:D}(h0:Γ.H0 a=none)(hg:G a=none)(hb:B≠some a)(h:Own Γ.K G H a d)(hn:∀(j:Nat) (d':D),env[j]? =some (.ow d')->j≠i->σ[j]?≠some (some (.ref a))):SR Γ B G H (σ.set i (some (.ref a))) (env.set i (.ow d)) β:=by
 have hs:i < σ.length:=by rw[I.len];exact hi
 refine⟨I.sub,I.old,I.new,I.keep,I.pin,I.fix,I.box,by rw[Jh,Jh];exact I.len,λj s q=>?_,λj k c d1 d2 q1 q2 q3 q4=>?_⟩
 ·by_cases z:j=i
  ·subst z
   rw[HY hi] at q
   cases q
   exact⟨a,by rw[HY hs],h0,hg,hb,h⟩
  ·rw[HS (Ne.symm z)] at q ⊢
   exact I.slot j s q
 ·by_cases z1:j=i
  ·by_cases z2:k=i
   ·rw[z1,z2]
   ·subst z1
    rw[HS (Ne.symm z2)] at q2 q4
    rw[HY hs] at q3
    cases q3
    exact absurd q4 (hn k d2 q2 z2)
  ·by_cases z2:k=i
   ·subst z2
    rw[HS (Ne.symm z1)] at q1 q3
    rw[HY hs] at q4
    cases q4
    exact absurd q3 (hn j d1 q1 z1)
   ·rw[HS (Ne.symm z1)] at q1 q3
    rw[HS (Ne.symm z2)] at q2 q4
    exact I.sep j k c d1 d2 q1 q2 q3 q4
def SR.fresh (I:SR Γ B G H σ env β){a:Addr}(h:H a=none):Γ.H0 a=none/\G a=none/\B≠some a/\∀(j:Nat) (d:D),env[j]? =some (.ow d)->σ[j]?≠some (some (.ref a)):=by
 have hB:B≠some a:=λz=>by rw[(I.box a z).1] at h;cases h
 refine⟨?_,I.sub.free h,hB,λj d e z=>?_⟩
 ·cases e:Γ.H0 a with
  |none=>rfl
  |some o=>exact absurd h (I.there (by rw[e];simp))
 ·obtain⟨c,h1,_,_,_,h5⟩:=I.slot j _ e
  rw[z] at h1
  cases h1
  obtain⟨o,ho⟩:=h5.obj
  rw[h] at ho;cases ho
def SR.write (I:SR Γ B G H σ env β)(hb:∀j,Γ.br j=false){i:Nat}{a:Addr}{d d':D}{o:HO}(e:env[i]? =some (.ow d))(ea:σ[i]? =some (some (.ref a)))(h:∀H',H' a=some o->af G H'->Own Γ.K G H' a d'):SR Γ B G (upd H a o) σ (env.set i (.ow d')) β:=by
 obtain⟨a',h1,h2,h3,h4,h5⟩:=I.slot i _ e
 rw[ea] at h1;cases h1
 have hi:i < env.length:=(HB.mp e).1
 have ha:∀x y,H a≠some (.aU x y):=λx y w=>h5.mx.2 _ w trivial
 have sub:af G (upd H a o):=λb u q=>gr (I.sub b u q) (λz=>by rw[z,h3] at q;cases q) ha
 refine⟨sub,I.old,I.new,λb u q n=>?_,λb q=>?_,I.fix,λb q=>?_,by rw[Jh];exact I.len,λj s q=>?_,λj k c d1 d2 q1 q2 q3 q4=>?_⟩
 ·exact gr (I.keep b u q n) (λz=>by rw[z,h2] at q;cases q) ha
 ·by_cases z:b=a
  ·subst z;exact (h _ aq sub).mx
  ·exact (I.pin b q).same λo e=>Kt.of (by rw[ak z];exact e)
 ·obtain⟨k1,k2,k3⟩:=I.box b q
  exact⟨by rw[ak (λz=>h4 (by rw[<-z];exact q))];exact k1,k2,k3⟩
 ·by_cases z:j=i
  ·subst z
   rw[HY hi] at q
   cases q
   exact⟨a,ea,h2,h3,h4,h _ aq sub⟩
  ·rw[HS (Ne.symm z)] at q
   have w:=I.slot j s q
   cases s with
   |no=>trivial
   |fz d1=>exact w
   |ow d1=>
    obtain⟨c,w1,w2,w3,w4,w5⟩:=w
    have ca:c≠a:=λz2=>z (I.sep j i c d1 d q e w1 (by rw[z2];exact ea))
    exact⟨c,w1,w2,w3,w4,w5.mono (af.refl _) λo q=>Kt.of (by rw[ak ca];exact q)⟩
   |bx=>exact w
   |br d1=>obtain⟨b1,_⟩:=w;rw[hb j] at b1;cases b1
 ·have back:∀{j:Nat} {d1:D},(env.set i (Sl.ow d'))[j]? =some (.ow d1)->∃d2,env[j]? =some (.ow d2):=λ{j d1} q=>by
   by_cases z:j=i
   ·subst z;exact⟨d,e⟩
   ·rw[HS (Ne.symm z)] at q;exact⟨d1,q⟩
  obtain⟨_,b1⟩:=back q1
  obtain⟨_,b2⟩:=back q2
  exact I.sep j k c _ _ b1 b2 q3 q4
end
inductive R (α:Type) where
 |ok (a:α) (β:Int)
 |exc (c:Str)
 |bad
def R.bnd {α γ:Type}(r:R α)(k:α->Int->R γ):R γ:=match r with
 | .ok a β=>k a β
 | .exc c=>.exc c
 | .bad=>.bad
def R.of {α:Type}(o:Option α)(β:Int):R α:=match o with
 |some a=>.ok a β
 |none=>.bad
abbrev VF (α:Type):=List Nv->Int->R α
def Kp (Γ:Fx)(H':Hp):Prop:=∀b o,Γ.H0 b=some o->b∉Γ.par->Kt H' b o
def Out {α:Type}(Γ:Fx)(E:XK)(r:R α)(P:α->Int->Prop):Prop:=match r with
 | .ok a β=>P a β
 | .exc c=>∀H',Kp Γ H'->E (.ref (Γ.ca c)) none H'
 | .bad=>False
section
variable {α γ:Type}{Γ:Fx}{E:XK}
theorem Out.bnd {r:R α}{k:α->Int->R γ}{P:γ->Int->Prop}(h:Out Γ E (r.bnd k) P):Out Γ E r λa β=>Out Γ E (k a β) P:=by
 cases r with
 |ok a β=>exact h
 |exc c=>exact h
 |bad=>exact h
theorem Out.imp {r:R α}{P P':α->Int->Prop}(h:Out Γ E r P)(i:∀a β,P a β->P' a β):Out Γ E r P':=by
 cases r with
 |ok a β=>exact i a β h
 |exc c=>exact h
 |bad=>exact h
theorem Out.of {o:Option α}{β:Int}{P:α->Int->Prop}(h:Out Γ E (R.of o β) P):∃a,o=some a/\P a β:=by
 cases o with
 |none=>exact h.elim
 |some a=>exact⟨a,rfl,h⟩
end
inductive Md where
 |b |v |w
def VO (K:Frag)(B:Option Addr)(H G' H':Hp):Md->D->V->Prop
 | .b,d,v=>jk K B G' H' v d
 | .v,d,v=>Rp K G' v d
 | .w,d,v=>∃a,v=.ref a/\H a=none/\G' a=none/\Own K G' H' a d
def pT (Γ:Fx)(E:XK)(f:VF D)(L:List Nat)(md:Md):TE:=λσ H Q=>∃env G B β,SR Γ B G H σ env β/\
 Out Γ E (f (vl env) β) λd β'=>∀v G' H',SR Γ B G' H' σ (aU L env) β'->af G G'->fm B H H'->VO Γ.K B H G' H' md d v->Q v H'
def SE (X:Cx)(Γ:Fx)(E:XK)(e:Expr)(f:VF D)(L:List Nat)(md:Md):Prop:=PE X e (pT Γ E f L md)
def qT (Γ:Fx)(E:XK)(f:VF Bool)(L:List Nat):TT:=λσ H Q=>∃env G B β,SR Γ B G H σ env β/\
 Out Γ E (f (vl env) β) λc β'=>∀G' H',SR Γ B G' H' σ (aU L env) β'->af G G'->fm B H H'->Q c H'
def xp (X:Cx)(Γ:Fx)(E:XK)(e:Expr)(f:VF Bool)(L:List Nat):Prop:=PT X e (qT Γ E f L)
def zW (X:Cx)(Γ:Fx)(E:XK)(e:Expr)(f:VF Bool)(L:List Nat):Prop:=PW X e (qT Γ E f L)
def aT (Γ:Fx)(E:XK)(f:VF (List D))(L:List Nat):TA:=λσ H Q=>∃env G B β,SR Γ B G H σ env β/\
 Out Γ E (f (vl env) β) λds β'=>∀vs G' H',SR Γ B G' H' σ (aU L env) β'->af G G'->fm B H H'->bw Γ.K G' vs ds->Q vs H'
def SA (X:Cx)(Γ:Fx)(E:XK)(es:List Expr)(f:VF (List D))(L:List Nat):Prop:=PA X es (aT Γ E f L)
def PE.post' {X:Cx}{e:Expr}{t u:TE}(h:PE X e t)(m:∀σ H Q,u σ H Q->t σ H Q):PE X e u:=λpins s σ H Q I q=>h pins s σ H Q I (m σ H Q q)
def PT.post {X:Cx}{e:Expr}{t u:TT}(h:PT X e t)(m:∀σ H Q,u σ H Q->t σ H Q):PT X e u:=λpins s σ H Q I q=>h pins s σ H Q I (m σ H Q q)
def PW.post {X:Cx}{e:Expr}{t u:TT}(h:PW X e t)(m:∀σ H Q,u σ H Q->t σ H Q):PW X e u:=λwh pins s σ H Q I q=>h wh pins s σ H Q I (m σ H Q q)
def PA.post {X:Cx}{es:List Expr}{t u:TA}(h:PA X es t)(m:∀σ H Q,u σ H Q->t σ H Q):PA X es u:=λpos pins s σ H Q I q=>h pos pins s σ H Q I (m σ H Q q)
def PS.post {X:Cx}{st:Stmt}{t u:TS}(h:PS X st t)(m:∀D σ H,u D σ H->t D σ H):PS X st u:=λpins s σ H D I q=>h pins s σ H D I (m D σ H q)
def dat:Option Nv->Option D
 |some (.da d)=>some d
 |_=>none
def gv (i:Nat):VF D:=λvs β=>R.of (dat vs[i]?) β
def cst (d:D):VF D:=λ_ β=>.ok d β
section
variable {X:Cx}{Γ:Fx}{E:XK}{e a b c:Expr}{f fa fb fc:VF D}{L La Lb Lc:List Nat}{md ma mb mc:Md}{pos:Pos}
theorem join_some {o:Option Nv}{d:D}(h:dat o=some d):o=some (.da d):=by
 cases o with
 |none=>cases h
 |some o=>cases o with
  |da x=>cases h;rfl
  |_=>cases h
def SR.letIn {B:Option Addr}{G H:Hp}{σ:St}{env:En}{β:Int}(I:SR Γ B G H σ env β){p:Addr}{d:D}(h0:Γ.H0 p=none)(hg:G p=none)(hb:B≠some p)(hn:∀(j:Nat) (d':D),env[j]? =some (.ow d')->σ[j]?≠some (some (.ref p)))(h:Own Γ.K G H p d) :
  ∃G',SR Γ B G' H σ env β/\af G G'/\Rp Γ.K G' (.ref p) d:=by
 obtain⟨o,ho⟩:=h.obj
 have sG:af G (upd G p o):=af.new hg
 refine⟨upd G p o,⟨λb u q=>?_,I.old.trans sG,λb n1 n2=>?_,I.keep,I.pin,I.fix,λb q=>?_,I.len,λj s q=>?_,I.sep⟩,sG,h.rp hg sG λo' q=>by rw[ho] at q;cases q;exact aq⟩
 ·by_cases z:b=p
  ·subst z;rw[aq] at q;cases q;exact Kt.of ho
  ·rw[ak z] at q;exact I.sub b u q
 ·rw[ak (λz=>n1.1 (by rw[z];exact h0))];exact I.new b n1 n2
 ·obtain⟨k1,k2,k3⟩:=I.box b q
  exact⟨k1,by rw[ak (λz=>hb (by rw[<-z];exact q))];exact k2,k3⟩
 ·have w:=I.slot j s q
  cases s with
  |no=>trivial
  |fz d'=>obtain⟨v,w1,w2⟩:=w;exact⟨v,w1,w2.mono sG⟩
  |ow d'=>
   obtain⟨c,w1,w2,w3,w4,w5⟩:=w
   have ca:c≠p:=λz2=>hn j d' q (by rw[<-z2];exact w1)
   exact⟨c,w1,w2,by rw[ak ca];exact w3,w4,w5.mono sG λo q=>Kt.of q⟩
  |bx=>exact w
  |br d'=>obtain⟨b1,c,w1,w4,wp,w5⟩:=w;exact⟨b1,c,w1,w4,wp,w5.mono sG λo q=>Kt.of q⟩
def uO {env:En}{i j:Nat}{d:D}(h:(gH env i)[j]? =some (.ow d)):env[j]? =some (.ow d):=by
 unfold gH at h
 split at h
 ·rename_i d' e
  by_cases z:i=j
  ·subst z
   rw[HY (HB.mp e).1] at h;cases h
  ·rw[HS z] at h;exact h
 ·exact h
theorem pe {L:List Nat}{env:En}{j:Nat}{d:D}(h:(aU L env)[j]? =some (.ow d)):env[j]? =some (.ow d):=by
 unfold aU at h
 induction L generalizing env with
 |nil=>exact h
 |cons i L ih=>exact uO (ih h)
def SR.letW {B:Option Addr}{G H G' H':Hp}{σ:St}{env:En}{β β':Int}{L:List Nat}{d:D}{v:V}(I:SR Γ B G H σ env β)(I':SR Γ B G' H' σ (L2.aU L env) β')(h:VO Γ.K B H G' H' .w d v):∃G2,SR Γ B G2 H' σ (L2.aU L env) β'/\af G' G2/\Rp Γ.K G2 v d:=by
 obtain⟨p,rfl,h1,h2,h3⟩:=h
 obtain⟨q1,q2,q3,q4⟩:=I.fresh h1
 exact I'.letIn q1 h2 q3 (λj d' e=>q4 j d' (pe e)) h3
def SE.wv (h:SE X Γ E e f L .w):SE X Γ E e f L .v:=by
 refine PE.post' h λσ H Q ⟨env,G,B,β,I,o⟩=>⟨env,G,B,β,I,o.imp λd β' k v G' H' I' s m vo=>?_⟩
 obtain⟨G2,I2,s2,r⟩:=I.letW I' vo
 exact k v G2 H' I2 (s.trans s2) m r
theorem VO.brw {B:Option Addr}{H G' H':Hp}{d:D}{v:V}{K:Frag}(h:VO K B H G' H' md d v)(hB:∀x,B=some x->H x≠none):jk K B G' H' v d:=by
 cases md with
 |b=>exact h
 |v=>exact .inl h
 |w=>
  obtain⟨p,rfl,h1,h2,h3⟩:=h
  exact .inr ⟨p,rfl,λz=>hB p z h1,h3⟩
def SR.boxThere {B:Option Addr}{G H:Hp}{σ:St}{env:En}{β:Int}(I:SR Γ B G H σ env β):∀x,B=some x->H x≠none:=λx e=>by rw[(I.box x e).1];simp
def ah (i:Nat){x:Str}(hN:X.N[i]? =some x:=by rfl)(hv:wW X.env.scope x:=by first |exact Or.inl rfl |exact Or.inr (Or.inl rfl) |exact Or.inr (Or.inr rfl))(hd:(x == ("__debug__":Str))=false:=by decide)
  (hcd:(x == ("__classdict__":Str))=false:=by decide):SE X Γ E (.Name x pos) (gv i) [] .b:=by
 refine PE.post' (fu hN hv hd hcd) λσ H Q ⟨env,G,B,β,I,o⟩=>?_
 obtain⟨d,e,k⟩:=o.of
 have e:=join_some e
 rcases Ce e with q |q |q
 ·obtain⟨v,h1,h2⟩:=I.slot i _ q
  exact⟨v,h1,k v G H I (af.refl _) (fm.refl _ _) (.inl h2)⟩
 ·obtain⟨p,h1,h2,h3,h4,h5⟩:=I.slot i _ q
  exact⟨.ref p,h1,k _ G H I (af.refl _) (fm.refl _ _) (.inr ⟨p,rfl,h4,h5⟩)⟩
 ·obtain⟨_,p,h1,h4,_,h5⟩:=I.slot i _ q
  exact⟨.ref p,h1,k _ G H I (af.refl _) (fm.refl _ _) (.inr ⟨p,rfl,h4,h5⟩)⟩
def ay (i:Nat)(hb:Γ.br i=false){x:Str}(hN:X.N[i]? =some x:=by rfl)(hv:wW X.env.scope x:=by first |exact Or.inl rfl |exact Or.inr (Or.inl rfl) |exact Or.inr (Or.inr rfl))(hd:(x == ("__debug__":Str))=false:=by decide)
  (hcd:(x == ("__classdict__":Str))=false:=by decide):SE X Γ E (.Name x pos) (gv i) [i] .v:=by
 refine PE.post' (fu hN hv hd hcd) λσ H Q ⟨env,G,B,β,I,o⟩=>?_
 obtain⟨d,e,k⟩:=o.of
 obtain⟨G',v,I',s,h1,h2⟩:=I.freeze i hb (join_some e)
 exact⟨v,h1,k v G' H I' s (fm.refl _ _) h2⟩
def Ae {v:V}{d:D}(h:PE X e (tC v))(r:∀G,Rp Γ.K G v d):SE X Γ E e (cst d) [] .v:=by
 refine PE.post' h λσ H Q ⟨env,G,B,β,I,o⟩=>?_
 exact o v G H I (af.refl _) (fm.refl _ _) (r G)
def az {i:Int}{j}:SE X Γ E (.Constant (.int i) j pos) (cst (.int i)) [] .v:=Ae kF λ_=>.int i
def iP {i:Bool}{j}:SE X Γ E (.Constant (.bool i) j pos) (cst (.bool i)) [] .v:=Ae uH λ_=>.bl i
def C1 {j}:SE X Γ E (.Constant .none j pos) (cst .none) [] .v:=Ae C5 λ_=>.non
def AQ {x:Str}{i:Int}{t:Tok}(hg:Gl X x)(hm:X.mg x=some (.int i t))(hd:(x == ("__debug__":Str))=false:=by decide):SE X Γ E (.Name x pos) (cst (.int i)) [] .v:=Ae (BO hg hm (show RelV (.int i) _ from⟨_,rfl⟩) hd) λ_=>.int i
def two {W:V->V->Hp->Prop}{B:Option Addr}{G H:Hp}{σ:St}{env:En}{β:Int}(I:SR Γ B G H σ env β)
  (h:Out Γ E (fa (vl env) β) λd1 β1=>Out Γ E (fb (vl env) β1) λd2 β2=>∀x y G2 H2,SR Γ B G2 H2 σ (aU (La ++ Lb) env) β2->af G G2->fm B H H2->jk Γ.K B G2 H2 x d1->jk Γ.K B G2 H2 y d2->W x y H2) :
  pT Γ E fa La ma σ H λx H1=>pT Γ E fb Lb mb σ H1 λy H2=>W x y H2:=by
 refine⟨env,G,B,β,I,h.imp λd1 β1 h x G1 H1 I1 s1 m1 vx=>⟨aU La env,G1,B,β1,I1,?_⟩⟩
 rw[iS]
 refine h.imp λd2 β2 k y G2 H2 I2 s2 m2 vy=>?_
 refine k x y G2 H2 (by rw[dB];exact I2) (s1.trans s2) (m1.trans m2) ((vx.brw I.boxThere).mono s2 m2) (vy.brw I1.boxThere)
def nc (K:Frag)(r:R2)(g:D->D->Option D)(md:Md):Prop:=∀(B:Option Addr) (G H:Hp) (x y:V) (dx dy d:D) (Q:VK),af G H->(∀x,B=some x->H x≠none)->jk K B G H x dx->jk K B G H y dy->g dx dy=some d->
 (∀v G' H',Ext G H G' H'->VO K B H G' H' md d v->Q v H')->r x y H Q
def f2 (fa fb:VF D)(g:D->D->Option D):VF D:=λvs β=>(fa vs β).bnd λx β1=>(fb vs β1).bnd λy β2=>R.of (g x y) β2
theorem fg {B:Option Addr}{H H2:Hp}(m:fm B H H2)(hB:∀x,B=some x->H2 x≠none){p:Addr}(h:H2 p=none):H p=none:=by
 cases e:H p with
 |none=>rfl
 |some o=>obtain⟨u,eu,_⟩:=(m.1 p o e λz=>hB p z h).some;rw[eu] at h;cases h
theorem VO.back {K:Frag}{B:Option Addr}{H H2 G' H':Hp}{d:D}{v:V}(h:VO K B H2 G' H' md d v)(m:fm B H H2)(hB:∀x,B=some x->H2 x≠none):VO K B H G' H' md d v:=by
 cases md with
 |b=>exact h
 |v=>exact h
 |w=>obtain⟨p,e,h1,h2,h3⟩:=h;exact⟨p,e,fg m hB h1,h2,h3⟩
def j5 {r:R2}{g:D->D->Option D}{Q:VK}(pr:nc Γ.K r g md){B:Option Addr}{G H:Hp}{σ:St}{env:En}{β:Int}(I:SR Γ B G H σ env β)
  (h:Out Γ E (f2 fa fb g (vl env) β) λd β'=>∀v G' H',SR Γ B G' H' σ (aU (La ++ Lb) env) β'->af G G'->fm B H H'->VO Γ.K B H G' H' md d v->Q v H') :
  pT Γ E fa La ma σ H λx H1=>pT Γ E fb Lb mb σ H1 λy H2=>r x y H2 Q:=by
 refine two I (h.bnd.imp λd1 β1 h=>h.bnd.imp λd2 β2 h x y G2 H2 I2 s2 m2 bx by'=>?_)
 obtain⟨d,e,k⟩:=h.of
 refine pr B G2 H2 x y d1 d2 d Q I2.sub I2.boxThere bx by' e λv G' H' x' vo=>?_
 exact k v G' H' (I2.ext x') (s2.trans x'.gg) (m2.trans (x'.hh.mov B)) (vo.back m2 I2.boxThere)
def a8 {op:Operator}{r:R2}{g:D->D->Option D}(ho:lH X (binaryOp op) r)(pr:nc Γ.K r g md)(ha:SE X Γ E a fa La ma)(hb:SE X Γ E b fb Lb mb):SE X Γ E (.BinOp a op b pos) (f2 fa fb g) (La ++ Lb) md:=
 PE.post' (rM ho ha hb) λσ H Q ⟨env,G,B,β,I,o⟩=>j5 pr I o
def g7 {op:CmpOp}{r:R2}{g:D->D->Option D}(ho:lH X (compareOp op) r)(pr:nc Γ.K r g md)(ha:SE X Γ E a fa La ma)(hb:SE X Γ E b fb Lb mb)(hm:behindInMarks op b=false):SE X Γ E (.Compare a [op] [b] pos) (f2 fa fb g) (La ++ Lb) md:=
 PE.post' (AX ho ha hb hm) λσ H Q ⟨env,G,B,β,I,o⟩=>j5 pr I o
def cR {r:R2}{g:D->D->Option D}(hr:zf X r)(pr:nc Γ.K r g md)(ha:SE X Γ E a fa La ma)(hb:SE X Γ E b fb Lb mb)(hs:pG b):SE X Γ E (.Subscript a b pos) (f2 fa fb g) (La ++ Lb) md:=
 PE.post' (iX hr ha hb hs) λσ H Q ⟨env,G,B,β,I,o⟩=>j5 pr I o
def wU (K:Frag)(r:V->Hp->VK->Prop)(g:D->Option D)(md:Md):Prop:=∀(B:Option Addr) (G H:Hp) (x:V) (dx d:D) (Q:VK),af G H->(∀x,B=some x->H x≠none)->jk K B G H x dx->g dx=some d->
 (∀v G' H',Ext G H G' H'->VO K B H G' H' md d v->Q v H')->r x H Q
def f1 (fa:VF D)(g:D->Option D):VF D:=λvs β=>(fa vs β).bnd λx β1=>R.of (g x) β1
def gZ {r:V->Hp->VK->Prop}{g:D->Option D}{Q:VK}(pr:wU Γ.K r g md){B:Option Addr}{G H:Hp}{σ:St}{env:En}{β:Int}(I:SR Γ B G H σ env β)
  (h:Out Γ E (f1 fa g (vl env) β) λd β'=>∀v G' H',SR Γ B G' H' σ (aU La env) β'->af G G'->fm B H H'->VO Γ.K B H G' H' md d v->Q v H') :
  pT Γ E fa La ma σ H λx H1=>r x H1 Q:=by
 refine⟨env,G,B,β,I,h.bnd.imp λd1 β1 h x G1 H1 I1 s1 m1 vx=>?_⟩
 obtain⟨d,e,k⟩:=h.of
 refine pr B G1 H1 x d1 d Q I1.sub I1.boxThere (vx.brw I.boxThere) e λv G' H' x' vo=>?_
 exact k v G' H' (I1.ext x') (s1.trans x'.gg) (m1.trans (x'.hh.mov B)) (vo.back m1 I1.boxThere)
def B7 {op:UnaryOp}{r:V->Hp->VK->Prop}{g:D->Option D}(ho:Fg X (unaryOp op) r)(pr:wU Γ.K r g md)(ha:SE X Γ E a fa La ma):SE X Γ E (.UnaryOp op a pos) (f1 fa g) La md:=
 PE.post' (Fb ho ha) λσ H Q ⟨env,G,B,β,I,o⟩=>gZ pr I o
def aR {id:String}{r:List V->Hp->VK->Prop}{g:D->Option D}{x:Str}{p:Pos}(hc:cf X (.builtin id) r)(pr:wU Γ.K (λx=>r [x]) g md)(hg:Gl X x)(hm:X.mg x=none)(hv:bootBuiltins x=some (.builtin id))(ha:SE X Γ E a fa La ma)(hn:x≠"__name__":=by decide)(hdb:(x == ("__debug__":Str))=false:=by decide)
  (he:starEach [a] X.env=(false,eval a X.env) :: starEach [] X.env:=by rfl):SE X Γ E (.Call (.Name x p) [a] [] pos) (f1 fa g) La md:=
 PE.post' (iN hc hg hm hv (aC ha aY he) hn hdb he) λσ H Q ⟨env,G,B,β,I,o⟩=>gZ (r:=λx=>r [x]) pr I o
def qU {id:String}{r:List V->Hp->VK->Prop}{g:D->Option D}{x:Str}{p:Pos}(hc:cf X (.type id) r)(pr:wU Γ.K (λx=>r [x]) g md)(hg:Gl X x)(hm:X.mg x=none)(hv:bootBuiltins x=some (.type id))(ha:SE X Γ E a fa La ma)(hn:x≠"__name__":=by decide)(hdb:(x == ("__debug__":Str))=false:=by decide)
  (he:starEach [a] X.env=(false,eval a X.env) :: starEach [] X.env:=by rfl):SE X Γ E (.Call (.Name x p) [a] [] pos) (f1 fa g) La md:=
 PE.post' (gM hc hg hm hv (aC ha aY he) hn hdb he) λσ H Q ⟨env,G,B,β,I,o⟩=>gZ (r:=λx=>r [x]) pr I o
def rn {id:String}{r:List V->Hp->VK->Prop}{g:D->D->Option D}{x:Str}{p:Pos}(hc:cf X (.builtin id) r)(pr:nc Γ.K (λx y=>r [x,y]) g md)(hg:Gl X x)(hm:X.mg x=none)(hv:bootBuiltins x=some (.builtin id))(ha:SE X Γ E a fa La ma)(hb:SE X Γ E b fb Lb mb)(hn:x≠"__name__":=by decide)(hdb:(x == ("__debug__":Str))=false:=by decide)
  (he:starEach [a,b] X.env=(false,eval a X.env) :: starEach [b] X.env:=by rfl) (he2:starEach [b] X.env=(false,eval b X.env) :: starEach [] X.env:=by rfl) (hpl:(backTo pos (starEach [b] X.env)).any (·.1)=false:=by rfl):SE X Γ E (.Call (.Name x p) [a,b] [] pos) (f2 fa fb g) (La ++ Lb) md:=
 PE.post' (iN hc hg hm hv (aC ha (aC hb aY he2) he) hn hdb he hpl) λσ H Q ⟨env,G,B,β,I,o⟩=>j5 (r:=λx y=>r [x,y]) pr I o
def dW (fa fb:VF D):VF D:=λvs β=>(fa vs β).bnd λx β1=>match x with
 | .bool true=>fb vs β1
 | .bool false=>.ok (.bool false) β1
 |_=>.bad
def iM {op}(h:SE X Γ E a fa La md):SE X Γ E (.BoolOp op [a] pos) fa La md:=Du h
theorem gm {rest:List Expr}(ha:SE X Γ E a fa La ma)(hb:SE X Γ E (.BoolOp .And (b :: rest) pos) fb Lb .v)(hbr:∀i,i∈Lb->Γ.br i=false):SE X Γ E (.BoolOp .And (a :: b :: rest) pos) (dW fa fb) (La ++ Lb) .v:=by
 refine PE.post' (Ds ha hb) λσ H Q ⟨env,G,B,β,I,o⟩=>?_
 refine⟨env,G,B,β,I,o.bnd.imp λd1 β1 h x G1 H1 I1 s1 m1 vx=>?_⟩
 have bx:=vx.brw I.boxThere
 cases d1 with
 |bool c=>
  obtain rfl:=bx.bool
  refine⟨c,rfl,?_⟩
  cases c with
  |true=>exact qZ ⟨_,G1,B,β1,I1,by rw[iS];exact h.imp λd β' k v G' H' I' s' m' vo=>k v G' H' (by rw[dB];exact I') (s1.trans s') (m1.trans m') vo⟩
  |false=>
   obtain⟨G2,I2,s2⟩:=I1.aU Lb hbr
   exact qX (h _ G2 H1 (by rw[dB];exact I2) (s1.trans s2) m1 (.bl false))
 |_=>exact h.elim
def qG:D->Option D
 | .bool c=>some (.bool (!c))
 |_=>none
theorem o9 (ha:SE X Γ E a fa La ma):SE X Γ E (.UnaryOp .Not a pos) (f1 fa qG) La .v:=by
 refine PE.post' (DI ha) λσ H Q ⟨env,G,B,β,I,o⟩=>?_
 refine gZ (r:=λx H1 Q=>∃c,x=.bl c/\Q (.bl (!c)) H1) ?_ I o
 intro B G H x dx d Q s hB bx e k
 cases dx with
 |bool c=>
  obtain rfl:=bx.bool
  cases e
  exact⟨c,rfl,k _ G H (Ext.refl s) (.bl _)⟩
 |_=>cases e
def Cq:D->Option Bool
 | .none=>some false
 | .bool b=>some b
 | .int i=>some (i != 0)
 | .str y=>if y.length<=sizeLine then some ((y.length:Int) != 0) else none
 | .list ds=>some (!ds.isEmpty)
 | .tuple ds=>some (!ds.isEmpty)
 | .dict _=>none
def jt (fa:VF D):VF Bool:=λvs β=>(fa vs β).bnd λx β1=>R.of (Cq x) β1
def lg {K:Frag}{G:Hp}{xs:List V}{ds:List D}(r:bw K G xs ds):(!ds.isEmpty)= !xs.isEmpty:=by cases r <;> rfl
theorem cC (hK:X.K=Γ.K)(ha:SE X Γ E a fa La ma)(he:∀whole,isTrue a X.env whole=(do let v <-whole;standAt a.pos;holding [v] (truthy v)):=by intro _;rfl):xp X Γ E a (jt fa) La:=by
 refine PT.post (xV ha he) λσ H Q ⟨env,G,B,β,I,o⟩=>?_
 refine⟨env,G,B,β,I,o.bnd.imp λd1 β1 h x G1 H1 I1 s1 m1 vx=>?_⟩
 obtain⟨c,e,k⟩:=h.of
 have bx:=vx.brw I.boxThere
 refine⟨c,?_,k G1 H1 I1 s1 m1⟩
 rw[hK]
 cases d1 with
 |none=>obtain rfl:=bx.none;cases e;rfl
 |bool b=>obtain rfl:=bx.bool;cases e;rfl
 |int i=>obtain rfl:=bx.int;cases e;rfl
 |str y=>
  obtain rfl:=bx.str
  simp only[Cq] at e
  split at e
  ·cases e;exact⟨by assumption,rfl⟩
  ·cases e
 |list ds=>obtain⟨p,xs,rfl,hq,r⟩:=bx.list I1.sub;cases e;exact .inl ⟨xs,.inl hq,lg r⟩
 |tuple ds=>obtain⟨p,xs,rfl,hq,r⟩:=bx.tuple I1.sub;cases e;exact .inr (.inl ⟨xs,hq,lg r⟩)
 |dict ds=>cases e
def gf (fa:VF D):VF Bool:=λvs β=>(fa vs β).bnd λx β1=>match x with
 | .bool c=>.ok c β1
 |_=>.bad
theorem cB {op:CmpOp}{r:R2}{g:D->D->Option D}(ho:lH X (compareOp op) r)(pr:nc Γ.K r g .v)(ha:SE X Γ E a fa La ma)(hb:SE X Γ E b fb Lb mb)(hm:behindInMarks op b=false):xp X Γ E (.Compare a [op] [b] pos) (gf (f2 fa fb g)) (La ++ Lb):=by
 refine PT.post (A5 ho ha hb hm) λσ H Q ⟨env,G,B,β,I,o⟩=>?_
 refine j5 pr I (o.bnd.imp λd β' h v G' H' I' s' m' vo=>?_)
 cases d with
 |bool c=>cases vo;exact⟨c,rfl,h G' H' I' s' m'⟩
 |_=>exact h.elim
def ng (t:VF Bool):VF Bool:=λvs β=>(t vs β).bnd λc β1=>.ok (!c) β1
def Hr (t u:VF Bool):VF Bool:=λvs β=>(t vs β).bnd λc β1=>if c=true then u vs β1 else .ok false β1
def m8 (t u:VF Bool):VF Bool:=λvs β=>(t vs β).bnd λc β1=>if c=true then .ok true β1 else u vs β1
variable {ta tb tc:VF Bool}
def dY (ha:xp X Γ E a ta La):xp X Γ E (.UnaryOp .Not a pos) (ng ta) La:=by
 refine PT.post (CG ha) λσ H Q ⟨env,G,B,β,I,o⟩=>?_
 exact⟨env,G,B,β,I,o.bnd.imp λc β1 h=>h⟩
def zW.t (h:zW X Γ E e ta La):xp X Γ E e ta La:=PW.pt h
def l6 (ha:xp X Γ E a ta La):zW X Γ E (.BoolOp .Or [a] pos) ta La:=C2 ha
theorem lZ {rest:List Expr}(ha:xp X Γ E a ta La)(hb:zW X Γ E (.BoolOp .Or (b :: rest) pos) tb Lb)(hbr:∀i,i∈Lb->Γ.br i=false):zW X Γ E (.BoolOp .Or (a :: b :: rest) pos) (m8 ta tb) (La ++ Lb):=by
 refine PW.post (Er ha hb) λσ H Q ⟨env,G,B,β,I,o⟩=>?_
 refine⟨env,G,B,β,I,o.bnd.imp λc β1 h G1 H1 I1 s1 m1=>?_⟩
 cases c with
 |true=>
  obtain⟨G2,I2,s2⟩:=I1.aU Lb hbr
  exact qZ (h G2 H1 (by rw[dB];exact I2) (s1.trans s2) m1)
 |false=>exact qX ⟨_,G1,B,β1,I1,by rw[iS];exact Out.imp h λd β' k G' H' I' s' m'=>k G' H' (by rw[dB];exact I') (s1.trans s') (m1.trans m')⟩
def Hj (t:VF Bool)(fa fb:VF D):VF D:=λvs β=>(t vs β).bnd λc β1=>if c=true then fa vs β1 else fb vs β1
def ao:VF (List D):=λ_ β=>.ok [] β
def aa (fa:VF D)(fr:VF (List D)):VF (List D):=λvs β=>(fa vs β).bnd λx β1=>(fr vs β1).bnd λxs β2=>.ok (x :: xs) β2
variable {fr:VF (List D)}{es:List Expr}
def au:SA X Γ E [] ao []:=PA.post aY λσ H Q ⟨env,G,B,β,I,o⟩=>o [] G H I (af.refl _) (fm.refl _ _) .nil
def ae (ha:SE X Γ E a fa La .v)(hr:SA X Γ E es fr Lb)(hs:starEach (a :: es) X.env=(false,eval a X.env) :: starEach es X.env:=by rfl):SA X Γ E (a :: es) (aa fa fr) (La ++ Lb):=by
 refine PA.post (aC ha hr hs) λσ H Q ⟨env,G,B,β,I,o⟩=>?_
 refine⟨env,G,B,β,I,o.bnd.imp λd1 β1 h x G1 H1 I1 s1 m1 vx=>⟨aU La env,G1,B,β1,I1,?_⟩⟩
 rw[iS]
 refine h.bnd.imp λds β2 k xs G2 H2 I2 s2 m2 r=>?_
 exact k (x :: xs) G2 H2 (by rw[dB];exact I2) (s1.trans s2) (m1.trans m2) (.cons (vx.mono s2) r)
def dZ (fr:VF (List D)):VF D:=λvs β=>(fr vs β).bnd λds β1=>if ds.length<=sizeLine then .ok (.tuple ds) β1 else .bad
def a9 (fr:VF (List D)):VF D:=λvs β=>(fr vs β).bnd λds β1=>if ds.length<=sizeLine then .ok (.list ds) β1 else .bad
def iY {x1}(h:SA X Γ E es fr L):SE X Γ E (.Tuple es x1 pos) (dZ fr) L .v:=by
 refine PE.post' (tu h) λσ H Q ⟨env,G,B,β,I,o⟩=>?_
 refine⟨env,G,B,β,I,o.bnd.imp λds β1 k xs G1 H1 I1 s1 m1 r=>?_⟩
 by_cases hz:ds.length<=sizeLine
 ·rw[HA hz] at k
  refine⟨by rw[r.len];exact hz,λp hp=>?_⟩
  have x:=Ext.new I1.sub (o:=.tup xs) hp
  exact k _ _ _ (I1.ext x) (s1.trans x.gg) (m1.trans (x.hh.mov B)) (.tup (.inl (.inl aq)) (r.mono x.gg))
 ·rw[HI hz] at k;exact k.elim
def bp (h:SA X Γ E es fr L):SE X Γ E (.List es pos) (a9 fr) L .w:=by
 refine PE.post' (sQ h) λσ H Q ⟨env,G,B,β,I,o⟩=>?_
 refine⟨env,G,B,β,I,o.bnd.imp λds β1 k xs G1 H1 I1 s1 m1 r=>?_⟩
 by_cases hz:ds.length<=sizeLine
 ·rw[HA hz] at k
  refine⟨by rw[r.len];exact hz,λp hp=>?_⟩
  have x:=Ext.own I1.sub (o:=.lst xs) hp
  exact k _ _ _ (I1.ext x) s1 (m1.trans (x.hh.mov B)) ⟨p,rfl,fg m1 I1.boxThere hp,I1.sub.free hp,xs,aq,r⟩
 ·rw[HI hz] at k;exact k.elim
inductive FR where
 |ok (d:D) (fresh:Bool)
 |exc (c:Str)
 |bad
def FV (K:Frag)(H G' H':Hp)(fr:Bool)(d:D)(v:V):Prop:=if fr=true then ∃a,v=.ref a/\H a=none/\G' a=none/\Own K G' H' a d else Rp K G' v d
def xl (K:Frag)(ca:Str->Addr)(n:Nat)(F:List D->FR):Sp:=λvs H Q E=>∃G ds,af G H/\ds.length=n/\bw K G vs ds/\match F ds with
 | .ok d fr=>∀v G' H',af H H'->af G G'->af G' H'->(∀b,Mx H b->G b=none->G' b=none)->FV K H G' H' fr d v->Q v H'
 | .exc c=>∀H',af H H'->E (.ref (ca c)) none H'
 | .bad=>False
structure cY (P:Program)(w:World)(K:Frag)(mg:Str->Option Value)(base:Heap)(ca:Str->Addr)(x:Str)(ps:List Str)(k:Nat)(F:List D->FR):Prop where
 ex:∃f fd,mg x=some (.ref f)/\PySem.W.keepIn K (.ref f)=true/\Binds K fd ps []/\dw P w K mg base (nh P w) k f fd ps (xl K ca ps.length F)
 len:∀ds,F ds≠.bad->ds.length=ps.length
def aA (F:List D->FR)(fr:VF (List D)):VF D:=λvs β=>(fr vs β).bnd λds β1=>match F ds with
 | .ok d _=>.ok d β1
 | .exc c=>.exc c
 | .bad=>.bad
def qz (F:List D->FR)(fr:VF (List D)):VF D:=λvs β=>(fr vs β).bnd λds β1=>match F ds with
 | .ok d true=>.ok d β1
 | .ok _ false=>.bad
 | .exc c=>.exc c
 | .bad=>.bad
def SR.called {B:Option Addr}{G1 H1 G2 H2:Hp}{σ:St}{env:En}{β:Int}(I1:SR Γ B G1 H1 σ env β)(h:af H1 H2)(g:af G1 G2)(s:af G2 H2)(n:∀b,Mx H1 b->G1 b=none->G2 b=none):SR Γ B G2 H2 σ env β/\fm B H1 H2:=by
 refine⟨⟨s,I1.old.trans g,λb n1 n2=>?_,λb o e np=>(I1.keep b o e np).step h,λb hb=>?_,I1.fix,λb e=>?_,I1.len,λi t e=>?_,I1.sep⟩,h.mov B⟩
 ·exact n b (I1.thereM n1) (I1.new b n1 n2)
 ·exact (I1.pin b hb).same λo e=>h b o e
 ·obtain⟨h1,h2,h3⟩:=I1.box b e
  exact⟨h b _ h1,n b (Mx.lst h1) h2,h3⟩
 ·have q:=I1.slot i t e
  cases t with
  |no=>trivial
  |fz d=>obtain⟨v,h1,h2⟩:=q;exact⟨v,h1,h2.mono g⟩
  |ow d=>
   obtain⟨p,h1,h2,h3,h4,h5⟩:=q
   exact⟨p,h1,h2,n p h5.mx h3,h4,h5.mono g λo q=>h p o q⟩
  |bx=>exact q
  |br d=>obtain⟨b1,p,h1,h4,hp,h5⟩:=q;exact⟨b1,p,h1,h4,hp,h5.mono g λo q=>h p o q⟩
def SR.kp {B:Option Addr}{G H H':Hp}{σ:St}{env:En}{β:Int}(I:SR Γ B G H σ env β)(h:af H H'):Kp Γ H':=λb o e n=>(I.keep b o e n).step h
theorem oH {F:List D->FR}{ps:List Str}{Q:VK}{B:Option Addr}{G H:Hp}{σ:St}{env:En}{β:Int}(I:SR Γ B G H σ env β)(hK:X.K=Γ.K){wv:Bool}
  (h:Out Γ E (if wv=true then qz F fr (vl env) β else aA F fr (vl env) β) λd β'=>∀v G' H',SR Γ B G' H' σ (aU L env) β'->af G G'->fm B H H'->VO Γ.K B H G' H' (if wv=true then .w else .v) d v->Q v H') (hl:∀ds,F ds≠.bad->ds.length=ps.length) :
  aT Γ E fr L σ H λvs H1=>xl X.K Γ.ca ps.length F vs H1 Q E:=by
 refine⟨env,G,B,β,I,?_⟩
 have h:Out Γ E (fr (vl env) β) λds β1=>Out Γ E (match F ds with
   | .ok d true=>.ok d β1
   | .ok d false=>if wv=true then .bad else .ok d β1
   | .exc c=>.exc c
   | .bad=>.bad) λd β'=>∀v G' H',SR Γ B G' H' σ (aU L env) β'->af G G'->fm B H H'->VO Γ.K B H G' H' (if wv=true then .w else .v) d v->Q v H':=by
  cases wv with
  |true=>
   simp only[IM] at h ⊢
   refine h.bnd.imp λds β1 h=>?_
   cases q:F ds with
   |ok d b=>rw[q] at h;cases b <;> exact h
   |exc c=>rw[q] at h;exact h
   |bad=>rw[q] at h;exact h
  |false=>
   simp only[HQ,Im] at h ⊢
   refine h.bnd.imp λds β1 h=>?_
   cases q:F ds with
   |ok d b=>rw[q] at h;cases b <;> exact h
   |exc c=>rw[q] at h;exact h
   |bad=>rw[q] at h;exact h
 refine h.imp λds β1 k vs G1 H1 I1 s1 m1 r=>?_
 refine⟨G1,ds,I1.sub,?_,by rw[hK];exact r,?_⟩
 ·exact hl ds λz=>by rw[z] at k;exact k
 cases q:F ds with
 |bad=>rw[q] at k;exact k
 |exc c=>rw[q] at k;exact λH' s=>k H' (I1.kp s)
 |ok d b=>
  rw[q] at k
  intro v G' H' hh hg hs hn fv
  obtain⟨I2,m2⟩:=I1.called hh hg hs hn
  cases b with
  |true=>
   obtain⟨p,rfl,p1,p2,p3⟩:∃a,v=.ref a/\H1 a=none/\G' a=none/\Own X.K G' H' a d:=fv
   rw[hK] at p3
   have hp:=fg m1 I1.boxThere p1
   cases wv with
   |true=>exact k _ G' H' I2 (s1.trans hg) (m1.trans m2) ⟨p,rfl,hp,p2,p3⟩
   |false=>
    obtain⟨q1,q2,q3,q4⟩:=I1.fresh p1
    obtain⟨G3,I3,s3,r3⟩:=I2.letIn q1 p2 q3 q4 p3
    exact k _ G3 H' I3 ((s1.trans hg).trans s3) (m1.trans m2) r3
  |false=>
   cases wv with
   |true=>exact k.elim
   |false=>
    have fv:Rp X.K G' v d:=fv
    rw[hK] at fv
    exact k _ G' H' I2 (s1.trans hg) (m1.trans m2) fv
def aN {x:Str}{ps:List Str}{k:Nat}{F:List D->FR}{p:Pos}(hf:cY X.prog X.w X.K X.mg X.base Γ.ca x ps k F)(hr:cX k X.A)(hx:Passes (nh X.prog X.w) X E)(hK:X.K=Γ.K)(hg:Gl X x)(ha:SA X Γ E (a :: es) fr L)(hdb:(x == ("__debug__":Str))=false:=by decide)
  (he:starEach (a :: es) X.env=(false,eval a X.env) :: starEach es X.env:=by rfl) (hpl:(backTo pos (starEach es X.env)).any (·.1)=false:=by rfl):SE X Γ E (.Call (.Name x p) (a :: es) [] pos) (aA F fr) L .v:=by
 obtain⟨f,fd,hm,hk,hb,hF⟩:=hf.ex
 refine PE.post' (i9 (dvs:=[]) hF hr hg hm hk hb .nil hx ha hdb he hpl) λσ H Q ⟨env,G,B,β,I,o⟩=>?_
 show aT Γ E fr L σ H λvs H1=>xl X.K Γ.ca ps.length F (vs ++ []) H1 Q E
 have:=oH (Q:=Q) (wv:=false) (ps:=ps) I hK o hf.len
 simpa using this
def xB {x:Str}{ps:List Str}{k:Nat}{F:List D->FR}{p:Pos}(hf:cY X.prog X.w X.K X.mg X.base Γ.ca x ps k F)(hr:cX k X.A)(hx:Passes (nh X.prog X.w) X E)(hK:X.K=Γ.K)(hg:Gl X x)(ha:SA X Γ E (a :: es) fr L)(hdb:(x == ("__debug__":Str))=false:=by decide)
  (he:starEach (a :: es) X.env=(false,eval a X.env) :: starEach es X.env:=by rfl) (hpl:(backTo pos (starEach es X.env)).any (·.1)=false:=by rfl):SE X Γ E (.Call (.Name x p) (a :: es) [] pos) (qz F fr) L .w:=by
 obtain⟨f,fd,hm,hk,hb,hF⟩:=hf.ex
 refine PE.post' (i9 (dvs:=[]) hF hr hg hm hk hb .nil hx ha hdb he hpl) λσ H Q ⟨env,G,B,β,I,o⟩=>?_
 show aT Γ E fr L σ H λvs H1=>xl X.K Γ.ca ps.length F (vs ++ []) H1 Q E
 have:=oH (Q:=Q) (wv:=true) (ps:=ps) I hK o hf.len
 simpa using this
end
inductive SO where
 |nx (env:En) (β:Int)
 |bk (env:En) (β:Int)
 |ct (env:En) (β:Int)
 |rt (d:D) (fr:Bool) (β:Int)
 |exc (c:Str)
 |bad
abbrev SF:=En->Int->SO
def RV (Γ:Fx)(G' H':Hp)(fr:Bool)(d:D)(v:V):Prop:=if fr=true then ∃a,v=.ref a/\Γ.H0 a=none/\G' a=none/\Own Γ.K G' H' a d else Rp Γ.K G' v d
def nj (Γ:Fx)(E:XK)(G:Hp)(N:Ends):SO->Prop
 | .nx env β=>∀B G' H' σ,SR Γ B G' H' σ env β->af G G'->N.nx σ H'
 | .bk env β=>∀B G' H' σ,SR Γ B G' H' σ env β->af G G'->N.bk σ H'
 | .ct env β=>∀B G' H' σ,SR Γ B G' H' σ env β->af G G'->N.ct σ H'
 | .rt d fr β=>∀B G' H' σ env v,SR Γ B G' H' σ env β->af G G'->RV Γ G' H' fr d v->N.rt v H'
 | .exc c=>∀H',Kp Γ H'->E (.ref (Γ.ca c)) none H'
 | .bad=>False
def sT (Γ:Fx)(E:XK)(m:SF):TS:=λN σ H=>∃env G B β,SR Γ B G H σ env β/\nj Γ E G N (m env β)
def SS (X:Cx)(Γ:Fx)(E:XK)(st:Stmt)(m:SF):Prop:=PS X st (sT Γ E m)
def wx (X:Cx)(Γ:Fx)(E:XK)(st:List Stmt)(m:SF):Prop:=nE X st (sT Γ E m)
def nE.post {X:Cx}{st:List Stmt}{t u:TS}(h:nE X st t)(m:∀D σ H,u D σ H->t D σ H):nE X st u:=λpins s σ H D I q=>h pins s σ H D I (m D σ H q)
def aH (m m':SF):SF:=λenv β=>match m env β with
 | .nx env' β'=>m' env' β'
 |r=>r
def kL:SF:=λenv β=>.nx env β
section
variable {X:Cx}{Γ:Fx}{E:XK}{e a b c:Expr}{f fa fb:VF D}{L La Lb:List Nat}{md ma mb:Md}{pos:Pos}{st:Stmt}{sts:List Stmt}{m m':SF}{ta:VF Bool}
theorem nj.weak {G G1:Hp}{N:Ends}{r:SO}(h:nj Γ E G N r)(s:af G G1):nj Γ E G1 N r:=by
 cases r with
 |nx env β=>exact λB G' H' σ I s'=>h B G' H' σ I (s.trans s')
 |bk env β=>exact λB G' H' σ I s'=>h B G' H' σ I (s.trans s')
 |ct env β=>exact λB G' H' σ I s'=>h B G' H' σ I (s.trans s')
 |rt d fr β=>exact λB G' H' σ env v I s'=>h B G' H' σ env v I (s.trans s')
 |exc c=>exact h
 |bad=>exact h
def bQ:wx X Γ E [] kL:=nE.post pj λN σ H ⟨env,G,B,β,I,o⟩=>o B G H σ I (af.refl _)
theorem av (h:SS X Γ E st m)(h':wx X Γ E sts m'):wx X Γ E (st :: sts) (aH m m'):=by
 refine nE.post (b7 h h') λN σ H ⟨env,G,B,β,I,o⟩=>?_
 refine⟨env,G,B,β,I,?_⟩
 unfold aH at o
 cases q:m env β with
 |nx env' β'=>rw[q] at o;exact λB' G' H' σ' I' s'=>⟨env',G',B',β',I',o.weak s'⟩
 |bk env' β'=>rw[q] at o;exact o
 |ct env' β'=>rw[q] at o;exact o
 |rt d fr β'=>rw[q] at o;exact o
 |exc c=>rw[q] at o;exact o
 |bad=>rw[q] at o;exact o
def aw (h:SS X Γ E st m):wx X Γ E [st] m:=fP h
def toS {α:Type}(r:R α)(k:α->Int->SO):SO:=match r with
 | .ok x β=>k x β
 | .exc c=>.exc c
 | .bad=>.bad
theorem cM {α:Type}{G:Hp}{N:Ends}{r:R α}{k:α->Int->SO}{P:α->Int->Prop}(h:nj Γ E G N (toS r k))(i:∀x β,nj Γ E G N (k x β)->P x β):Out Γ E r P:=by
 cases r with
 |ok x β=>exact i x β h
 |exc c=>exact h
 |bad=>exact h
def SR.set' {B:Option Addr}{G H:Hp}{σ:St}{env:En}{β:Int}(I:SR Γ B G H σ env β)(i:Nat){v:V}{d:D}(h:Rp Γ.K G v d):SR Γ B G H (σ.set i (some v)) (env.set i (.fz d)) β:=by
 by_cases hi:i < env.length
 ·exact I.set hi h
 ·have h1:env.set i (.fz d)=env:=Jw (by omega)
  have h2:σ.set i (some v)=σ:=Jw (by rw[I.len];omega)
  rw[h1,h2];exact I
def SR.setOw' {B:Option Addr}{G H:Hp}{σ:St}{env:En}{β:Int}(I:SR Γ B G H σ env β)(i:Nat){a:Addr}{d:D}(h0:Γ.H0 a=none)(hg:G a=none)(hb:B≠some a)(h:Own Γ.K G H a d)(hn:∀(j:Nat) (d':D),env[j]? =some (.ow d')->σ[j]?≠some (some (.ref a))):SR Γ B G H (σ.set i (some (.ref a))) (env.set i (.ow d)) β:=by
 by_cases hi:i < env.length
 ·exact I.setOw hi h0 hg hb h λj d' e _=>hn j d' e
 ·have h1:env.set i (.ow d)=env:=Jw (by omega)
  have h2:σ.set i (some (.ref a))=σ:=Jw (by rw[I.len];omega)
  rw[h1,h2];exact I
def bF (i:Nat)(L:List Nat)(f:VF D):SF:=λenv β=>toS (f (vl env) β) λd β'=>.nx ((aU L env).set i (.fz d)) β'
def bg {i:Nat}{x:Str}{pos':Pos}(he:SE X Γ E e f L .v)(hN:X.N.Nodup)(hi:X.N[i]? =some x:=by rfl)(hx:Loc X.env.scope x:=by first |exact Or.inl rfl |exact Or.inr rfl)(hs:swapsWith e (some (.Name x pos')) pos.line X.env=pure false:=by rfl)(hf:X.fn x=true\/X.env.scope.names.lookup x=some .local:=by first |exact .inl rfl |exact .inr rfl |assumption) :
  SS X Γ E (.Assign [.Name x pos'] e pos) (bF i L f):=by
 refine PS.post (l5 hN hi hx he hs hf) λN σ H ⟨env,G,B,β,I,o⟩=>?_
 refine⟨env,G,B,β,I,cM o λd β' k v G' H' I' s' m' vo=>?_⟩
 exact k B G' H' _ (I'.set' i vo) s'
def jG (i:Nat)(L:List Nat)(f:VF D):SF:=λenv β=>toS (f (vl env) β) λd β'=>.nx ((aU L env).set i (.ow d)) β'
def kn {i:Nat}{x:Str}{pos':Pos}(he:SE X Γ E e f L .w)(hN:X.N.Nodup)(hi:X.N[i]? =some x:=by rfl)(hx:Loc X.env.scope x:=by first |exact Or.inl rfl |exact Or.inr rfl)(hs:swapsWith e (some (.Name x pos')) pos.line X.env=pure false:=by rfl)(hf:X.fn x=true\/X.env.scope.names.lookup x=some .local:=by first |exact .inl rfl |exact .inr rfl |assumption) :
  SS X Γ E (.Assign [.Name x pos'] e pos) (jG i L f):=by
 refine PS.post (l5 hN hi hx he hs hf) λN σ H ⟨env,G,B,β,I,o⟩=>?_
 refine⟨env,G,B,β,I,cM o λd β' k v G' H' I' s' m' vo=>?_⟩
 obtain⟨p,rfl,h1,h2,h3⟩:=vo
 obtain⟨q1,q2,q3,q4⟩:=I.fresh h1
 exact k B G' H' _ (I'.setOw' i q1 h2 q3 h3 λj d' z=>q4 j d' (pe z)) s'
def oh (L:List Nat)(f:VF D):SF:=λenv β=>toS (f (vl env) β) λ_ β'=>.nx (aU L env) β'
def ux (he:SE X Γ E e f L md)(hs:swapsWith e none pos.line X.env=pure false:=by rfl):SS X Γ E (.Expr e pos) (oh L f):=by
 refine PS.post (jH he hs) λN σ H ⟨env,G,B,β,I,o⟩=>?_
 exact⟨env,G,B,β,I,cM o λd β' k v G' H' I' s' m' vo=>k B G' H' _ I' s'⟩
def bD (f:VF D):SF:=λenv β=>toS (f (vl env) β) λd β'=>.rt d false β'
def aQ (he:SE X Γ E e f L .v):SS X Γ E (.Return (some e) pos) (bD f):=by
 refine PS.post (kB he) λN σ H ⟨env,G,B,β,I,o⟩=>?_
 exact⟨env,G,B,β,I,cM o λd β' k v G' H' I' s' m' vo=>k B G' H' σ _ v I' s' vo⟩
def sf (f:VF D):SF:=λenv β=>toS (f (vl env) β) λd β'=>.rt d true β'
def pW (he:SE X Γ E e f L .w):SS X Γ E (.Return (some e) pos) (sf f):=by
 refine PS.post (kB he) λN σ H ⟨env,G,B,β,I,o⟩=>?_
 refine⟨env,G,B,β,I,cM o λd β' k v G' H' I' s' m' vo=>?_⟩
 obtain⟨p,rfl,h1,h2,h3⟩:=vo
 obtain⟨q1,_⟩:=I.fresh h1
 exact k B G' H' σ _ _ I' s' ⟨p,rfl,q1,h2,h3⟩
def jd (i:Nat):SF:=λenv β=>match env[i]? with
 |some (.fz d)=>.rt d false β
 |some (.ow d)=>.rt d true β
 |_=>.bad
theorem lI (i:Nat){x:Str}{p:Pos}(hN:X.N[i]? =some x:=by rfl)(hv:wW X.env.scope x:=by first |exact Or.inl rfl |exact Or.inr (Or.inl rfl) |exact Or.inr (Or.inr rfl))(hd:(x == ("__debug__":Str))=false:=by decide)
  (hcd:(x == ("__classdict__":Str))=false:=by decide):SS X Γ E (.Return (some (.Name x p)) pos) (jd i):=by
 refine PS.post (kB (fu hN hv hd hcd)) λN σ H ⟨env,G,B,β,I,o⟩=>?_
 unfold jd at o
 cases q:env[i]? with
 |none=>rw[q] at o;exact o.elim
 |some s=>
  rw[q] at o
  cases s with
  |no=>exact o.elim
  |bx=>exact o.elim
  |br d=>exact o.elim
  |fz d=>
   obtain⟨v,h1,h2⟩:=I.slot i _ q
   exact⟨v,h1,o B G H σ env v I (af.refl _) h2⟩
  |ow d=>
   obtain⟨p,h1,h2,h3,h4,h5⟩:=I.slot i _ q
   exact⟨_,h1,o B G H σ env _ I (af.refl _) ⟨p,rfl,h2,h3,h5⟩⟩
def jc (L:List Nat)(t:VF Bool)(m m':SF):SF:=λenv β=>toS (t (vl env) β) λc β'=>if c=true then m (aU L env) β' else m' (aU L env) β'
theorem cZ {x y:List Stmt}(hc:xp X Γ E c ta L)(ha:wx X Γ E x m)(hb:wx X Γ E y m'):SS X Γ E (.If c x y pos) (jc L ta m m'):=by
 refine PS.post (zC hc ha hb) λN σ H ⟨env,G,B,β,I,o⟩=>?_
 refine⟨env,G,B,β,I,cM o λd β' k G' H' I' s' m'=>?_⟩
 cases d with
 |true=>exact qZ ⟨_,G',B,β',I',nj.weak k s'⟩
 |false=>exact qX ⟨_,G',B,β',I',nj.weak k s'⟩
def gn (L:List Nat)(t:VF Bool)(m:SF):Nat->SF
 | 0=>λ_ _=>.bad
 |n + 1=>λenv β=>toS (t (vl env) β) λc β'=>if c=true then (match m (aU L env) β' with
   | .nx env2 β2=>gn L t m n env2 β2
   | .ct env2 β2=>gn L t m n env2 β2
   | .bk env2 β2=>.nx env2 β2
   |r=>r) else .nx (aU L env) β'
theorem me {x:List Stmt}(n:Nat)(hp:PassesOwn (model X.prog X.w) X.A X.env X.xe)(hc:xp X Γ E c ta L)(hb:wx X Γ E x m):SS X Γ E (.While c x [] pos) (gn L ta m n):=by
 refine PS.post (xA hp hc hb) λN σ H ⟨env,G,B,β,I,o⟩=>?_
 refine⟨λk σ H=>∃env G1 B β,SR Γ B G1 H σ env β/\af G G1/\nj Γ E G1 N (gn L ta m k env β),⟨n,env,G,B,β,I,af.refl _,o⟩,?_⟩
 rintro k σ H ⟨env,G1,B,β,I,sG,o⟩
 cases k with
 |zero=>exact o.elim
 |succ k=>
  refine⟨env,G1,B,β,I,cM o λd β' q G' H' I' s' m'=>?_⟩
  cases d with
  |false=>exact qX (q B G' H' σ I' s')
  |true=>
   refine qZ ⟨λσ H=>∃env G1 B β,SR Γ B G1 H σ env β/\af G G1/\nj Γ E G1 N (gn L ta m k env β),λσ' H' h=>⟨k,Nat.lt_succ_self k,h⟩,aU L env,G',B,β',I',?_⟩
   rw[HA rfl] at q
   cases r:m (aU L env) β' with
   |nx env2 β2=>rw[r] at q;exact λB2 G2 H2 σ2 I2 s2=>⟨env2,G2,B2,β2,I2,(sG.trans s').trans s2,nj.weak q (s'.trans s2)⟩
   |ct env2 β2=>rw[r] at q;exact λB2 G2 H2 σ2 I2 s2=>⟨env2,G2,B2,β2,I2,(sG.trans s').trans s2,nj.weak q (s'.trans s2)⟩
   |bk env2 β2=>rw[r] at q;exact λB2 G2 H2 σ2 I2 s2=>q B2 G2 H2 σ2 I2 (s'.trans s2)
   |rt d fr β2=>rw[r] at q;exact nj.weak q s'
   |exc c=>rw[r] at q;exact q
   |bad=>rw[r] at q;exact q
def Walk (K:Frag)(B:Option Addr)(G H1:Hp)(ds:List D)(J:It):Prop:=∀Gc H (i:Nat),af G Gc->af Gc H->fm B H1 H->
 (i < ds.length->J.go i H/\∀x H',J.yld i H x H'->∃G' d,Ext Gc H G' H'/\ds[i]? =some d/\Rp K G' x d)/\(ds.length<=i->J.stop i H)
def Walk.any {K:Frag}{B:Option Addr}{G H1:Hp}{ds:List D}{J:It}(h:Walk K B G (λ_=>none) ds J):Walk K B G H1 ds J:=λGc H i s1 s2 _=>h Gc H i s1 s2 ⟨(λb o e=>by cases e),λb o u e=>by cases e⟩
def iT (Γ:Fx)(E:XK)(f:VF (List D))(L:List Nat)(md:Md):TI:=λσ H Rr=>∃env G B β,SR Γ B G H σ env β/\
 Out Γ E (f (vl env) β) λds β'=>∀J G' H',SR Γ B G' H' σ (aU L env) β'->af G G'->fm B H H'->Walk Γ.K B G' (match md with | .b=>H' |_=>λ_=>none) ds J->Rr J H'
def SI (X:Cx)(Γ:Fx)(E:XK)(tg e:Expr)(f:VF (List D))(L:List Nat)(md:Md):Prop:=PI X tg e (iT Γ E f L md)
def PI.post {X:Cx}{tg e:Expr}{t u:TI}(h:PI X tg e t)(m:∀σ H Q,u σ H Q->t σ H Q):PI X tg e u:=λpins s σ H Q I q=>h pins s σ H Q I (m σ H Q q)
variable {tg:Expr}
def iF:D->Option (List D)
 | .list ds=>some ds
 | .tuple ds=>some ds
 |_=>none
def bZ (fa:VF D):VF (List D):=λvs β=>(fa vs β).bnd λx β1=>R.of (iF x) β1
end
def Hn (K:Frag)(tl:TE):TI:=λσ H R=>tl σ H λx H1=>∃a xs,x=.ref a/\((dJ K H1 a xs/\R (xb K a) H1)\/(fK K H1 a xs/\R (Ci K a) H1))
section
variable {X:Cx}{tg l:Expr}{tl:TE}
def B3 (hl:PE X l tl):PI X tg l (Hn X.K tl):=by
 intro pins s σ H R I h
 refine b4 (hl pins s σ H _ I h) λv s1 ⟨x,H1,I1,r1,q1⟩=>?_
 obtain⟨a,xs,e,q⟩:=q1
 subst e
 cases r1
 rcases q with⟨hq,q⟩ | ⟨hq,q⟩
 ·obtain⟨its,rv,p,hz⟩:=I1.list hq
  refine J2 p.isList ?_
  refine⟨s1.heap.objs.size,[s1.heap.objs.size],_,_,H1,rfl,I1.kept (t':=s1.toks) λb o e=>Hw _ e,kH a _,⟨_,HU _ rfl,rfl,rfl⟩,λb hb=>?_,q⟩
  have e:b=s1.heap.objs.size:=by simpa using hb
  subst e
  exact I1.fpOk (Hy _) (I1.hok.fresh (Hy _))
 ·obtain⟨its,rv,p,hz⟩:=I1.tuple hq
  refine Km (show s1.heap.IsTuple a its.toArray from p) ?_
  refine⟨s1.heap.objs.size,[s1.heap.objs.size],_,_,H1,rfl,I1.kept (t':=s1.toks) λb o e=>Hw _ e,lY a _,⟨_,HU _ rfl,rfl,rfl⟩,λb hb=>?_,q⟩
  have e:b=s1.heap.objs.size:=by simpa using hb
  subst e
  exact I1.fpOk (Hy _) (I1.hok.fresh (Hy _))
end
section
variable {X:Cx}{Γ:Fx}{E:XK}{e a b c:Expr}{f fa fb:VF D}{L La Lb:List Nat}{md ma mb:Md}{pos:Pos}{st:Stmt}{sts:List Stmt}{m m':SF}{ta:VF Bool}{tg:Expr}
def kS {K:Frag}{B:Option Addr}{G H1:Hp}{p:Addr}{xs:List V}{ds:List D}(h:∀Gc H,af G Gc->af Gc H->fm B H1 H->dJ K H p xs)(r:bw K G xs ds):Walk K B G H1 ds (xb K p):=λGc H i s1 s2 m=>by
 have hq:=h Gc H s1 s2 m
 refine⟨λhi=>⟨?_,λx H' y=>?_⟩,λhi=>⟨xs,hq,by rw[r.len];exact hi⟩⟩
 ·have hi':i < xs.length:=by rw[r.len];exact hi
  exact⟨xs,xs[i],hq,by simp[hi']⟩
 ·obtain⟨rfl,y⟩:=y
  obtain⟨d,e,q⟩:=r.at' (y xs hq)
  exact⟨Gc,d,Ext.refl s2,e,q.mono s1⟩
def sq {K:Frag}{B:Option Addr}{G H1:Hp}{p:Addr}{xs:List V}{ds:List D}(h:∀Gc H,af G Gc->af Gc H->fm B H1 H->fK K H p xs)(r:bw K G xs ds):Walk K B G H1 ds (Ci K p):=λGc H i s1 s2 m=>by
 have hq:=h Gc H s1 s2 m
 refine⟨λhi=>⟨?_,λx H' y=>?_⟩,λhi=>⟨xs,hq,by rw[r.len];exact hi⟩⟩
 ·have hi':i < xs.length:=by rw[r.len];exact hi
  exact⟨xs,xs[i],hq,by simp[hi']⟩
 ·obtain⟨rfl,y⟩:=y
  obtain⟨d,e,q⟩:=r.at' (y xs hq)
  exact⟨Gc,d,Ext.refl s2,e,q.mono s1⟩
theorem zq (hK:X.K=Γ.K)(ha:SE X Γ E a fa La .v):SI X Γ E tg a (bZ fa) La .v:=by
 refine PI.post (B3 ha) λσ H Q ⟨env,G,B,β,I,o⟩=>?_
 refine⟨env,G,B,β,I,o.bnd.imp λd1 β1 h x G1 H1 I1 s1 m1 vx=>?_⟩
 obtain⟨ds,e,k⟩:=h.of
 rw[hK]
 have vx:Rp Γ.K G1 x d1:=vx
 cases d1 with
 |list l=>
  cases e
  cases vx with
  | @lst p xs _ hq r=>exact⟨p,xs,rfl,.inl ⟨.inl (Rd.mono (.inl hq) I1.sub),k _ G1 H1 I1 s1 m1 (kS (λGc H t1 t2 _=>.inl (Rd.mono (.inl hq) (t1.trans t2))) r)⟩⟩
 |tuple l=>
  cases e
  cases vx with
  | @tup p xs _ hq r=>exact⟨p,xs,rfl,.inr ⟨hq.grow I1.sub.grow,k _ G1 H1 I1 s1 m1 (sq (λGc H t1 t2 _=>hq.grow (t1.trans t2).grow) r)⟩⟩
 |_=>cases e
theorem oP (hK:X.K=Γ.K)(ha:SE X Γ E a fa La ma):SI X Γ E tg a (bZ fa) La .b:=by
 refine PI.post (B3 ha) λσ H Q ⟨env,G,B,β,I,o⟩=>?_
 refine⟨env,G,B,β,I,o.bnd.imp λd1 β1 h x G1 H1 I1 s1 m1 vx=>?_⟩
 obtain⟨ds,e,k⟩:=h.of
 rw[hK]
 have vx:=vx.brw I.boxThere
 cases d1 with
 |list l=>
  cases e
  rcases vx with vx | ⟨p,rfl,hb,xs,q,r⟩
  ·cases vx with
   | @lst p xs _ hq r=>exact⟨p,xs,rfl,.inl ⟨.inl (Rd.mono (.inl hq) I1.sub),k _ G1 H1 I1 s1 m1 (kS (λGc H t1 t2 _=>.inl (Rd.mono (.inl hq) (t1.trans t2))) r)⟩⟩
  ·exact⟨p,xs,rfl,.inl ⟨.inl (.inl q),k _ G1 H1 I1 s1 m1 (kS (λGc H t1 t2 mv=>.inl (.inl (mv.1 p _ q hb))) r)⟩⟩
 |tuple l=>
  cases e
  rcases vx with vx | ⟨p,rfl,hb,q⟩
  ·cases vx with
   | @tup p xs _ hq r=>exact⟨p,xs,rfl,.inr ⟨hq.grow I1.sub.grow,k _ G1 H1 I1 s1 m1 (sq (λGc H t1 t2 _=>hq.grow (t1.trans t2).grow) r)⟩⟩
  ·exact q.elim
 |_=>cases e
def bN (lo:Int)(n:Nat):List D:=(List.range n).map λ(k:Nat)=>int (lo + k)
def kK (lo:Int)(n:Nat):(bN lo n).length=n:=by unfold bN;simp
def qN {K:Frag}{B:Option Addr}{G H1:Hp}(lo:Int)(n:Nat):Walk K B G H1 (bN lo n) (wL lo n):=λGc H i s1 s2 m=>by
 rw[kK]
 refine⟨λhi=>⟨hi,λx H' y=>?_⟩,λhi=>hi⟩
 obtain⟨rfl,rfl⟩:=y
 refine⟨Gc,.int (lo + i),Ext.refl s2,?_,.int _⟩
 unfold bN
 rw[HL,List.getElem?_range hi];rfl
def xr (j:Int):Bool:=Nat.ble j.natAbs 1000000
def kT {j:Int}(h:xr j=true): -(2 ^ 62)<=j/\j < 2 ^ 62:=by
 have:=Nat.le_of_ble_eq_true h
 omega
def kG {j:Int}(h: -1000<=j)(h2:j<=10000):xr j=true:=Nat.ble_eq_true_of_le (by omega)
def iA (fa:VF D):VF (List D):=λvs β=>(fa vs β).bnd λx β1=>match x with
 | .int j=>if xr j=true then .ok (bN 0 j.toNat) β1 else .bad
 |_=>.bad
def lh (fa fb:VF D):VF (List D):=λvs β=>(fa vs β).bnd λx β1=>(fb vs β1).bnd λy β2=>match x,y with
 | .int i,.int j=>if (xr i && xr j)=true then .ok (bN i (j - i).toNat) β2 else .bad
 |_,_=>.bad
theorem oB {p:Pos}(hg:Gl X "range")(hm:X.mg "range"=none)(ha:SE X Γ E a fa La ma)(hs:starEach [a] X.env= [(false,eval a X.env)]:=by rfl)(hs':starEach [a] X.env=(false,eval a X.env) :: starEach [] X.env:=by rfl):SI X Γ E tg (.Call (.Name "range" p) [a] [] pos) (iA fa) La md:=by
 refine PI.post (i7 hg hm (aC ha aY hs') hs) λσ H Q ⟨env,G,B,β,I,o⟩=>?_
 refine⟨env,G,B,β,I,o.bnd.imp λd1 β1 h x G1 H1 I1 s1 m1 vx=>?_⟩
 have vx:=vx.brw I.boxThere
 cases d1 with
 |int j=>
  obtain rfl:=vx.int
  dsimp only at h
  by_cases hj:xr j=true
  ·rw[HA hj] at h
   exact⟨j,rfl,(kT hj).1,(kT hj).2,h _ G1 H1 I1 s1 m1 (qN 0 _)⟩
  ·rw[HI hj] at h;exact h.elim
 |_=>exact h.elim
def BX {p:Pos}(hg:Gl X "range")(hm:X.mg "range"=none)(ha:SE X Γ E a fa La ma)(hb:SE X Γ E b fb Lb mb)(hs:starEach [a,b] X.env= [(false,eval a X.env),(false,eval b X.env)]:=by rfl)(hs2:starEach [b] X.env= [(false,eval b X.env)]:=by rfl)(hs':starEach [a,b] X.env=(false,eval a X.env) :: starEach [b] X.env:=by rfl)(hs3:starEach [b] X.env=(false,eval b X.env) :: starEach [] X.env:=by rfl):SI X Γ E tg (.Call (.Name "range" p) [a,b] [] pos) (lh fa fb) (La ++ Lb) md:=by
 refine PI.post (v8 hg hm (aC ha (aC hb aY hs3) hs') hs hs2) λσ H Q ⟨env,G,B,β,I,o⟩=>?_
 refine two (W:=λx y H2=>∃i j:Int,[x,y]= [.int i,.int j]/\(-(2 ^ 62)<=i/\i < 2 ^ 62/\ -(2 ^ 62)<=j/\j < 2 ^ 62)/\Q (wL i (j - i).toNat) H2) I (o.bnd.imp λd1 β1 h=>h.bnd.imp λd2 β2 h x y G2 H2 I2 s2 m2 bx by'=>?_)
 obtain⟨i,j,rfl,rfl⟩:∃i j,d1=.int i/\d2=.int j:=by
  cases d1 <;> cases d2 <;> first |exact h.elim |exact⟨_,_,rfl,rfl⟩
 obtain rfl:=bx.int
 obtain rfl:=by'.int
 dsimp only at h
 by_cases hj:(xr i && xr j)=true
 ·rw[HA hj] at h
  rw[Ig] at hj
  exact⟨i,j,rfl,⟨(kT hj.1).1,(kT hj.1).2,(kT hj.2).1,(kT hj.2).2⟩,h _ G2 H2 I2 s2 m2 (qN i _)⟩
 ·rw[HI hj] at h;exact h.elim
inductive Tg where
 |nm (i:Nat)
 |two (i j:Nat)
def pairD:D->Option (D×D)
 | .tuple [x,y]=>some (x,y)
 |_=>none
def yr {d x y:D}(h:pairD d=some (x,y)):d=.tuple [x,y]:=by
 unfold pairD at h
 split at h
 ·cases h;rfl
 ·cases h
def dH:Tg->D->En->Option En
 | .nm i,d,env=>some (env.set i (.fz d))
 | .two i j,d,env=>(pairD d).map λp=>(env.set i (.fz p.1)).set j (.fz p.2)
def qQ:Tg->D->List Nv->Option (List Nv)
 | .nm i,d,vs=>some (vs.set i (.da d))
 | .two i j,d,vs=>(pairD d).map λp=>(vs.set i (.da p.1)).set j (.da p.2)
def tR (env:En)(i:Nat)(s:Sl):vl (env.set i s)=(vl env).set i s.val:=by unfold vl;rw[List.map_set]
theorem Bk (t:Tg)(d:D)(env:En):(dH t d env).map vl=qQ t d (vl env):=by
 cases t with
 |nm i=>show some (vl _)=some _;rw[tR];rfl
 |two i j=>
  show ((pairD d).map _).map vl=(pairD d).map _
  cases pairD d with
  |none=>rfl
  |some p=>show some (vl _)=some _;rw[tR,tR];rfl
def gT (Γ:Fx)(t:Tg):TG:=λv σ H Q=>∃env G B β d env',SR Γ B G H σ env β/\Rp Γ.K G v d/\dH t d env=some env'/\∀σ',SR Γ B G H σ' env' β->Q σ' H
def SG (X:Cx)(Γ:Fx)(tg:Expr)(t:Tg):Prop:=PG X tg (gT Γ t)
def PG.post {X:Cx}{tg:Expr}{t u:TG}(h:PG X tg t)(m:∀v σ H Q,u v σ H Q->t v σ H Q):PG X tg u:=λpins s σ H v uu Q I r q=>h pins s σ H v uu Q I r (m v σ H Q q)
def c7 {i:Nat}{x:Str}(hN:X.N.Nodup)(hi:X.N[i]? =some x:=by rfl)(hx:Loc X.env.scope x:=by first |exact Or.inl rfl |exact Or.inr rfl)(hf:X.fn x=true\/X.env.scope.names.lookup x=some .local:=by first |exact .inl rfl |exact .inr rfl |assumption):SG X Γ (.Name x pos) (.nm i):=by
 refine PG.post (b5 hN hi hx hf) λv σ H Q ⟨env,G,B,β,d,env',I,r,e,k⟩=>?_
 cases e
 exact k _ (I.set' i r)
theorem qh {i j:Nat}{x y:Str}{px py:Pos}{n:Nat}(hN:X.N.Nodup)(hc:X.calm=true:=by rfl)(hK:X.K=Γ.K:=by rfl)(hi:X.N[i]? =some x:=by rfl)(hj:X.N[j]? =some y:=by rfl)(hx:Loc X.env.scope x:=by first |exact Or.inl rfl |exact Or.inr rfl)(hy:Loc X.env.scope y:=by first |exact Or.inl rfl |exact Or.inr rfl)
  (hf:X.fn x=true\/X.env.scope.names.lookup x=some .local:=by first |exact .inl rfl |exact .inr rfl |assumption) (hf':X.fn y=true\/X.env.scope.names.lookup y=some .local:=by first |exact .inl rfl |exact .inr rfl |assumption):SG X Γ (.Tuple [.Name x px,.Name y py] n pos) (.two i j):=by
 refine PG.post (mF (n:=2) hc (cE (b5 hN hi hx hf) (cE (b5 hN hj hy hf') kf))) λv σ H Q ⟨env,G,B,β,d,env',I,r,e,k⟩=>?_
 rw[hK]
 have e:(pairD d).map (λp=>(env.set i (.fz p.1)).set j (.fz p.2))=some env':=e
 cases q:pairD d with
 |none=>rw[q] at e;cases e
 |some p=>
  obtain⟨dx,dy⟩:=p
  rw[q] at e
  cases e
  obtain rfl:=yr q
  cases r with
  | @tup p xs _ hq r=>
   cases r with
   |cons r1 r=>
    cases r with
    |cons r2 r=>
     cases r
     exact⟨p,_,rfl,hq.grow I.sub.grow,rfl,_,_,rfl,_,_,rfl,rfl,k _ ((I.set' i r1).set' j r2)⟩
def gV (t:Tg)(m:SF):List D->SF
 | []=>λenv β=>.nx env β
 |d :: ds=>λenv β=>match dH t d env with
  |none=>.bad
  |some env1=>match m env1 β with
   | .nx env2 β2=>gV t m ds env2 β2
   | .ct env2 β2=>gV t m ds env2 β2
   | .bk env2 β2=>.nx env2 β2
   |r=>r
def cH (t:Tg)(L:List Nat)(fi:VF (List D))(m:SF):SF:=λenv β=>toS (fi (vl env) β) λds β'=>gV t m ds (aU L env) β'
def eB {t:Tg}{fi:VF (List D)}{x:List Stmt}(hp:PassesOwn (model X.prog X.w) X.A X.env X.xe)(hc:X.calm=true)(hi:SI X Γ E tg e fi L .v)(hg:SG X Γ tg t)(hb:wx X Γ E x m)(hs:∀x,foldedSetIterable e X.env x=pure x:=by intro _;rfl):SS X Γ E (.For tg e x [] pos) (cH t L fi m):=by
 refine PS.post (pz hp hc hi hg hb hs) λN σ H ⟨env,G,B,β,I,o⟩=>?_
 refine⟨env,G,B,β,I,cM o λds β' q J G' H' I' s' m' w=>?_⟩
 have w:Walk Γ.K B G' (λ_=>none) ds J:=w
 refine⟨λi n σ H=>n=ds.length - i/\i<=ds.length/\∃env G1 B β,SR Γ B G1 H σ env β/\af G' G1/\nj Γ E G1 N (gV t m (ds.drop i) env β),⟨ds.length,by simp,Ia _,aU L env,G',B,β',I',af.refl _,by rw[List.drop_zero];exact nj.weak q s'⟩,?_⟩
 rintro i n σ H ⟨rfl,hi,env,G1,B1,β1,I1,s1,q⟩
 obtain⟨w1,w2⟩:=w G1 H i s1 I1.sub ⟨(λb o e=>by cases e),λb o u e=>by cases e⟩
 by_cases hlt:i < ds.length
 ·obtain⟨go,yl⟩:=w1 hlt
  refine .inr ⟨go,λσ H=>∃env G2 B β,SR Γ B G2 H σ env β/\af G' G2/\nj Γ E G2 N (gV t m (ds.drop (i + 1)) env β),λσ2 H2 h=>⟨ds.length - (i + 1),by omega,rfl,hlt,h⟩,λx H2 y=>?_⟩
  obtain⟨G2,d,x2,ed,rd⟩:=yl x H2 y
  have I2:=I1.ext x2
  have q:=nj.weak q x2.gg
  rw[Jt hlt] at q
  have ed':ds[i]=d:=by rw[Hu hlt] at ed;exact Option.some.inj ed
  rw[ed'] at q
  unfold gV at q
  cases eb:dH t d env with
  |none=>rw[eb] at q;exact q.elim
  |some env1=>
   rw[eb] at q
   refine⟨env,G2,B1,β1,d,env1,I2,rd,eb,λσ3 I3=>⟨env1,G2,B1,β1,I3,?_⟩⟩
   have s2:=s1.trans x2.gg
   dsimp only at q
   cases r:m env1 β1 with
   |nx env2 β2=>rw[r] at q;exact λB2 G3 H3 σ2 I2 s3=>⟨env2,G3,B2,β2,I2,s2.trans s3,nj.weak q s3⟩
   |ct env2 β2=>rw[r] at q;exact λB2 G3 H3 σ2 I2 s3=>⟨env2,G3,B2,β2,I2,s2.trans s3,nj.weak q s3⟩
   |bk env2 β2=>rw[r] at q;exact λB2 G3 H3 σ2 I2 s3=>q B2 G3 H3 σ2 I2 s3
   |rt d fr β2=>rw[r] at q;exact q
   |exc c=>rw[r] at q;exact q
   |bad=>rw[r] at q;exact q
 ·have e:i=ds.length:=by omega
  subst e
  rw[List.drop_length] at q
  exact .inl ⟨w2 (Hy _),q B1 G1 H σ I1 (af.refl _)⟩
end
abbrev Fx.gu (Γ:Fx)(H0 G0:Hp)(par:List Addr)(br:Nat->Bool)(bx:Option Addr):Fx:=⟨Γ.K,H0,G0,par,Γ.ca,br,bx⟩
def fY (own:Nat)(ixs:List Nat)(vs:List Nv):List Nv:=List.replicate own .no ++ ixs.map λi=>(vs[i]?).getD .no
def ED:Option Sl->Sl
 |some (.ow d)=>.br d
 |some s=>s
 |none=>.no
def benv (own:Nat)(ixs:List Nat)(env:En):En:=List.replicate own .no ++ ixs.map λi=>ED env[i]?
theorem Ba (o:Option Sl):(ED o).val=(o.map Sl.val).getD .no:=by
 cases o with
 |none=>rfl
 |some s=>cases s <;> rfl
def z5 (own:Nat)(ixs:List Nat)(env:En):vl (benv own ixs env)=fY own ixs (vl env):=by
 unfold vl benv fY
 rw[Ic,List.map_replicate,Ja]
 congr 1
 refine Jj λi _=>?_
 show (ED env[i]?).val=_
 rw[Ba,HL]
def t9 (env:En):Prop:=∀(i:Nat) (d:D),env[i]?≠some (.ow d)
theorem r9 {env:En}(h:t9 env)(L:List Nat):aU L env=env:=by
 unfold aU
 induction L with
 |nil=>rfl
 |cons i L ih=>
  rw[foldl_cons]
  have:gH env i=env:=by
   unfold gH
   split
   ·rename_i d e;exact absurd e (h i d)
   ·rfl
  rw[this];exact ih
def oF (own:Nat)(ixs:List Nat)(env:En):t9 (benv own ixs env):=λi d e=>by
 unfold benv at e
 have hm:=HN e
 rcases HP.mp hm with h |h
 ·have:=Kn h;cases this
 ·obtain⟨k,_,hk⟩:=HH.mp h
  cases q:env[k]? with
  |none=>rw[q] at hk;cases hk
  |some s=>rw[q] at hk;cases s <;> cases hk
def lO {env:En}(h:t9 env)(i:Nat)(d:D):t9 (env.set i (.fz d)):=λj d' e=>by
 by_cases z:i=j
 ·subst z
  by_cases hi:i < env.length
  ·rw[HY hi] at e;cases e
  ·rw[Jw (by omega)] at e;exact h _ _ e
 ·rw[HS z] at e;exact h _ _ e
theorem wd {env env1:En}{t:Tg}{d:D}(h:t9 env)(e:dH t d env=some env1):t9 env1:=by
 cases t with
 |nm i=>cases e;exact lO h i d
 |two i j=>
  have e:(pairD d).map _=some env1:=e
  cases q:pairD d with
  |none=>rw[q] at e;cases e
  |some p=>rw[q] at e;cases e;exact lO (lO h _ _) _ _
theorem wR {env env1:En}{t:Tg}{d:D}(e:dH t d env=some env1)(d':D):dH t d' env1=dH t d' env:=by
 cases t with
 |nm i=>cases e;show some _=some _;rw[set_set]
 |two i j=>
  have e:(pairD d).map _=some env1:=e
  cases q:pairD d with
  |none=>rw[q] at e;cases e
  |some p=>
   rw[q] at e;cases e
   show (pairD d').map _=(pairD d').map _
   cases pairD d' with
   |none=>rfl
   |some p'=>
    show some _=some _
    congr 1
    dsimp only
    by_cases z:i=j
    ·subst z;simp[set_set]
    ·rw[List.set_comm _ _ (Ne.symm z),set_set,set_set]
def Ext.mov {G H G' H':Hp}(x:Ext G H G' H')(B:Option Addr):fm B H H':=x.hh.mov B
section
variable {Γ:Fx}{B:Option Addr}{G H G1 H1 Gc Hc:Hp}{σ σ':St}{env envb:En}{β β':Int}{own:Nat}{ixs:List Nat}{Da:Addr}{acc:List V}
def t5 (envb:En):Nat->Bool:=λj=>match envb[j]? with
 |some (.br _)=>true
 |_=>false
def SR.block (I:SR Γ B G H σ env β)(own:Nat)(ixs:List Nat)(hD:H Da=none):SR (Γ.gu (upd H Da (.lst [])) G (Da :: B.toList) (t5 (benv own ixs env)) B) B G (upd H Da (.lst [])) (nS own ixs σ) (benv own ixs env) β:=by
 obtain⟨q1,q2,q3,q4⟩:=I.fresh hD
 have nB:∀b,B=some b->b≠Da:=λb e z=>q3 (by rw[<-z];exact e)
 refine⟨I.sub.trans (af.new hD),af.refl _,λb _ h=>h,λb o h _=>Kt.of h,λb hb=>?_,λb e=>e,λb e=>?_,?_,λi s e=>?_,λi j c d d' e=>absurd e (oF own ixs env i d)⟩
 ·rcases Hx.mp hb with z |z
  ·subst z;exact Mx.lst aq
  ·have z':B=some b:=by simpa using z
   exact Mx.lst (by rw[ak (nB b z')];exact (I.box b z').1)
 ·obtain⟨h1,h2,_⟩:=I.box b e
  exact⟨by rw[ak (nB b e)];exact h1,h2,.inl (HG _ (by simpa using e))⟩
 ·unfold nS benv;simp
 ·by_cases hi:i < own
  ·unfold benv at e
   rw[IB (by simpa using hi),Jf,HA hi] at e
   cases e;trivial
  ·have e0:=e
   unfold benv at e
   rw[Iz (by simpa using hi),JJ,HL] at e
   cases ek:ixs[i - own]? with
   |none=>rw[ek] at e;cases e
   |some k=>
    rw[ek] at e
    have e:ED env[k]? =s:=Option.some.inj e
    have es:(nS own ixs σ)[i]? =some ((σ[k]?).join):=by
     unfold nS
     rw[Iz (by simpa using hi),JJ,HL,ek];rfl
    rw[es]
    cases q:env[k]? with
    |none=>rw[q] at e;subst e;trivial
    |some t=>
     rw[q] at e
     have w:=I.slot k t q
     cases t with
     |no=>subst e;trivial
     |fz d=>subst e;obtain⟨v,h1,h2⟩:=w;exact⟨v,by rw[h1];rfl,h2⟩
     |bx=>subst e;obtain⟨a,h1,h2⟩:=w;exact⟨a,by rw[h1];rfl,h2⟩
     |ow d=>
      subst e
      obtain⟨a,h1,h2,h3,h4,h5⟩:=w
      obtain⟨o,ho⟩:=h5.obj
      have aD:a≠Da:=ax ho hD
      refine⟨by show t5 _ i=true;unfold t5;rw[e0];rfl,a,by rw[h1];rfl,h4,?_,h5.mono (af.refl _) λo q=>Kt.of (by rw[ak aD];exact q)⟩
      intro hm
      rcases Hx.mp hm with z |z
      ·exact aD z
      ·exact h4 (by simpa using z)
     |br d=>
      subst e
      obtain⟨b1,a,h1,h4,hp,h5⟩:=w
      obtain⟨o,ho⟩:=h5.obj
      have aD:a≠Da:=ax ho hD
      refine⟨by show t5 _ i=true;unfold t5;rw[e0];rfl,a,by rw[h1];rfl,h4,?_,h5.mono (af.refl _) λo q=>Kt.of (by rw[ak aD];exact q)⟩
      intro hm
      rcases Hx.mp hm with z |z
      ·exact aD z
      ·exact h4 (by simpa using z)
def SR.unblock (I:SR Γ B G H σ env β){br:Nat->Bool}(hD:H Da=none)(J:SR (Γ.gu (upd H Da (.lst [])) G (Da :: B.toList) br B) B Gc Hc σ' envb β'):SR Γ B Gc Hc σ env β'/\fm B H Hc/\Gc Da=none:=by
 obtain⟨q1,q2,q3,q4⟩:=I.fresh hD
 have up:∀{b:Addr},Mx H b->Mx (upd H Da (.lst [])) b:=λ{b} h=>h.same λo e=>Kt.of (by rw[ak (ax e hD)];exact e)
 have mv0:∀b o,H b=some o->B≠some b->Kt Hc b o:=λb o e n=>J.keep b o (show upd H Da (.lst []) b=some o by rw[ak (ax e hD)];exact e) λhm=>by
  rcases Hx.mp hm with z |z
  ·rw[z,hD] at e;cases e
  ·exact n (by simpa using z)
 have mv:fm B H Hc:=⟨mv0,λb o u e=>mv0 b _ e λz=>by rw[(I.box b z).1] at e;cases e⟩
 refine⟨⟨J.sub,I.old.trans J.old,λb h1 h2=>J.new b (up (I.thereM h1)) (I.new b h1 h2),λb o h1 h2=>lQ (I.keep b o h1 h2) mv λz=>?_,λb hb=>J.thereM (up (I.pin b hb)),I.fix,λb e=>?_,I.len,λi s e=>?_,I.sep⟩,mv,J.new Da (Mx.lst (show upd H Da (.lst []) Da=some (.lst []) from aq)) q2⟩
 ·obtain⟨_,_,h3⟩:=I.box b z
  rcases h3 with h3 |h3
  ·exact h2 h3
  ·rw[h1] at h3;cases h3
 ·obtain⟨j1,j2,_⟩:=J.box b e
  exact⟨j1,j2,(I.box b e).2.2⟩
 ·have w:=I.slot i s e
  cases s with
  |no=>trivial
  |fz d=>obtain⟨v,h1,h2⟩:=w;exact⟨v,h1,h2.mono J.old⟩
  |bx=>exact w
  |ow d=>
   obtain⟨a,h1,h2,h3,h4,h5⟩:=w
   exact⟨a,h1,h2,J.new a (up h5.mx) h3,h4,h5.mono J.old λo q=>mv.1 a o q h4⟩
  |br d=>
   obtain⟨b1,a,h1,h4,hp,h5⟩:=w
   exact⟨b1,a,h1,h4,hp,h5.mono J.old λo q=>mv.1 a o q h4⟩
def SR.updD {ys:List V}(J:SR Γ B G H σ env β)(hp:Da∈Γ.par)(h0:Mx Γ.H0 Da)(g0:Γ.G0 Da=none)(hB:B≠some Da):SR Γ B G (upd H Da (.lst ys)) σ env β:=by
 have gD:=J.new Da h0 g0
 have ha:∀x y,H Da≠some (.aU x y):=λx y w=>(J.pin Da hp).2 _ w trivial
 refine⟨λb u q=>gr (J.sub b u q) (λz=>by rw[z,gD] at q;cases q) ha,J.old,J.new,λb u q n=>gr (J.keep b u q n) (λz=>n (by rw[z];exact hp)) ha,λb hb=>?_,J.fix,λb e=>?_,J.len,λi s e=>?_,J.sep⟩
 ·by_cases z:b=Da
  ·subst z;exact Mx.lst aq
  ·exact (J.pin b hb).same λo e=>Kt.of (by rw[ak z];exact e)
 ·obtain⟨h1,h2⟩:=J.box b e
  exact⟨by rw[ak (λz=>hB (by rw[<-z];exact e))];exact h1,h2⟩
 ·have w:=J.slot i s e
  cases s with
  |no=>trivial
  |fz d=>exact w
  |bx=>exact w
  |ow d=>
   obtain⟨a,h1,h2,h3,h4,h5⟩:=w
   have aD:a≠Da:=λz=>h0.1 (by rw[<-z];exact h2)
   exact⟨a,h1,h2,h3,h4,h5.mono (af.refl _) λo q=>Kt.of (by rw[ak aD];exact q)⟩
  |br d=>
   obtain⟨b1,a,h1,h4,hpa,h5⟩:=w
   have aD:a≠Da:=λz=>hpa (by rw[z];exact hp)
   exact⟨b1,a,h1,h4,hpa,h5.mono (af.refl _) λo q=>Kt.of (by rw[ak aD];exact q)⟩
end
def R.okb {α γ:Type}(r:R α)(k:α->Int->R γ):R γ:=match r with
 | .ok a β=>k a β
 |_=>.bad
def gA (t:Tg)(ft:VF Bool)(fe:VF D)(vs:List Nv):List D->Int->R (List D)
 | [],β=>.ok [] β
 |d :: ds,β=>match qQ t d vs with
  |none=>.bad
  |some vs1=>(ft vs1 β).okb λc β1=>if c=true then (fe vs1 β1).okb λx β2=>(gA t ft fe vs ds β2).okb λxs β3=>.ok (x :: xs) β3 else gA t ft fe vs ds β1
def a7 (own:Nat)(ixs:List Nat)(t:Tg)(fi:VF (List D))(ft:VF Bool)(fe:VF D):VF D:=λvs β=>(fi vs β).bnd λds β1=>if ds.length<=sizeLine then (gA t ft fe (fY own ixs vs) ds β1).okb λxs β2=>.ok (.list xs) β2 else .bad
def ni:VF Bool:=λ_ β=>.ok true β
def Cf (own:Nat)(ixs Lc:List Nat)(j:Nat):Bool:=decide (j < own) || (match ixs[j - own]? with
 |some i=>Lc.contains i
 |none=>false)
theorem AR {α γ:Type}{Γ:Fx}{E:XK}{r:R α}{k:α->Int->R γ}{P:γ->Int->Prop}(h:Out Γ E (r.okb k) P):∃a β,r=.ok a β/\Out Γ E (k a β) P:=by
 cases r with
 |ok a β=>exact⟨a,β,rfl,h⟩
 |exc c=>exact h.elim
 |bad=>exact h.elim
section
variable {X:Cx}{Γ:Fx}{E:XK}{tg iter elt:Expr}{ifs:List Expr}{scope:Scope}{NB:List Str}{own:Nat}{ixs Li Lc Lt Le:List Nat}{t:Tg}{fi:VF (List D)}{ft:VF Bool}{fe:VF D}{pos:Pos}
def fX {X:Cx}{Γ:Fx}{E:XK}:zS X [] (qT Γ E ni []):=λpins s σ H Q I ⟨env,G,B,β,J,o⟩=>pK pins s σ H Q I (o G H J (af.refl _) (fm.refl _ _))
def pL {X:Cx}{Γ:Fx}{E:XK}{c:Expr}{ta:VF Bool}{L:List Nat}(h:xp X Γ E c ta L):zS X [c] (qT Γ E ta L):=vv h
def n5 {NB:List Str}{scope:Scope}{C:Addr}{ex:List Addr}{s3:Shared}{H3:Hp}{pn:List (Addr×Obj)}{P:Program}{w:World}:Passes (nh P w) (gu X NB scope C ex s3 H3 pn) E0:=λpins σ H s e s' I h=>by
 obtain⟨_,_,_,_,_,_,_,_,_,q⟩:=h
 exact q.elim
abbrev gU (Γ:Fx)(t:Tg):TG:=λv σ H Q=>∃H0 G0 par br bx,gT (Γ.gu H0 G0 par br bx) t v σ H Q
abbrev tU (Γ:Fx)(own:Nat)(ixs Lc:List Nat)(ft:VF Bool)(Lt:List Nat):TT:=λσ H Q=>∃H0 G0 par br bx,(∀j,Cf own ixs Lc j=true->br j=false)/\qT (Γ.gu H0 G0 par br bx) E0 ft Lt σ H Q
abbrev eU (Γ:Fx)(own:Nat)(ixs Lc:List Nat)(fe:VF D)(Le:List Nat):TE:=λσ H Q=>∃H0 G0 par br bx,(∀j,Cf own ixs Lc j=true->br j=false)/\pT (Γ.gu H0 G0 par br bx) E0 fe Le .v σ H Q
def Cd {σ:St}{H:Hp}{Q:VK}(hLc:∀i,i∈Lc->Γ.br i=false)(h:pT Γ E (a7 own ixs t fi ft fe) (Li ++ Lc) .w σ H Q):tH own ixs (iT Γ E fi Li .b) (gU Γ t) (tU Γ own ixs Lc ft Lt) (eU Γ own ixs Lc fe Le) σ H Q:=by
 obtain⟨env,G,B,β,I,o⟩:=h
 refine⟨env,G,B,β,I,o.bnd.imp λds β1 h J G1 H1 I1 s1 m1 wk Da hD=>?_⟩
 have wk:Walk Γ.K B G1 H1 ds J:=wk
 by_cases hz:ds.length<=sizeLine
 case neg=>rw[HI hz] at h;exact h.elim
 rw[HA hz] at h
 obtain⟨xs0,β0,e0,h⟩:=AR h
 have h:∀v G' H',SR Γ B G' H' σ (aU (Li ++ Lc) env) β0->af G G'->fm B H H'->VO Γ.K B H G' H' .w (.list xs0) v->Q v H':=h
 obtain⟨G2,I2,s2⟩:=I1.aU Lc hLc
 rw[<-dB] at I2
 obtain⟨q1,q2,q3,q4⟩:=I2.fresh hD
 have Ib0:=I2.block own ixs hD
 generalize hbr:t5 (benv own ixs (aU (Li ++ Lc) env))=br at Ib0
 have hbo:∀j,Cf own ixs Lc j=true->br j=false:=by
  intro j hj
  rw[<-hbr]
  unfold t5
  split
  ·rename_i d e
   exfalso
   unfold benv at e
   by_cases hjo:j < own
   ·rw[IB (by simpa using hjo),Jf,HA hjo] at e;cases e
   ·rw[Iz (by simpa using hjo),JJ,HL] at e
    unfold Cf at hj
    rw[HV hjo,Bool.false_or] at hj
    cases ek:ixs[j - own]? with
    |none=>rw[ek] at hj;cases hj
    |some k=>
     rw[ek] at hj e
     have hk:k∈Lc:=by simpa using hj
     have e:ED (aU (Li ++ Lc) env)[k]? =.br d:=Option.some.inj e
     cases q:(aU (Li ++ Lc) env)[k]? with
     |none=>rw[q] at e;cases e
     |some s=>
      rw[q] at e
      cases s with
      |no=>cases e
      |fz _=>cases e
      |bx=>cases e
      |br d'=>
       obtain⟨b1,_⟩:=I2.slot k _ q
       rw[hLc k hk] at b1;cases b1
      |ow d'=>
       rw[dB] at q
       have key:∀(M:List Nat) (en:En),k∈M->∀d',(aU M en)[k]?≠some (.ow d'):=by
        intro M
        induction M with
        |nil=>intro en hm;cases hm
        |cons i M ih=>
         intro en hm d' z
         rcases Hx.mp hm with y |y
         ·subst y
          have z1:(gH en k)[k]? =some (.ow d'):=pe (L:=M) z
          have z2:=uO z1
          unfold gH at z1
          rw[z2] at z1
          dsimp only at z1
          rw[HY (HB.mp z2).1] at z1;cases z1
         ·exact ih (gH en i) y d' z
       exact key Lc _ hk d' q
  ·rfl
 have evb:vl (benv own ixs (aU (Li ++ Lc) env))=fY own ixs (vl env):=by rw[z5,iS]
 refine⟨λi n σ' H'=>n=ds.length - i/\i<=ds.length/\∃envb Gc β' acc accd,SR (Γ.gu (upd H1 Da (.lst [])) G2 (Da :: B.toList) br B) B Gc H' σ' envb β'/\(envb=benv own ixs (aU (Li ++ Lc) env)\/∃d,dH t d (benv own ixs (aU (Li ++ Lc) env))=some envb)/\
   H' Da=some (.lst acc)/\bw Γ.K Gc acc accd/\accd.length<=i/\∃xs,gA t ft fe (fY own ixs (vl env)) (ds.drop i) β'=.ok xs β0/\accd ++ xs=xs0,
  ⟨ds.length,by simp,Ia _,_,G2,β1,[],[],Ib0,.inl rfl,aq,.nil,Ia _,xs0,by rw[List.drop_zero];exact e0,rfl⟩,?_⟩
 rintro i n σ' H' ⟨rfl,hi',envb,Gc,β',acc,accd,Ib,eb,hacc,racc,lacc,xs,ec,exs⟩
 obtain⟨Io,mv,gD⟩:=I2.unblock hD Ib
 obtain⟨w1,w2⟩:=wk Gc H' i (s2.trans Ib.old) Ib.sub mv
 by_cases hlt:i < ds.length
 ·obtain⟨go,yl⟩:=w1 hlt
  refine .inr ⟨go,λσ' H'=>∃envb Gc β' acc accd,SR (Γ.gu (upd H1 Da (.lst [])) G2 (Da :: B.toList) br B) B Gc H' σ' envb β'/\(envb=benv own ixs (aU (Li ++ Lc) env)\/∃d,dH t d (benv own ixs (aU (Li ++ Lc) env))=some envb)/\
   H' Da=some (.lst acc)/\bw Γ.K Gc acc accd/\accd.length<=i + 1/\∃xs,gA t ft fe (fY own ixs (vl env)) (ds.drop (i + 1)) β'=.ok xs β0/\accd ++ xs=xs0,λσ2 H2 hh=>⟨ds.length - (i + 1),by omega,rfl,hlt,hh⟩,λx H2 y=>?_⟩
  obtain⟨G3,d,x3,ed,rd⟩:=yl x H2 y
  have I3:=Ib.ext x3
  have ed':ds[i]=d:=by rw[Hu hlt] at ed;exact Option.some.inj ed
  rw[Jt hlt,ed'] at ec
  unfold gA at ec
  cases ebv:qQ t d (fY own ixs (vl env)) with
  |none=>rw[ebv] at ec;cases ec
  |some vs1=>
   rw[ebv] at ec
   dsimp only at ec
   obtain⟨env1,eb1,ev1⟩:∃env1,dH t d (benv own ixs (aU (Li ++ Lc) env))=some env1/\vl env1=vs1:=by
    have:=Bk t d (benv own ixs (aU (Li ++ Lc) env))
    rw[evb,ebv] at this
    cases q:dH t d (benv own ixs (aU (Li ++ Lc) env)) with
    |none=>rw[q] at this;cases this
    |some env1=>rw[q] at this;exact⟨env1,rfl,Option.some.inj this⟩
   have eb2:dH t d envb=some env1:=by
    rcases eb with rfl | ⟨d0,eb⟩
    ·exact eb1
    ·rw[wR eb];exact eb1
   have no1:t9 env1:=wd (oF _ _ _) eb1
   have a2:H2 Da=some (.lst acc):=x3.hh _ _ hacc
   refine⟨_,_,_,_,_,envb,G3,B,β',d,env1,I3,rd,eb2,λσ3 I4=>?_⟩
   refine⟨_,_,_,_,_,hbo,env1,G3,B,β',I4,?_⟩
   rw[ev1]
   cases et:ft vs1 β' with
   |exc c=>rw[et] at ec;cases ec
   |bad=>rw[et] at ec;cases ec
   |ok c β2=>
    rw[et] at ec
    intro G4 H4 I5 s4 m4
    rw[r9 no1] at I5
    have a4:H4 Da=some (.lst acc):=m4.1 _ _ a2 q3
    cases c with
    |false=>
     refine qX ⟨env1,G4,β2,acc,accd,I5,.inr ⟨d,eb1⟩,a4,racc.mono (x3.gg.trans s4),by omega,xs,?_,exs⟩
     exact ec
    |true=>
     refine qZ ⟨_,_,_,_,_,hbo,env1,G4,B,β2,I5,?_⟩
     rw[ev1]
     have ec:((fe vs1 β2).okb λx β3=>(gA t ft fe (fY own ixs (vl env)) (ds.drop (i + 1)) β3).okb λxs β4=>R.ok (x :: xs) β4)=R.ok xs β0:=ec
     cases ee:fe vs1 β2 with
     |exc c=>rw[ee] at ec;cases ec
     |bad=>rw[ee] at ec;cases ec
     |ok dx β3=>
      rw[ee] at ec
      intro v G5 H5 I6 s5 m5 vo
      rw[r9 no1] at I6
      have a5:H5 Da=some (.lst acc):=m5.1 _ _ a4 q3
      have ec:((gA t ft fe (fY own ixs (vl env)) (ds.drop (i + 1)) β3).okb λxs β4=>R.ok (dx :: xs) β4)=R.ok xs β0:=ec
      cases er:gA t ft fe (fY own ixs (vl env)) (ds.drop (i + 1)) β3 with
      |exc c=>rw[er] at ec;cases ec
      |bad=>rw[er] at ec;cases ec
      |ok ys β4=>
       rw[er] at ec
       cases ec
       refine⟨acc,a5,by rw[racc.len];omega,env1,G5,β3,acc ++ [v],accd ++ [dx],?_,.inr ⟨d,eb1⟩,aq,(racc.mono ((x3.gg.trans s4).trans s5)).snoc vo,by rw[Ik];simp;omega,ys,er,by rw[<-exs,I0];rfl⟩
       refine I6.updD (Hz ..) (Mx.lst (show upd H1 Da (.lst []) Da=some (.lst []) from aq)) (I2.sub.free hD) q3
 ·have e:i=ds.length:=by omega
  subst e
  rw[List.drop_length] at ec
  cases ec
  rw[Ju] at exs
  subst exs
  refine .inl ⟨w2 (Hy _),⟨acc,hacc⟩,h _ Gc H' Io ((s1.trans s2).trans Ib.old) (m1.trans mv) ⟨Da,rfl,fg m1 I1.boxThere hD,gD,acc,hacc,racc⟩⟩
def bU (hg:∀H0 G0 par br bx C ex s3 H3 pn,SG (gu X NB scope C ex s3 H3 pn) (Γ.gu H0 G0 par br bx) tg t)(C:Addr)(ex:List Addr)(s3:Shared)(H3:Hp)(pn:List (Addr×Obj)):PG (gu X NB scope C ex s3 H3 pn) tg (gU Γ t):=by
 rintro pins s σ H v u Q I r ⟨H0,G0,par,br,bx,q⟩
 exact hg H0 G0 par br bx C ex s3 H3 pn pins s σ H v u Q I r q
def dF (Lc:List Nat)(hc:X.calm=true)(S:cj X NB own ixs scope)(hLc:∀i,i∈Lc->Γ.br i=false)(hi:SI X Γ E tg iter fi Li .b)
  (hg:∀H0 G0 par br bx C ex s3 H3 pn,SG (gu X NB scope C ex s3 H3 pn) (Γ.gu H0 G0 par br bx) tg t)
  (ht:∀H0 G0 par br bx C ex s3 H3 pn,(∀j,Cf own ixs Lc j=true->br j=false)->zS (gu X NB scope C ex s3 H3 pn) ifs (qT (Γ.gu H0 G0 par br bx) E0 ft Lt))
  (he:∀H0 G0 par br bx C ex s3 H3 pn,(∀j,Cf own ixs Lc j=true->br j=false)->SE (gu X NB scope C ex s3 H3 pn) (Γ.gu H0 G0 par br bx) E0 elt fe Le .v)
  (hs:∀x,foldedSetIterable iter X.env x=pure x:=by intro _;rfl) :
  SE X Γ E (.ListComp elt [⟨tg,iter,ifs,0⟩] scope pos) (a7 own ixs t fi ft fe) (Li ++ Lc) .w:=by
 refine PE.post' (rm (g:=gU Γ t) (tt:=tU Γ own ixs Lc ft Lt) (te:=eU Γ own ixs Lc fe Le) hc S hi (bU hg) (λC ex s3 H3 pn=>?_) (λC ex s3 H3 pn=>?_) hs) λσ H Q h=>Cd hLc h
 ·rintro pins s σ H Q I ⟨H0,G0,par,br,bx,b,q⟩
  exact ht H0 G0 par br bx C ex s3 H3 pn b pins s σ H Q I q
 ·rintro pins s σ H Q I ⟨H0,G0,par,br,bx,b,q⟩
  exact he H0 G0 par br bx C ex s3 H3 pn b pins s σ H Q I q
def Bl {i:Nat}{y:Str}{py spos:Pos}(Lc:List Nat)(hc:X.calm=true)(S:cj X NB own ixs scope)(hLc:∀i,i∈Lc->Γ.br i=false)(hi:SI X Γ E tg iter fi Li .b)
  (hg:∀H0 G0 par br bx C ex s3 H3 pn,SG (gu X NB scope C ex s3 H3 pn) (Γ.gu H0 G0 par br bx) tg t)
  (ht:∀H0 G0 par br bx C ex s3 H3 pn,(∀j,Cf own ixs Lc j=true->br j=false)->zS (gu X NB scope C ex s3 H3 pn) ifs (qT (Γ.gu H0 G0 par br bx) E0 ft Lt))
  (he:∀H0 G0 par br bx C ex s3 H3 pn,(∀j,Cf own ixs Lc j=true->br j=false)->SE (gu X NB scope C ex s3 H3 pn) (Γ.gu H0 G0 par br bx) E0 elt fe Le .v)
  (hN:X.N.Nodup) (hy:X.N[i]? =some y:=by rfl) (hl:X.env.scope.names.lookup y=some .local:=by rfl)
  (hsw:swapsWith (.ListComp elt [⟨tg,iter,ifs,0⟩] scope pos) (some (.Name y py)) spos.line X.env=pure true:=by rfl)
  (hs:∀x,foldedSetIterable iter X.env x=pure x:=by intro _;rfl) :
  SS X Γ E (.Assign [.Name y py] (.ListComp elt [⟨tg,iter,ifs,0⟩] scope pos) spos) (bF i (Li ++ Lc) (a7 own ixs t fi ft fe)):=by
 refine PS.post (y1 (g:=gU Γ t) (tt:=tU Γ own ixs Lc ft Lt) (te:=eU Γ own ixs Lc fe Le) hc S hi (bU hg) (λC ex s3 H3 pn=>?_) (λC ex s3 H3 pn=>?_) hN hy hl hsw hs) λN σ H ⟨env,G,B,β,I,o⟩=>?_
 ·rintro pins s σ H Q I ⟨H0,G0,par,br,bx,b,q⟩
  exact ht H0 G0 par br bx C ex s3 H3 pn b pins s σ H Q I q
 ·rintro pins s σ H Q I ⟨H0,G0,par,br,bx,b,q⟩
  exact he H0 G0 par br bx C ex s3 H3 pn b pins s σ H Q I q
 refine Cd hLc ⟨env,G,B,β,I,cM o λd β' k v G' H' I' s' m' vo=>?_⟩
 obtain⟨G2,I2,s2,r⟩:=I.letW I' vo
 exact k B G2 H' _ (I2.set' i r) (s'.trans s2)
end
def fin:SO->FR
 | .nx _ _=>.ok .none false
 | .rt d fr _=>.ok d fr
 | .exc c=>.exc c
 |_=>.bad
def wm (n:Nat)(ds:List D):En:=ds.map Sl.fz ++ List.replicate (n - ds.length) .no
def bh (n p:Nat)(m:SF):List D->FR:=λds=>if ds.length=p then fin (m (wm n ds) 0) else .bad
abbrev Fx.fn (K:Frag)(H G:Hp)(ca:Str->Addr):Fx:=⟨K,H,G,[],ca,λ_=>false,none⟩
def SR.start {K:Frag}{H G:Hp}{ca:Str->Addr}{N:List Str}{vs:List V}{ds:List D}(s:af G H)(r:bw K G vs ds)(hn:ds.length<=N.length):SR (Fx.fn K H G ca) none G H (start N vs) (wm N.length ds) 0:=by
 have hl:=r.len
 refine⟨s,af.refl _,λb _ h=>h,λb o h _=>Kt.of h,λb h=>(by cases h),λb h=>(by cases h),λb h=>(by cases h),?_,λi t e=>?_,λi j a d e h=>?_⟩
 ·unfold L2.start wm;simp;omega
 ·unfold wm at e
  by_cases hi:i < ds.length
  ·rw[IB (by simpa using hi),HL,Hu hi] at e
   cases e
   obtain⟨x,hx,rx⟩:=r.at (Hu hi)
   refine⟨x,?_,rx⟩
   unfold L2.start
   rw[IB (by simpa[hl] using hi),HL,hx];rfl
  ·rw[Iz (by simpa using hi),Jf] at e
   split at e
   ·cases e;trivial
   ·cases e
 ·unfold wm at h
  have hm:=HN h
  rcases HP.mp hm with z |z
  ·obtain⟨_,_,z⟩:=HH.mp z;cases z
  ·have:=Kn z;cases this
section
variable {P:Program}{w:World}{K:Frag}{mg:Str->Option Value}{base:Heap}{ca:Str->Addr}
def aX {x qual:Str}{st:Stmt}{f:Addr}{fd:FuncData}{N ps:List Str}{k:Nat}{m:SF}(F:zY K x qual st f fd)(S:aF N ps (ar st))
  (hbody:∀(cdv:Value) (A:Around) (outer:List Env) (s:Shared) (H G:Hp) (E:XK),cX k (A.deeper (envOfC qual (ar st) s.heap.objs.size f cdv))->wx (nC (nh P w) P w K mg base N qual (ar st) f cdv A outer s H E) (Fx.fn K H G ca) E (b6 st) m) :
  dw P w K mg base (nh P w) (k + 1) f fd ps (xl K ca ps.length (bh N.length ps.length m)):=by
 have hpn:ps.length<=N.length:=by have:=congrArg List.length S.pre;rw[IE] at this;omega
 refine F.xr S (λvs H Q E h=>?_) (λcdv A outer s H vs Q E hr h=>?_)
 ·obtain⟨G,ds,sG,hl,r,_⟩:=h
  rw[r.len];exact hl
 ·obtain⟨G,ds,sG,hl,r,h⟩:=h
  refine⟨_,hbody cdv A outer s H G E hr,?_⟩
  have I:=SR.start (ca:=ca) (N:=N) sG r (by omega)
  refine⟨_,G,none,0,I,?_⟩
  unfold bh at h
  rw[HA hl] at h
  have fin':∀{B G' H' σ env β},SR (Fx.fn K H G ca) B G' H' σ env β->af H H':=λJ b o e=>J.keep b o e (λz=>by cases z)
  cases q:m (wm N.length ds) 0 with
  |nx env β=>rw[q] at h;exact λB G' H' σ J s'=>h .non G' H' (fin' J) s' J.sub (λb h1 h2=>J.new b h1 h2) Rp.non
  |bk env β=>rw[q] at h;exact h.elim
  |ct env β=>rw[q] at h;exact h.elim
  |rt d fr β=>
   rw[q] at h
   refine λB G' H' σ env v J s' rv=>h v G' H' (fin' J) s' J.sub (λb h1 h2=>J.new b h1 h2) ?_
   cases fr with
   |true=>exact rv
   |false=>exact rv
  |exc c=>rw[q] at h;exact λH' kp=>h H' λb o e=>kp b o e (λz=>by cases z)
  |bad=>rw[q] at h;exact h.elim
def zw {f:Addr}{fd:FuncData}{ps:List Str}{k:Nat}:dw P w K mg base (nh P w) k f fd ps (xl K ca ps.length λ_=>.bad):=
 ⟨λvs H Q E h=>by obtain⟨_,_,_,_,_,h⟩:=h;exact h.elim,λA outer s H args us vs Q E _ _ _ _ h=>by obtain⟨_,_,_,_,_,h⟩:=h;exact h.elim⟩
def AF {n:Nat}{F F':List D->FR}(h:∀ds,ds.length=n->F' ds≠.bad->F ds=F' ds){vs:List V}{H:Hp}{Q:VK}{E:XK}(q:xl K ca n F' vs H Q E):xl K ca n F vs H Q E:=by
 obtain⟨G,ds,s,hl,r,q⟩:=q
 refine⟨G,ds,s,hl,r,?_⟩
 by_cases hb:F' ds=.bad
 ·rw[hb] at q;exact q.elim
 ·rw[h ds hl hb];exact q
def cY.imp {x:Str}{ps:List Str}{k:Nat}{F F':List D->FR}(h:cY P w K mg base ca x ps k F)(i:∀ds,F' ds≠.bad->F ds=F' ds):cY P w K mg base ca x ps k F':=by
 obtain⟨f,fd,a,b,c,d⟩:=h.ex
 exact⟨⟨f,fd,a,b,c,d.imp λvs H Q E q=>AF (λds _=>i ds) q⟩,λds hn=>h.len ds (by rw[i ds hn];exact hn)⟩
def aP {n p:Nat}{m:SF}(ds:List D)(h:bh n p m ds≠.bad):ds.length=p:=by
 unfold bh at h
 by_cases hl:ds.length=p
 ·exact hl
 ·rw[HI hl] at h;exact absurd rfl h
end
section
variable {X:Cx}{Γ:Fx}{E:XK}{e a b c:Expr}{f fa fb:VF D}{L La Lb:List Nat}{md ma mb:Md}{pos apos cpos np:Pos}
def ub:Option Sl->Bool
 |some (.ow (.list _))=>true
 |_=>false
theorem oN {o:Option Sl}(h:ub o=true):∃ds,o=some (.ow (.list ds)):=by
 cases o with
 |none=>cases h
 |some s=>
  cases s with
  |ow d=>cases d with
   |list ds=>exact⟨ds,rfl⟩
   |_=>cases h
  |_=>cases h
def DV (i:Nat)(env:En)(β:Int)(g:List D->Option (List D)):SO:=match env[i]? with
 |some (.ow (.list ds))=>(match g ds with
  |some es=>.nx (env.set i (.ow (.list es))) β
  |none=>.bad)
 |_=>.bad
def ll (i:Nat)(L:List Nat)(f:VF D):SF:=λenv β=>if ub env[i]? =true then toS (f (vl env) β) λd β'=>DV i (aU L env) β' λds=>if ds.length < sizeLine then some (ds ++ [d]) else none else .bad
def uB {Γ:Fx}{E:XK}{G:Hp}{N:Ends}{i:Nat}{env:En}{β:Int}{g:List D->Option (List D)}(h:nj Γ E G N (DV i env β g)):∃ds es,env[i]? =some (.ow (.list ds))/\g ds=some es/\nj Γ E G N (.nx (env.set i (.ow (.list es))) β):=by
 unfold DV at h
 split at h
 ·rename_i ds q
  cases e:g ds with
  |none=>rw[e] at h;exact h.elim
  |some es=>rw[e] at h;exact⟨ds,es,q,e,h⟩
 ·exact h.elim
def kq (i:Nat){x:Str}(hb:∀j,Γ.br j=false)(he:SE X Γ E e f L .v)(hN:X.N[i]? =some x:=by rfl)(hv:wW X.env.scope x:=by first |exact Or.inl rfl |exact Or.inr (Or.inl rfl) |exact Or.inr (Or.inr rfl))(hd:(x == ("__debug__":Str))=false:=by decide)
  (hcd:(x == ("__classdict__":Str))=false:=by decide)
  (hbase:attributeBase (.Name x np) "append" X.env (eval (.Name x np) X.env)=eval (.Name x np) X.env:=by rfl)
  (hfew:((backTo cpos (starEach [e] X.env)).all (λx=> !x.1) && (backToKw cpos (keywordEach [] X.env)).all (λx=>x.1.isSome)
   && decide ([e].length + ([]:List Keyword).length + (if ([]:List Keyword).isEmpty then 0 else 1) < 30))=true:=by rfl)
  (hline:(apos.endLine == cpos.line)=true:=by rfl) (hs:starEach [e] X.env=(false,eval e X.env) :: starEach [] X.env:=by rfl)
  (hsw:swapsWith (.Call (.Attribute (.Name x np) "append" apos) [e] [] cpos) none pos.line X.env=pure false:=by rfl) :
  SS X Γ E (.Expr (.Call (.Attribute (.Name x np) "append" apos) [e] [] cpos) pos) (ll i L f):=by
 refine PS.post (jH (rW JB JS JT gL (fu hN hv hd hcd) (aC he aY hs) hbase hfew hline hs rfl) hsw) λN σ H ⟨env,G,B,β,I,o⟩=>?_
 unfold ll at o
 by_cases hO:ub env[i]? =true
 case neg=>rw[HI hO] at o;exact o.elim
 rw[HA hO] at o
 obtain⟨ds0,q0⟩:=oN hO
 obtain⟨p,h1,_,_,_,xs,h5,_⟩:=I.slot i _ q0
 refine⟨_,h1,.inl ⟨rfl,xs,.inl (.inl h5)⟩,?_⟩
 refine⟨env,G,B,β,I,cM o λd β' k v G' H' I' s' m' vo=>?_⟩
 obtain⟨ds,es,q,eg,k⟩:=uB k
 by_cases hz:ds.length < sizeLine
 case neg=>rw[HI hz] at eg;cases eg
 rw[HA hz] at eg
 cases eg
 obtain⟨p',g1,_,_,_,ys,g5,g6⟩:=I'.slot i _ q
 rw[h1] at g1;cases g1
 refine⟨p,ys,v,rfl,rfl,g5,by rw[g6.len];exact hz,?_⟩
 exact k B G' _ σ (I'.write hb q h1 λH2 e2 s2=>⟨_,e2,g6.snoc vo⟩) s'
def Inv.lstR {pins:List (Addr×Obj)}{σ:St}{H:Hp}{s:Shared}{l:Addr}{xs:List V}(I:Inv X pins σ H s)(hH:Rd H l (.lst xs)):xs.length<=sizeLine/\∃(its:List Value) (n:Nat),Vals xs its/\xs.length=its.length/\s.heap.get? l=some {cls:=.type "list",data:=.seq its.toArray n}:=by
 obtain⟨z,its,n,r,e⟩:=hH.ok I.hok
 exact⟨z,its,n,r,r.length,e⟩
end
section
variable {K:Frag}{X:Cx}
def yp {g:Int->Int->V}{gd:D->D->Option D}(h:∀dx dy d,gd dx dy=some d->∃i j,dx=.int i/\dy=.int j/\∀G,Rp K G (g i j) d):nc K (Bs g) gd .v:=by
 intro B G H x y dx dy d Q s hB bx by' e k
 obtain⟨i,j,rfl,rfl,r⟩:=h _ _ _ e
 obtain rfl:=bx.int
 obtain rfl:=by'.int
 exact⟨i,j,rfl,rfl,k _ G H (Ext.refl s) (r G)⟩
def yA {C:Int->Int->Prop}{g:Int->Int->V}{gd:D->D->Option D}(h:∀dx dy d,gd dx dy=some d->∃i j,dx=.int i/\dy=.int j/\C i j/\∀G,Rp K G (g i j) d):nc K (rI C g) gd .v:=by
 intro B G H x y dx dy d Q s hB bx by' e k
 obtain⟨i,j,rfl,rfl,c,r⟩:=h _ _ _ e
 obtain rfl:=bx.int
 obtain rfl:=by'.int
 exact⟨i,j,rfl,rfl,c,k _ G H (Ext.refl s) (r G)⟩
def gI (c:Int->Int->Bool)(g:Int->Int->D):D->D->Option D
 | .int i,.int j=>if c i j=true then some (g i j) else none
 |_,_=>none
def wV (g:Int->Int->D):D->D->Option D
 | .int i,.int j=>some (g i j)
 |_,_=>none
def zN {c:Int->Int->Bool}{g:Int->Int->D}{dx dy d:D}(h:gI c g dx dy=some d):∃i j,dx=.int i/\dy=.int j/\c i j=true/\d=g i j:=by
 unfold gI at h
 split at h
 ·split at h
  ·cases h;exact⟨_,_,rfl,rfl,by assumption,rfl⟩
  ·cases h
 ·cases h
def l7 {g:Int->Int->D}{dx dy d:D}(h:wV g dx dy=some d):∃i j,dx=.int i/\dy=.int j/\d=g i j:=by
 unfold wV at h
 split at h
 ·cases h;exact⟨_,_,rfl,rfl,rfl⟩
 ·cases h
def ze:D->D->Option D:=gI (λ_ j=>decide (0 < j) && decide (j < 1073741824)) λi j=>.int (i / j)
def AD:nc K (rI AZ λi j=>.int (i / j)) ze .v:=yA λdx dy d h=>by obtain⟨i,j,rfl,rfl,c,rfl⟩:=zN h;exact⟨i,j,rfl,rfl,by simpa[AZ] using c,λ_=>.int _⟩
def jP:D->D->Option D:=gI (λ_ j=>decide (0 < j)) λi j=>.int (i % j)
def oJ:nc K (rI (λ_ j=>0 < j) λi j=>.int (i % j)) jP .v:=yA λdx dy d h=>by obtain⟨i,j,rfl,rfl,c,rfl⟩:=zN h;exact⟨i,j,rfl,rfl,by simpa using c,λ_=>.int _⟩
def CQ:D->D->Option D:=wV λi j=>.bool (decide (i < j))
def zk:D->D->Option D:=wV λi j=>.bool (decide (i<=j))
def E6:nc K (Bs λi j=>.bl (decide (i < j))) CQ .v:=yp λdx dy d h=>by obtain⟨i,j,rfl,rfl,rfl⟩:=l7 h;exact⟨i,j,rfl,rfl,λ_=>.bl _⟩
def CN:nc K (Bs λi j=>.bl (decide (i<=j))) zk .v:=yp λdx dy d h=>by obtain⟨i,j,rfl,rfl,rfl⟩:=l7 h;exact⟨i,j,rfl,rfl,λ_=>.bl _⟩
mutual
theorem uG:∀d:D,d.canLay0=true->xY d=true
 | .none,_=>rfl
 | .bool _,_=>rfl
 | .int _,_=>rfl
 | .str _,_=>rfl
 | .list ds,h=>by simp only[PyData.canLay0] at h;simp only[xY];exact mZ ds h
 | .tuple ds,h=>by simp only[PyData.canLay0] at h;simp only[xY];exact mZ ds h
 | .dict _,h=>by simp[PyData.canLay0] at h
theorem mZ:∀ds:List D,PyData.canLayAll0 ds=true->nK ds=true
 | [],_=>rfl
 |d :: ds,h=>by
  simp only[PyData.canLayAll0,Ig] at h
  simp only[nK,Ig]
  exact⟨uG d h.1,mZ ds h.2⟩
end
def pP {d:D}(h:SeqAt.shaped d=true):xY d=true:=uG d (J1 h)
theorem u5:∀{ds:List D},(ds.all SeqAt.shaped)=true->nK ds=true
 | [],_=>rfl
 |d :: ds,h=>by
  rw[JX,Ig] at h
  simp only[nK,Ig]
  exact⟨pP h.1,u5 h.2⟩
def de (neg:Bool)(x y:D):Option D:=if (SeqAt.shaped x && SeqAt.shaped y)=true then some (.bool (if neg then !PyData.eqv x y else PyData.eqv x y)) else none
def gC {neg:Bool}:nc K (C7 K neg) (de neg) .v:=by
 intro B G H x y dx dy d Q s hB bx by' e k
 unfold de at e
 split at e
 ·rename_i h
  rw[Ig] at h
  cases e
  exact⟨dx,dy,(bx.rpH s).rep (pP h.1),(by'.rpH s).rep (pP h.2),h.1,h.2,k _ G H (Ext.refl s) (.bl _)⟩
 ·cases e
def zX (neg:Bool)(x y:D):Option D:=match iF y with
 |some ds=>if (SeqAt.shaped x && ds.all SeqAt.shaped)=true then some (.bool (if neg then !(ds.any λe=>PyData.eqv e x) else ds.any λe=>PyData.eqv e x)) else none
 |none=>none
theorem jk.seq {B:Option Addr}{G H:Hp}{v:V}{d:D}{ds:List D}(h:jk K B G H v d)(e:iF d=some ds)(s:af G H):∃a xs,v=.ref a/\(dJ K H a xs\/fK K H a xs)/\bw K G xs ds:=by
 cases d with
 |list l=>cases e;obtain⟨a,xs,e,q,r⟩:=h.list s;exact⟨a,xs,e,.inl (.inl q),r⟩
 |tuple l=>cases e;obtain⟨a,xs,e,q,r⟩:=h.tuple s;exact⟨a,xs,e,.inr q,r⟩
 |_=>cases e
theorem AG {neg:Bool}:nc K (EE K neg) (zX neg) .v:=by
 intro B G H x y dx dy d Q s hB bx by' e k
 unfold zX at e
 cases q:iF dy with
 |none=>rw[q] at e;cases e
 |some ds=>
  rw[q] at e
  dsimp only at e
  split at e
  ·rename_i h
   rw[Ig] at h
   cases e
   obtain⟨a,xs,rfl,hq,r⟩:=by'.seq q s
   refine⟨a,xs,dx,ds,rfl,hq,(r.mono s).reps (u5 h.2),(bx.rpH s).rep (pP h.1),h.1,λe he=>IG.mp h.2 e he,k _ G H (Ext.refl s) (.bl _)⟩
  ·cases e
def wA:D->Bool
 | .none=>true
 |_=>false
theorem bw.ints {G:Hp}:∀ns:List Int,bw K G (ns.map V.int) (ns.map int)
 | []=>.nil
 |n :: ns=>.cons (.int n) (bw.ints ns)
theorem xo.noNone {G:Hp}{kvs:List (Key×V)}{d:D}{r:List (D×D)}(h:xo K G kvs ((.none,d) :: r)):False:=by
 generalize e:(PyData.none,d) :: r=l at h
 cases h with
 |nil=>cases e
 | @cons k x xs d' ds _ _=>
  injection e with e1 _
  injection e1 with e2 _
  cases k <;> cases e2
theorem xm.noNone {G:Hp}{kvs:List (List Key×V)}{d:D}{r:List (D×D)}(h:xm K G kvs ((.none,d) :: r)):False:=by
 generalize e:(PyData.none,d) :: r=l at h
 cases h with
 |nil=>cases e
 | @cons k x xs d' ds _ _=>
  injection e with e1 _
  injection e1 with e2 _
  cases e2
def jk.scr {B:Option Addr}{G H:Hp}{v:V}{ds:List D}(h:jk K B G H v (.dict [(.none,.list ds)]))(s:af G H):∃a xs,v=.ref a/\dJ K H a xs/\bw K G xs ds:=by
 rcases h with h | ⟨a,rfl,n,h⟩
 ·cases h with
  | @scr a ns q=>exact⟨a,_,rfl,s.seq q,bw.ints ns⟩
  |dK _ r=>exact r.noNone.elim
  |dT _ r=>exact r.noNone.elim
 ·rcases h with⟨_,_,r⟩ | ⟨_,_,r⟩
  ·exact r.noNone.elim
  ·exact r.noNone.elim
def dz:D->D->Option D
 | .list ds,.int i=>i4 ds i
 | .tuple ds,.int i=>i4 ds i
 | .str z,.int i=>if z.length<=sizeLine then (i4 z.cps.toList i).map λc=>.str ⟨#[c]⟩ else none
 | .dict [(.none,.list ds)],.int i=>i4 ds i
 |_,_=>none
theorem pJ {G:Hp}{xs:List V}{ds:List D}{i:Int}{d:D}(r:bw K G xs ds)(h:i4 ds i=some d):∃x,i4 xs i=some x/\Rp K G x d:=by
 unfold i4 at h ⊢
 rw[r.len]
 cases e:vi ds.length i with
 |none=>rw[e] at h;cases h
 |some j=>rw[e] at h;exact r.at h
theorem gG:nc K (G6 K) dz .v:=by
 intro B G H x y dx dy d Q s hB bx by' e k
 cases dx with
 |list ds=>
  cases dy with
  |int i=>
   obtain rfl:=by'.int
   obtain⟨a,xs,rfl,q,r⟩:=bx.list s
   obtain⟨v,ev,rv⟩:=pJ r e
   exact .inl ⟨a,xs,i,v,rfl,rfl,.inl q,ev,k _ G H (Ext.refl s) rv⟩
  |_=>cases e
 |tuple ds=>
  cases dy with
  |int i=>
   obtain rfl:=by'.int
   obtain⟨a,xs,rfl,q,r⟩:=bx.tuple s
   obtain⟨v,ev,rv⟩:=pJ r e
   exact .inr (.inl ⟨a,xs,i,v,rfl,rfl,q,ev,k _ G H (Ext.refl s) rv⟩)
  |_=>cases e
 |str z=>
  cases dy with
  |int i=>
   obtain rfl:=by'.int
   obtain rfl:=bx.str
   simp only[dz] at e
   split at e
   ·rename_i hz
    cases q:i4 z.cps.toList i with
    |none=>rw[q] at e;cases e
    |some c=>rw[q] at e;cases e;exact .inr (.inr ⟨z,i,c,rfl,rfl,hz,q,k _ G H (Ext.refl s) (.str _)⟩)
   ·cases e
  |_=>cases e
 |none=>cases dy <;> cases e
 |bool b=>cases dy <;> cases e
 |int b=>cases dy <;> cases e
 |dict b=>
  obtain⟨ds,i,rfl,rfl,e⟩:∃ds i,b= [(.none,.list ds)]/\dy=.int i/\i4 ds i=some d:=by
   unfold dz at e
   split at e
   ·contradiction
   ·contradiction
   ·contradiction
   ·rename_i h;cases h;exact⟨_,_,rfl,rfl,e⟩
   ·cases e
  obtain rfl:=by'.int
  obtain⟨a,xs,rfl,q,r⟩:=bx.scr s
  obtain⟨v,ev,rv⟩:=pJ r e
  exact .inl ⟨a,xs,i,v,rfl,rfl,q,ev,k _ G H (Ext.refl s) rv⟩
def dc:D->Option D
 | .list ds=>some (.int ds.length)
 | .tuple ds=>some (.int ds.length)
 | .str z=>if z.length<=sizeLine then some (.int z.length) else none
 | .dict [(.none,.list ds)]=>some (.int ds.length)
 |_=>none
def GB (K:Frag):List V->Hp->VK->Prop:=λxs H Q=>∃x n,xs= [x]/\D9 K x H n/\Q (.int n) H
def iU:wU K (λx=>GB K [x]) dc .v:=by
 intro B G H x dx d Q s hB bx e k
 unfold dc at e
 split at e
 ·cases e;obtain⟨a,xs,rfl,q,r⟩:=bx.list s;exact⟨_,_,rfl,.inl ⟨xs,.inl q,r.len.symm⟩,k _ G H (Ext.refl s) (.int _)⟩
 ·cases e;obtain⟨a,xs,rfl,q,r⟩:=bx.tuple s;exact⟨_,_,rfl,.inr ⟨xs,q,r.len.symm⟩,k _ G H (Ext.refl s) (.int _)⟩
 ·obtain rfl:=bx.str
  split at e
  ·rename_i hz;cases e;exact⟨_,_,rfl,⟨hz,rfl⟩,k _ G H (Ext.refl s) (.int _)⟩
  ·cases e
 ·cases e;obtain⟨a,xs,rfl,q,r⟩:=bx.scr s;exact⟨_,_,rfl,.inl ⟨xs,q,r.len.symm⟩,k _ G H (Ext.refl s) (.int _)⟩
 ·cases e
def yx:D->Option D
 | .list ds=>some (.tuple ds)
 | .tuple ds=>some (.tuple ds)
 |_=>none
theorem Bq:wU K (λx H Q=>∃p ys,[x]= [.ref p]/\((dJ K H p ys/\∀l,H l=none->Q (.ref l) (upd H l (.tup ys)))\/(fK K H p ys/\Q (.ref p) H))) yx .v:=by
 intro B G H x dx d Q s hB bx e k
 cases dx with
 |list ds=>
  cases e
  obtain⟨a,xs,rfl,q,r⟩:=bx.list s
  refine⟨a,xs,rfl,.inl ⟨.inl q,λl hl=>?_⟩⟩
  have x:=Ext.new s (o:=.tup xs) hl
  exact k _ _ _ x (.tup (.inl (.inl aq)) (r.mono x.gg))
 |tuple ds=>
  cases e
  rcases bx with bx | ⟨_,_,_,z⟩
  ·cases bx with
   | @tup a xs _ hq r=>exact⟨a,xs,rfl,.inr ⟨hq.grow s.grow,k _ G H (Ext.refl s) (.tup hq r)⟩⟩
  ·exact z.elim
 |_=>cases e
def BS:D->Option D
 | .list ds=>some (.list ds)
 | .tuple ds=>some (.list ds)
 |_=>none
def Dk:wU K (λx H Q=>∃p ys,[x]= [.ref p]/\(dJ K H p ys\/fK K H p ys)/\∀l,H l=none->Q (.ref l) (upd H l (.lst ys))) BS .w:=by
 intro B G H x dx d Q s hB bx e k
 obtain⟨ds,e1,rfl⟩:∃ds,iF dx=some ds/\d=.list ds:=by
  cases dx <;> cases e <;> exact⟨_,rfl,rfl⟩
 obtain⟨a,xs,rfl,hq,r⟩:=bx.seq e1 s
 refine⟨a,xs,rfl,hq,λl hl=>?_⟩
 exact k _ _ _ (Ext.own s (o:=.lst xs) hl) ⟨l,rfl,hl,s.free hl,xs,aq,r⟩
def iD:List D->Option (List Bool)
 | []=>some []
 | .bool b :: ds=>(iD ds).map (b :: ·)
 |_=>none
theorem oE {G:Hp}:∀{ds:List D} {bs:List Bool} {xs:List V},iD ds=some bs->bw K G xs ds->xs=bs.map V.bl
 | [],bs,xs,e,r=>by cases e;cases r;rfl
 | .bool b :: ds,bs,xs,e,r=>by
  cases r with
  |cons r1 r2=>
   cases r1
   simp only[iD] at e
   cases q:iD ds with
   |none=>rw[q] at e;cases e
   |some cs=>rw[q] at e;cases e;rw[oE q r2];rfl
 | .none :: _,_,_,e,_=>by cases e
 | .int _ :: _,_,_,e,_=>by cases e
 | .str _ :: _,_,_,e,_=>by cases e
 | .list _ :: _,_,_,e,_=>by cases e
 | .tuple _ :: _,_,_,e,_=>by cases e
 | .dict _ :: _,_,_,e,_=>by cases e
def b8 (f:List Bool->Bool):D->Option D
 | .list ds=>(iD ds).map λbs=>.bool (f bs)
 |_=>none
theorem km {f:List Bool->Bool}:wU K (λx=>sI K f [x]) (b8 f) .v:=by
 intro B G H x dx d Q s hB bx e k
 cases dx with
 |list ds=>
  simp only[b8] at e
  cases q:iD ds with
  |none=>rw[q] at e;cases e
  |some bs=>
   rw[q] at e
   cases e
   obtain⟨a,xs,rfl,hq,r⟩:=bx.list s
   obtain rfl:=oE q r
   exact⟨a,bs,rfl,.inl hq,k _ G H (Ext.refl s) (.bl _)⟩
 |_=>cases e
def Cj:R2:=λx y H Q=>∃l b xs zs,x=.ref l/\y=.ref b/\Rd H l (.lst xs)/\Rd H b (.lst zs)/\xs.length + zs.length<=sizeLine/\∀p,H p=none->Q (.ref p) (upd H p (.lst (xs ++ zs)))
def dG:lH X (binaryOp .Add) Cj:=by
 intro pins s σ H x y v u Q I rx ry h
 obtain⟨l,b,xs,zs,rfl,rfl,hH,hB,hz,q⟩:=h
 cases rx
 cases ry
 obtain⟨z,its,n,r,hl,e⟩:=I.lstR hH
 obtain⟨z2,its2,n2,r2,hl2,e2⟩:=I.lstR hB
 refine PySem.P.add_list e e2 ?_ (by rw[HW,HW];omega)
 have ea:its.toArray ++ its2.toArray=(its ++ its2).toArray:=by simp
 rw[ea]
 exact⟨.ref _,_,I.lnew (t':=s.toks) (r.append r2) (by rw[Ik];omega),rfl,q _ I.fresh⟩
def cV:D->D->Option D
 | .list a,.list b=>if a.length + b.length<=sizeLine then some (.list (a ++ b)) else none
 |_,_=>none
def jm:nc K Cj cV .w:=by
 intro B G H x y dx dy d Q s hB bx by' e k
 cases dx <;> cases dy <;> first | (cases e;done) |skip
 rename_i a b
 simp only[cV] at e
 split at e
 ·rename_i hz
  cases e
  obtain⟨p,xs,rfl,q1,r1⟩:=bx.list s
  obtain⟨p2,ys,rfl,q2,r2⟩:=by'.list s
  refine⟨p,p2,xs,ys,rfl,rfl,q1,q2,by rw[r1.len,r2.len];exact hz,λl hl=>?_⟩
  exact k _ _ _ (Ext.own s (o:=.lst (xs ++ ys)) hl) ⟨l,rfl,hl,s.free hl,_,aq,r1.append r2⟩
 ·cases e
def bJ:D->D->Option D:=wV λi j=>.int (i + j)
def fC:nc K (Bs λi j=>.int (i + j)) bJ .v:=yp λdx dy d h=>by obtain⟨i,j,rfl,rfl,rfl⟩:=l7 h;exact⟨i,j,rfl,rfl,λ_=>.int _⟩
def dP:D->D->Option D:=gI (λi j=>(decide (-(2 ^ 64) < i) && decide (i < 2 ^ 64)) || (decide (-(2 ^ 64) < j) && decide (j < 2 ^ 64))) λi j=>.int (i * j)
def jx:nc K (rI yV λi j=>.int (i * j)) dP .v:=yA λdx dy d h=>by obtain⟨i,j,rfl,rfl,c,rfl⟩:=zN h;exact⟨i,j,rfl,rfl,by simpa[yV] using c,λ_=>.int _⟩
def yh:D->Option D
 | .int i=>some (.int (-i))
 |_=>none
theorem Cp:wU K (rU λi=>.int (-i)) yh .v:=by
 intro B G H x dx d Q s hB bx e k
 cases dx with
 |int i=>cases e;obtain rfl:=bx.int;exact⟨i,rfl,k _ G H (Ext.refl s) (.int _)⟩
 |_=>cases e
def ET:D->String
 | .none=>"NoneType"
 | .bool _=>"bool"
 | .int _=>"int"
 | .str _=>"str"
 | .list _=>"list"
 | .tuple _=>"tuple"
 | .dict _=>"dict"
def yI (d:D)(T:String):Bool:=ET d == T || (T == "int" && ET d == "bool")
def eH:D->Bool
 | .dict ((.none,_) :: _)=>true
 |_=>false
def gS (T:String)(d:D):Option D:=if eH d=true then none else some (.bool (yI d T))
def Hd (K:Frag)(H:Hp)(x:V)(t:String):Prop:=Bn K H x t\/(t="dict"/\∃a kvs,x=.ref a/\H a=some (.dT kvs))
def D1 (K:Frag):List V->Hp->VK->Prop:=λxs H Q=>∃x T t b,xs= [x,.ty T]/\Hd K H x t/\PySem.W.kitOne K (.type t) (.type T)=some b/\Q (.bl b) H
def zE:cf X (.builtin "isinstance") (D1 X.K):=by
 intro pins s σ H xs us Q I r h
 obtain⟨x,T,t,b,rfl,ty,e,q⟩:=h
 rcases ty with ty | ⟨rfl,a,kvs,rfl,hk⟩
 ·exact zt pins s σ H _ us Q I r ⟨x,T,t,b,rfl,ty,e,q⟩
 ·obtain⟨u,c,rfl,rx,rc⟩:=vals2 r
  cases rc
  cases rx
  obtain⟨_,_,_,_,o,_,_,e2,ex,_⟩:=I.hok a _ hk
  exact II PySem.W.kitx_dict I.kIn ⟨o,e2,ex.1⟩ e (λz=>nomatch z) λtk=>⟨.bl b,H,I.tok tk,rfl,q⟩
theorem jk.ty {B:Option Addr}{G H:Hp}{v:V}{d:D}(h:jk K B G H v d)(s:af G H)(n:eH d=false):Hd K H v (ET d):=by
 cases d with
 |none=>obtain rfl:=h.none;exact .inl .non
 |bool b=>obtain rfl:=h.bool;exact .inl (.bl b)
 |int b=>obtain rfl:=h.int;exact .inl (.int b)
 |str b=>obtain rfl:=h.str;exact .inl (.str b)
 |list b=>obtain⟨a,xs,rfl,q,_⟩:=h.list s;exact .inl (.lst (.inl q))
 |tuple b=>obtain⟨a,xs,rfl,q,_⟩:=h.tuple s;exact .inl (.tup q)
 |dict b=>
  rcases h with h | ⟨a,rfl,_,h⟩
  ·cases h with
   |scr _=>cases n
   |dK q _=>exact .inl (.dic (s _ _ q))
   |dT q _=>exact .inr ⟨rfl,_,_,rfl,s _ _ q⟩
  ·rcases h with⟨_,q,_⟩ | ⟨_,q,_⟩
   ·exact .inl (.dic q)
   ·exact .inr ⟨rfl,_,_,rfl,q⟩
theorem EO {d:D}{T:String}(hT:T∈ ["int","bool","str","list","tuple","dict"]):PySem.W.kitOne K (.type (ET d)) (.type T)=some (yI d T):=by
 simp only[Hx,Jn,or_false] at hT
 cases d with
 |dict l=>rcases hT with rfl |rfl |rfl |rfl |rfl |rfl <;> rfl
 |none=>rcases hT with rfl |rfl |rfl |rfl |rfl |rfl <;> rfl
 |bool _=>rcases hT with rfl |rfl |rfl |rfl |rfl |rfl <;> rfl
 |int _=>rcases hT with rfl |rfl |rfl |rfl |rfl |rfl <;> rfl
 |str _=>rcases hT with rfl |rfl |rfl |rfl |rfl |rfl <;> rfl
 |list _=>rcases hT with rfl |rfl |rfl |rfl |rfl |rfl <;> rfl
 |tuple _=>rcases hT with rfl |rfl |rfl |rfl |rfl |rfl <;> rfl
def gW {a:Expr}{fa:VF D}{La:List Nat}{ma:Md}{Γ:Fx}{E:XK}{pos p p2:Pos}(T:String){y:Str}(hT:T∈ ["int","bool","str","list","tuple","dict"])(hK:X.K=Γ.K)(hg:Gl X "isinstance")(hm:X.mg "isinstance"=none)(hgT:Gl X y)(hmT:X.mg y=none)(hvT:bootBuiltins y=some (.type T))(ha:SE X Γ E a fa La ma)
  (hnT:y≠"__name__":=by decide) (hdT:(y == ("__debug__":Str))=false:=by decide)
  (he:starEach [a,.Name y p2] X.env=(false,eval a X.env) :: starEach [.Name y p2] X.env:=by rfl) (he2:starEach [.Name y p2] X.env=(false,eval (.Name y p2) X.env) :: starEach [] X.env:=by rfl) (hpl:(backTo pos (starEach [.Name y p2] X.env)).any (·.1)=false:=by rfl) :
  SE X Γ E (.Call (.Name "isinstance" p) [a,.Name y p2] [] pos) (f1 fa (gS T)) La .v:=by
 refine PE.post' (iN zE hg hm (by decide +kernel) (aC ha (aC (AL hgT hmT hvT (show RelV (.ty T) _ from rfl) hnT hdT) aY he2) he) (by decide) (by decide) he hpl) λσ H Q ⟨env,G,B,β,I,o⟩=>?_
 refine gZ (r:=λx H1 Q=>D1 X.K [x,.ty T] H1 Q) ?_ I o
 intro B G H x dx d Q s hB bx e k
 unfold gS at e
 split at e
 ·cases e
 ·rename_i hn
  cases e
  rw[hK]
  exact⟨x,T,ET dx,yI dx T,rfl,bx.ty s (by simpa using hn),EO hT,k _ G H (Ext.refl s) (.bl _)⟩
def ik (fa fb fc:VF D)(g g':D->D->Option D):VF D:=λvs β=>(fa vs β).bnd λx β1=>(fb vs β1).bnd λy β2=>match g x y with
 |some (.bool true)=>(fc vs β2).bnd λz β3=>R.of (g' y z) β3
 |some (.bool false)=>.ok (.bool false) β2
 |_=>.bad
theorem qS {a b c:Expr}{fa fb fc:VF D}{ma mb mc:Md}{Γ:Fx}{E:XK}{pos:Pos}{op op':CmpOp}{r r':R2}{g g':D->D->Option D}(ho:lH X (compareOp op) r)(ho':lH X (compareOp op') r')(pr:nc Γ.K r g .v)(pr':nc Γ.K r' g' .v)(ha:SE X Γ E a fa [] ma)(hb:SE X Γ E b fb [] mb)(hc:SE X Γ E c fc [] mc)
  (hm:lastMarks [op,op'] [b,c]=false:=by with_unfolding_all rfl):SE X Γ E (.Compare a [op,op'] [b,c] pos) (ik fa fb fc g g') [] .v:=by
 refine PE.post' (zl ho ho' ha hb hc hm) λσ H Q ⟨env,G,B,β,I,o⟩=>?_
 refine two (W:=λx y H2=>r x y H2 λz H3=>∃k,z=.bl k/\(if k=true then pT Γ E fc [] mc σ H3 λw' H4=>r' y w' H4 Q else Q (.bl false) H3)) I (o.bnd.imp λd1 β1 h=>h.bnd.imp λd2 β2 h x y G2 H2 I2 s2 m2 bx by'=>?_)
 obtain⟨cb,ec,h⟩:∃cb,g d1 d2=some (.bool cb)/\Out Γ E (if cb=true then (fc (vl env) β2).bnd λz β3=>R.of (g' d2 z) β3 else .ok (.bool false) β2) λd β'=>∀v G' H',SR Γ B G' H' σ (aU [] env) β'->af G G'->fm B H H'->VO Γ.K B H G' H' .v d v->Q v H':=by
  split at h
  ·rename_i q;exact⟨true,q,by rw[HA rfl];exact h⟩
  ·rename_i q;exact⟨false,q,by rw[HI Iw];exact h⟩
  ·exact h.elim
 refine pr B G2 H2 x y d1 d2 _ _ I2.sub I2.boxThere bx by' ec λv G' H' x' vo=>?_
 cases vo
 refine⟨cb,rfl,?_⟩
 have I3:=I2.ext x'
 cases cb with
 |false=>rw[HI Iw] at h;exact qX (h _ G' H' I3 (s2.trans x'.gg) (m2.trans (x'.mov B)) (.bl false))
 |true=>
  rw[HA rfl] at h
  refine qZ ⟨env,G',B,β2,I3,h.bnd.imp λd3 β3 h z G4 H4 I4 s4 m4 vz=>?_⟩
  obtain⟨d,e,k⟩:=h.of
  refine pr' B G4 H4 y z d2 d3 d Q I4.sub I4.boxThere (by'.mono (x'.gg.trans s4) ((x'.mov B).trans m4)) (vz.brw I3.boxThere) e λv G5 H5 x5 vo=>?_
  exact k v G5 H5 (I4.ext x5) (((s2.trans x'.gg).trans s4).trans x5.gg) (((m2.trans (x'.mov B)).trans m4).trans (x5.mov B)) vo
end
def cX.u1 {k:Nat}{A:Around}(r:cX k A):A.units + 100 < cLine:=by have:=r.un;omega
def GZ (N:List Str)(sc:Scope)(NB:List Str)(own:Nat)(ixs:List Nat)(scope:Scope):Bool:=
 decide (scope.kind=.function) && (scope.names.all λy=>decide (y.2≠.cell)) && (scope.names.all λy=>decide (scope.names.lookup y.1=some y.2)) &&
 (scope.names.all λy=>decide (y.2=.free->(sc.names.lookup y.1=some .cell\/sc.names.lookup y.1=some .free))) && decide NB.Nodup && decide (NB.length=own + ixs.length) &&
 ((List.range ixs.length).all λk=>decide (NB[own + k]? =N[ixs.getD k 0]?) && (match NB[own + k]? with |some x=>decide ((x,NameKind.free)∈scope.names) |none=>true))
def fA {X:Cx}{NB:List Str}{own:Nat}{ixs:List Nat}{scope:Scope}(h:GZ X.N X.env.scope NB own ixs scope=true):cj X NB own ixs scope:=by
 unfold GZ at h
 simp only[Ig,IG,IP,HR] at h
 obtain⟨⟨⟨⟨⟨⟨h1,h2⟩,h3⟩,h4⟩,h5⟩,h6⟩,h7⟩:=h
 refine⟨h1,h2,h3,h4,h5,h6,λk hk=>⟨(h7 k hk).1,λx hx=>?_⟩⟩
 have:=(h7 k hk).2
 rw[hx] at this
 simpa using this
section
variable {X:Cx}{Γ:Fx}{E:XK}{e a b c:Expr}{f fa fb fc:VF D}{L La Lb:List Nat}{md ma mb mc:Md}{pos:Pos}{K:Frag}
theorem CU {B:Option Addr}{G H:Hp}{x:V}{dx:D}(bx:jk K B G H x dx)(s:af G H):decide (x=.non)=wA dx:=by
 cases dx with
 |none=>obtain rfl:=bx.none;rfl
 |bool b=>obtain rfl:=bx.bool;rfl
 |int b=>obtain rfl:=bx.int;rfl
 |str b=>obtain rfl:=bx.str;rfl
 |list b=>obtain⟨a,xs,rfl,_⟩:=bx.list s;rfl
 |tuple b=>obtain⟨a,xs,rfl,_⟩:=bx.tuple s;rfl
 |dict b=>
  rcases bx with bx | ⟨a,rfl,_⟩
  ·cases bx <;> rfl
  ·rfl
def tN (fa:VF D)(neg:Bool):VF Bool:=λvs β=>(fa vs β).bnd λx β1=>.ok (if neg then !wA x else wA x) β1
def BC {j pos'}(ha:SE X Γ E a fa La ma):xp X Γ E (.Compare a [.IsNot] [.Constant .none j pos'] pos) (tN fa true) La:=by
 refine PT.post (DQ (Az ha)) λσ H Q ⟨env,G,B,β,I,o⟩=>?_
 refine⟨env,G,B,β,I,o.bnd.imp λd1 β1 h x G1 H1 I1 s1 m1 vx=>?_⟩
 refine⟨!wA d1,?_,h G1 H1 I1 s1 m1⟩
 rw[CU (vx.brw I.boxThere) I1.sub]
def oT (Γ:Fx)(E:XK)(f:VF (Option Int))(L:List Nat):TO:=λσ H Q=>∃env G B β,SR Γ B G H σ env β/\
 Out Γ E (f (vl env) β) λd β'=>∀G' H',SR Γ B G' H' σ (aU L env) β'->af G G'->fm B H H'->Q d H'
def Fw (X:Cx)(Γ:Fx)(E:XK)(e:Option Expr)(f:VF (Option Int))(L:List Nat):Prop:=PO X e (oT Γ E f L)
def vd:Fw X Γ E none (λ_ β=>.ok none β) []:=λpins s σ H Q I ⟨env,G,B,β,J,o⟩=>By pins s σ H Q I (o G H J (af.refl _) (fm.refl _ _))
def A1 (fa:VF D):VF (Option Int):=λvs β=>(fa vs β).bnd λx β1=>match x with
 | .int i=>.ok (some i) β1
 |_=>.bad
theorem uQ (ha:SE X Γ E a fa La ma):Fw X Γ E (some a) (A1 fa) La:=λpins s σ H Q I ⟨env,G,B,β,J,o⟩=>by
 refine A7 ha pins s σ H Q I ⟨env,G,B,β,J,o.bnd.imp λd1 β1 h x G1 H1 I1 s1 m1 vx=>?_⟩
 cases d1 with
 |int i=>exact⟨i,(vx.brw J.boxThere).int,h G1 H1 I1 s1 m1⟩
 |_=>exact h.elim
def cutD (xs:List D)(lo hi:Option Int):List D:=(xs.drop (HT.nZ xs.length 0 lo)).take (HT.nZ xs.length xs.length hi - HT.nZ xs.length 0 lo)
def BF {G:Hp}{xs:List V}{ds:List D}(r:bw K G xs ds)(lo hi:Option Int):bw K G (tE xs lo hi) (cutD ds lo hi):=by
 unfold tE cutD
 rw[r.len]
 exact (r.drop _).take _
def AN (fa:VF D)(fl fh:VF (Option Int)):VF D:=λvs β=>(fa vs β).bnd λx β1=>(fl vs β1).bnd λl β2=>(fh vs β2).bnd λh β3=>match x with
 | .list ds=>.ok (.list (cutD ds l h)) β3
 |_=>.bad
theorem qP {lo hi:Option Expr}{fl fh:VF (Option Int)}{Ll Lh:List Nat}{p2:Pos}(hK:X.K=Γ.K)(ha:SE X Γ E a fa La ma)(hl:Fw X Γ E lo fl Ll)(hh:Fw X Γ E hi fh Lh):SE X Γ E (.Subscript a (.Slice lo hi none p2) pos) (AN fa fl fh) (La ++ Ll ++ Lh) .w:=by
 refine PE.post' (zb AH ha hl hh) λσ H Q ⟨env,G,B,β,I,o⟩=>?_
 refine⟨env,G,B,β,I,o.bnd.imp λd1 β1 h x G1 H1 I1 s1 m1 vx=>⟨aU La env,G1,B,β1,I1,?_⟩⟩
 rw[iS]
 refine h.bnd.imp λl β2 h G2 H2 I2 s2 m2=>⟨aU Ll (aU La env),G2,B,β2,I2,?_⟩
 rw[iS,iS]
 refine h.bnd.imp λu β3 h G3 H3 I3 s3 m3=>?_
 rw[<-dB,<-dB,<-I0] at I3
 have bx:=((vx.brw I.boxThere).mono s2 m2).mono s3 m3
 cases d1 with
 |list ds=>
  obtain⟨p,xs,rfl,hq,r⟩:=bx.list I3.sub
  rw[hK]
  refine⟨p,xs,rfl,.inl hq,λq hn=>?_⟩
  have x:=Ext.own I3.sub (o:=.lst (tE xs l u)) hn
  exact h _ _ _ (I3.ext x) ((s1.trans s2).trans s3) (((m1.trans m2).trans m3).trans (x.mov B)) ⟨q,rfl,fg ((m1.trans m2).trans m3) I3.boxThere hn,I3.sub.free hn,_,aq,BF r l u⟩
 |_=>exact h.elim
def Dc:nc K (λx y H Q=>∃i j,[x,y]= [.int i,.int j]/\Q (.int (if j > i then j else i)) H) (wV λi j=>.int (if j > i then j else i)) .v:=by
 intro B G H x y dx dy d Q s hB bx by' e k
 obtain⟨i,j,rfl,rfl,rfl⟩:=l7 e
 obtain rfl:=bx.int
 obtain rfl:=by'.int
 exact⟨i,j,rfl,k _ G H (Ext.refl s) (.int _)⟩
def DP:nc K (λx y H Q=>∃i j,[x,y]= [.int i,.int j]/\Q (.int (if j < i then j else i)) H) (wV λi j=>.int (if j < i then j else i)) .v:=by
 intro B G H x y dx dy d Q s hB bx by' e k
 obtain⟨i,j,rfl,rfl,rfl⟩:=l7 e
 obtain rfl:=bx.int
 obtain rfl:=by'.int
 exact⟨i,j,rfl,k _ G H (Ext.refl s) (.int _)⟩
end
structure je (K:Frag)(mg:Str->Option Value)(x:Str)(st:Stmt)(ps:List Str)(f:Addr)(fd:FuncData):Prop where
 mg:mg x=some (.ref f)
 F:zY K x x st f fd
 b:Binds K fd ps []
structure Exc (K:Frag)(mg:Str->Option Value)(ca:Str->Addr)(x:Str):Prop where
 mg:mg x=some (.ref (ca x))
 ex:PySem.W.excIn K (ca x) [.type "ValueError",.type "Exception",.type "BaseException",.type "object"] "ValueError.__new__"=true
def Exc.ca {K:Frag}{mg:Str->Option Value}{ca:Str->Addr}{x:Str}(h:Exc K mg ca x):ca x=ca x:=rfl
structure jD (mg:Str->Option Value):Prop where
 len:mg "len"=none
 range:mg "range"=none
 enumerate:mg "enumerate"=none
 zip:mg "zip"=none
 min:mg "min"=none
 max:mg "max"=none
 sum:mg "sum"=none
 abs:mg "abs"=none
 sorted:mg "sorted"=none
 reversed:mg "reversed"=none
 int:mg "int"=none
 str:mg "str"=none
 bool:mg "bool"=none
 list:mg "list"=none
 tuple:mg "tuple"=none
 dict:mg "dict"=none
 set:mg "set"=none
 isinstance:mg "isinstance"=none
 repr:mg "repr"=none
 any:mg "any"=none
 all:mg "all"=none
 divmod:mg "divmod"=none
inductive FB where
 |ok (d:D) (fresh:Bool) (β:Int)
 |bad
def DX (K:Frag)(n:Nat)(F:List D->Int->FB):Sp:=λvs H Q _=>∃b rest G ds β,vs=.ref b :: rest/\H b=some (.lst [.int β])/\G b=none/\af G H/\ds.length=n/\bw K G rest ds/\match F ds β with
 | .ok d fr β'=>∀v G' H',fm (some b) H H'->H' b=some (.lst [.int β'])->af G G'->af G' H'->(∀c,Mx H c->G c=none->G' c=none)->FV K H G' H' fr d v->Q v H'
 | .bad=>False
structure qe (P:Program)(w:World)(K:Frag)(mg:Str->Option Value)(base:Heap)(x:Str)(ps:List Str)(k:Nat)(F:List D->Int->FB):Prop where
 ex:∃f fd,mg x=some (.ref f)/\PySem.W.keepIn K (.ref f)=true/\Binds K fd ps []/\dw P w K mg base (nh P w) k f fd ps (DX K (ps.length - 1) F)
 len:∀ds β,F ds β≠.bad->ds.length=ps.length - 1
def uh (vs:List Nv)(i:Nat):Bool:=match vs[i]? with
 |some .bx=>true
 |_=>false
def mL (i:Nat)(F:List D->Int->FB)(fr:VF (List D)):VF D:=λvs β=>if uh vs i=true then (fr vs β).bnd λds β1=>match F ds β1 with
 | .ok d _ β2=>.ok d β2
 | .bad=>.bad else .bad
def GO (i:Nat)(F:List D->Int->FB)(fr:VF (List D)):VF D:=λvs β=>if uh vs i=true then (fr vs β).bnd λds β1=>match F ds β1 with
 | .ok d true β2=>.ok d β2
 |_=>.bad else .bad
section
variable {X:Cx}{Γ:Fx}{E:XK}{e a b c:Expr}{f fa fb fc:VF D}{L La Lb:List Nat}{md ma mb mc:Md}{pos:Pos}{K:Frag}{es:List Expr}{fr:VF (List D)}
def AM {env:En}{i:Nat}(h:uh (vl env) i=true):env[i]? =some .bx:=by
 unfold uh at h
 split at h
 ·exact E7 (by assumption)
 ·cases h
def BG {env:En}{i j:Nat}{d:D}(h:(gH env i)[j]? =some (.br d)):env[j]? =some (.br d):=by
 unfold gH at h
 split at h
 ·rename_i d' e
  by_cases z:i=j
  ·subst z
   rw[HY (HB.mp e).1] at h;cases h
  ·rw[HS z] at h;exact h
 ·exact h
theorem CS {L:List Nat}{env:En}{j:Nat}{d:D}(h:(aU L env)[j]? =some (.br d)):env[j]? =some (.br d):=by
 unfold aU at h
 induction L generalizing env with
 |nil=>exact h
 |cons i L ih=>exact BG (ih h)
def SR.calledB {p:Addr}{β β':Int}{G1 H1 G2 H2:Hp}{σ:St}{env:En}(I1:SR Γ (some p) G1 H1 σ env β)(h:fm (some p) H1 H2)(hp:H2 p=some (.lst [.int β']))(g:af G1 G2)(s:af G2 H2)(n:∀b,Mx H1 b->G1 b=none->G2 b=none):SR Γ (some p) G2 H2 σ env β':=by
 obtain⟨b1,b2,b3⟩:=I1.box p rfl
 refine⟨s,I1.old.trans g,λb n1 n2=>n b (I1.thereM n1) (I1.new b n1 n2),λb o e np=>lQ (I1.keep b o e np) h λz=>?_,λb hb=>?_,I1.fix,λb e=>?_,I1.len,λi t e=>?_,I1.sep⟩
 ·cases z
  rcases b3 with b3 |b3
  ·exact np b3
  ·rw[e] at b3;cases b3
 ·by_cases z:p=b
  ·subst z;exact Mx.lst hp
  ·exact (I1.pin b hb).same λo q=>h.1 b o q λy=>z (Option.some.inj y)
 ·cases e
  exact⟨hp,n p (Mx.lst b1) b2,b3⟩
 ·have q:=I1.slot i t e
  cases t with
  |no=>trivial
  |fz d=>obtain⟨v,h1,h2⟩:=q;exact⟨v,h1,h2.mono g⟩
  |ow d=>
   obtain⟨c,h1,h2,h3,h4,h5⟩:=q
   exact⟨c,h1,h2,n c h5.mx h3,h4,h5.mono g λo q=>h.1 c o q h4⟩
  |bx=>exact q
  |br d=>obtain⟨b1,c,h1,h4,hpp,h5⟩:=q;exact⟨b1,c,h1,h4,hpp,h5.mono g λo q=>h.1 c o q h4⟩
theorem A9 {F:List D->Int->FB}{ps:List Str}{Q:VK}{B:Option Addr}{G H:Hp}{σ:St}{env:En}{β:Int}{i:Nat}{p:Addr}(I:SR Γ B G H σ env β)(hK:X.K=Γ.K)(hp:B=some p){wv:Bool}
  (h:Out Γ E (fr (vl env) β) λds β1=>Out Γ E (match F ds β1 with
   | .ok d true β2=>.ok d β2
   | .ok d false β2=>if wv=true then .bad else .ok d β2
   | .bad=>.bad) λd β'=>∀v G' H',SR Γ B G' H' σ (aU L env) β'->af G G'->fm B H H'->VO Γ.K B H G' H' (if wv=true then .w else .v) d v->Q v H') (hl:∀ds β,F ds β≠.bad->ds.length=ps.length - 1) :
  aT Γ E fr L σ H λvs H1=>DX X.K (ps.length - 1) F (.ref p :: vs) H1 Q E:=by
 subst hp
 refine⟨env,G,_,β,I,h.imp λds β1 k vs G1 H1 I1 s1 m1 r=>?_⟩
 obtain⟨b1,b2,b3⟩:=I1.box p rfl
 refine⟨p,vs,G1,ds,β1,rfl,b1,b2,I1.sub,hl ds β1 λz=>by rw[z] at k;exact k,by rw[hK];exact r,?_⟩
 cases q:F ds β1 with
 |bad=>rw[q] at k;exact k
 |ok d fr' β2=>
  rw[q] at k
  intro v G' H' hh hb hg hs hn fv
  have I2:=I1.calledB hh hb hg hs hn
  cases fr' with
  |true=>
   obtain⟨c,rfl,p1,p2,p3⟩:∃a,v=.ref a/\H1 a=none/\G' a=none/\Own X.K G' H' a d:=fv
   rw[hK] at p3
   have hp:=fg m1 I1.boxThere p1
   cases wv with
   |true=>exact k _ G' H' I2 (s1.trans hg) (m1.trans hh) ⟨c,rfl,hp,p2,p3⟩
   |false=>
    obtain⟨q1,q2,q3,q4⟩:=I1.fresh p1
    obtain⟨G3,I3,s3,r3⟩:=I2.letIn q1 p2 q3 q4 p3
    exact k _ G3 H' I3 ((s1.trans hg).trans s3) (m1.trans hh) r3
  |false=>
   cases wv with
   |true=>exact k.elim
   |false=>
    have fv:Rp X.K G' v d:=fv
    rw[hK] at fv
    exact k _ G' H' I2 (s1.trans hg) (m1.trans hh) fv
theorem C8 {F:List D->Int->FB}{ps:List Str}{Q:VK}{i:Nat}{σ:St}{H:Hp}(hK:X.K=Γ.K){wv:Bool}(hl:∀ds β,F ds β≠.bad->ds.length=ps.length - 1)(h:pT Γ E (if wv=true then GO i F fr else mL i F fr) L (if wv=true then .w else .v) σ H Q) :
  Be i σ H λx H1=>aT Γ E fr L σ H1 λvs H2=>DX X.K (ps.length - 1) F (x :: vs) H2 Q E:=by
 obtain⟨env,G,B,β,I,o⟩:=h
 have hi:uh (vl env) i=true:=by
  by_cases hi:uh (vl env) i=true
  ·exact hi
  ·exfalso
   cases wv with
   |true=>simp only[IM] at o;unfold GO at o;rw[HI hi] at o;exact o
   |false=>simp only[HQ,Im] at o;unfold mL at o;rw[HI hi] at o;exact o
 obtain⟨p,e1,e2⟩:=I.slot i _ (AM hi)
 refine⟨.ref p,e1,A9 (i:=i) (ps:=ps) I hK e2 (wv:=wv) ?_ hl⟩
 cases wv with
 |true=>
  simp only[IM] at o ⊢
  unfold GO at o
  rw[HA hi] at o
  refine o.bnd.imp λds β1 h=>?_
  cases q:F ds β1 with
  |bad=>rw[q] at h;exact h
  |ok d b β2=>rw[q] at h;cases b <;> exact h
 |false=>
  simp only[HQ,Im] at o ⊢
  unfold mL at o
  rw[HA hi] at o
  refine o.bnd.imp λds β1 h=>?_
  cases q:F ds β1 with
  |bad=>rw[q] at h;exact h
  |ok d b β2=>rw[q] at h;cases b <;> exact h
def qA {x y:Str}{ps:List Str}{k:Nat}{F:List D->Int->FB}{p np:Pos}(i:Nat)(hf:qe X.prog X.w X.K X.mg X.base x ps k F)(hr:cX k X.A)(hx:Passes (nh X.prog X.w) X E)(hK:X.K=Γ.K)(hg:Gl X x)(ha:SA X Γ E es fr L)(hN:X.N[i]? =some y:=by rfl)(hv:wW X.env.scope y:=by first |exact Or.inl rfl |exact Or.inr (Or.inl rfl) |exact Or.inr (Or.inr rfl))(hd:(y == ("__debug__":Str))=false:=by decide)
  (hcd:(y == ("__classdict__":Str))=false:=by decide) (hdb:(x == ("__debug__":Str))=false:=by decide)
  (he:starEach (.Name y np :: es) X.env=(false,eval (.Name y np) X.env) :: starEach es X.env:=by rfl) (hpl:(backTo pos (starEach es X.env)).any (·.1)=false:=by rfl):SE X Γ E (.Call (.Name x p) (.Name y np :: es) [] pos) (mL i F fr) L .v:=by
 obtain⟨f,fd,hm,hk,hb,hF⟩:=hf.ex
 refine PE.post' (i9 (dvs:=[]) hF hr hg hm hk hb .nil hx (aC (fu hN hv hd hcd) ha he) hdb he hpl) λσ H Q h=>?_
 have:=C8 (Q:=Q) (wv:=false) (ps:=ps) hK hf.len (by simpa using h)
 show Be i σ H λx H1=>aT Γ E fr L σ H1 λvs H2=>DX X.K (ps.length - 1) F ((x :: vs) ++ []) H2 Q E
 simpa using this
def xE:D->Option Int
 | .list [.int z]=>some z
 |_=>none
def BE {d:D}{z:Int}(h:xE d=some z):d=.list [.int z]:=by
 unfold xE at h
 split at h
 ·cases h;rfl
 ·cases h
def Fi (f0:VF D)(F:List D->Int->FB)(n:Int):VF D:=λvs β=>(f0 vs β).bnd λd0 β1=>match xE d0 with
 |some z=>(match F [.int n] z with
  | .ok d _ _=>.ok d β1
  | .bad=>.bad)
 |none=>.bad
theorem Fe {x:Str}{ps:List Str}{k:Nat}{F:List D->Int->FB}{p cp:Pos}{n:Int}{j}(hf:qe X.prog X.w X.K X.mg X.base x ps k F)(hr:cX k X.A)(hx:Passes (nh X.prog X.w) X E)(hK:X.K=Γ.K)(hg:Gl X x)(h0:SE X Γ E a fa La .w)(hdb:(x == ("__debug__":Str))=false:=by decide)
  (he:starEach [a,.Constant (.int n) j cp] X.env=(false,eval a X.env) :: starEach [.Constant (.int n) j cp] X.env:=by rfl) (he2:starEach [.Constant (.int n) j cp] X.env=(false,eval (.Constant (.int n) j cp) X.env) :: starEach [] X.env:=by rfl) (hpl:(backTo pos (starEach [.Constant (.int n) j cp] X.env)).any (·.1)=false:=by rfl):SE X Γ E (.Call (.Name x p) [a,.Constant (.int n) j cp] [] pos) (Fi fa F n) La .v:=by
 obtain⟨f,fd,hm,hk,hb,hF⟩:=hf.ex
 refine PE.post' (i9 (dvs:=[]) hF hr hg hm hk hb .nil hx (aC h0 (aC kF aY he2) he) hdb he hpl) λσ H Q ⟨env,G,B,β,I,o⟩=>?_
 show pT Γ E fa La .w σ H λx H1=>DX X.K (ps.length - 1) F ([x,.int n] ++ []) H1 Q E
 refine⟨env,G,B,β,I,o.bnd.imp λd0 β1 h x G1 H1 I1 s1 m1 vx=>?_⟩
 obtain⟨c,rfl,c1,c2,c3⟩:=vx
 cases q:xE d0 with
 |none=>rw[q] at h;exact h.elim
 |some z=>
  rw[q] at h
  obtain rfl:=BE q
  obtain⟨xs,c3,rx⟩:=c3
  obtain⟨q1,q2,q3,q4⟩:=I.fresh c1
  have hx2:H1 c=some (.lst [.int z]):=by
   cases rx with
   |cons r1 r2=>
    cases r1
    cases r2
    exact c3
  refine⟨c,[.int n],G1,[.int n],z,rfl,hx2,c2,I1.sub,hf.len [.int n] z λy=>?_,.cons (.int n) .nil,?_⟩
  ·dsimp only at h;rw[y] at h;exact h
  cases qF:F [.int n] z with
  |bad=>dsimp only at h;rw[qF] at h;exact h
  |ok d fr' β2=>
   dsimp only at h
   rw[qF] at h
   intro v G' H' hh hb' hg' hs hn fv
   have I2:SR Γ B G' H' σ (aU La env) β1:=by
    refine⟨hs,I1.old.trans hg',λb n1 n2=>hn b (I1.thereM n1) (I1.new b n1 n2),λb o e np=>lQ (I1.keep b o e np) hh λz=>?_,λb hb=>?_,I1.fix,λb e=>?_,I1.len,λi t e=>?_,I1.sep⟩
    ·cases z;rw[q1] at e;cases e
    ·by_cases z:c=b
     ·subst z;exact Mx.lst hb'
     ·exact (I1.pin b hb).same λo qq=>hh.1 b o qq λy=>z (Option.some.inj y)
    ·obtain⟨b1,b2,b3⟩:=I1.box b e
     have bc:b≠c:=λz=>q3 (by rw[<-z];exact e)
     exact⟨hh.1 b _ b1 λy=>bc (Option.some.inj y).symm,hn b (Mx.lst b1) b2,b3⟩
    ·have w:=I1.slot i t e
     cases t with
     |no=>trivial
     |fz d=>obtain⟨v,h1,h2⟩:=w;exact⟨v,h1,h2.mono hg'⟩
     |ow d=>
      obtain⟨a',h1,h2,h3,h4,h5⟩:=w
      have ac:a'≠c:=λz=>q4 i d (pe e) (by rw[<-z];exact h1)
      exact⟨a',h1,h2,hn a' h5.mx h3,h4,h5.mono hg' λo q=>hh.1 a' o q λy=>ac (Option.some.inj y).symm⟩
     |bx=>exact w
     |br d=>
      obtain⟨b1,a',h1,h4,hpp,h5⟩:=w
      have e0:env[i]? =some (.br d):=CS e
      obtain⟨_,a2,g1,_,_,g5⟩:=I.slot i _ e0
      rw[h1] at g1;cases g1
      obtain⟨o,ho⟩:=g5.obj
      have ac:a'≠c:=ax ho c1
      exact⟨b1,a',h1,h4,hpp,h5.mono hg' λo q=>hh.1 a' o q λy=>ac (Option.some.inj y).symm⟩
   have m2:fm B H H':=⟨λb o e nb=>lQ (m1.1 b o e nb) hh λy=>(by cases y;rw[c1] at e;cases e),λb o u e=>hh.2 b o u (m1.2 b o u e)⟩
   cases fr' with
   |true=>
    obtain⟨c',rfl,p1,p2,p3⟩:∃a,v=.ref a/\H1 a=none/\G' a=none/\Own X.K G' H' a d:=fv
    rw[hK] at p3
    obtain⟨w1,w2,w3,w4⟩:=I1.fresh p1
    obtain⟨G3,I3,s3,r3⟩:=I2.letIn w1 p2 w3 w4 p3
    exact h _ G3 H' I3 ((s1.trans hg').trans s3) m2 r3
   |false=>
    have fv:Rp X.K G' v d:=fv
    rw[hK] at fv
    exact h _ G' H' I2 (s1.trans hg') m2 fv
end
section
variable {P:Program}{w:World}{K:Frag}{mg:Str->Option Value}{base:Heap}{ca:Str->Addr}
def AY:SO->FB
 | .nx _ β=>.ok .none false β
 | .rt d fr β=>.ok d fr β
 |_=>.bad
def sS (n:Nat)(ds:List D):En:=.bx :: ds.map Sl.fz ++ List.replicate (n - 1 - ds.length) .no
def qV (n p:Nat)(m:SF):List D->Int->FB:=λds β=>if ds.length=p then AY (m (sS n ds) β) else .bad
abbrev Fx.fb (K:Frag)(H G:Hp)(ca:Str->Addr)(b:Addr):Fx:=⟨K,H,G,[b],ca,λ_=>false,some b⟩
def SR.startB {H G:Hp}{N:List Str}{b:Addr}{vs:List V}{ds:List D}{β:Int}(s:af G H)(hb:H b=some (.lst [.int β]))(gb:G b=none)(r:bw K G vs ds)(hn:ds.length + 1<=N.length):SR (Fx.fb K H G ca b) (some b) G H (L2.start N (.ref b :: vs)) (sS N.length ds) β:=by
 have hl:=r.len
 refine⟨s,af.refl _,λc _ h=>h,λc o h _=>Kt.of h,λc h=>?_,λc h=>h,λc h=>?_,?_,λi t e=>?_,λi j a d e h=>?_⟩
 ·have:c=b:=by simpa using h
  subst this;exact Mx.lst hb
 ·cases h;exact⟨hb,gb,.inl (by simp)⟩
 ·unfold L2.start sS;simp;omega
 ·cases i with
  |zero=>
   unfold sS at e
   cases e
   exact⟨b,rfl,rfl⟩
  |succ i=>
   unfold sS at e
   have e:(ds.map Sl.fz ++ List.replicate (N.length - 1 - ds.length) Sl.no)[i]? =some t:=by simpa using e
   by_cases hi:i < ds.length
   ·rw[IB (by simpa using hi),HL,Hu hi] at e
    cases e
    obtain⟨x,hx,rx⟩:=r.at (Hu hi)
    refine⟨x,?_,rx⟩
    unfold L2.start
    have hi':i < vs.length:=by rw[hl];exact hi
    rw[IB (by simp;exact hi'),HL,List.getElem?_cons_succ,hx];rfl
   ·rw[Iz (by simpa using hi),Jf] at e
    split at e
    ·cases e;trivial
    ·cases e
 ·unfold sS at h
  have hm:=HN h
  rcases Hx.mp hm with z |hm
  ·cases z
  rcases HP.mp hm with z |z
  ·obtain⟨_,_,z⟩:=HH.mp z;cases z
  ·have:=Kn z;cases this
def rC {x qual:Str}{st:Stmt}{f:Addr}{fd:FuncData}{N:List Str}{ps:List Str}{k:Nat}{m:SF}(F:zY K x qual st f fd)(S:aF N ps (ar st))(hp:1<=ps.length)
  (hbody:∀(cdv:Value) (A:Around) (outer:List Env) (s:Shared) (H G:Hp) (b:Addr) (E:XK),cX k (A.deeper (envOfC qual (ar st) s.heap.objs.size f cdv))->wx (nC (nh P w) P w K mg base N qual (ar st) f cdv A outer s H E) (Fx.fb K H G ca b) E (b6 st) m) :
  dw P w K mg base (nh P w) (k + 1) f fd ps (DX K (ps.length - 1) (qV N.length (ps.length - 1) m)):=by
 have hpn:ps.length<=N.length:=by have:=congrArg List.length S.pre;rw[IE] at this;omega
 refine F.xr S (λvs H Q E h=>?_) (λcdv A outer s H vs Q E hr h=>?_)
 ·obtain⟨b,rest,G,ds,β,rfl,hb,gb,sG,hl,r,_⟩:=h
  rw[HX,r.len];omega
 ·obtain⟨b,rest,G,ds,β,rfl,hb,gb,sG,hl,r,h⟩:=h
  refine⟨_,hbody cdv A outer s H G b E hr,?_⟩
  have I:=SR.startB (ca:=ca) (N:=N) sG hb gb r (by omega)
  refine⟨_,G,some b,β,I,?_⟩
  unfold qV at h
  rw[HA hl] at h
  have fin':∀{B G' H' σ env β},SR (Fx.fb K H G ca b) B G' H' σ env β->fm (some b) H H'/\H' b=some (.lst [.int β]):=λJ=>by
   have e:=J.fix b rfl
   have k:∀c o,H c=some o->some b≠some c->Kt _ c o:=λc o ec n=>J.keep c o ec λz=>n (show some b=some c by rw[show c=b by simpa using z])
   exact⟨⟨k,λc o u ec=>k c _ ec λz=>by cases z;rw[hb] at ec;cases ec⟩,(J.box b e).1⟩
  cases q:m (sS N.length ds) β with
  |nx env β'=>rw[q] at h;exact λB G' H' σ J s'=>h .non G' H' (fin' J).1 (fin' J).2 s' J.sub (λc h1 h2=>J.new c h1 h2) Rp.non
  |bk env β'=>rw[q] at h;exact h.elim
  |ct env β'=>rw[q] at h;exact h.elim
  |rt d fr β'=>
   rw[q] at h
   refine λB G' H' σ env v J s' rv=>h v G' H' (fin' J).1 (fin' J).2 s' J.sub (λc h1 h2=>J.new c h1 h2) ?_
   cases fr with
   |true=>exact rv
   |false=>exact rv
  |exc c=>rw[q] at h;exact h.elim
  |bad=>rw[q] at h;exact h.elim
def rg {n p:Nat}{m:SF}(ds:List D)(β:Int)(h:qV n p m ds β≠.bad):ds.length=p:=by
 unfold qV at h
 by_cases hl:ds.length=p
 ·exact hl
 ·rw[HI hl] at h;exact absurd rfl h
end
def aG (p:Pr):D:=.tuple [.int p.1,.int p.2]
def mH:D->Option Pr
 | .tuple [.int a,.int b]=>some (a,b)
 |_=>none
def qI {d:D}{p:Pr}(h:mH d=some p):d=aG p:=by
 unfold mH at h
 split at h
 ·cases h;rfl
 ·cases h
def wZ (p:Pr):mH (aG p)=some p:=rfl
def dX:List D->Option (List Pr)
 | []=>some []
 |d :: ds=>match mH d,dX ds with
  |some p,some ps=>some (p :: ps)
  |_,_=>none
theorem i8:∀{ds:List D} {ps:List Pr},dX ds=some ps->ds=ps.map aG
 | [],ps,h=>by cases h;rfl
 |d :: ds,ps,h=>by
  unfold dX at h
  split at h
  ·rename_i p qs h1 h2;cases h;rw[qI h1,i8 h2];rfl
  ·cases h
theorem fJ:∀ps:List Pr,dX (ps.map aG)=some ps
 | []=>rfl
 |p :: ps=>by
  show (match mH (aG p),dX (ps.map aG) with
   |some p,some ps=>some (p :: ps)
   |_,_=>none)=_
  rw[wZ,fJ ps]
section
variable {K:Frag}{X:Cx}{G H:Hp}
theorem bw.pairs:∀{ps:List Pr} {xs:List V},bw K G xs (ps.map aG)->aJ K G xs ps
 | [],_,.nil=>.nil
 |p :: ps,_,.cons r t=>by
  cases r with
  |tup hq r=>
   cases r with
   |cons r1 r=>
    cases r with
    |cons r2 r=>cases r;cases r1;cases r2;exact .cons ⟨_,rfl,hq⟩ (bw.pairs t)
theorem aJ.rps:∀{ps:List Pr} {xs:List V},aJ K G xs ps->bw K G xs (ps.map aG)
 | [],_,.nil=>.nil
 |p :: ps,_,.cons r t=>by
  obtain⟨a,rfl,q⟩:=r
  exact .cons (.tup q (.cons (.int _) (.cons (.int _) .nil))) (aJ.rps t)
def DU (p:Pr):Bool:=decide (0<=p.1) && decide (p.1 < 8) && decide (0<=p.2) && decide (p.2 < 8)
def CB {p:Pr}(h:DU p=true):Sm p:=by
 unfold DU at h
 simp only[Ig,IP] at h
 exact⟨⟨h.1.1.1,h.1.1.2⟩,h.1.2,h.2⟩
noncomputable def bV (d:D):Option D:=match iF d with
 |some ds=>(match dX ds with
  |some ps=>if ps.all DU=true/\(OM.bK 8 (OM.Mem ps)).length < 64 then some (.list ((OM.bK 8 (OM.Mem ps)).map aG)) else none
  |none=>none)
 |none=>none
variable {Γ:Fx}{E:XK}{e a b c:Expr}{f fa fb fc:VF D}{L La Lb:List Nat}{md ma mb mc:Md}{pos:Pos}
theorem mE {p1 p2 pos2:Pos}(hc:X.calm=true)(hu:X.A.units + 64 < cLine)(hK:X.K=Γ.K)(hg:Gl X "sorted")(hm:X.mg "sorted"=none)(hg2:Gl X "set")(hm2:X.mg "set"=none)(ha:SE X Γ E a fa La ma)
  (he:starEach [a] X.env=(false,eval a X.env) :: starEach [] X.env:=by rfl)
  (he2:starEach [.Call (.Name "set" p2) [a] [] pos2] X.env=(false,eval (.Call (.Name "set" p2) [a] [] pos2) X.env) :: starEach [] X.env:=by rfl) :
  SE X Γ E (.Call (.Name "sorted" p1) [.Call (.Name "set" p2) [a] [] pos2] [] pos) (f1 fa bV) La .w:=by
 refine PE.post' (iN (pH hc) hg hm (by decide +kernel) (aC (gM (zy hc hu) hg2 hm2 (by decide +kernel) (aC ha aY he) (by decide) (by decide) he) aY he2) (by decide) (by decide) he2) λσ H Q ⟨env,G,B,β,I,o⟩=>?_
 refine gZ (r:=λx H1 Q=>EY X.prog X.w X.K [x] H1 λy H2=>sx X.prog X.w X.K [y] H2 Q) ?_ I o
 intro B G H x dx d Q s hB bx e k
 rw[hK]
 unfold bV at e
 cases q:iF dx with
 |none=>rw[q] at e;cases e
 |some ds=>
  rw[q] at e
  dsimp only at e
  cases q2:dX ds with
  |none=>rw[q2] at e;cases e
  |some ps=>
   rw[q2] at e
   dsimp only at e
   split at e
   ·rename_i hh
    obtain⟨h1,h2⟩:=hh
    cases e
    obtain⟨p,xs,rfl,hq,r⟩:=bx.seq q s
    rw[i8 q2] at r
    have pv:=(r.mono s).pairs
    have sm:∀p,p∈ps->Sm p:=λp hp=>CB (IG.mp h1 p hp)
    refine⟨p,xs,ps,rfl,hq,pv,sm,λS qs hS hpv nd hm=>?_⟩
    have qsl:qs.length < 64:=by
     have:(pq qs).length<=(OM.bK 8 (OM.Mem ps)).length:=OM.m9 nd λx hx=>by
      have hx':=(hm x).mp hx
      have hs:=sm x hx'
      exact OM.aS.mpr ⟨⟨⟨hs.1.1,hs.1.2⟩,hs.2.1,hs.2.2⟩,hx'⟩
     simp only[HF] at this
     omega
    have xS:=Ext.own s (o:=wu X.prog X.w S qs) hS
    refine⟨S,qs,rfl,aq,hpv.grow (fL.new hS),λp hp=>sm p ((hm p).mp hp),nd,qsl,λl ws rs hl hpw hr hmem=>?_⟩
    have ers:rs=OM.bK 8 (OM.Mem ps):=OM.gP hr (OM.cG _ _) λx=>by
     rw[hmem x,hm x,OM.aS]
     constructor
     ·intro hx;have hs:=sm x hx;exact⟨⟨⟨hs.1.1,hs.1.2⟩,hs.2.1,hs.2.2⟩,hx⟩
     ·intro hx;exact hx.2
    subst ers
    have hlH:H l=none:=by
     by_cases z:l=S
     ·subst z;exact hS
     ·rw[ak z] at hl;exact hl
    have lS:l≠S:=λz=>by subst z;rw[aq] at hl;cases hl
    have hh:af H (upd (upd H S (wu X.prog X.w S qs)) l (.lst ws)):=(af.new hS).trans (af.new hl)
    have xx:=Ext.tups s hh
    refine k _ _ _ xx ⟨l,rfl,hlH,?_,ws,aq,?_⟩
    ·unfold fB
     rw[s.free hlH,aq]
     exact HI λy=>y
    ·refine aJ.rps (Paired.mapP hpw λv p ⟨a,ea,qa⟩=>⟨a,ea,ke (s.trans hh) ?_⟩)
     exact qa.grow (fL.new hl)
   ·cases e
end
section
variable {K:Frag}{X:Cx}{G H:Hp}{Γ:Fx}{E:XK}{e a b c:Expr}{f fa fb fc:VF D}{L La Lb:List Nat}{md ma mb mc:Md}{pos apos cpos np:Pos}
def c5:D->Option D
 | .int n=>if 0<=n/\n<=1000 then some (.list (bN 0 n.toNat)) else none
 |_=>none
def wB (n:Nat):bw K G ((List.range n).map λ(i:Nat)=>V.int (i:Int)) (bN 0 n):=by
 have key:∀l:List Nat,bw K G (l.map λ(i:Nat)=>V.int (i:Int)) (l.map λ(k:Nat)=>int (0 + k)):=by
  intro l
  induction l with
  |nil=>exact .nil
  |cons x l ih=>exact .cons (by show Rp K G (.int (x:Int)) (.int (0 + (x:Int)));rw[J8];exact .int _) ih
 exact key _
theorem mj {p1 p2 pos2:Pos}(hc:X.calm=true)(hg:Gl X "list")(hm:X.mg "list"=none)(hg2:Gl X "range")(hm2:X.mg "range"=none)(ha:SE X Γ E a fa La ma)
  (he:starEach [a] X.env=(false,eval a X.env) :: starEach [] X.env:=by rfl)
  (he2:starEach [.Call (.Name "range" p2) [a] [] pos2] X.env=(false,eval (.Call (.Name "range" p2) [a] [] pos2) X.env) :: starEach [] X.env:=by rfl) :
  SE X Γ E (.Call (.Name "list" p1) [.Call (.Name "range" p2) [a] [] pos2] [] pos) (f1 fa c5) La .w:=by
 refine PE.post' (gM (nk hc) hg hm (by decide +kernel) (aC (gM xN hg2 hm2 (by decide +kernel) (aC ha aY he) (by decide) (by decide) he) aY he2) (by decide) (by decide) he2) λσ H Q ⟨env,G,B,β,I,o⟩=>?_
 refine gZ (r:=λx H1 Q=>∃n:Int,[x]= [.int n]/\∀p,H1 p=none->(λ(y:V) (H2:Hp)=>∃(p:Addr) (n:Int),[y]= [V.ref p]/\H2 p=some (.eZ 0 n)/\0<=n/\n<=1000/\∀l,H2 l=none->Q (.ref l) (upd H2 l (.lst ((List.range n.toNat).map λ(i:Nat)=>V.int (i:Int))))) (V.ref p) (upd H1 p (.eZ 0 n))) ?_ I o
 intro B G H x dx d Q s hB bx e k
 cases dx with
 |int n=>
  obtain rfl:=bx.int
  simp only[c5] at e
  split at e
  ·rename_i hh
   cases e
   refine⟨n,rfl,λp hp=>⟨p,n,rfl,aq,hh.1,hh.2,λl hl=>?_⟩⟩
   have hlp:l≠p:=λz=>by subst z;rw[aq] at hl;cases hl
   have hlH:H l=none:=by rw[ak hlp] at hl;exact hl
   have x1:=Ext.own s (o:=.eZ 0 n) hp
   have x2:=Ext.own x1.gh (o:=.lst ((List.range n.toNat).map λ(i:Nat)=>V.int (i:Int))) hl
   exact k _ _ _ (x1.trans x2) ⟨l,rfl,hlH,s.free hlH,_,aq,wB _⟩
  ·cases e
 |_=>cases e
def Ah:D->Option D
 | .int i=>some (.int (if i < 0 then -i else i))
 |_=>none
theorem D0:wU K (λx H Q=>∃i,[x]= [.int i]/\Q (.int (if i < 0 then -i else i)) H) Ah .v:=by
 intro B G H x dx d Q s hB bx e k
 cases dx with
 |int i=>cases e;obtain rfl:=bx.int;exact⟨i,rfl,k _ G H (Ext.refl s) (.int _)⟩
 |_=>cases e
noncomputable def FP (d:D):Option D:=match d with
 | .list ds=>(match dX ds with
  |some ps=>if ps.all DU=true/\ps.Nodup/\ps.length < 64 then some (.list ((OM.bK 8 (OM.Mem ps)).map aG)) else none
  |none=>none)
 |_=>none
def vP (ds:List D)(k:D):Option (D×List D):=match k with
 | .int i=>if -(2 ^ 63)<=i/\i < 2 ^ 63 then (match seqIndex? i ds.length with
  |some n=>(match ds[n]? with
   |some d=>some (d,ds.eraseIdx n)
   |none=>none)
  |none=>none) else none
 |_=>none
def g9 (i j:Nat)(L:List Nat)(f:VF D):SF:=λenv β=>if ub env[i]? =true/\ub env[j]? =true/\i≠j then toS (f (vl env) β) λk β'=>match (aU L env)[j]? with
 |some (.ow (.list es))=>(match vP es k with
  |some (d,es')=>DV i ((aU L env).set j (.ow (.list es'))) β' λds=>if ds.length < sizeLine then some (ds ++ [d]) else none
  |none=>.bad)
 |_=>.bad else .bad
theorem bw.eraseIdx:∀{xs:List V} {ds:List D} (i:Nat),bw K G xs ds->bw K G (xs.eraseIdx i) (ds.eraseIdx i)
 |_,_,_,.nil=>.nil
 |_,_,0,.cons _ t=>t
 |_,_,i + 1,.cons r t=>.cons r (bw.eraseIdx i t)
theorem vU (i j:Nat){x y:Str}{np2 apos2 cpos2:Pos}(hb:∀j,Γ.br j=false)(he:SE X Γ E e f L md)(hN:X.N[i]? =some x:=by rfl)(hv:wW X.env.scope x:=by first |exact Or.inl rfl |exact Or.inr (Or.inl rfl) |exact Or.inr (Or.inr rfl))(hd:(x == ("__debug__":Str))=false:=by decide)
  (hcd:(x == ("__classdict__":Str))=false:=by decide)
  (hN2:X.N[j]? =some y:=by rfl) (hv2:wW X.env.scope y:=by first |exact Or.inl rfl |exact Or.inr (Or.inl rfl) |exact Or.inr (Or.inr rfl)) (hd2:(y == ("__debug__":Str))=false:=by decide)
  (hcd2:(y == ("__classdict__":Str))=false:=by decide)
  (hbase:attributeBase (.Name x np) "append" X.env (eval (.Name x np) X.env)=eval (.Name x np) X.env:=by rfl)
  (hfew:((backTo cpos (starEach [.Call (.Attribute (.Name y np2) "pop" apos2) [e] [] cpos2] X.env)).all (λx=> !x.1) && (backToKw cpos (keywordEach [] X.env)).all (λx=>x.1.isSome)
   && decide ([Expr.Call (.Attribute (.Name y np2) "pop" apos2) [e] [] cpos2].length + ([]:List Keyword).length + (if ([]:List Keyword).isEmpty then 0 else 1) < 30))=true:=by rfl)
  (hline:(apos.endLine == cpos.line)=true:=by rfl) (hs:starEach [.Call (.Attribute (.Name y np2) "pop" apos2) [e] [] cpos2] X.env=(false,eval (.Call (.Attribute (.Name y np2) "pop" apos2) [e] [] cpos2) X.env) :: starEach [] X.env:=by rfl)
  (hbase2:attributeBase (.Name y np2) "pop" X.env (eval (.Name y np2) X.env)=eval (.Name y np2) X.env:=by rfl)
  (hfew2:((backTo cpos2 (starEach [e] X.env)).all (λx=> !x.1) && (backToKw cpos2 (keywordEach [] X.env)).all (λx=>x.1.isSome)
   && decide ([e].length + ([]:List Keyword).length + (if ([]:List Keyword).isEmpty then 0 else 1) < 30))=true:=by rfl)
  (hline2:(apos2.endLine == cpos2.line)=true:=by rfl) (hs2:starEach [e] X.env=(false,eval e X.env) :: starEach [] X.env:=by rfl)
  (hsw:swapsWith (.Call (.Attribute (.Name x np) "append" apos) [.Call (.Attribute (.Name y np2) "pop" apos2) [e] [] cpos2] [] cpos) none pos.line X.env=pure false:=by rfl) :
  SS X Γ E (.Expr (.Call (.Attribute (.Name x np) "append" apos) [.Call (.Attribute (.Name y np2) "pop" apos2) [e] [] cpos2] [] cpos) pos) (g9 i j L f):=by
 refine PS.post (jH (rW JB JS JT gL (fu hN hv hd hcd)
  (aC (rW JB PySem.F.slot_list_pop PySem.F.type_list_pop yM (fu hN2 hv2 hd2 hcd2) (aC he aY hs2) hbase2 hfew2 hline2 hs2 rfl) aY hs) hbase hfew hline hs rfl) hsw) λN σ H ⟨env,G,B,β,I,o⟩=>?_
 unfold g9 at o
 by_cases hO:ub env[i]? =true/\ub env[j]? =true/\i≠j
 case neg=>rw[HI hO] at o;exact o.elim
 rw[HA hO] at o
 obtain⟨hO1,hO2,hij⟩:=hO
 obtain⟨ds0,q0⟩:=oN hO1
 obtain⟨es0,w0⟩:=oN hO2
 obtain⟨p,h1,_,_,_,xs,h5,_⟩:=I.slot i _ q0
 obtain⟨q,k1,_,_,_,ys,k5,_⟩:=I.slot j _ w0
 refine⟨_,h1,.inl ⟨rfl,xs,.inl (.inl h5)⟩,?_⟩
 refine⟨_,k1,.inl ⟨rfl,ys,.inl (.inl k5)⟩,?_⟩
 refine⟨env,G,B,β,I,cM o λkd β' k v G' H' I' s' m' vo=>?_⟩
 cases ej:(aU L env)[j]? with
 |none=>rw[ej] at k;exact k.elim
 |some sj=>
  rw[ej] at k
  cases sj with
  |ow dj=>
   cases dj with
   |list es=>
    dsimp only at k
    cases ep:vP es kd with
    |none=>rw[ep] at k;exact k.elim
    |some pr=>
     obtain⟨d,es'⟩:=pr
     rw[ep] at k
     dsimp only at k
     unfold vP at ep
     cases kd <;> first | (cases ep;done) |skip
     rename_i ii
     dsimp only at ep
     split at ep
     ·rename_i hr
      cases eI:seqIndex? ii es.length with
      |none=>rw[eI] at ep;cases ep
      |some n=>
       rw[eI] at ep
       dsimp only at ep
       cases eD:es[n]? with
       |none=>rw[eD] at ep;cases ep
       |some d0=>
        rw[eD] at ep
        cases ep
        obtain rfl:=(vo.brw I.boxThere).int
        obtain⟨q',g1,_,_,_,zs,g5,g6⟩:=I'.slot j _ ej
        rw[k1] at g1;cases g1
        obtain⟨xv,ex,rx⟩:=g6.at eD
        refine⟨q,zs,ii,n,xv,rfl,rfl,g5,hr.1,hr.2,by rw[g6.len];exact eI,ex,?_⟩
        have I2:=I'.write hb ej k1 (o:=.lst (zs.eraseIdx n)) (d':=.list (es.eraseIdx n)) λH2 e2 s2=>⟨_,e2,g6.eraseIdx n⟩
        obtain⟨ds,fs,eq,eg,k⟩:=uB k
        by_cases hz:ds.length < sizeLine
        case neg=>rw[HI hz] at eg;cases eg
        rw[HA hz] at eg
        cases eg
        obtain⟨p',f1,_,_,_,us,f5,f6⟩:=I2.slot i _ eq
        rw[h1] at f1;cases f1
        refine⟨p,us,xv,rfl,rfl,f5,by rw[f6.len];exact hz,?_⟩
        exact k B G' _ σ (I2.write hb eq h1 λH2 e2 s2=>⟨_,e2,f6.snoc rx⟩) s'
     ·cases ep
   |_=>exact k.elim
  |_=>exact k.elim
end
def c9:List D->Int->FB
 | [.int m],β=>if 0 < m/\m < 1073741824 then .ok (.int (β % m)) false (β / m) else .bad
 |_,_=>.bad
def uC {ds:List D}{β:Int}(h:c9 ds β≠.bad):∃m,ds= [.int m]/\0 < m/\m < 1073741824:=by
 unfold c9 at h
 split at h
 ·rename_i m
  by_cases hh:0 < m/\m < 1073741824
  ·exact⟨m,rfl,hh.1,hh.2⟩
  ·rw[HI hh] at h;exact absurd rfl h
 ·exact absurd rfl h
def pS {m β:Int}(h0:0 < m)(h1:m < 1073741824):c9 [.int m] β=.ok (.int (β % m)) false (β / m):=HA ⟨h0,h1⟩
def constsOf:List Expr->Option (List Int)
 | []=>some []
 | .Constant (.int i) _ _ :: es=>(constsOf es).map λr=>i :: r
 |_=>none
def He (ns:List Int):VF (List D):=λ_ β=>.ok (ns.map int) β
theorem nW {X:Cx}{Γ:Fx}{E:XK}:∀{es:List Expr} {ns:List Int},constsOf es=some ns->SA X Γ E es (He ns) []
 | [],ns,h=>by
  have e:ns= []:=by unfold constsOf at h;exact (Option.some.inj h).symm
  subst e
  exact au
 |e :: es,ns,h=>by
  unfold constsOf at h
  split at h
  ·cases ‹_ :: _= []›
  ·next i a b es' heq=>
   cases heq
   cases q:constsOf es with
   |none=>rw[q] at h;cases h
   |some r=>
    rw[q] at h
    have e2:i :: r=ns:=Option.some.inj h
    subst e2
    exact ae az (nW q) rfl
  ·cases h
section
variable {P:Program}{w:World}{K:Frag}{mg:Str->Option Value}{base:Heap}
def A4 {X:Cx}{i j:Nat}{x y:Str}{px py pos:Pos}{k:Nat}(hN:X.N.Nodup)(hi:X.N[i]? =some x)(hj:X.N[j]? =some y)(hx:X.env.scope.names.lookup x=some .local)(hy:X.env.scope.names.lookup y=some .local)(hc:X.calm=true) :
  PG X (.Tuple [.Name x px,.Name y py] k pos) (Bw X.K 2 (lU (ji i) (lU (ji j) AW))):=
 mF hc (cE (b5 hN hi (Or.inl hx) (Or.inr hx)) (cE (b5 hN hj (Or.inl hy) (Or.inr hy)) kf))
def xC {b:Addr}{β m:Int}{H:Hp}{Q:VK}{G:Hp}(hb:H b=some (.lst [.int β]))(s:af G H){p:Addr}(hp:H p=none)
  (kk:∀v G' H',fm (some b) H H'->H' b=some (.lst [.int (β / m)])->af G G'->af G' H'->(∀c,Mx H c->G c=none->G' c=none)->FV K H G' H' false (.int (β % m)) v->Q v H') (gb:G b=none) :
  Q (.int (β % m)) (upd (upd H p (.tup [.int (β / m),.int (β % m)])) b (.lst [.int (β / m)])):=by
 have hbp:b≠p:=ax hb hp
 refine kk _ G _ ⟨λc o e n=>Kt.of (by rw[ak (λz=>n (by rw[z])),ak (ax e hp)];exact e),λc o u e=>by rw[ak (λz=>by rw[z,hb] at e;cases e),ak (ax e hp)];exact e⟩ aq (af.refl _) (λc o e=>?_) (λc _ h=>h) (.int _)
 obtain⟨u,eu,_⟩:=(s c o e).some
 exact gr (gr (s c o e) (ax eu hp) λx y w=>by rw[hp] at w;cases w) (λz=>by rw[z,gb] at e;cases e) λx y w=>by rw[ak hbp,hb] at w;cases w
end
end L2
namespace L2
open PySem PySem.SeqAt PySem.Spec PyProof.Rows
section
variable {K:Frag}{X:Cx}{G H:Hp}{Γ:Fx}{E:XK}{e a b c:Expr}{f fa fb fc:VF D}{L La Lb:List Nat}{md ma mb mc:Md}{pos apos cpos np:Pos}
def eG:List D->Option (List Int)
 | []=>some []
 | .int i :: ds=>(eG ds).map (i :: ·)
 |_=>none
theorem j8:∀{ds:List D} {ns:List Int},eG ds=some ns->ds=ns.map int
 | [],ns,h=>by cases h;rfl
 | .int i :: ds,ns,h=>by
  unfold eG at h
  cases q:eG ds with
  |none=>rw[q] at h;cases h
  |some ms=>rw[q] at h;cases h;rw[j8 q];rfl
 | .none :: _,_,h=>by cases h
 | .bool _ :: _,_,h=>by cases h
 | .str _ :: _,_,h=>by cases h
 | .list _ :: _,_,h=>by cases h
 | .tuple _ :: _,_,h=>by cases h
 | .dict _ :: _,_,h=>by cases h
theorem fk:∀ns:List Int,eG (ns.map int)=some ns
 | []=>rfl
 |n :: ns=>by show (eG (ns.map int)).map (n :: ·)=_;rw[fk ns];rfl
abbrev Fx.at (Γ:Fx)(H0:Hp):Fx:=⟨Γ.K,H0,Γ.G0,Γ.par,Γ.ca,Γ.br,Γ.bx⟩
end
end L2
namespace L2
open PySem
section
variable {α γ:Type}
@[simp] theorem jn (a:α)(β:Int)(k:α->Int->R γ):(R.ok a β).bnd k=k a β:=rfl
@[simp] theorem Fu (c:Str)(k:α->Int->R γ):(R.exc c:R α).bnd k=.exc c:=rfl
@[simp] theorem Ff (k:α->Int->R γ):(R.bad:R α).bnd k=.bad:=rfl
@[simp] theorem Gx (a:α)(β:Int)(k:α->Int->R γ):(R.ok a β).okb k=k a β:=rfl
@[simp] theorem pk (a:α)(β:Int):R.of (some a) β=.ok a β:=rfl
@[simp] theorem of_none (β:Int):(R.of none β:R α)=.bad:=rfl
@[simp] theorem Ga (a:α)(β:Int)(k:α->Int->SO):toS (.ok a β) k=k a β:=rfl
@[simp] theorem Fj (c:Str)(k:α->Int->SO):toS (.exc c:R α) k=.exc c:=rfl
@[simp] theorem Fy (k:α->Int->SO):toS (.bad:R α) k=.bad:=rfl
end
section
variable (f fa fb fc:VF D)(t u:VF Bool)(m m':SF)(vs:List Nv)(β:Int)(env:En)(i j:Nat)(L:List Nat)
@[simp] theorem B6:gv i vs β=R.of (dat vs[i]?) β:=rfl
@[simp] theorem t6 (d:D):dat (some (.da d))=some d:=rfl
@[simp] theorem FX (d:D):cst d vs β=.ok d β:=rfl
@[simp] theorem Hb (g:D->Option D):f1 fa g vs β=(fa vs β).bnd λx β1=>R.of (g x) β1:=rfl
@[simp] theorem G7 (g:D->D->Option D):f2 fa fb g vs β=(fa vs β).bnd λx β1=>(fb vs β1).bnd λy β2=>R.of (g x y) β2:=rfl
@[simp] theorem vm:ao vs β=.ok [] β:=rfl
@[simp] theorem cc (fr:VF (List D)):aa fa fr vs β=(fa vs β).bnd λx β1=>(fr vs β1).bnd λxs β2=>.ok (x :: xs) β2:=rfl
@[simp] theorem tI:jt fa vs β=(fa vs β).bnd λx β1=>R.of (Cq x) β1:=rfl
@[simp] theorem ua:ng t vs β=(t vs β).bnd λc β1=>.ok (!c) β1:=rfl
@[simp] theorem GI:Hr t u vs β=(t vs β).bnd λc β1=>if c=true then u vs β1 else .ok false β1:=rfl
@[simp] theorem uM:m8 t u vs β=(t vs β).bnd λc β1=>if c=true then .ok true β1 else u vs β1:=rfl
@[simp] theorem G9 (n:Bool):tN fa n vs β=(fa vs β).bnd λx β1=>.ok (if n then !wA x else wA x) β1:=rfl
@[simp] theorem GD:Hj t fa fb vs β=(t vs β).bnd λc β1=>if c=true then fa vs β1 else fb vs β1:=rfl
@[simp] theorem iV (c:Bool){β1:Int}(h:fa vs β=.ok (.bool c) β1):gf fa vs β=.ok c β1:=by unfold gf;rw[h];rfl
@[simp] theorem sN:vl []= []:=rfl
@[simp] theorem pQ (s:Sl):vl (s :: env)=s.val :: vl env:=rfl
@[simp] theorem td (d:D):(Sl.fz d).val=.da d:=rfl
@[simp] theorem Gy (d:D):(Sl.ow d).val=.da d:=rfl
@[simp] theorem GG:Sl.no.val=.no:=rfl
@[simp] theorem Gk:Sl.bx.val=.bx:=rfl
@[simp] theorem Fv:aU [] env=env:=rfl
@[simp] theorem Eh:aU (i :: L) env=aU L (gH env i):=rfl
@[simp] theorem Fs:aH m m' env β=(match m env β with
 | .nx env' β'=>m' env' β'
 |r=>r):=rfl
@[simp] theorem GS:jc L t m m' env β=toS (t (vl env) β) λc β'=>if c=true then m (aU L env) β' else m' (aU L env) β':=rfl
@[simp] theorem uJ:bD f env β=toS (f (vl env) β) λd β'=>.rt d false β':=rfl
@[simp] theorem Ep:sf f env β=toS (f (vl env) β) λd β'=>.rt d true β':=rfl
@[simp] theorem FH:kL env β=.nx env β:=rfl
@[simp] theorem vk:bF i L f env β=toS (f (vl env) β) λd β'=>.nx ((aU L env).set i (.fz d)) β':=rfl
@[simp] theorem yb:jG i L f env β=toS (f (vl env) β) λd β'=>.nx ((aU L env).set i (.ow d)) β':=rfl
@[simp] theorem xK:oh L f env β=toS (f (vl env) β) λ_ β'=>.nx (aU L env) β':=rfl
end
def aE {m m':SF}{env env':En}{β β':Int}(h:m env β=.nx env' β'):aH m m' env β=m' env' β':=by unfold aH;rw[h]
def o7 {m m':SF}{env:En}{β β':Int}{d:D}{b:Bool}(h:m env β=.rt d b β'):aH m m' env β=.rt d b β':=by unfold aH;rw[h]
def oG {L:List Nat}{t:VF Bool}{m m':SF}{env:En}{β β':Int}(h:t (vl env) β=.ok true β'):jc L t m m' env β=m (aU L env) β':=by unfold jc;rw[h];rfl
def kX {L:List Nat}{t:VF Bool}{m m':SF}{env:En}{β β':Int}(h:t (vl env) β=.ok false β'):jc L t m m' env β=m' (aU L env) β':=by unfold jc;rw[h];rfl
def aL {F:List D->FR}{fr:VF (List D)}{vs:List Nv}{β β1:Int}{ds:List D}{d:D}{b:Bool}(h:fr vs β=.ok ds β1)(e:F ds=.ok d b):aA F fr vs β=.ok d β1:=by unfold aA;rw[h];dsimp only[R.bnd];rw[e]
def ym {F:List D->FR}{fr:VF (List D)}{vs:List Nv}{β β1:Int}{ds:List D}{d:D}(h:fr vs β=.ok ds β1)(e:F ds=.ok d true):qz F fr vs β=.ok d β1:=by unfold qz;rw[h];dsimp only[R.bnd];rw[e]
def df {fa:VF D}{g:D->Option D}{vs:List Nv}{β β1:Int}{x d:D}(h:fa vs β=.ok x β1)(e:g x=some d):f1 fa g vs β=.ok d β1:=by unfold f1;rw[h];dsimp only[R.bnd];rw[e];rfl
def aK {fa fb:VF D}{g:D->D->Option D}{vs:List Nv}{β β1 β2:Int}{x y d:D}(h:fa vs β=.ok x β1)(h':fb vs β1=.ok y β2)(e:g x y=some d):f2 fa fb g vs β=.ok d β2:=by unfold f2;rw[h];dsimp only[R.bnd];rw[h'];dsimp only[R.bnd];rw[e];rfl
def mN {i:Nat}{F:List D->Int->FB}{fr:VF (List D)}{vs:List Nv}{β β1 β2:Int}{ds:List D}{d:D}{b:Bool}(hi:uh vs i=true)(h:fr vs β=.ok ds β1)(e:F ds β1=.ok d b β2):mL i F fr vs β=.ok d β2:=by unfold mL;rw[HA hi,h];dsimp only[R.bnd];rw[e]
def CZ {f0:VF D}{F:List D->Int->FB}{n:Int}{vs:List Nv}{β β1 z β2:Int}{d:D}{b:Bool}(h:f0 vs β=.ok (.list [.int z]) β1)(e:F [.int n] z=.ok d b β2):Fi f0 F n vs β=.ok d β1:=by unfold Fi;rw[h];dsimp only[R.bnd,xE];rw[e]
def sz (n:Nat)(h:n<=1000):n<=sizeLine:=by rw[Iu];omega
def EI (n:Nat)(h:n<=1000):n < sizeLine:=by rw[Iu];omega
def lK {fr:VF (List D)}{vs:List Nv}{β β1:Int}{ds:List D}(h:fr vs β=.ok ds β1)(hz:ds.length<=1000):dZ fr vs β=.ok (.tuple ds) β1:=by unfold dZ;rw[h];exact HA (sz _ hz)
def fU {fr:VF (List D)}{vs:List Nv}{β β1:Int}{ds:List D}(h:fr vs β=.ok ds β1)(hz:ds.length<=1000):a9 fr vs β=.ok (.list ds) β1:=by unfold a9;rw[h];exact HA (sz _ hz)
def xM {i:Nat}{env:En}{β:Int}{g:List D->Option (List D)}{ds es:List D}(h:env[i]? =some (.ow (.list ds)))(e:g ds=some es):DV i env β g=.nx (env.set i (.ow (.list es))) β:=by unfold DV;rw[h];dsimp only;rw[e]
def pV {i:Nat}{L:List Nat}{f:VF D}{env:En}{β β':Int}{ds:List D}{d:D}(hi:env[i]? =some (.ow (.list ds)))(hf:f (vl env) β=.ok d β')(hL:(aU L env)[i]? =some (.ow (.list ds)))(hz:ds.length<=1000):ll i L f env β=.nx ((aU L env).set i (.ow (.list (ds ++ [d])))) β':=by
 unfold ll
 rw[HA (by rw[hi];rfl),hf]
 exact xM hL (HA (EI _ hz))
def sO {i j:Nat}{L:List Nat}{f:VF D}{env:En}{β β':Int}{ds es es':List D}{k d:D}(hi:env[i]? =some (.ow (.list ds)))(hj:env[j]? =some (.ow (.list es)))(hij:i≠j)(hf:f (vl env) β=.ok k β')(hL:aU L env=env)(hp:vP es k=some (d,es'))(hz:ds.length<=1000):g9 i j L f env β=.nx ((env.set j (.ow (.list es'))).set i (.ow (.list (ds ++ [d])))) β':=by
 unfold g9
 rw[HA ⟨by rw[hi];rfl,by rw[hj];rfl,hij⟩,hf,hL]
 dsimp only[toS]
 rw[hj]
 dsimp only
 rw[hp]
 exact xM (by rw[HS (Ne.symm hij)];exact hi) (HA (EI _ hz))
def cQ {α:Type}{own:Nat}{ixs:List Nat}{t:Tg}{fi:VF (List D)}{fe:VF D}{vs:List Nv}{β β1:Int}{l:List α}{e:α->D}(h:α->D)(hi:fi vs β=.ok (l.map e) β1)(hz:l.length<=1000)
  (hh:∀x,x∈l->∃vs1,qQ t (e x) (fY own ixs vs)=some vs1/\fe vs1 β1=.ok (h x) β1):a7 own ixs t fi ni fe vs β=.ok (.list (l.map h)) β1:=by
 unfold a7
 rw[hi]
 dsimp only[R.bnd]
 rw[HA (sz _ (by rw[HF];exact hz))]
 have key:∀m:List α,(∀x,x∈m->x∈l)->gA t ni fe (fY own ixs vs) (m.map e) β1=.ok (m.map h) β1:=by
  intro m
  induction m with
  |nil=>intro _;rfl
  |cons x m ih=>
   intro hm
   obtain⟨vs1,e1,e2⟩:=hh x (hm x (Hz ..))
   rw[ID]
   unfold gA
   rw[e1]
   dsimp only
   show (R.ok true β1).okb _=_
   dsimp only[R.okb]
   rw[HA rfl,e2]
   dsimp only
   rw[ih λy hy=>hm y (HG _ hy)];rfl
 rw[key l λ_ h=>h];rfl
def jw {α:Type}{own:Nat}{ixs:List Nat}{t:Tg}{fi:VF (List D)}{ft:VF Bool}{fe:VF D}{vs:List Nv}{β β1:Int}{l:List α}{e:α->D}(g:α->Bool)(h:α->D)(hi:fi vs β=.ok (l.map e) β1)(hz:l.length<=1000)
  (hh:∀x,x∈l->∃vs1,qQ t (e x) (fY own ixs vs)=some vs1/\ft vs1 β1=.ok (g x) β1/\(g x=true->fe vs1 β1=.ok (h x) β1)):a7 own ixs t fi ft fe vs β=.ok (.list ((l.filter g).map h)) β1:=by
 unfold a7
 rw[hi]
 dsimp only[R.bnd]
 rw[HA (sz _ (by rw[HF];exact hz))]
 have key:∀m:List α,(∀x,x∈m->x∈l)->gA t ft fe (fY own ixs vs) (m.map e) β1=.ok ((m.filter g).map h) β1:=by
  intro m
  induction m with
  |nil=>intro _;rfl
  |cons x m ih=>
   intro hm
   obtain⟨vs1,e1,e2,e3⟩:=hh x (hm x (Hz ..))
   have ih:=ih λy hy=>hm y (HG _ hy)
   rw[ID]
   unfold gA
   rw[e1]
   dsimp only
   rw[e2]
   dsimp only[R.okb]
   cases q:g x with
   |true=>
    rw[HA rfl,e3 q]
    dsimp only
    rw[ih,JC q];rfl
   |false=>
    rw[HI Iw,ih,JD (by rw[q];exact Iw)]
 rw[key l λ_ h=>h];rfl
theorem fD {t:Tg}{m:SF}(Pv:Nat->En->Int->Prop):∀{ds:List D} {k:Nat} {env:En} {β:Int},Pv k env β->
  (∀i d env β,ds[i]? =some d->Pv (k + i) env β->∃env1,dH t d env=some env1/\∃env2 β2,m env1 β=.nx env2 β2/\Pv (k + i + 1) env2 β2)->∃env' β',gV t m ds env β=.nx env' β'/\Pv (k + ds.length) env' β'
 | [],k,env,β,h0,_=>⟨env,β,rfl,h0⟩
 |d :: ds,k,env,β,h0,hs=>by
  obtain⟨env1,e1,env2,β2,e2,h1⟩:=hs 0 d env β rfl h0
  obtain⟨env',β',e3,h2⟩:=fD Pv (t:=t) (m:=m) (ds:=ds) (k:=k + 1) h1 λi d' en be hi hp=>by
   have:=hs (i + 1) d' en be (by simpa using hi) (by rw[show k + (i + 1)=k + 1 + i by omega];exact hp)
   rw[show k + (i + 1) + 1=k + 1 + i + 1 by omega] at this
   exact this
  refine⟨env',β',?_,by rw[HX,show k + (ds.length + 1)=k + 1 + ds.length by omega];exact h2⟩
  unfold gV
  rw[e1]
  dsimp only
  rw[e2]
  exact e3
theorem gQ {L:List Nat}{t:VF Bool}{m:SF}(Pv:Nat->En->Int->Prop)(Dn:En->Int->Prop):∀{n k:Nat} {env:En} {β:Int},k < n->Pv k env β->
  (∀k env β,Pv k env β->∃c β1,t (vl env) β=.ok c β1/\((c=false/\Dn (aU L env) β1)\/(c=true/\∃env2 β2 k',m (aU L env) β1=.nx env2 β2/\k' < k/\Pv k' env2 β2)))->∃env' β',gn L t m n env β=.nx env' β'/\Dn env' β'
 | 0,k,env,β,hk,_,_=>by omega
 |n + 1,k,env,β,hk,h0,hs=>by
  obtain⟨c,β1,e1,hc⟩:=hs k env β h0
  unfold gn
  rw[e1]
  dsimp only[toS]
  rcases hc with⟨rfl,hd⟩ | ⟨rfl,env2,β2,k',e2,hl,h1⟩
  ·exact⟨_,_,rfl,hd⟩
  ·rw[HA rfl,e2]
   exact gQ Pv Dn (n:=n) (k:=k') (by omega) h1 hs
end L2
namespace RM
open PySem L2
def mO:SF:=(bD (dW (f1 (gv 0) (gS "int")) (f1 (f1 (gv 0) (gS "bool")) qG)))
def mq (bu:List D->FR):SF:=(bD (dW (aA bu (aa (gv 0) ao)) (ik (cst (.int 0)) (gv 0) (gv 1) zk CQ)))
def oo (bu:List D->FR):SF:=(bD (dW (aA bu (aa (gv 0) ao)) (ik (cst (.int 1)) (gv 0) (cst (.int 8)) zk zk)))
def oj (cO:List D->FR):SF:=(aH (jc ([] ++ ([] ++ [])) (m8 (ng (jt (f1 (gv 0) (gS "tuple")))) (gf (f2 (f1 (gv 0) dc) (cst (.int 2)) (de true))))
 (bD (cst (.bool false)))
 kL)
 (bD (dW (aA cO (aa (f2 (gv 0) (cst (.int 0)) dz) (aa (gv 1) ao))) (aA cO (aa (f2 (gv 0) (cst (.int 1)) dz) (aa (gv 1) ao))))))
def pd:SF:=(sf (a7 1 [0] (.nm 0) (iA (f2 (gv 0) (gv 0) dP)) ni (dZ (aa (f2 (gv 0) (gv 1) ze) (aa (f2 (gv 0) (gv 1) jP) ao)))))
def mQ:SF:=(bD (f1 (a7 2 [] (.two 0 1) (bZ (gv 0)) ni (f2 (gv 0) (gv 1) (de false))) (b8 λbs=>bs.any id)))
def fo (e8 fj gy dh:List D->FR):SF:=(aH (jc ([] ++ ([] ++ [])) (m8 (ng (jt (f1 (gv 0) (gS "tuple")))) (gf (f2 (f1 (gv 0) dc) (cst (.int 2)) (de true))))
 (bD (cst (.bool false)))
 kL)
 (aH (bF 1 ([] ++ []) (f2 (gv 0) (cst (.int 0)) dz))
 (aH (bF 2 ([] ++ []) (f2 (gv 0) (cst (.int 1)) dz))
 (aH (jc (([1] ++ []) ++ []) (m8 (ng (jt (aA e8 (aa (gv 1) ao)))) (ng (jt (f1 (gv 2) (gS "tuple")))))
 (bD (cst (.bool false)))
 kL)
 (aH (jc ([] ++ [1]) (ng (jt (f1 (a7 1 [1] (.nm 0) (bZ (gv 2)) ni (aA fj (aa (gv 0) (aa (gv 1) ao)))) (b8 λbs=>bs.all id))))
 (bD (cst (.bool false)))
 kL)
 (bD (dW (f2 (gv 2) (aA gy (aa (gv 1) (aa (gv 2) ao))) (de false)) (f1 (aA dh (aa (gv 2) ao)) qG))))))))
def kW:SF:=(bD (dW (f2 (gv 1) (gv 2) (de true)) (dW (f2 (dZ (aa (gv 1) (aa (gv 2) ao))) (f2 (gv 0) (cst (.int 1)) dz) (zX true)) (f2 (dZ (aa (gv 2) (aa (gv 1) ao))) (f2 (gv 0) (cst (.int 1)) dz) (zX true)))))
def cK (bb:List D->FR):SF:=(aH (jG 2 [] (a9 ao))
 (aH (cH (.nm 3) [1] (bZ (gv 1))
 (cH (.nm 4) ((([] ++ []) ++ []) ++ ([] ++ [])) (lh (f2 (f2 (gv 3) (f1 (cst (.int 1)) yh) dz) (cst (.int 1)) bJ) (f2 (gv 0) (cst (.int 0)) dz))
 (jc ([] ++ [0,4]) (jt (f1 (a7 1 [0,4] (.nm 0) (bZ (gv 3)) ni (aA bb (aa (gv 1) (aa (gv 0) (aa (gv 2) ao))))) (b8 λbs=>bs.all id)))
 (ll 2 ([] ++ ([4] ++ [])) (f2 (gv 3) (a9 (aa (gv 4) ao)) cV))
 kL)))
 (jd 2)))
def eR (aW bA:List D->FR):SF:=(aH (oh ([0] ++ []) (aA aW (aa (gv 0) ao)))
 (aH (bF 1 (([] ++ []) ++ []) (a7 1 [] (.nm 0) (iA (f2 (gv 0) (cst (.int 0)) dz)) ni (a9 (aa (gv 0) ao))))
 (aH (bF 2 [1] (gv 1))
 (aH (gn [] (jt (gv 2))
 (aH (bF 1 [2] (gv 2))
 (bF 2 ([0] ++ ([1] ++ [])) (aA bA (aa (gv 0) (aa (gv 1) ao))))) 1000)
 (bD (f2 (gv 1) (cst (.int 0)) dz))))))
def dM:SF:=(aH (jc ([] ++ []) (gf (f2 (gv 1) (f1 (gv 0) dc) CQ))
 (bD (f2 (gv 0) (gv 1) dz))
 kL)
 (bD (cst (.int 0))))
def hW:SF:=(aH (bF 2 [] (a9 (He [48271,69621,16807,39373,30269,40014,40692,50021,61687,71993,83869,95561,30307]))) (aH (bF 3 ((((([] ++ []) ++ []) ++ ([] ++ ([] ++ []))) ++ ([] ++ [])) ++ ([] ++ ([] ++ []))) (f2 (f2 (f2 (f2 (f2 (gv 0) (cst (.int 2147483647)) jP) (cst (.int 12345)) bJ) (f2 (gv 2) (f2 (gv 1) (cst (.int 13)) jP) dz) dP) (f2 (cst (.int 977)) (gv 1) dP) bJ) (f2 (cst (.int 7919)) (f2 (gv 1) (cst (.int 13)) ze) dP) bJ))
 (aH (bF 3 ([] ++ []) (f2 (gv 3) (cst (.int 1000000007)) jP))
 (bD (f2 (f2 (f2 (f2 (gv 3) (gv 3) dP) (f2 (cst (.int 48271)) (gv 1) dP) bJ) (cst (.int 1000000007)) jP) (cst (.int 7)) ze)))))
def il (cS dv:List D->FR):SF:=(aH (bF 2 ([0] ++ ([1] ++ [])) (aA cS (aa (gv 0) (aa (gv 1) ao))))
 (aH (jc (([] ++ []) ++ []) (gf (f2 (f2 (gv 2) (cst (.int 2)) jP) (cst (.int 0)) (de false)))
 (sf (a9 (aa (f2 (f1 (gv 2) Ah) (cst (.int 2)) ze) ao)))
 kL)
 (aH (bF 3 [] (cst (.int 0)))
 (aH (cH (.nm 4) [] (iA (cst (.int 40)))
 (bF 3 (([] ++ []) ++ ([2] ++ ([4] ++ []))) (f2 (f2 (gv 3) (cst (.int 142857143)) dP) (aA dv (aa (gv 2) (aa (gv 4) ao))) bJ)))
 (sf (a9 (aa (gv 3) ao)))))))
def cJ (aV:List D->Int->FB):SF:=(aH (jG 2 [] (f1 (gv 1) BS))
 (aH (jG 3 [] (a9 ao))
 (aH (gn ([] ++ []) (gf (f2 (gv 2) (a9 ao) (de true)))
 (g9 3 2 ([] ++ []) (mL 0 aV (aa (f1 (gv 2) dc) ao))) 1000)
 (jd 3))))
noncomputable def dD:SF:=(aH (bF 1 [] (f1 (gv 0) bV))
 (aH (bF 2 [] (f1 (cst (.int 1)) yh))
 (aH (gn ([] ++ []) (gf (f2 (gv 2) (f1 (gv 1) dc) (de true)))
 (aH (bF 2 [] (f1 (gv 1) dc))
 (aH (bF 3 [] (a9 ao))
 (aH (cH (.two 4 5) [1] (bZ (gv 1))
 (bF 3 ([] ++ ([] ++ [4])) (f2 (gv 3) (a7 2 [5,4] (.two 0 1) (bZ (gv 1)) (gf (f2 (gv 0) (gv 2) (de false))) (dZ (aa (gv 3) (aa (gv 1) ao)))) cV)))
 (bF 1 ([] ++ []) (f1 (f2 (gv 1) (gv 3) cV) bV))))) 1000)
 (bD (f1 (gv 1) yx)))))
def eY (bX:List D->FR)(aV bB:List D->Int->FB):SF:=(aH (bF 2 ([] ++ ([1] ++ [])) (f2 (cst (.int 1)) (mL 0 aV (aa (gv 1) ao)) bJ))
 (aH (bF 3 ([] ++ []) (mL 0 bB (aa (f1 (gv 2) c5) ao)))
 (aH (bF 4 (([] ++ ([] ++ ([] ++ ([] ++ [])))) ++ ([] ++ [])) (f2 (a9 (aa (cst (.int 2)) (aa (cst (.int 3)) (aa (cst (.int 4)) (aa (cst (.int 7)) ao))))) (mL 0 aV (aa (cst (.int 4)) ao)) dz))
 (aH (jG 5 [] (a9 ao))
 (aH (cH (.nm 6) [] (iA (gv 2))
 (cH (.nm 7) (([] ++ []) ++ []) (lh (f2 (gv 6) (cst (.int 1)) bJ) (gv 2))
 (jc (([4] ++ []) ++ []) (gf (f2 (mL 0 aV (aa (gv 4) ao)) (cst (.int 0)) (de false)))
 (ll 5 (([] ++ []) ++ (([] ++ []) ++ [])) (dZ (aa (f2 (gv 3) (gv 6) dz) (aa (f2 (gv 3) (gv 7) dz) ao))))
 kL)))
 (bD (dZ (aa (gv 2) (aa (aA bX (aa (gv 5) ao)) ao)))))))))
def jY:SF:=(bD (dW (f2 (gv 1) (gv 2) (de true)) (dW (f2 (dZ (aa (gv 1) (aa (gv 2) ao))) (f2 (gv 0) (cst (.int 1)) dz) (zX true)) (f2 (dZ (aa (gv 2) (aa (gv 1) ao))) (f2 (gv 0) (cst (.int 1)) dz) (zX true)))))
def DE:D->Bool
 | .int _=>true
 |_=>false
def iJ:List D->FR
 | [d]=>if eH d=true then .bad else .ok (.bool (DE d)) false
 |_=>.bad
def jV {d:D}(h:eH d=false):iJ [d]=.ok (.bool (DE d)) false:=HI (by rw[h];exact Iw)
def uE (ds:List D)(h:iJ ds≠.bad):bh 1 1 mO ds=iJ ds:=by
 unfold iJ at h
 split at h
 ·rename_i d
  cases q:eH d with
  |true=>rw[q] at h;exact absurd rfl h
  |false=>
   rw[jV q]
   have e1:gS "int" d=some (.bool (yI d "int")):=by unfold gS;rw[q];rfl
   have e2:gS "bool" d=some (.bool (yI d "bool")):=by unfold gS;rw[q];rfl
   show fin (bD (dW (f1 (gv 0) (gS "int")) (f1 (f1 (gv 0) (gS "bool")) qG)) [.fz d] 0)=_
   unfold bD dW f1 gv
   simp only[pQ,sN,td,List.getElem?_cons_zero,t6,pk,jn,e1,e2]
   cases d <;> rfl
 ·exact absurd rfl h
def zx (d:D)(n:Int):Bool:=match d with
 | .int i=>decide (0<=i/\i < n)
 |_=>false
def ig:List D->FR
 | [d,.int n]=>if eH d=true then .bad else .ok (.bool (zx d n)) false
 |_=>.bad
def AB {d:D}{n:Int}(h:eH d=false):ig [d,.int n]=.ok (.bool (zx d n)) false:=HI (by rw[h];exact Iw)
def rk {i lo n:Int}{vs:List Nv}{β:Int}{fa fb fc:VF D}{g':D->D->Option D}{q:Bool}(ha:fa vs β=.ok (.int lo) β)(hb:fb vs β=.ok (.int i) β)(hc:fc vs β=.ok (.int n) β)(hq:g' (.int i) (.int n)=some (.bool q)):ik fa fb fc zk g' vs β=.ok (.bool (decide (lo<=i) && q)) β:=by
 unfold ik
 rw[ha];dsimp only[R.bnd];rw[hb];dsimp only[R.bnd]
 show (match (some (PyData.bool (decide (lo<=i))):Option D) with
  |some (.bool true)=>_
  |some (.bool false)=>_
  |_=>_)=_
 by_cases h:lo<=i
 ·rw[HK h]
  dsimp only
  rw[hc]
  dsimp only[R.bnd]
  rw[hq];rfl
 ·rw[HV h];rfl
def Ax (ds:List D)(h:ig ds≠.bad):bh 2 2 (mq iJ) ds=ig ds:=by
 unfold ig at h
 split at h
 ·rename_i d n
  cases q:eH d with
  |true=>rw[q] at h;exact absurd rfl h
  |false=>
   rw[AB q]
   show fin (bD (dW (aA iJ (aa (gv 0) ao)) (ik (cst (.int 0)) (gv 0) (gv 1) zk CQ)) [.fz d,.fz (.int n)] 0)=_
   unfold bD dW aA
   simp only[pQ,sN,td,cc,vm,B6,List.getElem?_cons_zero,t6,pk,jn,jV q]
   cases d with
   |int i=>
    show fin (toS (ik (cst (.int 0)) (gv 0) (gv 1) zk CQ [.da (.int i),.da (.int n)] 0) _)=_
    rw[rk (lo:=0) (i:=i) (n:=n) rfl rfl rfl rfl]
    show FR.ok (.bool (decide (0<=i) && decide (i < n))) false=.ok (.bool (decide (0<=i/\i < n))) false
    rw[Bool.decide_and]
   |_=>rfl
 ·exact absurd rfl h
def BP (d:D):Bool:=match d with
 | .int i=>decide (1<=i/\i<=8)
 |_=>false
def jh:List D->FR
 | [d]=>if eH d=true then .bad else .ok (.bool (BP d)) false
 |_=>.bad
def xy {d:D}(h:eH d=false):jh [d]=.ok (.bool (BP d)) false:=HI (by rw[h];exact Iw)
def DG (ds:List D)(h:jh ds≠.bad):bh 1 1 (oo iJ) ds=jh ds:=by
 unfold jh at h
 split at h
 ·rename_i d
  cases q:eH d with
  |true=>rw[q] at h;exact absurd rfl h
  |false=>
   rw[xy q]
   show fin (bD (dW (aA iJ (aa (gv 0) ao)) (ik (cst (.int 1)) (gv 0) (cst (.int 8)) zk zk)) [.fz d] 0)=_
   unfold bD dW aA
   simp only[pQ,sN,td,cc,vm,B6,List.getElem?_cons_zero,t6,pk,jn,jV q]
   cases d with
   |int i=>
    show fin (toS (ik (cst (.int 1)) (gv 0) (cst (.int 8)) zk zk [.da (.int i)] 0) _)=_
    rw[rk (lo:=1) (i:=i) (n:=8) rfl rfl rfl rfl]
    show FR.ok (.bool (decide (1<=i) && decide (i<=8))) false=.ok (.bool (decide (1<=i/\i<=8))) false
    rw[Bool.decide_and]
   |_=>rfl
 ·exact absurd rfl h
def pairF:List D->FR
 | [d,.int n]=>(match mH d with
  |some p=>.ok (.bool (decide ((0<=p.1/\p.1 < n)/\(0<=p.2/\p.2 < n)))) false
  |none=>.bad)
 |_=>.bad
def xI (p:Pr)(n:Int):pairF [aG p,.int n]=.ok (.bool (decide ((0<=p.1/\p.1 < n)/\(0<=p.2/\p.2 < n)))) false:=rfl
def DA (ds:List D)(h:pairF ds≠.bad):bh 2 2 (oj ig) ds=pairF ds:=by
 unfold pairF at h
 split at h
 ·rename_i d n
  cases q:mH d with
  |none=>rw[q] at h;exact absurd rfl h
  |some p=>
   obtain rfl:=qI q
   rw[xI]
   obtain⟨a,b⟩:=p
   show fin (toS (dW (aA ig (aa (f2 (gv 0) (cst (.int 0)) dz) (aa (gv 1) ao))) (aA ig (aa (f2 (gv 0) (cst (.int 1)) dz) (aa (gv 1) ao))) [.da (.tuple [.int a,.int b]),.da (.int n)] 0) λd β'=>.rt d false β')=_
   have e1:aA ig (aa (f2 (gv 0) (cst (.int 0)) dz) (aa (gv 1) ao)) [.da (.tuple [.int a,.int b]),.da (.int n)] 0=.ok (.bool (decide (0<=a/\a < n))) 0:=rfl
   have e2:aA ig (aa (f2 (gv 0) (cst (.int 1)) dz) (aa (gv 1) ao)) [.da (.tuple [.int a,.int b]),.da (.int n)] 0=.ok (.bool (decide (0<=b/\b < n))) 0:=rfl
   unfold dW
   rw[e1]
   dsimp only[R.bnd]
   by_cases c:0<=a/\a < n
   ·rw[HK c,e2]
    show FR.ok (.bool (decide (0<=b/\b < n))) false=.ok (.bool (decide ((0<=a/\a < n)/\(0<=b/\b < n)))) false
    simp[c]
   ·rw[HV c]
    show FR.ok (.bool false) false=.ok (.bool (decide ((0<=a/\a < n)/\(0<=b/\b < n)))) false
    simp[c]
 ·exact absurd rfl h
def aB (n:Nat)(l:List Pr):D:=.tuple [.int n,.tuple (l.map aG)]
open Classical in
noncomputable def oi (f:Nat->List Pr->FR):D->FR:=λd=>if h:∃nl:Nat×List Pr,d=aB nl.1 nl.2/\OM.Ord nl.1 nl.2 then f (Classical.choose h).1 (Classical.choose h).2 else .bad
def z9 {p q:Pr}(h:aG p=aG q):p=q:=by
 obtain⟨a,b⟩:=p
 obtain⟨c,d⟩:=q
 unfold aG at h
 simp at h
 rw[h.1,h.2]
theorem la:∀{l m:List Pr},l.map aG=m.map aG->l=m
 | [],[],_=>rfl
 | [],_ :: _,h=>by cases h
 |_ :: _,[],h=>by cases h
 |p :: l,q :: m,h=>by
  simp only[ID,List.cons.injEq] at h
  rw[z9 h.1,la h.2]
def y0 {n m:Nat}{l k:List Pr}(h:aB n l=aB m k):n=m/\l=k:=by
 unfold aB at h
 simp only[PyData.tuple.injEq,List.cons.injEq,int.injEq,and_true] at h
 exact⟨by omega,la h.2⟩
def rO {f:Nat->List Pr->FR}{n:Nat}{l:List Pr}(O:OM.Ord n l):oi f (aB n l)=f n l:=by
 unfold oi
 have h:∃nl:Nat×List Pr,aB n l=aB nl.1 nl.2/\OM.Ord nl.1 nl.2:=⟨(n,l),rfl,O⟩
 rw[dif_pos h]
 obtain⟨e,_⟩:=Classical.choose_spec h
 obtain⟨e1,e2⟩:=y0 e
 rw[<-e1,<-e2]
def rh {f:Nat->List Pr->FR}{d:D}(h:oi f d≠.bad):∃n l,d=aB n l/\OM.Ord n l:=by
 unfold oi at h
 by_cases q:∃nl:Nat×List Pr,d=aB nl.1 nl.2/\OM.Ord nl.1 nl.2
 ·obtain⟨nl,e,O⟩:=q;exact⟨nl.1,nl.2,e,O⟩
 ·rw[dif_neg q] at h;exact absurd rfl h
noncomputable def cv:List D->FR
 | [.int n,d]=>(match iF d with
  |some ds=>(match dX ds with
   |some ps=>(open Classical in if 1<=n/\n<=8/\OM.Wn n.toNat ps then .ok (.tuple ((OM.bK n.toNat (OM.Tr (OM.Mem ps))).map aG)) false else .bad)
   |none=>.bad)
  |none=>.bad)
 |_=>.bad
def yB {n:Nat}{ps:List Pr}(h1:1<=n)(h8:n<=8)(w:OM.Wn n ps):cv [.int n,.tuple (ps.map aG)]=.ok (.tuple ((OM.bK n (OM.Tr (OM.Mem ps))).map aG)) false:=by
 unfold cv
 simp only[iF,fJ]
 rw[HA ⟨by omega,by omega,by rw[IJ];exact w⟩,IJ]
def iy:List D->FR
 | [.tuple ds]=>(match dX ds with
  |some ps=>if ps.length<=1000 then .ok (.bool (ps.any λp=>decide (p.1=p.2))) false else .bad
  |none=>.bad)
 |_=>.bad
theorem gE {α:Type}(f:α->Bool):∀l:List α,iD (l.map λx=>PyData.bool (f x))=some (l.map f)
 | []=>rfl
 |x :: l=>by
  show (iD (l.map λx=>PyData.bool (f x))).map (f x :: ·)=_
  rw[gE f l];rfl
def CC (ds:List D)(h:iy ds≠.bad):bh 1 1 mQ ds=iy ds:=by
 unfold iy at h
 split at h
 ·rename_i ds
  cases q:dX ds with
  |none=>rw[q] at h;exact absurd rfl h
  |some ps=>
   rw[q] at h
   dsimp only at h
   by_cases hz:ps.length<=1000
   case neg=>rw[HI hz] at h;exact absurd rfl h
   obtain rfl:=i8 q
   have e:iy [.tuple (ps.map aG)]=.ok (.bool (ps.any λp=>decide (p.1=p.2))) false:=by
    unfold iy;simp only[fJ];rw[HA hz]
   rw[e]
   have ec:a7 2 [] (.two 0 1) (bZ (gv 0)) ni (f2 (gv 0) (gv 1) (de false)) [.da (.tuple (ps.map aG))] 0=.ok (.list (ps.map λp=>PyData.bool (decide (p.1=p.2)))) 0:=by
    exact cQ (l:=ps) (e:=aG) (λp=>PyData.bool (decide (p.1=p.2))) rfl hz λp hp=>⟨_,rfl,rfl⟩
   show fin (toS ((a7 2 [] (.two 0 1) (bZ (gv 0)) ni (f2 (gv 0) (gv 1) (de false)) [.da (.tuple (ps.map aG))] 0).bnd λx β1=>R.of (b8 (λbs=>bs.any id) x) β1) λd β'=>.rt d false β')=_
   rw[ec]
   simp only[jn,b8]
   rw[gE]
   simp[fin,List.any_map]
 ·exact absurd rfl h
def nU (p:Pr):SeqAt.shaped (aG p)=true:=rfl
theorem uq:∀l:List Pr,PyData.canLayAll0 (l.map aG)=true
 | []=>rfl
 |p :: l=>by
  show ((aG p).canLay0 && PyData.canLayAll0 (l.map aG))=true
  rw[uq l];rfl
theorem vI:∀l:List Pr,PyData.depthAll (l.map aG)<=1
 | []=>by show (0:Nat)<=1;omega
 |p :: l=>by
  show max (aG p).depth (PyData.depthAll (l.map aG))<=1
  have h1:(aG p).depth=1:=by simp[aG,PyData.depth,PyData.depthAll]
  have h2:=vI l
  omega
def lN (l:List Pr):SeqAt.shaped (.tuple (l.map aG))=true:=by
 unfold SeqAt.shaped
 have h1:(PyData.tuple (l.map aG)).canLay0=true:=by simp only[PyData.canLay0];exact uq l
 have h2:(PyData.tuple (l.map aG)).depth<=64:=by simp only[PyData.depth];have:=vI l;omega
 rw[h1,HK h2];rfl
def xG (p q:Pr):PyData.eqv (aG p) (aG q)=decide (p=q):=by
 obtain⟨a,b⟩:=p
 obtain⟨c,d⟩:=q
 simp only[aG,PyData.eqv,PyData.eqvAll,Bool.and_true]
 rw[JK]
 simp
theorem u9:∀l m:List Pr,PyData.eqvAll (l.map aG) (m.map aG)=decide (l=m)
 | [],[]=>rfl
 | [],_ :: _=>rfl
 |_ :: _,[]=>rfl
 |p :: l,q :: m=>by
  show (PyData.eqv (aG p) (aG q) && PyData.eqvAll (l.map aG) (m.map aG))=_
  rw[xG,u9 l m,JK]
  simp
def uz {n:Nat}{l:List Pr}(O:OM.Ord n l):l.length < 64:=by
 have h8:=O.hi
 have e:=O.closed
 by_cases h:l.length < 64
 ·exact h
 ·exfalso
  have h1:l.length<=n * n:=by rw[<-e];exact OM.yk _ _
  have h2:n * n<=64:=JP h8 h8
  have hn:n=8:=by
   by_cases h7:n<=7
   ·have:n * n<=7 * 7:=JP h7 h7
    omega
   ·omega
  have hlen:l.length=n * n:=by subst hn;omega
  have hg:l=OM.fF n:=by
   refine OM.sub_eq O.ris (OM.rP n) (λx hx=>OM.fx.mpr (O.wn x hx)) ?_
   rw[hlen];unfold OM.fF;simp
  have:((0:Int),(0:Int))∈l:=by rw[hg];exact OM.fx.mpr ⟨⟨by omega,by omega⟩,by omega,by omega⟩
  exact O.irr 0 this
def yo {n:Nat}(h1:1<=n)(h8:n<=8):jh [.int n]=.ok (.bool true) false:=by
 rw[xy rfl]
 show FR.ok (.bool (decide (1<=(n:Int)/\(n:Int)<=8))) false=_
 rw[HK (by omega)]
def yz (neg:Bool)(l m:List Pr):de neg (.tuple (l.map aG)) (.tuple (m.map aG))=some (.bool (if neg then !decide (l=m) else decide (l=m))):=by
 unfold de
 rw[lN,lN]
 simp only[Kc,IM,PyData.eqv,u9]
def Ag {n:Nat}{l:List Pr}(O:OM.Ord n l):iy [.tuple (l.map aG)]=.ok (.bool false) false:=by
 have hl:=uz O
 unfold iy
 simp only[fJ]
 rw[HA (by omega)]
 have:(l.any λp=>decide (p.1=p.2))=false:=by
  rw[Ku]
  intro p hp
  simp only[IP]
  intro e
  obtain⟨a,b⟩:=p
  simp only at e
  subst e
  exact O.irr a hp
 rw[this]
def xi {n:Nat}{l:List Pr}(O:OM.Ord n l):bh 3 1 (fo jh pairF cv iy) [aB n l]=.ok (.bool true) false:=by
 have hl:=uz O
 show fin (fo jh pairF cv iy [.fz (aB n l),.no,.no] 0)=_
 unfold fo
 rw[aE (env':=[.fz (aB n l),.no,.no]) (β':=0) (by rfl)]
 rw[aE (env':=[.fz (aB n l),.fz (.int n),.no]) (β':=0) (by rfl)]
 rw[aE (env':=[.fz (aB n l),.fz (.int n),.fz (.tuple (l.map aG))]) (β':=0) (by rfl)]
 have e4:aA jh (aa (gv 1) ao) [.da (aB n l),.da (.int n),.da (.tuple (l.map aG))] 0=.ok (.bool true) 0:=aL rfl (yo O.lo O.hi)
 rw[aE (env':=[.fz (aB n l),.fz (.int n),.fz (.tuple (l.map aG))]) (β':=0) ?h4]
 case h4=>
  refine kX ?_
  show m8 (ng (jt (aA jh (aa (gv 1) ao)))) _ [.da (aB n l),.da (.int n),.da (.tuple (l.map aG))] 0=_
  rw[uM,ua,tI,e4]
  rfl
 have e5:a7 1 [1] (.nm 0) (bZ (gv 2)) ni (aA pairF (aa (gv 0) (aa (gv 1) ao))) [.da (aB n l),.da (.int n),.da (.tuple (l.map aG))] 0=.ok (.list (l.map λ_=>PyData.bool true)) 0:=by
  refine cQ (l:=l) (e:=aG) (λ_=>PyData.bool true) rfl (by omega) λp hp=>⟨_,rfl,?_⟩
  refine aL (b:=false) (ds:=[aG p,.int n]) rfl ?_
  rw[xI,HK (by have:=O.wn p hp;exact this)]
 rw[aE (env':=[.fz (aB n l),.fz (.int n),.fz (.tuple (l.map aG))]) (β':=0) ?h5]
 case h5=>
  refine kX ?_
  show ng (jt (f1 (a7 1 [1] (.nm 0) (bZ (gv 2)) ni (aA pairF (aa (gv 0) (aa (gv 1) ao)))) (b8 λbs=>bs.all id))) [.da (aB n l),.da (.int n),.da (.tuple (l.map aG))] 0=_
  rw[ua,tI,df (d:=.bool true) e5 (by simp only[b8];rw[gE];simp)]
  rfl
 have e6:aA cv (aa (gv 1) (aa (gv 2) ao)) [.da (aB n l),.da (.int n),.da (.tuple (l.map aG))] 0=.ok (.tuple (l.map aG)) 0:=aL rfl (by rw[yB O.lo O.hi O.wn,O.closed])
 have e7:aA iy (aa (gv 2) ao) [.da (aB n l),.da (.int n),.da (.tuple (l.map aG))] 0=.ok (.bool false) 0:=aL rfl (Ag O)
 show fin (toS (dW (f2 (gv 2) (aA cv (aa (gv 1) (aa (gv 2) ao))) (de false)) (f1 (aA iy (aa (gv 2) ao)) qG) [.da (aB n l),.da (.int n),.da (.tuple (l.map aG))] 0) _)=_
 unfold dW
 rw[aK (d:=.bool true) (x:=.tuple (l.map aG)) rfl e6 (by rw[yz];simp)]
 dsimp only[R.bnd]
 rw[df (d:=.bool true) e7 rfl]
 rfl
noncomputable def fH:List D->FR
 | [d]=>oi (λ_ _=>.ok (.bool true) false) d
 |_=>.bad
def ot {n:Nat}{l:List Pr}(O:OM.Ord n l):fH [aB n l]=.ok (.bool true) false:=by simp only[fH];exact rO O
def ue (ds:List D)(h:fH ds≠.bad):bh 3 1 (fo jh pairF cv iy) ds=fH ds:=by
 unfold fH at h
 split at h
 ·obtain⟨n,l,rfl,O⟩:=rh h
  rw[xi O,ot O]
 ·exact absurd rfl h
noncomputable def jL:List D->FR
 | [d]=>oi (λ_ _=>.ok .none false) d
 |_=>.bad
def sH {n:Nat}{l:List Pr}(O:OM.Ord n l):jL [aB n l]=.ok .none false:=by simp only[jL];exact rO O
abbrev cP (ns:List Int):D:=.dict [(.none,.list (ns.map int))]
def mX {i j:Int}(h: -(2 ^ 64) < i/\i < 2 ^ 64):dP (.int i) (.int j)=some (.int (i * j)):=HA (by dsimp only;rw[HK h.1,HK h.2];rfl)
def CI {i j:Int}(h: -(2 ^ 64) < j/\j < 2 ^ 64):dP (.int i) (.int j)=some (.int (i * j)):=HA (by dsimp only;rw[HK h.1,HK h.2,Kc,Bool.or_true])
def lW {i j:Int}(h:0 < j):jP (.int i) (.int j)=some (.int (i % j)):=HA (HK h)
def xZ {i j:Int}(h:0 < j)(h2:j < 1073741824):ze (.int i) (.int j)=some (.int (i / j)):=HA (by dsimp only;rw[HK h,HK h2];rfl)
theorem i0 {α β:Type}(f:α->β)(l:List α)(i:Int):i4 (l.map f) i=(i4 l i).map f:=by
 unfold i4
 rw[HF]
 cases vi l.length i with
 |none=>rfl
 |some j=>simp
def oR {α:Type}{l:List α}{k:Nat}(h:k < l.length):i4 l (k:Int)=some l[k]:=lF (Hu h)
def Ct {fa fb:VF D}{vs:List Nv}{β β1 β2:Int}{i j:Int}(h:fa vs β=.ok (.int i) β1)(h':fb vs β1=.ok (.int j) β2):gf (f2 fa fb CQ) vs β=.ok (decide (i < j)) β2:=iV _ _ _ _ (aK h h' rfl)
def fQ {neg:Bool}{fa fb:VF D}{vs:List Nv}{β β1 β2:Int}{i j:Int}(h:fa vs β=.ok (.int i) β1)(h':fb vs β1=.ok (.int j) β2):gf (f2 fa fb (de neg)) vs β=.ok (if neg then !decide (i=j) else decide (i=j)) β2:=by
 refine iV _ _ _ _ (aK h h' ?_)
 cases neg <;> rfl
def Dw (ns:List Int)(k:Nat):∃z,bh 2 2 dM [cP ns,.int k]=.ok (.int z) false:=by
 show ∃z,fin (dM [.fz (cP ns),.fz (.int k)] 0)=.ok (.int z) false
 unfold dM
 have e:gf (f2 (gv 1) (f1 (gv 0) dc) CQ) [.da (cP ns),.da (.int k)] 0=.ok (decide ((k:Int) < (ns.map int).length)) 0:=Ct rfl rfl
 by_cases h:k < ns.length
 ·refine⟨ns[k],?_⟩
  rw[HK (by simp;exact h)] at e
  rw[o7 (d:=.int ns[k]) (b:=false) (β':=0)]
  ·rfl
  ·rw[oG e]
   show toS (f2 (gv 0) (gv 1) dz [.da (cP ns),.da (.int k)] 0) _=_
   rw[aK (x:=cP ns) (y:=.int k) (d:=.int ns[k]) (β1:=0) (β2:=0) rfl rfl]
   ·rfl
   ·show i4 (ns.map int) (k:Int)=_
    rw[i0,oR h];rfl
 ·refine⟨0,?_⟩
  rw[HV (by simp;omega)] at e
  rw[aE (env':=[.fz (cP ns),.fz (.int k)]) (β':=0)]
  ·rfl
  ·rw[kX e];rfl
noncomputable def uY:List D->FR:=bh 2 2 dM
noncomputable def yQ:List D->FR:=bh 4 2 hW
abbrev t8:List Int:=[48271,69621,16807,39373,30269,40014,40692,50021,61687,71993,83869,95561,30307]
def ES (c k:Int):∃z,yQ [.int c,.int k]=.ok (.int z) false:=by
 show ∃z,fin (hW [.fz (.int c),.fz (.int k),.no,.no] 0)=.ok (.int z) false
 unfold hW
 rw[aE (env':=[.fz (.int c),.fz (.int k),.fz (.list (t8.map int)),.no]) (β':=0) (by rfl)]
 obtain⟨j,hj⟩:∃j:Nat,k % 13=j:=⟨(k % 13).toNat,by omega⟩
 have hj13:j < t8.length:=by show j < 13;omega
 have e1:f2 (f2 (f2 (f2 (f2 (gv 0) (cst (.int 2147483647)) jP) (cst (.int 12345)) bJ) (f2 (gv 2) (f2 (gv 1) (cst (.int 13)) jP) dz) dP) (f2 (cst (.int 977)) (gv 1) dP) bJ) (f2 (cst (.int 7919)) (f2 (gv 1) (cst (.int 13)) ze) dP) bJ [.da (.int c),.da (.int k),.da (.list (t8.map int)),.no] 0
   =.ok (.int ((c % 2147483647 + 12345) * t8[j] + 977 * k + 7919 * (k / 13))) 0:=by
  refine aK (aK (aK (aK (aK (x:=.int c) (y:=.int 2147483647) rfl rfl (lW (by omega))) rfl rfl) (aK (x:=.list (t8.map int)) rfl (aK (x:=.int k) (y:=.int 13) rfl rfl (lW (by omega))) (d:=.int t8[j]) ?_) (mX ⟨by omega,by omega⟩)) (aK (x:=.int 977) (y:=.int k) rfl rfl (mX ⟨by omega,by omega⟩)) rfl) (aK (x:=.int 7919) rfl (aK (x:=.int k) (y:=.int 13) rfl rfl (xZ (by omega) (by omega))) (mX ⟨by omega,by omega⟩)) rfl
  show i4 (t8.map int) (k % 13)=_
  rw[hj,i0,oR hj13];rfl
 generalize ((c % 2147483647 + 12345) * t8[j] + 977 * k + 7919 * (k / 13))=st at e1
 rw[aE (env':=[.fz (.int c),.fz (.int k),.fz (.list (t8.map int)),.fz (.int st)]) (β':=0) ?h]
 case h=>
  show toS (f2 _ _ bJ [.da (.int c),.da (.int k),.da (.list (t8.map int)),.no] 0) _=_
  rw[e1];rfl
 have e2:f2 (gv 3) (cst (.int 1000000007)) jP [.da (.int c),.da (.int k),.da (.list (t8.map int)),.da (.int st)] 0=.ok (.int (st % 1000000007)) 0:=aK rfl rfl (lW (by omega))
 rw[aE (env':=[.fz (.int c),.fz (.int k),.fz (.list (t8.map int)),.fz (.int (st % 1000000007))]) (β':=0) ?h2]
 case h2=>
  show toS (f2 (gv 3) (cst (.int 1000000007)) jP [.da (.int c),.da (.int k),.da (.list (t8.map int)),.da (.int st)] 0) _=_
  rw[e2];rfl
 have hb: -(2 ^ 64) < st % 1000000007/\st % 1000000007 < 2 ^ 64:=⟨by omega,by omega⟩
 generalize st % 1000000007=u at hb
 have e3:f2 (f2 (f2 (f2 (gv 3) (gv 3) dP) (f2 (cst (.int 48271)) (gv 1) dP) bJ) (cst (.int 1000000007)) jP) (cst (.int 7)) ze [.da (.int c),.da (.int k),.da (.list (t8.map int)),.da (.int u)] 0=.ok (.int ((u * u + 48271 * k) % 1000000007 / 7)) 0:=
  aK (aK (aK (aK (x:=.int u) (y:=.int u) rfl rfl (mX hb)) (aK (x:=.int 48271) (y:=.int k) rfl rfl (mX ⟨by omega,by omega⟩)) rfl) rfl (lW (by omega))) rfl (xZ (by omega) (by omega))
 refine⟨(u * u + 48271 * k) % 1000000007 / 7,?_⟩
 show fin (toS (f2 _ (cst (.int 7)) ze [.da (.int c),.da (.int k),.da (.list (t8.map int)),.da (.int u)] 0) _)=_
 rw[e3];rfl
noncomputable def DD:List D->FR:=bh 5 2 (il uY yQ)
def Ek (ns:List Int)(k:Nat):∃z,DD [cP ns,.int k]=.ok (.list [.int z]) true:=by
 obtain⟨c,hc⟩:=Dw ns k
 show ∃z,fin (il uY yQ [.fz (cP ns),.fz (.int k),.no,.no,.no] 0)=.ok (.list [.int z]) true
 unfold il
 have e0:aA uY (aa (gv 0) (aa (gv 1) ao)) [.da (cP ns),.da (.int k),.no,.no,.no] 0=.ok (.int c) 0:=aL rfl hc
 rw[aE (env':=[.fz (cP ns),.fz (.int k),.fz (.int c),.no,.no]) (β':=0) ?h]
 case h=>
  show toS (aA uY _ [.da (cP ns),.da (.int k),.no,.no,.no] 0) _=_
  rw[e0];rfl
 have e1:gf (f2 (f2 (gv 2) (cst (.int 2)) jP) (cst (.int 0)) (de false)) [.da (cP ns),.da (.int k),.da (.int c),.no,.no] 0=.ok (decide (c % 2=0)) 0:=fQ (neg:=false) (aK rfl rfl (lW (by omega))) rfl
 by_cases h:c % 2=0
 ·rw[HK h] at e1
  refine⟨(if c < 0 then -c else c) / 2,?_⟩
  rw[o7 (d:=.list [.int ((if c < 0 then -c else c) / 2)]) (b:=true) (β':=0)]
  ·rfl
  ·rw[oG e1]
   show toS (a9 (aa (f2 (f1 (gv 2) Ah) (cst (.int 2)) ze) ao) [.da (cP ns),.da (.int k),.da (.int c),.no,.no] 0) _=_
   rw[fU (ds:=[.int ((if c < 0 then -c else c) / 2)]) (β1:=0)]
   ·rfl
   ·have e2:f2 (f1 (gv 2) Ah) (cst (.int 2)) ze [.da (cP ns),.da (.int k),.da (.int c),.no,.no] 0=.ok (.int ((if c < 0 then -c else c) / 2)) 0:=aK (df (x:=.int c) rfl rfl) rfl (xZ (by omega) (by omega))
    rw[cc,e2];rfl
   ·simp
 ·rw[HV h] at e1
  rw[aE (env':=[.fz (cP ns),.fz (.int k),.fz (.int c),.no,.no]) (β':=0) (by rw[kX e1];rfl)]
  rw[aE (env':=[.fz (cP ns),.fz (.int k),.fz (.int c),.fz (.int 0),.no]) (β':=0) (by rfl)]
  obtain⟨env',β',el,z,x,rfl,rfl⟩:=fD (t:=.nm 4) (m:=bF 3 (([] ++ []) ++ ([2] ++ ([4] ++ []))) (f2 (f2 (gv 3) (cst (.int 142857143)) dP) (aA yQ (aa (gv 2) (aa (gv 4) ao))) bJ)) (ds:=bN 0 40) (k:=0)
   (λ_ env β=>∃(z:Int) (x:Sl),env= [.fz (cP ns),.fz (.int k),.fz (.int c),.fz (.int z),x]/\β=0) (env:=[.fz (cP ns),.fz (.int k),.fz (.int c),.fz (.int 0),.no]) (β:=0) ⟨0,.no,rfl,rfl⟩ (by
    rintro i d env β hi ⟨z,x,rfl,rfl⟩
    obtain⟨j,rfl⟩:∃j:Int,d=.int j:=by
     unfold bN at hi
     rw[HL] at hi
     cases q:(List.range 40)[i]? with
     |none=>rw[q] at hi;cases hi
     |some j=>rw[q] at hi;cases hi;exact⟨_,rfl⟩
    obtain⟨y,hy⟩:=ES c j
    refine⟨_,rfl,_,_,?_,z * 142857143 + y,.fz (.int j),rfl,rfl⟩
    show toS (f2 (f2 (gv 3) (cst (.int 142857143)) dP) (aA yQ (aa (gv 2) (aa (gv 4) ao))) bJ [.da (cP ns),.da (.int k),.da (.int c),.da (.int z),.da (.int j)] 0) _=_
    rw[aK (d:=.int (z * 142857143 + y)) (aK (x:=.int z) (y:=.int 142857143) (β1:=0) (β2:=0) rfl rfl (CI ⟨by omega,by omega⟩)) (aL (ds:=[.int c,.int j]) (β1:=0) rfl hy) rfl]
    rfl)
  refine⟨z,?_⟩
  rw[aE (env':=[.fz (cP ns),.fz (.int k),.fz (.int c),.fz (.int z),x]) (β':=0) ?h2]
  case h2=>exact el
  show fin (toS (a9 (aa (gv 3) ao) [.da (cP ns),.da (.int k),.da (.int c),.da (.int z),x.val] 0) _)=_
  rw[fU (ds:=[.int z]) (β1:=0) rfl (by simp)]
  rfl
noncomputable def mI:List D->Int->FB:=qV 4 1 (cJ c9)
theorem lay_ints:∀ns:List Int,PyData.canLayAll0 (ns.map int)=true
 | []=>rfl
 |n :: ns=>by
  show ((int n).canLay0 && PyData.canLayAll0 (ns.map int))=true
  rw[lay_ints ns];rfl
theorem lR:∀ns:List Int,PyData.depthAll (ns.map int)=0
 | []=>rfl
 |n :: ns=>by
  show max (int n).depth (PyData.depthAll (ns.map int))=0
  rw[lR ns];rfl
def shaped_ints (ns:List Int):SeqAt.shaped (.list (ns.map int))=true:=by
 unfold SeqAt.shaped
 have h1:(PyData.list (ns.map int)).canLay0=true:=by simp only[PyData.canLay0];exact lay_ints ns
 have h2:(PyData.list (ns.map int)).depth<=64:=by simp only[PyData.depth];rw[lR];omega
 rw[h1,HK h2];rfl
theorem my:∀l m:List Int,PyData.eqvAll (l.map int) (m.map int)=decide (l=m)
 | [],[]=>rfl
 | [],_ :: _=>rfl
 |_ :: _,[]=>rfl
 |p :: l,q :: m=>by
  show ((p == q) && PyData.eqvAll (l.map int) (m.map int))=_
  rw[my l m,JK]
  simp
def gJ (neg:Bool)(l m:List Int):de neg (.list (l.map int)) (.list (m.map int))=some (.bool (if neg then !decide (l=m) else decide (l=m))):=by
 unfold de
 rw[shaped_ints,shaped_ints]
 simp only[Kc,IM,PyData.eqv,my]
theorem fE {α:Type}:∀{l:List α} {k:Nat} {x:α},l[k]? =some x->(x :: l.eraseIdx k).Perm l
 | [],_,_,h=>by simp at h
 |y :: l,0,x,h=>by simp at h;subst h;exact List.Perm.refl _
 |y :: l,k + 1,x,h=>by
  have h:l[k]? =some x:=by simpa using h
  have ih:=fE h
  show (x :: y :: l.eraseIdx k).Perm (y :: l)
  exact (List.Perm.swap y x _).trans (ih.cons y)
theorem oM {α β:Type}(f:α->β):∀(l:List α) (k:Nat),(l.map f).eraseIdx k=(l.eraseIdx k).map f
 | [],_=>rfl
 |_ :: _,0=>rfl
 |x :: l,k + 1=>by simp[oM f l k]
def BH (ns:List Int)(hz:ns.length<=100)(β:Int):∃(ms:List Int) (β':Int),mI [.list (ns.map int)] β=.ok (.list (ms.map int)) true β'/\ms.Perm ns:=by
 show ∃(ms:List Int) (β':Int),AY (cJ c9 [.bx,.fz (.list (ns.map int)),.no,.no] β)=.ok (.list (ms.map int)) true β'/\ms.Perm ns
 unfold cJ
 rw[aE (env':=[.bx,.fz (.list (ns.map int)),.ow (.list (ns.map int)),.no]) (β':=β) (by rfl)]
 have ez:a9 ao [Nv.bx,.da (.list (ns.map int)),.da (.list (ns.map int)),.no] β=.ok (.list []) β:=fU rfl (by simp)
 rw[aE (env':=[.bx,.fz (.list (ns.map int)),.ow (.list (ns.map int)),.ow (.list [])]) (β':=β) ?h]
 case h=>
  show toS (a9 ao [Nv.bx,.da (.list (ns.map int)),.da (.list (ns.map int)),.no] β) _=_
  rw[ez];rfl
 obtain⟨env',β',ew,ms,rfl,hp⟩:=gQ (L:=[] ++ []) (t:=gf (f2 (gv 2) (a9 ao) (de true))) (m:=g9 3 2 ([] ++ []) (mL 0 c9 (aa (f1 (gv 2) dc) ao)))
  (λk env β=>∃ls ms:List Int,env= [.bx,.fz (.list (ns.map int)),.ow (.list (ls.map int)),.ow (.list (ms.map int))]/\(ms ++ ls).Perm ns/\k=ls.length)
  (λenv β=>∃ms:List Int,env= [.bx,.fz (.list (ns.map int)),.ow (.list []),.ow (.list (ms.map int))]/\ms.Perm ns) (n:=1000) (k:=ns.length) (env:=[.bx,.fz (.list (ns.map int)),.ow (.list (ns.map int)),.ow (.list [])]) (β:=β) (by omega) ⟨ns,[],rfl,by simp,rfl⟩ (by
   rintro k env β ⟨ls,ms,rfl,hp,rfl⟩
   have e1:a9 ao [Nv.bx,.da (.list (ns.map int)),.da (.list (ls.map int)),.da (.list (ms.map int))] β=.ok (.list (([]:List Int).map int)) β:=fU rfl (by simp)
   have et:gf (f2 (gv 2) (a9 ao) (de true)) [Nv.bx,.da (.list (ns.map int)),.da (.list (ls.map int)),.da (.list (ms.map int))] β=.ok (!decide (ls= [])) β:=
    iV _ _ _ _ (aK (x:=.list (ls.map int)) rfl e1 (by rw[gJ];rfl))
   refine⟨_,_,et,?_⟩
   have hlen:=hp.length_eq
   rw[Ik] at hlen
   cases ls with
   |nil=>exact .inl ⟨rfl,ms,rfl,by simpa using hp⟩
   |cons y ys=>
    refine .inr ⟨rfl,?_⟩
    have hm:(0:Int) < ((y :: ys).length:Nat)/\(((y :: ys).length:Nat):Int) < 1073741824:=by
     have:(y :: ys).length<=100:=by omega
     constructor
     ·simp
     ·omega
    obtain⟨j,hj⟩:∃j:Nat,β % (((y :: ys).length:Nat):Int)=j:=⟨(β % (((y :: ys).length:Nat):Int)).toNat,by have:=Int.emod_nonneg β (b:=(((y :: ys).length:Nat):Int)) (by omega);omega⟩
    have hj2:j < (y :: ys).length:=by have:=Int.emod_lt_of_pos β hm.1;omega
    have ef:mL 0 c9 (aa (f1 (gv 2) dc) ao) [Nv.bx,.da (.list (ns.map int)),.da (.list ((y :: ys).map int)),.da (.list (ms.map int))] β=.ok (.int (j:Int)) (β / (((y :: ys).length:Nat):Int)):=by
     refine mN (ds:=[.int (((y :: ys).length:Nat):Int)]) (b:=false) (by rfl) ?_ (by rw[pS hm.1 hm.2,hj])
     show R.ok [int ((((y :: ys).map int).length:Nat):Int)] β=_
     rw[HF]
    have hpop:vP ((y :: ys).map int) (.int (j:Int))=some (.int (y :: ys)[j],((y :: ys).eraseIdx j).map int):=by
     unfold vP
     dsimp only
     rw[HA ⟨by omega,by omega⟩]
     have es:seqIndex? (j:Int) ((y :: ys).map int).length=some j:=by
      rw[HF]
      exact PySem.StrLaws.seqIndex_nonneg (by omega) (by omega)
     rw[es]
     dsimp only
     rw[HL,Hu hj2,oM];rfl
    refine⟨[.bx,.fz (.list (ns.map int)),.ow (.list (((y :: ys).eraseIdx j).map int)),.ow (.list ((ms ++ [(y :: ys)[j]]).map int))],β / (((y :: ys).length:Nat):Int),((y :: ys).eraseIdx j).length,?_,?_,(y :: ys).eraseIdx j,ms ++ [(y :: ys)[j]],rfl,?_,rfl⟩
    ·show g9 3 2 ([] ++ []) (mL 0 c9 (aa (f1 (gv 2) dc) ao)) [.bx,.fz (.list (ns.map int)),.ow (.list ((y :: ys).map int)),.ow (.list (ms.map int))] β=_
     rw[sO (ds:=ms.map int) (es:=(y :: ys).map int) (by rfl) (by rfl) (by decide) ef (by rfl) hpop (by rw[HF];omega),Ic]
     rfl
    ·rw[List.length_eraseIdx]
     rw[HA hj2]
     show (y :: ys).length - 1 < (y :: ys).length
     simp
    ·rw[I0]
     exact (J5 ms (fE (Hu hj2))).trans hp)
 refine⟨ms,β',?_,hp⟩
 rw[aE ew]
 rfl
def EN {n:Nat}{l:List Pr}(h8:n<=8)(w:OM.Wn n l):OM.bK 8 (OM.Mem l)=OM.bK n (OM.Mem l):=by
 refine OM.gP (OM.cG _ _) (OM.cG _ _) λx=>?_
 rw[OM.aS,OM.aS]
 constructor
 ·rintro⟨_,h⟩;exact⟨w x h,h⟩
 ·rintro⟨h1,h⟩;exact⟨⟨⟨h1.1.1,by omega⟩,h1.2.1,by omega⟩,h⟩
def Bd {n:Nat}{l:List Pr}(h1:1<=n)(h8:n<=8)(w:OM.Wn n l)(nd:l.Nodup)(irr:∀a,(a,a)∉l):l.length < 64:=by
 have:=OM.m9 (l:=(0,0) :: l) (m:=OM.fF n) (Il.mpr ⟨irr 0,nd⟩) (λx hx=>by
  rcases Hx.mp hx with e |e
  ·subst e;exact OM.fx.mpr ⟨⟨by simp,by simp;omega⟩,by simp,by simp;omega⟩
  ·exact OM.fx.mpr (w x e))
 have hg:(OM.fF n).length=n * n:=by unfold OM.fF;simp
 have hn:n * n<=64:=JP h8 h8
 rw[hg,HX] at this
 omega
def Cs {n:Nat}{l:List Pr}(h8:n<=8)(w:OM.Wn n l):l.all DU=true:=by
 rw[IG]
 intro p hp
 have:=w p hp
 unfold DU
 rw[HK this.1.1,HK (by omega:p.1 < 8),HK this.2.1,HK (by omega:p.2 < 8)];rfl
def k9 {n:Nat}{l:List Pr}{d:D}(h8:n<=8)(w:OM.Wn n l)(hl:(OM.bK n (OM.Mem l)).length < 64)(hd:iF d=some (l.map aG)):bV d=some (.list ((OM.bK n (OM.Mem l)).map aG)):=by
 unfold bV
 rw[hd]
 simp only[fJ]
 rw[EN h8 w,HA ⟨Cs h8 w,hl⟩]
def sD (l:List Pr)(p:Pr):List Pr:=(l.filter λq=>decide (q.1=p.2)).map λq=>(p.1,q.2)
def uI (l:List Pr)(p:Pr):(sD l p).length<=l.length:=by unfold sD;rw[HF];exact Js ..
theorem qm (l m:List Pr):(m.flatMap (sD l)).length<=m.length * l.length:=by
 induction m with
 |nil=>simp
 |cons p m ih=>
  rw[List.flatMap_cons,Ik,HX,Nat.succ_mul]
  have:=uI l p
  omega
def jE {a b:List D}(h:a.length + b.length<=10000):cV (.list a) (.list b)=some (.list (a ++ b)):=HA (by rw[Iu];omega)
noncomputable def gz:List D->FR:=bh 6 1 dD
def vL {n:Nat}{ps:List Pr}(h1:1<=n)(h8:n<=8)(w:OM.Wn n ps)(irr:∀a,¬OM.Tr (OM.Mem ps) a a):gz [.list (ps.map aG)]=.ok (.tuple ((OM.bK n (OM.Tr (OM.Mem ps))).map aG)) false:=by
 have blen:∀{l:List Pr},OM.Cb n ps l->l.length < 64:=λ{l} B=>Bd h1 h8 B.wn (OM.gx B.ris) λa ha=>irr a (B.sup _ ha)
 show fin (dD [.fz (.list (ps.map aG)),.no,.no,.no,.no,.no] 0)=_
 unfold dD
 have B0:=OM.vY (ps:=ps) w
 have e0:f1 (gv 0) bV [.da (.list (ps.map aG)),.no,.no,.no,.no,.no] 0=.ok (.list ((OM.bK n (OM.Mem ps)).map aG)) 0:=df rfl (k9 h8 w (blen B0) rfl)
 rw[aE (env':=[.fz (.list (ps.map aG)),.fz (.list ((OM.bK n (OM.Mem ps)).map aG)),.no,.no,.no,.no]) (β':=0) ?h0]
 case h0=>
  show toS (f1 (gv 0) bV [.da (.list (ps.map aG)),.no,.no,.no,.no,.no] 0) _=_
  rw[e0];rfl
 rw[aE (env':=[.fz (.list (ps.map aG)),.fz (.list ((OM.bK n (OM.Mem ps)).map aG)),.fz (.int (-1)),.no,.no,.no]) (β':=0) (by rfl)]
 obtain⟨env',β',ew,rfl,x,sz,a,b,rfl⟩:=gQ (L:=[] ++ []) (t:=gf (f2 (gv 2) (f1 (gv 1) dc) (de true)))
  (m:=aH (bF 2 [] (f1 (gv 1) dc)) (aH (bF 3 [] (a9 ao)) (aH (cH (.two 4 5) [1] (bZ (gv 1)) (bF 3 ([] ++ ([] ++ [4])) (f2 (gv 3) (a7 2 [5,4] (.two 0 1) (bZ (gv 1)) (gf (f2 (gv 0) (gv 2) (de false))) (dZ (aa (gv 3) (aa (gv 1) ao)))) cV))) (bF 1 ([] ++ []) (f1 (f2 (gv 1) (gv 3) cV) bV)))))
  (λk env β=>β=0/\∃(l:List Pr) (sz:Int) (x a b:Sl),env= [.fz (.list (ps.map aG)),.fz (.list (l.map aG)),.fz (.int sz),x,a,b]/\OM.Cb n ps l/\(sz= -1\/∃lp,OM.Cb n ps lp/\l=OM.iE n lp/\sz=lp.length)/\k=2 * (64 - l.length) + (if sz=l.length then 0 else 1))
  (λenv β=>β=0/\∃(x sz a b:Sl),env= [.fz (.list (ps.map aG)),.fz (.list ((OM.bK n (OM.Tr (OM.Mem ps))).map aG)),sz,x,a,b])
  (n:=1000) (k:=2 * (64 - (OM.bK n (OM.Mem ps)).length) + (if (-1:Int)=(OM.bK n (OM.Mem ps)).length then 0 else 1)) (env:=[.fz (.list (ps.map aG)),.fz (.list ((OM.bK n (OM.Mem ps)).map aG)),.fz (.int (-1)),.no,.no,.no]) (β:=0)
  (by split <;> omega) ⟨rfl,_,_,_,_,_,rfl,B0,.inl rfl,rfl⟩ (by
   rintro k env β ⟨rfl,l,sz,x,a,b,rfl,B,hsz,rfl⟩
   have hl:=blen B
   have et:gf (f2 (gv 2) (f1 (gv 1) dc) (de true)) [.da (.list (ps.map aG)),.da (.list (l.map aG)),.da (.int sz),x.val,a.val,b.val] 0=.ok (!decide (sz=((l.map aG).length:Nat))) 0:=fQ (neg:=true) rfl rfl
   rw[HF] at et
   refine⟨_,_,et,?_⟩
   by_cases c:sz=(l.length:Nat)
   ·refine .inl ⟨by rw[HK c];rfl,rfl,x,.fz (.int sz),a,b,?_⟩
    rcases hsz with h | ⟨lp,Bp,rfl,h⟩
    ·omega
    ·show [Sl.fz (.list (ps.map aG)),.fz (.list ((OM.iE n lp).map aG)),.fz (.int sz),x,a,b]=_
     rw[OM.xF Bp (by omega)]
   ·refine .inr ⟨by rw[HV c];rfl,?_⟩
    obtain⟨B2,hs⟩:=OM.qt B
    have hl2:=blen B2
    have hge:l.length<=(OM.iE n l).length:=OM.m9 (OM.gx B.ris) hs
    have eturn:∃x' a' b':Sl,aH (bF 2 [] (f1 (gv 1) dc)) (aH (bF 3 [] (a9 ao)) (aH (cH (.two 4 5) [1] (bZ (gv 1)) (bF 3 ([] ++ ([] ++ [4])) (f2 (gv 3) (a7 2 [5,4] (.two 0 1) (bZ (gv 1)) (gf (f2 (gv 0) (gv 2) (de false))) (dZ (aa (gv 3) (aa (gv 1) ao)))) cV))) (bF 1 ([] ++ []) (f1 (f2 (gv 1) (gv 3) cV) bV)))) [.fz (.list (ps.map aG)),.fz (.list (l.map aG)),.fz (.int sz),x,a,b] 0
      =.nx [.fz (.list (ps.map aG)),.fz (.list ((OM.iE n l).map aG)),.fz (.int (l.length:Nat)),x',a',b'] 0:=by
     rw[aE (env':=[.fz (.list (ps.map aG)),.fz (.list (l.map aG)),.fz (.int (l.length:Nat)),x,a,b]) (β':=0) ?g1]
     case g1=>
      show SO.nx [.fz (.list (ps.map aG)),.fz (.list (l.map aG)),.fz (.int ((l.map aG).length:Nat)),x,a,b] 0=_
      rw[HF]
     have e3:a9 ao [.da (.list (ps.map aG)),.da (.list (l.map aG)),.da (.int (l.length:Nat)),x.val,a.val,b.val] 0=.ok (.list []) 0:=fU rfl (by simp)
     rw[aE (env':=[.fz (.list (ps.map aG)),.fz (.list (l.map aG)),.fz (.int (l.length:Nat)),.fz (.list []),a,b]) (β':=0) ?g2]
     case g2=>
      show toS (a9 ao [.da (.list (ps.map aG)),.da (.list (l.map aG)),.da (.int (l.length:Nat)),x.val,a.val,b.val] 0) _=_
      rw[e3];rfl
     obtain⟨env2,β2,ef,rfl,a2,b2,rfl⟩:=fD (t:=.two 4 5) (m:=bF 3 ([] ++ ([] ++ [4])) (f2 (gv 3) (a7 2 [5,4] (.two 0 1) (bZ (gv 1)) (gf (f2 (gv 0) (gv 2) (de false))) (dZ (aa (gv 3) (aa (gv 1) ao)))) cV)) (ds:=l.map aG) (k:=0)
      (λi env β=>β=0/\∃a b:Sl,env= [.fz (.list (ps.map aG)),.fz (.list (l.map aG)),.fz (.int (l.length:Nat)),.fz (.list (((l.take i).flatMap (sD l)).map aG)),a,b]) (env:=[.fz (.list (ps.map aG)),.fz (.list (l.map aG)),.fz (.int (l.length:Nat)),.fz (.list []),a,b]) (β:=0) ⟨rfl,a,b,rfl⟩ (by
       rintro i d env β hi ⟨rfl,a,b,rfl⟩
       rw[HL] at hi
       cases q:l[i]? with
       |none=>rw[q] at hi;cases hi
       |some p=>
        rw[q] at hi
        cases hi
        have hil:i < l.length:=(HB.mp q).1
        refine⟨[.fz (.list (ps.map aG)),.fz (.list (l.map aG)),.fz (.int (l.length:Nat)),.fz (.list (((l.take (0 + i)).flatMap (sD l)).map aG)),.fz (.int p.1),.fz (.int p.2)],rfl,[.fz (.list (ps.map aG)),.fz (.list (l.map aG)),.fz (.int (l.length:Nat)),.fz (.list (((l.take (0 + i + 1)).flatMap (sD l)).map aG)),.fz (.int p.1),.fz (.int p.2)],0,?_,rfl,_,_,rfl⟩
        have ec:a7 2 [5,4] (.two 0 1) (bZ (gv 1)) (gf (f2 (gv 0) (gv 2) (de false))) (dZ (aa (gv 3) (aa (gv 1) ao))) [.da (.list (ps.map aG)),.da (.list (l.map aG)),.da (.int (l.length:Nat)),.da (.list (((l.take (0 + i)).flatMap (sD l)).map aG)),.da (.int p.1),.da (.int p.2)] 0=.ok (.list ((sD l p).map aG)) 0:=by
         rw[jw (l:=l) (e:=aG) (λq=>decide (q.1=p.2)) (λq=>aG (p.1,q.2)) rfl (by omega) (β1:=0)]
         ·unfold sD;rw[Ja];rfl
         ·intro q hq
          refine⟨_,rfl,fQ (neg:=false) (i:=q.1) (j:=p.2) rfl rfl,λ_=>?_⟩
          exact lK (ds:=[.int p.1,.int q.2]) rfl (by simp)
        have hk:(l.take (0 + i)).length<=63:=by rw[IE];omega
        have hfl:=qm l (l.take (0 + i))
        have hfl2:(l.take (0 + i)).length * l.length<=63 * 63:=JP hk (by omega)
        have hm1:=uI l p
        have e5:f2 (gv 3) (a7 2 [5,4] (.two 0 1) (bZ (gv 1)) (gf (f2 (gv 0) (gv 2) (de false))) (dZ (aa (gv 3) (aa (gv 1) ao)))) cV [.da (.list (ps.map aG)),.da (.list (l.map aG)),.da (.int (l.length:Nat)),.da (.list (((l.take (0 + i)).flatMap (sD l)).map aG)),.da (.int p.1),.da (.int p.2)] 0=.ok (.list (((l.take (0 + i + 1)).flatMap (sD l)).map aG)) 0:=by
         refine aK rfl ec ?_
         rw[jE (by rw[HF,HF];omega),<-Ic]
         have:l.take (0 + i + 1)=l.take (0 + i) ++ [p]:=by rw[Jk,JN,q];rfl
         rw[this,List.flatMap_append,List.flatMap_cons,List.flatMap_nil,Ju]
        show toS (f2 (gv 3) (a7 2 [5,4] (.two 0 1) (bZ (gv 1)) (gf (f2 (gv 0) (gv 2) (de false))) (dZ (aa (gv 3) (aa (gv 1) ao)))) cV [.da (.list (ps.map aG)),.da (.list (l.map aG)),.da (.int (l.length:Nat)),.da (.list (((l.take (0 + i)).flatMap (sD l)).map aG)),.da (.int p.1),.da (.int p.2)] 0) _=_
        rw[e5];rfl)
     rw[Jk,HF,Jl (Hy _)] at ef
     rw[aE (env':=[.fz (.list (ps.map aG)),.fz (.list (l.map aG)),.fz (.int (l.length:Nat)),.fz (.list ((l.flatMap (sD l)).map aG)),a2,b2]) (β':=0) ?g3]
     case g3=>exact ef
     have hfl:=qm l l
     have hfl2:l.length * l.length<=63 * 63:=JP (by omega) (by omega)
     have e6:f1 (f2 (gv 1) (gv 3) cV) bV [.da (.list (ps.map aG)),.da (.list (l.map aG)),.da (.int (l.length:Nat)),.da (.list ((l.flatMap (sD l)).map aG)),a2.val,b2.val] 0=.ok (.list ((OM.iE n l).map aG)) 0:=by
      refine df (x:=.list ((l ++ OM.more l).map aG)) (aK rfl rfl ?_) (k9 h8 (OM.yX B) hl2 rfl)
      rw[jE (by rw[HF,HF];omega),<-Ic];rfl
     refine⟨.fz (.list ((l.flatMap (sD l)).map aG)),a2,b2,?_⟩
     show toS (f1 (f2 (gv 1) (gv 3) cV) bV [.da (.list (ps.map aG)),.da (.list (l.map aG)),.da (.int (l.length:Nat)),.da (.list ((l.flatMap (sD l)).map aG)),a2.val,b2.val] 0) _=_
     rw[e6];rfl
    obtain⟨x',a',b',et2⟩:=eturn
    refine⟨_,_,_,et2,?_,rfl,_,_,_,_,_,rfl,B2,.inr ⟨l,B,rfl,rfl⟩,rfl⟩
    rw[HI c]
    split <;> omega)
 rw[aE ew]
 rfl
def qr (ms:List Int)(ps:List Pr):Prop:=∀p,p∈ps->∃i j:Nat,i < j/\ms[i]? =some p.1/\ms[j]? =some p.2
theorem lX {α:Type}:∀{l:List α} {i j:Nat} {x:α},l.Nodup->l[i]? =some x->l[j]? =some x->i=j
 | [],_,_,_,_,h,_=>by simp at h
 |y :: l,0,0,_,_,_,_=>rfl
 |y :: l,0,j + 1,x,nd,h1,h2=>by
  simp at h1
  subst h1
  exact absurd (HN (by simpa using h2)) (Il.mp nd).1
 |y :: l,i + 1,0,x,nd,h1,h2=>by
  simp at h2
  subst h2
  exact absurd (HN (by simpa using h1)) (Il.mp nd).1
 |y :: l,i + 1,j + 1,x,nd,h1,h2=>by
  rw[lX (l:=l) (i:=i) (j:=j) (Il.mp nd).2 (by simpa using h1) (by simpa using h2)]
def zu {ms:List Int}{ps:List Pr}(nd:ms.Nodup)(h:qr ms ps){a b:Int}(t:OM.Tr (OM.Mem ps) a b):∃i j:Nat,i < j/\ms[i]? =some a/\ms[j]? =some b:=by
 refine t.least (S:=λa b=>∃i j:Nat,i < j/\ms[i]? =some a/\ms[j]? =some b) (λa b r=>h _ r) ?_
 rintro a b c ⟨i,j,hij,h1,h2⟩ ⟨k,l,hkl,h3,h4⟩
 have:=lX nd h2 h3
 exact⟨i,l,by omega,h1,h4⟩
def wO {ms:List Int}{ps:List Pr}(nd:ms.Nodup)(h:qr ms ps)(a:Int):¬OM.Tr (OM.Mem ps) a a:=λt=>by
 obtain⟨i,j,hij,h1,h2⟩:=zu nd h t
 have:=lX nd h1 h2
 omega
def eZ (n:Nat):List Int:=(List.range n).map λ(k:Nat)=>(k:Int)
def fT (n:Nat):(eZ n).length=n:=by unfold eZ;simp
def bR {n:Nat}{x:Int}:x∈eZ n↔0<=x/\x < n:=by
 unfold eZ
 rw[HH]
 constructor
 ·rintro⟨k,hk,rfl⟩
  have:=HR.mp hk
  omega
 ·intro h
  exact⟨x.toNat,HR.mpr (by omega),by omega⟩
def ja (n:Nat):(eZ n).Nodup:=by
 unfold eZ
 rw[Jm,IA]
 exact (Jm.mp JF).imp λ{a b} h e=>h (by omega)
def vZ (n:Nat):bN 0 n=(eZ n).map int:=by
 unfold bN eZ
 rw[Ja]
 refine Jj λk _=>?_
 show int (0 + (k:Int))=_
 rw[J8];rfl
theorem j6 {lo:Int}{n i:Nat}{d:D}(h:(bN lo n)[i]? =some d):i < n/\d=.int (lo + i):=by
 unfold bN at h
 rw[HL] at h
 cases q:(List.range n)[i]? with
 |none=>rw[q] at h;cases h
 |some j=>
  rw[q] at h
  cases h
  obtain⟨hi,ej⟩:=HB.mp q
  rw[Jg] at hi
  rw[List.getElem_range] at ej
  subst ej
  exact⟨hi,rfl⟩
def k8 {n:Nat}(h:n<=1000):c5 (.int n)=some (.list ((eZ n).map int)):=by
 unfold c5
 dsimp only
 rw[HA ⟨by omega,by omega⟩,IJ,vZ]
def jN {fa:VF D}{vs:List Nv}{β β1:Int}{n:Nat}(h:fa vs β=.ok (.int n) β1)(hn:n<=1000):iA fa vs β=.ok (bN 0 n) β1:=by
 unfold iA
 rw[h]
 simp only[jn]
 rw[HA (kG (by omega) (by omega)),IJ]
def si {fa fb:VF D}{vs:List Nv}{β β1 β2:Int}{i j:Int}(h:fa vs β=.ok (.int i) β1)(h':fb vs β1=.ok (.int j) β2)(hi:0<=i/\i<=1000)(hj:0<=j/\j<=1000):lh fa fb vs β=.ok (bN i (j - i).toNat) β2:=by
 unfold lh
 rw[h]
 simp only[jn]
 rw[h']
 simp only[jn]
 rw[HA (by rw[kG (by omega) (by omega),kG (by omega) (by omega)];rfl)]
def fG {t:Tg}{L:List Nat}{fi:VF (List D)}{m:SF}{env:En}{β β1:Int}{ds:List D}(h:fi (vl env) β=.ok ds β1):cH t L fi m env β=gV t m ds (aU L env) β1:=by unfold cH;rw[h];rfl
noncomputable def oS:List D->Int->FB:=qV 8 1 (eY gz c9 mI)
def w8 {n:Nat}{ms:List Int}{ps:List Pr}(h1:1<=n)(h8:n<=8)(hp:ms.Perm (eZ n))(ha:qr ms ps):OM.Wn n ps/\(∀a,¬OM.Tr (OM.Mem ps) a a)/\OM.Ord n (OM.bK n (OM.Tr (OM.Mem ps))):=by
 have nd:ms.Nodup:=hp.nodup_iff.mpr (ja n)
 have w:OM.Wn n ps:=λp hm=>by
  obtain⟨i,j,_,e1,e2⟩:=ha p hm
  have m1:=bR.mp (hp.mem_iff.mp (HN e1))
  have m2:=bR.mp (hp.mem_iff.mp (HN e2))
  exact⟨m1,m2⟩
 have ir:=λa=>wO nd ha a
 exact⟨w,ir,OM.Cy h1 h8 w ir⟩
def lV {m:Nat}(h:1<=m)(h2:m<=1000)(β:Int):∃j:Nat,j < m/\c9 [.int m] β=.ok (.int (j:Int)) false (β / m):=by
 refine⟨(β % m).toNat,?_,?_⟩
 ·have h0:=Int.emod_nonneg β (b:=(m:Int)) (by omega)
  have h3:=Int.emod_lt_of_pos β (b:=(m:Int)) (by omega)
  omega
 ·rw[pS (by omega) (by omega)]
  have h0:=Int.emod_nonneg β (b:=(m:Int)) (by omega)
  rw[show ((β % m).toNat:Int)=β % m by omega]
def y9 {most:Nat}(hm1:1<=most)(hm8:most<=8)(β:Int):∃(n:Nat) (l:List Pr) (β':Int),oS [.int most] β=.ok (aB n l) false β'/\OM.Ord n l/\n<=most:=by
 obtain⟨j,hj,ej⟩:=lV hm1 (by omega) β
 show ∃(n:Nat) (l:List Pr) (β':Int),AY (eY gz c9 mI [.bx,.fz (.int most),.no,.no,.no,.no,.no,.no] β)=.ok (aB n l) false β'/\OM.Ord n l/\n<=most
 unfold eY
 generalize hβ1:β / (most:Int)=β1 at ej
 have n8:1 + j<=8:=by omega
 have e1:f2 (cst (.int 1)) (mL 0 c9 (aa (gv 1) ao)) bJ [Nv.bx,.da (.int most),.no,.no,.no,.no,.no,.no] β=.ok (.int ((1 + j:Nat):Int)) β1:=by
  refine aK (x:=.int 1) rfl (mN (by rfl) rfl ej) ?_
  show some (int (1 + (j:Int)))=_
  rw[show ((1 + j:Nat):Int)=1 + (j:Int) by omega]
 rw[aE (env':=[.bx,.fz (.int most),.fz (.int ((1 + j:Nat):Int)),.no,.no,.no,.no,.no]) (β':=β1) ?g1]
 case g1=>
  show toS (f2 (cst (.int 1)) (mL 0 c9 (aa (gv 1) ao)) bJ [Nv.bx,.da (.int most),.no,.no,.no,.no,.no,.no] β) _=_
  rw[e1];rfl
 generalize hn:1 + j=n at n8
 have n1:1<=n:=by omega
 obtain⟨ms,β2,em,hp⟩:=BH (eZ n) (by rw[fT];omega) β1
 have hml:ms.length=n:=by rw[hp.length_eq,fT]
 have e2:mL 0 mI (aa (f1 (gv 2) c5) ao) [Nv.bx,.da (.int most),.da (.int n),.no,.no,.no,.no,.no] β1=.ok (.list (ms.map int)) β2:=by
  refine mN (ds:=[.list ((eZ n).map int)]) (b:=true) (β1:=β1) (by rfl) ?_ em
  rw[cc,df (x:=.int n) (d:=.list ((eZ n).map int)) (β1:=β1) rfl (k8 (by omega))];rfl
 rw[aE (env':=[.bx,.fz (.int most),.fz (.int n),.fz (.list (ms.map int)),.no,.no,.no,.no]) (β':=β2) ?g2]
 case g2=>
  show toS (mL 0 mI (aa (f1 (gv 2) c5) ao) [Nv.bx,.da (.int most),.da (.int n),.no,.no,.no,.no,.no] β1) _=_
  rw[e2];rfl
 obtain⟨q,hq,eq⟩:=lV (m:=4) (by omega) (by omega) β2
 obtain⟨th,hth,hthv⟩:∃th:Nat,([2,3,4,7]:List Nat)[q]? =some th/\1<=th/\th<=7:=by
  rcases (show q=0\/q=1\/q=2\/q=3 by omega) with rfl |rfl |rfl |rfl
  ·exact⟨2,rfl,by omega,by omega⟩
  ·exact⟨3,rfl,by omega,by omega⟩
  ·exact⟨4,rfl,by omega,by omega⟩
  ·exact⟨7,rfl,by omega,by omega⟩
 generalize hβ3:β2 / ((4:Nat):Int)=β3 at eq
 have e3:f2 (a9 (aa (cst (.int 2)) (aa (cst (.int 3)) (aa (cst (.int 4)) (aa (cst (.int 7)) ao))))) (mL 0 c9 (aa (cst (.int 4)) ao)) dz [Nv.bx,.da (.int most),.da (.int n),.da (.list (ms.map int)),.no,.no,.no,.no] β2=.ok (.int th) β3:=by
  refine aK (x:=.list (([2,3,4,7]:List Nat).map λ(k:Nat)=>int (k:Int))) (y:=.int q) (fU rfl (by simp)) (mN (ds:=[.int 4]) (by rfl) rfl eq) ?_
  show i4 (([2,3,4,7]:List Nat).map λ(k:Nat)=>int (k:Int)) (q:Int)=_
  rw[i0,lF hth];rfl
 rw[aE (env':=[.bx,.fz (.int most),.fz (.int n),.fz (.list (ms.map int)),.fz (.int th),.no,.no,.no]) (β':=β3) ?g3]
 case g3=>
  show toS (f2 (a9 (aa (cst (.int 2)) (aa (cst (.int 3)) (aa (cst (.int 4)) (aa (cst (.int 7)) ao))))) (mL 0 c9 (aa (cst (.int 4)) ao)) dz [Nv.bx,.da (.int most),.da (.int n),.da (.list (ms.map int)),.no,.no,.no,.no] β2) _=_
  rw[e3];rfl
 have e4:a9 ao [Nv.bx,.da (.int most),.da (.int n),.da (.list (ms.map int)),.da (.int th),.no,.no,.no] β3=.ok (.list []) β3:=fU rfl (by simp)
 rw[aE (env':=[.bx,.fz (.int most),.fz (.int n),.fz (.list (ms.map int)),.fz (.int th),.ow (.list []),.no,.no]) (β':=β3) ?g4]
 case g4=>
  show toS (a9 ao [Nv.bx,.da (.int most),.da (.int n),.da (.list (ms.map int)),.da (.int th),.no,.no,.no] β3) _=_
  rw[e4];rfl
 obtain⟨env',β',ef,ps,a,b,rfl,hal,hpl⟩:=fD (t:=.nm 6) (m:=cH (.nm 7) (([] ++ []) ++ []) (lh (f2 (gv 6) (cst (.int 1)) bJ) (gv 2))
   (jc (([4] ++ []) ++ []) (gf (f2 (mL 0 c9 (aa (gv 4) ao)) (cst (.int 0)) (de false)))
   (ll 5 (([] ++ []) ++ (([] ++ []) ++ [])) (dZ (aa (f2 (gv 3) (gv 6) dz) (aa (f2 (gv 3) (gv 7) dz) ao)))) kL)) (ds:=bN 0 n) (k:=0)
  (λi env β=>∃(ps:List Pr) (a b:Sl),env= [.bx,.fz (.int most),.fz (.int n),.fz (.list (ms.map int)),.fz (.int th),.ow (.list (ps.map aG)),a,b]/\qr ms ps/\ps.length<=8 * i)
  (env:=[.bx,.fz (.int most),.fz (.int n),.fz (.list (ms.map int)),.fz (.int th),.ow (.list []),.no,.no]) (β:=β3) ⟨[],.no,.no,rfl,λp hp=>(by cases hp),by simp⟩ (by
   rintro i d env β hi ⟨ps,a,b,rfl,hal,hpl⟩
   obtain⟨hin,rfl⟩:=j6 hi
   refine⟨[.bx,.fz (.int most),.fz (.int n),.fz (.list (ms.map int)),.fz (.int th),.ow (.list (ps.map aG)),.fz (.int (0 + (i:Int))),b],rfl,?_⟩
   have er:lh (f2 (gv 6) (cst (.int 1)) bJ) (gv 2) [Nv.bx,.da (.int most),.da (.int n),.da (.list (ms.map int)),.da (.int th),.da (.list (ps.map aG)),.da (.int (0 + (i:Int))),b.val] β=.ok (bN (0 + (i:Int) + 1) ((n:Int) - (0 + (i:Int) + 1)).toNat) β:=si rfl rfl ⟨by omega,by omega⟩ ⟨by omega,by omega⟩
   rw[fG (env:=[.bx,.fz (.int most),.fz (.int n),.fz (.list (ms.map int)),.fz (.int th),.ow (.list (ps.map aG)),.fz (.int (0 + (i:Int))),b]) er]
   obtain⟨env',β',ef,qs,b,rfl,hal2,hql⟩:=fD (t:=.nm 7) (m:=jc (([4] ++ []) ++ []) (gf (f2 (mL 0 c9 (aa (gv 4) ao)) (cst (.int 0)) (de false)))
     (ll 5 (([] ++ []) ++ (([] ++ []) ++ [])) (dZ (aa (f2 (gv 3) (gv 6) dz) (aa (f2 (gv 3) (gv 7) dz) ao)))) kL) (ds:=bN (0 + (i:Int) + 1) ((n:Int) - (0 + (i:Int) + 1)).toNat) (k:=0)
    (λk env β=>∃(qs:List Pr) (b:Sl),env= [.bx,.fz (.int most),.fz (.int n),.fz (.list (ms.map int)),.fz (.int th),.ow (.list (qs.map aG)),.fz (.int (0 + (i:Int))),b]/\qr ms qs/\qs.length<=8 * i + k)
    (env:=[.bx,.fz (.int most),.fz (.int n),.fz (.list (ms.map int)),.fz (.int th),.ow (.list (ps.map aG)),.fz (.int (0 + (i:Int))),b]) (β:=β) ⟨ps,b,rfl,hal,by omega⟩ (by
     rintro k d env β hk ⟨qs,b,rfl,hal,hql⟩
     obtain⟨hkn,rfl⟩:=j6 hk
     have hkn:i + 1 + k < n:=by omega
     refine⟨[.bx,.fz (.int most),.fz (.int n),.fz (.list (ms.map int)),.fz (.int th),.ow (.list (qs.map aG)),.fz (.int (0 + (i:Int))),.fz (.int (0 + (i:Int) + 1 + (k:Int)))],rfl,?_⟩
     obtain⟨z,hz,ez⟩:=lV hthv.1 (by omega) β
     have et:gf (f2 (mL 0 c9 (aa (gv 4) ao)) (cst (.int 0)) (de false)) [Nv.bx,.da (.int most),.da (.int n),.da (.list (ms.map int)),.da (.int th),.da (.list (qs.map aG)),.da (.int (0 + (i:Int))),.da (.int (0 + (i:Int) + 1 + (k:Int)))] β=.ok (decide ((z:Int)=0)) (β / th):=fQ (neg:=false) (mN (ds:=[.int th]) (by rfl) rfl ez) rfl
     by_cases c:(z:Int)=0
     ·rw[HK c] at et
      have h1:i < ms.length:=by omega
      have h2:i + 1 + k < ms.length:=by omega
      refine⟨[.bx,.fz (.int most),.fz (.int n),.fz (.list (ms.map int)),.fz (.int th),.ow (.list ((qs ++ [(ms[i],ms[i + 1 + k])]).map aG)),.fz (.int (0 + (i:Int))),.fz (.int (0 + (i:Int) + 1 + (k:Int)))],β / th,?_,qs ++ [(ms[i],ms[i + 1 + k])],_,rfl,?_,?_⟩
      ·rw[oG et]
       have ep:dZ (aa (f2 (gv 3) (gv 6) dz) (aa (f2 (gv 3) (gv 7) dz) ao)) [Nv.bx,.da (.int most),.da (.int n),.da (.list (ms.map int)),.da (.int th),.da (.list (qs.map aG)),.da (.int (0 + (i:Int))),.da (.int (0 + (i:Int) + 1 + (k:Int)))] (β / th)=.ok (aG (ms[i],ms[i + 1 + k])) (β / th):=by
        refine lK (ds:=[.int ms[i],.int ms[i + 1 + k]]) ?_ (by simp)
        have a1:f2 (gv 3) (gv 6) dz [Nv.bx,.da (.int most),.da (.int n),.da (.list (ms.map int)),.da (.int th),.da (.list (qs.map aG)),.da (.int (0 + (i:Int))),.da (.int (0 + (i:Int) + 1 + (k:Int)))] (β / th)=.ok (.int ms[i]) (β / th):=by
         refine aK rfl rfl ?_
         show i4 (ms.map int) (0 + (i:Int))=_
         rw[J8,i0,oR h1];rfl
        have a2:f2 (gv 3) (gv 7) dz [Nv.bx,.da (.int most),.da (.int n),.da (.list (ms.map int)),.da (.int th),.da (.list (qs.map aG)),.da (.int (0 + (i:Int))),.da (.int (0 + (i:Int) + 1 + (k:Int)))] (β / th)=.ok (.int ms[i + 1 + k]) (β / th):=by
         refine aK rfl rfl ?_
         show i4 (ms.map int) (0 + (i:Int) + 1 + (k:Int))=_
         rw[show (0 + (i:Int) + 1 + (k:Int))=((i + 1 + k:Nat):Int) by omega,i0,oR h2];rfl
        rw[cc,a1]
        dsimp only[R.bnd]
        rw[cc,a2];rfl
       have:=pV (i:=5) (L:=([] ++ []) ++ (([] ++ []) ++ [])) (env:=[.bx,.fz (.int most),.fz (.int n),.fz (.list (ms.map int)),.fz (.int th),.ow (.list (qs.map aG)),.fz (.int (0 + (i:Int))),.fz (.int (0 + (i:Int) + 1 + (k:Int)))]) (ds:=qs.map aG) (by rfl) ep (by rfl) (by rw[HF];omega)
       rw[Ic]
       exact this
      ·intro p hp
       rcases HP.mp hp with hp |hp
       ·exact hal p hp
       ·have:p=(ms[i],ms[i + 1 + k]):=by simpa using hp
        subst this
        exact⟨i,i + 1 + k,by omega,Hu h1,Hu h2⟩
      ·rw[Ik];simp;omega
     ·rw[HV c] at et
      refine⟨_,_,by rw[kX et];rfl,qs,_,rfl,hal,by omega⟩)
   have hlen:(bN (0 + (i:Int) + 1) ((n:Int) - (0 + (i:Int) + 1)).toNat).length<=7:=by rw[kK];omega
   exact⟨_,_,ef,qs,_,b,rfl,hal2,by omega⟩)
 rw[aE (env':=[.bx,.fz (.int most),.fz (.int n),.fz (.list (ms.map int)),.fz (.int th),.ow (.list (ps.map aG)),a,b]) (β':=β') ?g5]
 case g5=>
  rw[fG (env:=[.bx,.fz (.int most),.fz (.int n),.fz (.list (ms.map int)),.fz (.int th),.ow (.list []),.no,.no]) (jN (n:=n) rfl (by omega))]
  exact ef
 obtain⟨w,ir,O⟩:=w8 n1 n8 hp hal
 refine⟨n,OM.bK n (OM.Tr (OM.Mem ps)),β',?_,O,by omega⟩
 have e9:dZ (aa (gv 2) (aa (aA gz (aa (gv 5) ao)) ao)) [Nv.bx,.da (.int most),.da (.int n),.da (.list (ms.map int)),.da (.int th),.da (.list (ps.map aG)),a.val,b.val] β'=.ok (aB n (OM.bK n (OM.Tr (OM.Mem ps)))) β':=by
  refine lK (ds:=[.int n,.tuple ((OM.bK n (OM.Tr (OM.Mem ps))).map aG)]) ?_ (by simp)
  have a1:aA gz (aa (gv 5) ao) [Nv.bx,.da (.int most),.da (.int n),.da (.list (ms.map int)),.da (.int th),.da (.list (ps.map aG)),a.val,b.val] β'=.ok (.tuple ((OM.bK n (OM.Tr (OM.Mem ps))).map aG)) β':=aL rfl (vL n1 n8 w ir)
  rw[cc]
  show (R.ok (int n) β').bnd _=_
  dsimp only[R.bnd]
  rw[cc,a1];rfl
 show AY (toS (dZ (aa (gv 2) (aa (aA gz (aa (gv 5) ao)) ao)) [Nv.bx,.da (.int most),.da (.int n),.da (.list (ms.map int)),.da (.int th),.da (.list (ps.map aG)),a.val,b.val] β') _)=_
 rw[e9];rfl
theorem uU (p:Pr):∀l:List Pr,((l.map aG).any λe=>PyData.eqv e (aG p))=decide (p∈l)
 | []=>rfl
 |q :: l=>by
  rw[ID,JA,uU p l,xG,JK]
  simp only[Bool.or_eq_true,IP,Hx]
  exact⟨λh=>h.imp Eq.symm id,λh=>h.imp Eq.symm id⟩
def Bu (l:List Pr):(l.map aG).all SeqAt.shaped=true:=by
 rw[IG]
 intro d hd
 obtain⟨p,_,rfl⟩:=HH.mp hd
 exact nU p
def vG (neg:Bool)(p:Pr)(l:List Pr):zX neg (aG p) (.tuple (l.map aG))=some (.bool (if neg then !decide (p∈l) else decide (p∈l))):=by
 unfold zX
 simp only[iF,nU,Bu,Kc,IM,uU]
def A6 (neg:Bool)(i j:Int):de neg (.int i) (.int j)=some (.bool (if neg then !decide (i=j) else decide (i=j))):=rfl
theorem ur {fa fb:VF D}{vs:List Nv}{β:Int}{a b:Bool}(h:fa vs β=.ok (.bool a) β)(h':fb vs β=.ok (.bool b) β):dW fa fb vs β=.ok (.bool (a && b)) β:=by
 unfold dW
 rw[h]
 dsimp only[R.bnd]
 cases a with
 |true=>exact h'
 |false=>rfl
def qW {fa fb:VF D}{vs:List Nv}{β:Int}{a b:Int}(h:fa vs β=.ok (.int a) β)(h':fb vs β=.ok (.int b) β):dZ (aa fa (aa fb ao)) vs β=.ok (aG (a,b)) β:=by
 refine lK (ds:=[.int a,.int b]) ?_ (by simp)
 rw[cc,h]
 dsimp only[R.bnd]
 rw[cc,h'];rfl
def og (l:List Pr)(p:Pr):Bool:= !decide (p.1=p.2) && (!decide ((p.1,p.2)∈l) && !decide ((p.2,p.1)∈l))
def GV {n:Nat}{l:List Pr}{fa:VF D}{vs:List Nv}{β:Int}(h:fa vs β=.ok (aB n l) β):f2 fa (cst (.int 1)) dz vs β=.ok (.tuple (l.map aG)) β:=aK h rfl rfl
def FA {n:Nat}{l:List Pr}{fa:VF D}{vs:List Nv}{β:Int}(h:fa vs β=.ok (aB n l) β):f2 fa (cst (.int 0)) dz vs β=.ok (.int n) β:=aK h rfl rfl
def BQ:List D->FR:=bh 3 3 kW
def r6:List D->FR:=bh 3 3 jY
def Dm (n:Nat)(l:List Pr)(a b:Int):BQ [aB n l,.int a,.int b]=.ok (.bool (og l (a,b))) false:=by
 show fin (toS (dW (f2 (gv 1) (gv 2) (de true)) (dW (f2 (dZ (aa (gv 1) (aa (gv 2) ao))) (f2 (gv 0) (cst (.int 1)) dz) (zX true)) (f2 (dZ (aa (gv 2) (aa (gv 1) ao))) (f2 (gv 0) (cst (.int 1)) dz) (zX true))) [.da (aB n l),.da (.int a),.da (.int b)] 0) _)=_
 rw[ur (aK (x:=.int a) (y:=.int b) rfl rfl (A6 true a b)) (ur (aK (qW (a:=a) (b:=b) rfl rfl) (GV (n:=n) (l:=l) rfl) (vG true (a,b) l)) (aK (qW (a:=b) (b:=a) rfl rfl) (GV (n:=n) (l:=l) rfl) (vG true (b,a) l)))]
 rfl
def B9 (n:Nat)(l:List Pr)(a b:Int):r6 [aB n l,.int a,.int b]=.ok (.bool (og l (a,b))) false:=Dm n l a b
def iW (n:Nat):(OM.fF n).length=n * n:=by unfold OM.fF;simp
def jf {fa:VF D}{vs:List Nv}{β:Int}{c:Bool}(h:fa vs β=.ok (.bool c) β):jt fa vs β=.ok c β:=by rw[tI,h];rfl
end RM
namespace L2
open PySem PySem.Spec PyProof.Rows
section
variable {X:Cx}{pins:List (Addr×Obj)}{σ:St}{H:Hp}{s:Shared}
def Inv.turnedL {t':Nat}{ch:List Addr}{h':Heap}(I:Inv X pins σ H s)(k:∀b o,b∉ch->s.heap.get? b=some o->h'.get? b=some o)(hf:∀b∈ch,lC X pins H b):Inv X pins σ H {s with heap:=h',toks:=t'}:=by
 have nit:∀b u,H b=some u->b∉ch:=λb u e z=>by rw[(hf b z).1] at e;cases e
 have nL:X.env.locals∉ch:=λz=>(hf _ z).2.1 rfl
 refine I.step (g':=s.gens) (d':=s.drawn) (ch:=ch) (λb hb=>?_) (λb o _ _ hc e _=>k b o hc e) (λb o _ _ hc e _=>⟨o.slots,k b o hc e⟩) (λ_ _ _ _ n=>n)
  (λb o hc e=>⟨o,k b o hc e⟩) (λ_ _ e=>e) (λ_ _ _ e=>e) (λb ps e=>⟨#[],by rw[e];simp⟩) (λm hm=>?_) (λb u e=>?_) I.bare
 ·obtain⟨f0,f1,f2,f3,f4,f5⟩:=hf b hb
  exact⟨f3,f1,f4,f5⟩
 ·obtain⟨o,es,ep,ho,r⟩:=hm
  exact⟨o,es,ep,k _ o nL ho,r⟩
 ·refine (I.hok b u e).stay (λc v hc q=>k c v ?_ q) (λ_ q=>q) λ_ _ q=>q
  rcases hc with z |z
  ·rw[z];exact nit b u e
  ·exact nit c _ z
end
def FT {n:Nat}(i j:Nat)(h:(i == j)=false):(n + i:Nat)≠n + j:=by
 have:i≠j:=by simpa using h
 omega
section
variable {κ:Type}[DecidableEq κ]
def z8 (kvs:List (κ×V))(k:κ):Option V:=(kvs.find? λkv=>decide (kv.1=k)).map (·.2)
def putK (kvs:List (κ×V))(k:κ)(v:V):List (κ×V):=
 if (kvs.any λkv=>decide (kv.1=k))=true then kvs.map (λkv=>if kv.1=k then (kv.1,v) else kv) else kvs ++ [(k,v)]
theorem zo.getD {o:Option V}{u:Option Value}{d:V}{d':Value}(r:zo o u)(rd:RelV d d'):RelV (o.getD d) (u.getD d'):=by
 cases o with
 |none=>cases u with
  |none=>exact rd
  |some _=>exact (show False from r).elim
 |some _=>cases u with
  |none=>exact (show False from r).elim
  |some _=>exact r
theorem KV.any {kvs:List (κ×V)}{vs:List (κ×Value)}(r:KV kvs vs)(k:κ):(kvs.any λkv=>decide (kv.1=k))=vs.any λkv=>decide (kv.1=k):=by
 unfold KV at r
 induction r with
 |nil=>rfl
 |cons h t ih=>rw[JA,JA,ih,h.1]
end
def AU (H:Hp)(a:Addr)(y:V)(r:Option V):Prop:=
 (∃kvs k,Rd H a (.dK kvs)/\y=kV k/\r=z8 kvs k)\/∃kvs k b,Rd H a (.dT kvs)/\y=.ref b/\Rd H b (.tup (k.map kV))/\r=z8 kvs k
def AJ (H:Hp)(a:Addr)(y v:V)(H':Hp):Prop:=
 (∃kvs k,H a=some (.dK kvs)/\y=kV k/\kvs.length < sizeLine/\H'=upd H a (.dK (putK kvs k v)))\/
 ∃kvs k b,H a=some (.dT kvs)/\y=.ref b/\Rd H b (.tup (k.map kV))/\kvs.length < sizeLine/\H'=upd H a (.dT (putK kvs k v))
def AU.k {H:Hp}{a:Addr}{kvs:List (Key×V)}{k:Key}(e:H a=some (.dK kvs)):AU H a (kV k) (z8 kvs k):=.inl ⟨kvs,k,.inl e,rfl,rfl⟩
def AU.t {H:Hp}{a b:Addr}{kvs:List (List Key×V)}{k:List Key}(e:H a=some (.dT kvs))(eb:Rd H b (.tup (k.map kV))):AU H a (.ref b) (z8 kvs k):=.inr ⟨kvs,k,b,.inl e,rfl,eb,rfl⟩
def AJ.k {H:Hp}{a:Addr}{kvs:List (Key×V)}{k:Key}{v:V}(e:H a=some (.dK kvs))(hl:kvs.length < sizeLine):AJ H a (kV k) v (upd H a (.dK (putK kvs k v))):=.inl ⟨kvs,k,e,rfl,hl,rfl⟩
def AJ.t {H:Hp}{a b:Addr}{kvs:List (List Key×V)}{k:List Key}{v:V}(e:H a=some (.dT kvs))(eb:Rd H b (.tup (k.map kV)))(hl:kvs.length < sizeLine) :
  AJ H a (.ref b) v (upd H a (.dT (putK kvs k v))):=.inr ⟨kvs,k,b,e,rfl,eb,hl,rfl⟩
section
variable {X:Cx}{pos:Pos}
end
mutual
def EZ:D->Bool
 | .list ds=>yj ds
 | .tuple ds=>yj ds
 | .dict kvs=> !kvs.isEmpty && kvs.all λkv=>match kv.1,kv.2 with
  | .str _,.int _=>true
  |_,_=>false
 |_=>true
def yj:List D->Bool
 | []=>true
 |d :: ds=>EZ d && yj ds
end
abbrev zZ (n:Nat):List Nat:=[n + 1,n]
def wQ:bootBuiltins "enumerate"=some (.type "enumerate"):=by decide +kernel
section
variable {X:Cx}{Γ:Fx}{E:XK}{e a b c:Expr}{f fa fb:VF D}{L La Lb:List Nat}{md ma mb:Md}{pos:Pos}
def jZ (ds:List D):List D:=ds.mapIdx λi d=>.tuple [.int i,d]
end
end L2
namespace L2
open PySem PyProof.Rows
section
variable {X:Cx}{K:Frag}{pins:List V}{σ:St}{H:Hp}{s:Shared}{E:XK}
def Gb (ns:List Int):Nat:=(firstMet (λi=>ns.getD i 0) ns.length).length
def Fh (d:D):Option D:=match iF d with
 |some ds=>(match eG ds with
  |some ns=>if ns.length<=1000 then some (.int (Gb ns)) else none
  |none=>none)
 |none=>none
theorem bw.intsB {G:Hp}:∀{ns:List Int} {xs:List V},bw K G xs (ns.map int)->xs=ns.map V.int
 | [],_,.nil=>rfl
 |n :: ns,_,.cons r t=>by cases r;rw[bw.intsB t];rfl
variable {Γ:Fx}{e a b c:Expr}{f fa fb fc:VF D}{L La Lb:List Nat}{md ma mb mc:Md}{pos:Pos}
def sortI (ns:List Int):List Int:=ns.mergeSort λa b=>decide (a<=b)
def sortI_perm (ns:List Int):(sortI ns).Perm ns:=List.mergeSort_perm ..
def qw (ns:List Int):(sortI ns).Pairwise (· <= ·):=by
 have:=List.pairwise_mergeSort (le:=λa b:Int=>decide (a<=b)) (λa b c h1 h2=>by simp only[IP] at *;omega) (λa b=>by simp only[Bool.or_eq_true,IP];omega) ns
 exact this.imp λh=>by simpa using h
def jA {ns ms:List Int}(h:ms.Perm ns)(h2:ms.Pairwise (· <= ·)):ms=sortI ns:=
 List.Perm.eq_of_pairwise (le:=(· <= ·)) (λa b _ _ h1 h2=>by omega) h2 (qw ns) (h.trans (sortI_perm ns).symm)
def yf (K:Frag):List V->Hp->VK->Prop:=λxs H Q=>∃a ns,xs= [.ref a]/\dJ K H a (ns.map V.int)/\ns.length < 64/\∀l,H l=none->Q (.ref l) (upd H l (.lst ((sortI ns).map V.int)))
theorem vH:∀{us:List Value} {ns:List Int},IntsAre us ns->Vals (ns.map V.int) us
 |_,_,.nil=>.nil
 |_,_,.cons n t hr=>.cons ⟨t,rfl⟩ (vH hr)
def m6:cf X (.builtin "sorted") (yf X.K):=by
 intro pins s σ H xs us Q I r h
 obtain⟨a,ns,rfl,hq,hl,q⟩:=h
 obtain⟨u,rfl,rx⟩:=vals1 r
 cases rx
 obtain⟨its,rv,pl,hz⟩:=I.list hq
 have hil:its.length=ns.length:=by rw[<-rv.length,HF]
 refine sorted_ints pl.isList (intsAre_of rv) (by omega) λout ns' a1 a2 a3=>?_
 obtain rfl:=jA a2 a3
 obtain⟨c,he⟩:=sortedAll_at s.heap its out
 have hf:H (s.heap.objs.size + 1)=none:=I.hok.fresh (Nat.le_succ _)
 have hz':((sortI ns).map V.int).length<=sizeLine:=by
  have:=a2.length_eq
  rw[HF,Iu];omega
 have I2:Inv X pins σ (upd H (s.heap.objs.size + 1) (.lst ((sortI ns).map V.int))) {s with heap:=sortedAll s.heap its out,toks:=s.toks}:=I.laid (t':=s.toks) (λ_ _=>sortedAll_old) (Nat.le_succ _) (show bL X.prog X.w _ _ _ (.lst ((sortI ns).map V.int)) from⟨hz',out.toList,c,vH a1,he⟩)
 exact⟨.ref _,_,I2,rfl,q _ hf⟩
def iR (d:D):Option D:=match d with
 | .list ds=>(match eG ds with
  |some ns=>if ns.length < 64 then some (.list ((sortI ns).map int)) else none
  |none=>none)
 |_=>none
theorem vt:wU K (λx=>yf K [x]) iR .w:=by
 intro B G H x dx d Q s hB bx e k
 cases dx with
 |list ds=>
  simp only[iR] at e
  cases q2:eG ds with
  |none=>rw[q2] at e;cases e
  |some ns=>
   rw[q2] at e
   dsimp only at e
   split at e
   ·rename_i hz
    cases e
    obtain⟨p,xs,rfl,hq,r⟩:=bx.list s
    rw[j8 q2] at r
    have r:=r.intsB
    subst r
    refine⟨p,ns,rfl,.inl hq,hz,λl hl=>?_⟩
    have hh:af H (upd H l (.lst ((sortI ns).map V.int))):=af.new hl
    refine k _ _ _ (Ext.tups s hh) ⟨l,rfl,hl,?_,_,aq,bw.ints _⟩
    unfold fB
    rw[s.free hl,aq]
    exact HI λy=>y
   ·cases e
 |_=>cases e
end
end L2
namespace L2
open PySem
mutual
def iB:D->Bool
 | .none=>true
 | .bool _=>true
 | .int _=>true
 | .str _=>true
 | .tuple ds=>jo ds
 | .list _=>false
 | .dict _=>false
def jo:List D->Bool
 | []=>true
 |d :: ds=>iB d && jo ds
end
section
variable {P:Program}{w:World}{K:Frag}{mg:Str->Option Value}{base:Heap}{ca:Str->Addr}{G G' H H':Hp}
mutual
theorem Rp.flat (s:af G H)(s':af G' H):∀{x:V} {d:D},Rp K G' x d->iB d=true->Rp K (fB G H) x d
 |_,_,.non,_=>.non
 |_,_,.bl b,_=>.bl b
 |_,_,.int i,_=>.int i
 |_,_,.str x,_=>.str x
 |_,_,.tup h hs,e=>.tup (ke s (h.grow s'.grow)) (bw.flat s s' hs (by simpa[iB] using e))
 |_,_,.lst h hs,e=>by simp[iB] at e
 |_,_,.scr h,e=>by simp[iB] at e
 |_,_,.dK h hs,e=>by simp[iB] at e
 |_,_,.dT h hs,e=>by simp[iB] at e
theorem bw.flat (s:af G H)(s':af G' H):∀{xs:List V} {ds:List D},bw K G' xs ds->jo ds=true->bw K (fB G H) xs ds
 |_,_,.nil,_=>.nil
 |_,_,.cons h hs,e=>by
  simp only[jo,Ig] at e
  exact .cons (Rp.flat s s' h e.1) (bw.flat s s' hs e.2)
end
def DN:Hp:=λ_=>none
def rT:af DN H:=λb o e=>by cases e
theorem Bi {b:Addr}{o:HO}(h:fB DN H b=some o):Fz o:=by
 unfold fB at h
 have e:DN b=none:=rfl
 rw[e] at h
 cases q:H b with
 |none=>rw[q] at h;cases h
 |some u=>
  rw[q] at h
  dsimp only at h
  split at h
  ·rename_i f;cases h;exact f
  ·cases h
end
section
variable {K:Frag}{h:Heap}{mg:Str->Option Value}
theorem xq {α:Type}{P:List α->Prop}(q:∀a,P [a]):∀us:List α,us.length=1->P us
 | [a],_=>q a
theorem ln2 {α:Type}{P:List α->Prop}(q:∀a b,P [a,b]):∀us:List α,us.length=2->P us
 | [a,b],_=>q a b
theorem Gg {α:Type}{P:List α->Prop}(q:∀a b c,P [a,b,c]):∀us:List α,us.length=3->P us
 | [a,b,c],_=>q a b c
theorem Ho {α:Type}{P:List α->Prop}(q:∀a b c d,P [a,b,c,d]):∀us:List α,us.length=4->P us
 | [a,b,c,d],_=>q a b c d
def ba (x:Str)(st:Stmt)(ps:List Str):Prop:=∀(kV doc pm:Value) (an:Option Addr) (cdv ct:Value) (us:List Value),us.length=ps.length->bindArgs (PySem.W.fnOf x x (gc st) (b6 st) (ar st) .none kV doc pm an cdv ct) ⟨us,[]⟩=pure (ps.zip us)
structure Fo (K:Frag)(mg:Str->Option Value)(x:Str)(st:Stmt)(ps:List Str):Prop where
 ex:∃f fd,je K mg x st ps f fd
def bO {x:Str}{st:Stmt}{ps:List Str}{f:Addr}{oc:Value}{od an:Option Addr}{sl:Array (Option Value)}{kV doc pm cdv ct:Value}(X:K.In h)(G:h.Ns mainGlobals mg)(b:ba x st ps)(a:PySem.W.nsIn K mainGlobals x=some (some (.ref f)))
  (l:K.lookup f=some ⟨oc,od,.func (PySem.W.fnOf x x (gc st) (b6 st) (ar st) .none kV doc pm an cdv ct),sl⟩) (c:PySem.W.codeIn K cdv x=true) (k:PySem.W.keepIn K (.ref f)=true):Fo K mg x st ps:=
 ⟨⟨f,_,PySem.W.mg_of X G a,tP l c k,(tP l c k).binds b⟩⟩
def FZ:List Str:=["len","range","enumerate","zip","min","max","sum","abs","sorted","reversed","int","str","bool","list","tuple","dict","set","isinstance","repr","any","all","divmod"]
def FU (K:Frag):Bool:=FZ.all λx=>match PySem.W.nsIn K mainGlobals x with
 |some none=>true
 |_=>false
def Cv (q:FU K=true){x:Str}(hx:x∈FZ):PySem.W.nsIn K mainGlobals x=some none:=by
 have:=IG.mp q x hx
 split at this
 ·assumption
 ·cases this
def Es (X:K.In h)(G:h.Ns mainGlobals mg)(q:FU K=true):jD mg:=by
 have key:∀{x:Str},x∈FZ->mg x=none:=λhx=>PySem.W.mg_none_of X G (Cv q hx)
 constructor <;> exact key (by decide)
end
section
variable {X:Cx}{P:Program}{w:World}{K:Frag}{mg:Str->Option Value}{base:Heap}{ca:Str->Addr}
def sP (step:(List D->FR)->List D->FR):Nat->List D->FR
 | 0=>λ_=>.bad
 |n + 1=>step (sP step n)
theorem vj {x:Str}{st:Stmt}{ps:List Str}{f:Addr}{fd:FuncData}{j:Nat}{step:(List D->FR)->List D->FR}(F:je K mg x st ps f fd)
  (h:∀(k:Nat) (F':List D->FR),j<=k->cY P w K mg base ca x ps k F'->cY P w K mg base ca x ps (k + 1) (step F')):∀n,cY P w K mg base ca x ps (j + n) (sP step n)
 | 0=>⟨⟨f,fd,F.mg,F.F.kp,F.b,zw⟩,λds hn=>(hn rfl).elim⟩
 |n + 1=>h (j + n) _ (Nat.le_add_right _ _) (vj F h n)
end
end L2
namespace L2
open PySem PySem.Spec PyProof.Rows
def BI {prog:Program}{w:World}{A:Around}{it t:Addr}{xs:Array Value}(hh:A.handled=none)(i:Nat)(hx:xs[i]? =none):Draws prog w A it [it,t] i (λ_ _=>False) (λj h=>j=i/\h.IsListIter it t i/\h.IsList t xs) where
 live:=λ_ _ st=>let ⟨o,ho,_⟩:=st.2.1;⟨o,ho⟩
 frame:=λ_ _ _ st hk=>⟨st.1,st.2.1.at λo e=>hk it (by simp) o e,st.2.2.at λo e=>hk t (by simp) o e⟩
 item:=λj s Q E hi st k=>absurd st.1 (by omega)
 done:=λs Q E st k=>wpAny_nextOf_list_end hh st.2.1 st.2.2 hx k
def C0 (K:Frag)(a:Addr):It:=
 ⟨λi H=>∃xs x,dJ K H a xs/\xs[i]? =some x,
  λi H v H'=>∃x t,H t=none/\(∀xs,dJ K H a xs->xs[i]? =some x)/\v=.ref t/\H'=upd H t (.tup [.int i,x]),
  λi H=>∃xs,dJ K H a xs/\xs.length<=i⟩
def w9 {h:Heap}{a n:Addr}{i:Nat}{its:Array Value}{b:Addr}(p:h.IsList a its)(q:h.IsListIter n b i):a≠n:=λz=>by
 subst z
 obtain⟨o,e,c,_⟩:=p
 obtain⟨o',e',c',_⟩:=q
 rw[e] at e';cases e'
 rw[c] at c'
 simp at c'
def wF {h:Heap}{a n it:Addr}{i:Int}{its:Array Value}{old:Value}(p:h.IsList a its)(q:IsEnum h n it i old):n≠a:=λz=>by
 subst z
 obtain⟨o,e,c,_⟩:=p
 rw[q] at e;cases e
 simp at c
def tL {P:Program}{w:World}{K:Frag}{elts:List Expr}{x1}{pos:Pos}(a:Addr)(n:Nat):Turn P w K (.Tuple elts x1 pos) (C0 K a) (zZ n) (n + 1)
  (λi h=>(∃old,IsEnum h (n + 1) n i old)/\h.IsListIter n a i) where
 mem:=by simp
 obj:=λi h st c hc=>by
  obtain⟨⟨old,z1⟩,⟨o2,z2,_,d2⟩⟩:=st
  simp only[zZ,Hx,Jn,or_false] at hc
  rcases hc with rfl |rfl
  ·exact⟨_,z1,λv z=>by
    have z':Data.fields _=Data.cell v:=z
    cases z'⟩
  ·exact⟨o2,z2,λv z=>by rw[d2] at z;cases z⟩
 keep:=λi h h' st k=>by
  obtain⟨⟨old,z1⟩,z2⟩:=st
  exact⟨⟨old,k _ (by simp) _ z1⟩,z2.at λo e=>k _ (by simp) o e⟩
 item:=by
  intro X hP hw hK hc i pins s σ H E I hf st hg
  subst hP hw hK
  obtain⟨xs,x,ha,hx⟩:=hg
  obtain⟨its,rv,p,hz⟩:=I.list ha
  have p:s.heap.IsList a its.toArray:=p.isList
  obtain⟨u0,hu0,ru0⟩:=rv.get hx
  obtain⟨⟨old,z1⟩,z2⟩:=st
  have hh:X.A.in1.handled=none:=I.ok.hd hc
  have hlt:i < its.toArray.size:=by
   have:=HB.mp hu0
   simpa using this.1
  refine wpAny_pyNext_enum_itemD (Draws.list hh n a (w9 p z2) its.toArray) z1 ⟨z2,p⟩ hlt (FT 1 0 rfl) (by
   simp only[Hx,Jn,or_false,not_or]
   exact⟨FT 1 0 rfl,wF p z1⟩) λu h' tk hu q1 q2 q3 q4 q5=>?_
  have eu:u0=u:=by
   have hu:its.toArray[i]? =some u:=hu
   rw[J4,hu0] at hu
   exact Option.some.inj hu
  subst eu
  refine⟨_,rfl,wpAny_letOwnedTupleGo_enum (s:={s with heap:=h',toks:=tk + 1}) q1 λh2 r1 r2=>?_⟩
  have r2:∀c,c≠n + 1->h2.get? c=h'.get? c:=r2.2
  have lz:n + 1 < s.heap.objs.size:=HJ z1
  have hT:H s.heap.objs.size=none:=I.hok.fresh (Hy _)
  have I1:Inv X pins σ (upd H s.heap.objs.size (.tup [.int i,x])) {s with heap:=s.heap.push {cls:=.type "tuple",data:=.seq #[.int i tk,u0]},toks:=s.toks}:=
   I.laid (λb o e=>Hw _ e) (Hy _) ⟨by show 2<=sizeLine;rw[Iu];omega,[.int i tk,u0],.cons ⟨tk,rfl⟩ (.cons ru0 .nil),rY.new _ _⟩
  have hf':∀c∈zZ n,lC X pins (upd H s.heap.objs.size (.tup [.int i,x])) c:=λc hc=>⟨by
   rw[ak (λz=>?_)]
   ·exact (hf c hc).1
   ·subst z
    simp only[zZ,Hx,Jn,or_false] at hc
    omega,(hf c hc).2⟩
  have I2:Inv X pins σ (upd H s.heap.objs.size (.tup [.int i,x])) {s with heap:=h2,toks:=tk + 1}:=by
   refine I1.turnedL (ch:=zZ n) (λc o hc e=>?_) hf'
   have e:(s.heap.push {cls:=.type "tuple",data:=.seq #[.int i tk,u0]}).get? c=some o:=e
   simp only[zZ,Hx,Jn,or_false,not_or] at hc
   rw[r2 c hc.1]
   by_cases z:c=s.heap.objs.size
   ·subst z
    rw[HU _ rfl] at e
    rw[<-e];exact q3
   ·refine q5 c o hc.1 hc.2 ?_
    rw[Heap.get?_push_ne _ _ _ z] at e
    exact e
  refine⟨.ref s.heap.objs.size,_,I2,rfl,⟨x,_,hT,λxs' h'=>?_,rfl,rfl⟩,⟨⟨u0,r1⟩,q2.1.at λo e=>(r2 _ (FT 0 1 rfl)).trans e⟩,λc hc=>(hf' c hc).1⟩
  rw[I.list_inj h' ha];exact hx
 done:=by
  intro X hP hw hK hc i pins s σ H E I hf st hg
  subst hP hw hK
  obtain⟨xs,ha,hl⟩:=hg
  obtain⟨its,rv,p,hz⟩:=I.list ha
  obtain⟨⟨old,z1⟩,z2⟩:=st
  have hh:X.A.in1.handled=none:=I.ok.hd hc
  have l1:=rv.length
  refine wpAny_pyNext_enum_endD (BI hh i (xs:=its.toArray) (by simp;omega)) z1 ⟨rfl,z2,p.isList⟩ λh' q=>⟨rfl,?_⟩
  refine I.turnedL (t':=s.toks) (ch:=zZ n) (λc o hc e=>?_) hf
  simp only[zZ,Hx,Jn,or_false,not_or] at hc
  exact q c o hc.2 e
 self:=λ_ _ _ _ _ st h=>by
  obtain⟨⟨old,z1⟩,_⟩:=st
  exact wpAny_pyIter_enum z1 h
def Gn (K:Frag)(ta:TA):TI:=λσ H R=>ta σ H λvs H2=>∃a xs,vs= [.ref a]/\dJ K H2 a xs/\R (C0 K a) H2
section
variable {X:Cx}
theorem Dh {a:Expr}{ta:TA}{p pos pt:Pos}{elts:List Expr}{x1}(hg:Gl X "enumerate")(hm:X.mg "enumerate"=none)(ha:PA X [a] ta)(hs:starEach [a] X.env= [(false,eval a X.env)]:=by rfl) :
  PI X (.Tuple elts x1 pt) (.Call (.Name "enumerate" p) [a] [] pos) (Gn X.K ta):=by
 intro pins s σ H R I h
 refine Call_ (kI I hg hm wQ (JG (b4 (ha pos pins s σ H _ I h) λus s1 ⟨vs,H1,I1,r1,q1⟩=>?_) hs rfl))
 obtain⟨a,xs,e,h1,q⟩:=q1
 subst e
 cases r1 with
 |cons r rr=>
  cases rr
  cases r
  obtain⟨its,rv,p1,hz⟩:=I1.list h1
  refine call_enumerate_list p1.isList λh' z1 z2 _ z3=>?_
  refine wpAny_pyIter_enum z1 ⟨_,zZ s1.heap.objs.size,_,_,H1,rfl,I1.kept (t':=s1.toks) z3,tL a s1.heap.objs.size,⟨⟨_,z1⟩,z2⟩,λc hc=>?_,q⟩
  have:s1.heap.objs.size<=c:=by
   simp only[zZ,Hx,Jn,or_false] at hc
   rcases hc with rfl |rfl <;> first |exact Hy _ |exact Nat.le_add_right _ _
  exact I1.fpOk this (I1.hok.fresh this)
end
section
variable {X:Cx}{Γ:Fx}{E:XK}{e a b c:Expr}{f fa fb:VF D}{L La Lb:List Nat}{md ma mb:Md}{pos:Pos}
def EW (fa:VF D):VF (List D):=λvs β=>(fa vs β).bnd λx β1=>match x with
 | .list ds=>.ok (jZ ds) β1
 |_=>.bad
def zJ {K:Frag}{B:Option Addr}{G H1:Hp}{p:Addr}{xs:List V}{ds:List D}(hp:∀Gc H,af G Gc->af Gc H->fm B H1 H->dJ K H p xs)(r:bw K G xs ds):Walk K B G H1 (jZ ds) (C0 K p):=λGc H i s1 s2 m=>by
 have hp':=hp Gc H s1 s2 m
 have l1:=r.len
 have lz:(jZ ds).length=ds.length:=by unfold jZ;rw[List.length_mapIdx]
 refine⟨λhi=>⟨?_,λx H' y=>?_⟩,λhi=>⟨xs,hp',by omega⟩⟩
 ·have h1:i < xs.length:=by omega
  exact⟨xs,xs[i],hp',by simp[h1]⟩
 ·obtain⟨x,t,ht,hx,rfl,rfl⟩:=y
  obtain⟨d,ed,rd⟩:=r.at' (hx xs hp')
  have xn:=Ext.new s2 (o:=.tup [.int i,x]) ht
  refine⟨upd Gc t (.tup [.int i,x]),.tuple [.int i,d],xn,?_,.tup (.inl (.inl aq)) (.cons (.int i) (.cons (rd.mono (s1.trans xn.gg)) .nil))⟩
  unfold jZ
  rw[List.getElem?_mapIdx,ed];rfl
theorem yF {p pt:Pos}{elts:List Expr}{x1}(hK:X.K=Γ.K)(hg:Gl X "enumerate")(hm:X.mg "enumerate"=none)(ha:SE X Γ E a fa La .v)(hs:starEach [a] X.env= [(false,eval a X.env)]:=by rfl)(hs':starEach [a] X.env=(false,eval a X.env) :: starEach [] X.env:=by rfl) :
  SI X Γ E (.Tuple elts x1 pt) (.Call (.Name "enumerate" p) [a] [] pos) (EW fa) La .v:=by
 refine PI.post (Dh hg hm (aC ha aY hs') hs) ?_
 rintro σ H Q ⟨env,G,B,β,I,o⟩
 refine⟨env,G,B,β,I,o.bnd.imp λd1 β1 h x G1 H1 I1 s1 m1 vx=>?_⟩
 have vx:Rp Γ.K G1 x d1:=vx
 rw[hK]
 cases d1 with
 |list ds=>
  cases vx with
  | @lst p xs _ hq r=>exact⟨p,xs,rfl,.inl (Rd.mono (.inl hq) I1.sub),h _ G1 H1 I1 s1 m1 (zJ (λGc H t1 t2 _=>.inl (Rd.mono (.inl hq) (t1.trans t2))) r)⟩
 |_=>exact h.elim
end
end L2
namespace L2
open PySem PyProof.Rows
section
variable {X:Cx}{K:Frag}{pins:List V}{σ:St}{H:Hp}{s:Shared}{E:XK}
def zM (ns:List Int):Int:=ns.getD (argBest (λi j=>decide (ns.getD i 0 > ns.getD j 0)) (ns.length - 1)) 0
def getD_mem {ns:List Int}{i:Nat}(h:i < ns.length):ns.getD i 0∈ns:=by
 rw[IS,Hu h];exact IV h
def mem_getD {ns:List Int}{x:Int}(h:x∈ns):∃i,i < ns.length/\ns.getD i 0=x:=by
 obtain⟨i,hi,e⟩:=List.getElem_of_mem h
 exact⟨i,hi,by rw[IS,Hu hi];exact e⟩
def zd {ns:List Int}(h:ns≠ []):zM ns∈ns:=by
 have h1:=(argBest_gt (λi=>ns.getD i 0) (ns.length - 1)).1
 have:=List.length_pos_iff.mpr h
 exact getD_mem (by omega)
def BA {ns:List Int}{x:Int}(h:x∈ns):x<=zM ns:=by
 obtain⟨i,hi,e⟩:=mem_getD h
 rw[<-e];exact (argBest_gt (λi=>ns.getD i 0) (ns.length - 1)).2 i (by omega)
theorem mK:∀{us:List Value} {ns:List Int},IntsAre us ns->∃xs:List (Int×Tok),us=xs.map (λp=>Value.int p.1 p.2)/\xs.map (·.1)=ns
 |_,_,.nil=>⟨[],rfl,rfl⟩
 |_,_,.cons n t hr=>by
  obtain⟨xs,e1,e2⟩:=mK hr
  exact⟨(n,t) :: xs,by rw[e1];rfl,by rw[<-e2];rfl⟩
def rL {us:List Value}{ns:List Int}(h:IntsAre us ns):∃xs:Array (Int×Tok),us.toArray=intItems xs/\(∀i,numAt xs i=ns.getD i 0)/\xs.size=ns.length:=by
 obtain⟨xs,e1,e2⟩:=mK h
 refine⟨xs.toArray,?_,λi=>?_,?_⟩
 ·rw[e1,intItems,List.map_toArray]
 ·rw[numAt_eq];show ((xs.map (·.1)).getD i 0)=_;rw[e2]
 ·rw[<-e2];simp
def yY (K:Frag)(g:List Int->Int):List V->Hp->VK->Prop:=λxs H Q=>∃a ns,xs= [.ref a]/\(dJ K H a (ns.map V.int)\/fK K H a (ns.map V.int))/\0 < ns.length/\Q (.int (g ns)) H
def xQ {t:Addr}{A:Around}{prog:Program}{w:World}{xs:Array (Int×Tok)}{Em:Value->Shared->Prop}{op:CmpOp}{bt:Nat->Nat->Bool}{Q:Value->Shared->Prop}(hh:A.handled=none)(hT:s.heap.IsTuple t (intItems xs))(hne:0 < xs.size)(hc:CmpOf prog w A op (λi v=>(intItems xs)[i]? =some v) bt)
  (h:∀v h' tk,(intItems xs)[argBest bt (xs.size - 1)]? =some v->(∀b o,s.heap.get? b=some o->h'.get? b=some o)->Q v {s with heap:=h',toks:=tk}) :
  wpAny (model prog w) A (pyIter (.ref t)) (λit s₂=>∃I fp wr n P St bt,it=.ref I/\Walks prog w A I fp wr n P St/\St 0 s₂.heap/\(∀b∈fp,b < s₂.heap.objs.size)/\0 < n/\CmpOf prog w A op P bt/\
   ∀v h' tk,P (argBest bt (n - 1)) v->(∀b o,b∉wr->s₂.heap.get? b=some o->h'.get? b=some o)->Q v {s₂ with heap:=h',toks:=tk}) Em s:=by
 have hlt:t < s.heap.objs.size:=by obtain⟨_,e,_⟩:=hT;exact HJ e
 refine Km hT ?_
 refine⟨_,[_,t],[_],_,_,_,bt,rfl,Walks.tuple (A:=A) hh _ t (Ih hlt) (intItems xs),⟨⟨_,HU _ rfl,rfl,rfl⟩,?_⟩,λc hc=>?_,by simpa[intItems] using hne,hc,λv h' tk hP hk=>?_⟩
 ·exact hT.push _
 ·show c < (s.heap.push _).objs.size
  rw[Jo]
  rcases Hx.mp hc with rfl |hc
  ·exact Nat.lt_succ_self _
  ·rcases Hx.mp hc with rfl |hc
   ·exact Nat.lt_succ_of_lt hlt
   ·cases hc
 ·refine h v h' tk (by simpa[intItems] using hP) λc o e=>hk c o (λhm=>?_) (Hw _ e)
  rcases Hx.mp hm with e1 |hm
  ·exact absurd (e1▸HJ e) (Iv _)
  ·cases hm
def qK {xs:Array (Int×Tok)}{ns:List Int}{bt:Nat->Nat->Bool}{v:Value}(hx:∀i,numAt xs i=ns.getD i 0)(hp:(intItems xs)[argBest bt (xs.size - 1)]? =some v):∃t,v=.int (ns.getD (argBest bt (xs.size - 1)) 0) t:=by
 obtain⟨t,e⟩:=intItems_at hp
 exact⟨t,by rw[e,hx]⟩
def xj (hc:X.calm=true):cf X (.builtin "max") (yY X.K zM):=by
 intro pins s σ H xs us Q I r h
 obtain⟨a,ns,rfl,hq,hz,q⟩:=h
 obtain⟨u,rfl,rx⟩:=vals1 r
 cases rx
 have hh:=I.ok.hd hc
 rcases hq with hq |hq
 ·obtain⟨its,rv,pl,_⟩:=I.list hq
  obtain⟨xs,e,hx,hs⟩:=rL (intsAre_of rv)
  refine max_intList (xs:=xs) hh (e▸pl.isList) (by omega) λv h' tk hp k=>⟨_,H,I.kept k,?_,q⟩
  obtain⟨t,rfl⟩:=qK hx hp
  simp only[hx,hs];exact⟨t,rfl⟩
 ·obtain⟨its,rv,pl,_⟩:=I.tuple hq
  obtain⟨xs,e,hx,hs⟩:=rL (intsAre_of rv)
  refine call_max_walk (xQ (xs:=xs) hh (e▸pl) (by omega) (CmpOf.ints_gt (numAt xs) (λ_ _=>intItems_at)) λv h' tk hp k=>⟨_,H,I.kept k,?_,q⟩)
  obtain⟨t,rfl⟩:=qK hx hp
  simp only[hx,hs];exact⟨t,rfl⟩
def o5 (g:List Int->Int)(d:D):Option D:=match iF d with
 |some ds=>(match eG ds with
  |some ns=>if 0 < ns.length then some (.int (g ns)) else none
  |none=>none)
 |none=>none
theorem AA {g:List Int->Int}:wU K (λx=>yY K g [x]) (o5 g) .v:=by
 intro B G H x dx d Q s hB bx e k
 unfold o5 at e
 cases q:iF dx with
 |none=>rw[q] at e;cases e
 |some ds=>
  rw[q] at e
  dsimp only at e
  cases q2:eG ds with
  |none=>rw[q2] at e;cases e
  |some ns=>
   rw[q2] at e
   dsimp only at e
   split at e
   ·rename_i hz
    cases e
    obtain⟨p,xs,rfl,hq,r⟩:=bx.seq q s
    rw[j8 q2] at r
    have r:=r.intsB
    subst r
    exact⟨p,ns,rfl,hq,hz,k _ G H (Ext.refl s) (.int _)⟩
   ·cases e
end
end L2
namespace RM
open PySem L2
def kh:SF:=(bD (dW (f1 (gv 0) (gS "int")) (f1 (f1 (gv 0) (gS "bool")) qG)))
end RM
namespace L2.SO
open PySem PySem.W PyProof.Rows
theorem nR:∀(f n r:Nat),r<=1->minRun' f n r<=n + r
 | 0,n,r,_=>Hy (n + r)
 |f + 1,n,r,h=>by
  rw[minRun'_succ]
  split
  ·exact Hy _
  ·have:=nR f (n / 2) (max r (n % 2)) (by have:=Ka n (show 0 < 2 by omega);omega)
   have:=Ka n (show 0 < 2 by omega)
   omega
section
variable {prog:Program}{w:World}{A:Around}{E:Value->Shared->Prop}{κ:SortKind}{it:Array Keyed}{s:Shared}
def wH {n:Nat}{Q:Unit->SortSt->Shared->Prop}{G:Array Nat->Shared->Prop}(h2:2<=n)
  (hG:∀p' st' s',p'.size=n->arrOf st'=p'.map (kas_item it)->failedOf st'=none->G p' s'->Q () st' s') (h:(kas_count n (List.toArray (List.range n))).kasWp (kas_cmp prog w A κ it) (λr s'=>r.1=n/\G r.2 s') s) :
  kasC (model prog w) A E sortRuns' Q (kas_st κ it (List.toArray (List.range n))) s:=by
 obtain⟨r,rfl⟩:∃r,n=r + 2:=⟨n - 2,by omega⟩
 have hrs:(List.toArray (List.range (r + 2))).size=r + 2:=by simp
 rw[sortRuns'_eq]
 refine kasC_bind (kasC_get ?_)
 dsimp only
 have hsz:(arrOf (kas_st κ it (List.toArray (List.range (r + 2))))).size=r + 2:=by
  show ((List.toArray (List.range (r + 2))).map (kas_item it)).size=_
  rw[Array.size_map,hrs]
 have hmr:minRun' (r + 2) (r + 2) 0<=r + 2:=nR _ _ 0 (by omega)
 simp only[hsz]
 refine kasC_bind (kasC_range ?_)
 show kasC _ _ _ (forIn (0 :: 1 :: List.range' 2 r) _ _) _ _ _
 refine kasC_cons ?_
 dsimp only
 rw[HI (by omega)]
 simp only[Nat.sub_zero,Jk]
 refine kasC_bind (kas_count_ (by omega) (by rw[hrs];exact Hy _) (λm p' s' hm1 hm2 hp hg=>?_) h)
 have hps:p'.size=r + 2:=hp.trans hrs
 dsimp only
 obtain⟨hm,hg'⟩:=hg
 dsimp only at hm hg'
 subst hm
 rw[HI (by omega)]
 refine kasC_bind (kasC_get ?_)
 rw[show (pendingOf (kas_st κ it p')).back? =none from rfl]
 dsimp only
 refine kasC_bind (kasC_modify (kasC_pure ?_))
 show kasC _ _ _ (forIn (1 :: List.range' 2 r) _ _) _ _ _
 refine kasC_cons ?_
 dsimp only
 rw[HA (Hy _)]
 refine kasC_pure ?_
 dsimp only
 refine kasC_bind (kasC_range ?_)
 show kasC _ _ _ (forIn (0 :: 1 :: List.range' 2 r) _ _) _ _ _
 refine kasC_cons ?_
 refine kasC_bind (kasC_get ?_)
 rw[HA (show (pendingOf (setPending (kas_st κ it p') ((pendingOf (kas_st κ it p')).push (0,r + 2,0)))).size<=1 from Hy 1)]
 refine kasC_pure ?_
 dsimp only
 exact kasC_pure (hG p' _ _ hps rfl rfl hg')
theorem zp {cmp:Nat->Nat->(Bool->Shared->Prop)->Shared->Prop}{n:Nat}{Q:Nat->Shared->Prop}(hc:∀k C,1<=k->k < n->C false s->cmp k (k - 1) C s):∀(f k:Nat),1<=k->k + f=n->Q n s->(kas_asc (List.toArray (List.range n)) f k).kasWp cmp Q s
 | 0,k,_,e,h=>by rw[Nat.add_zero] at e;subst e;exact h
 |f + 1,k,h1,e,h=>by
  show cmp ((List.toArray (List.range n)).getD k 0) ((List.toArray (List.range n)).getD (k - 1) 0) (λb s'=>(if b=true then KasT.ret k else kas_asc (List.toArray (List.range n)) f (k + 1)).kasWp cmp Q s') s
  rw[show (List.toArray (List.range n)).getD k 0=k by simp[show k < n by omega],show (List.toArray (List.range n)).getD (k - 1) 0=k - 1 by simp[show k - 1 < n by omega]]
  refine hc k _ h1 (by omega) ?_
  rw[HI Iw]
  exact zp hc f (k + 1) (by omega) (by omega) h
def vR {cmp:Nat->Nat->(Bool->Shared->Prop)->Shared->Prop}{n:Nat}{Q:Nat×Array Nat->Shared->Prop}(h1:1<=n)(hc:∀k C,1<=k->k < n->C false s->cmp k (k - 1) C s)(h:Q (n,List.toArray (List.range n)) s):(kas_count n (List.toArray (List.range n))).kasWp cmp Q s:=by
 unfold kas_count
 rw[KasT.kasWp_bind]
 refine zp hc (n - 1) 1 (Hy _) (by omega) ?_
 rw[HA (by simp)]
 exact h
def xR {vs:List Value}{Q:SortSt->Shared->Prop}(h2:2<=vs.length)(hc:∀k C,1<=k->k < vs.length->C false s->kas_ask prog w A κ vs k (k - 1) C s)
  (hQ:∀st',arrOf st'=(List.toArray (List.range vs.length)).map (kas_item (vs.toArray.zip vs.toArray))->failedOf st'=none->Q st' s) :
  wpAny (model prog w) A ((sortRuns').run (SortSt.mk' κ (vs.toArray.zip vs.toArray) #[] 7 none)) (λr s'=>Q r.2 s') E s:=by
 have e:=kat_ask_eq (prog:=prog) (w:=w) (A:=A) (κ:=κ) (ks:=vs) (vs:=vs) rfl
 rw[e] at hc
 have run:=wH (E:=E) (Q:=λ_ st' s'=>Q st' s') (G:=λp s'=>p=List.toArray (List.range vs.length)/\s'=s) h2 (λp' st' s' _ a2 a3 a4=>by obtain⟨rfl,rfl⟩:=a4;exact hQ st' a2 a3) (vR (by omega) hc ⟨rfl,rfl,rfl⟩)
 have est:SortSt.mk' κ (vs.toArray.zip vs.toArray) #[] 7 none=kas_st κ (vs.toArray.zip vs.toArray) (List.toArray (List.range vs.length)):=by
  have e:=kas_range (vs.toArray.zip vs.toArray)
  rw[show (vs.toArray.zip vs.toArray).size=vs.length by simp] at e
  show SortSt.mk' κ (vs.toArray.zip vs.toArray) #[] 7 none=SortSt.mk' κ ((List.toArray (List.range vs.length)).map (kas_item (vs.toArray.zip vs.toArray))) #[] 7 none
  rw[e]
 rw[est]
 exact run
end
end L2.SO
namespace L2
open PySem PyProof.Rows
section
variable {X:Cx}{K:Frag}{σ:St}{G H:Hp}{s:Shared}{E:XK}
def kP (p:Int×Int):List Key:=[.inl p.1,.inl p.2]
def CF {p q:Int×Int}:kP p=kP q↔p=q:=by
 unfold kP
 constructor
 ·intro h
  simp at h
  exact Prod.ext h.1 h.2
 ·intro h;rw[h]
abbrev KP (K:Frag)(G:Hp):List (List Key×V)->List ((Int×Int)×D)->Prop:=Paired λa b=>a.1=kP b.1/\Rp K G a.2 b.2
theorem KP.any {kvs:List (List Key×V)}{acc:List ((Int×Int)×D)}(h:KP K G kvs acc)(p:Int×Int):(kvs.any λkv=>decide (kv.1=kP p))=acc.any λkv=>decide (kv.1=p):=by
 induction h with
 |nil=>rfl
 |cons h _ ih=>
  rw[JA,JA,ih,h.1]
  congr 1
  rw[decide_eq_decide];exact CF
end
end L2
namespace L2
open PySem PySem.Spec PyProof.Rows
namespace HM
def lexLt:List Int->List Int->Bool
 |_,[]=>false
 | [],_ :: _=>true
 |x :: xs,y :: ys=>if x=y then lexLt xs ys else decide (x < y)
def hJ (x y:Int)(xs ys:List Int):lexLt (x :: xs) (y :: ys)=if x=y then lexLt xs ys else decide (x < y):=rfl
def rB (A:Around)(s:Shared)(a:Int)(t:Tok)(c:Int)(u:Tok)(prog:Program)(w:World)(E:Value->Shared->Prop)(Q:Value->Shared->Prop)(h:Q (.bool (decide (a < c))) s) :
  wpAny (model prog w) A (richCompare .Lt (.int a t) (.int c u)) Q E s:=
 (PyProof.Rows.lt_int h:wpAny (model prog w) A (compareOp .Lt (.int a t) (.int c u)) Q E s)
theorem vE {vs:List Value}{ns:List Int}(h:IntsAre vs ns){i:Nat}{v:Value}(e:vs[i]? =some v):∃a t,ns[i]? =some a/\v=.int a t:=by
 induction h generalizing i with
 |nil=>cases e
 |cons n t hr ih=>
  cases i with
  |zero=>cases e;exact⟨n,t,rfl,rfl⟩
  |succ i=>exact ih (by simpa using e)
def yW {ns ms:List Int}{i:Nat}{a c:Int}(h1:ns[i]? =some a)(h2:ms[i]? =some c):lexLt (ns.drop i) (ms.drop i)=if a=c then lexLt (ns.drop (i + 1)) (ms.drop (i + 1)) else decide (a < c):=by
 obtain⟨g1,rfl⟩:=HB.mp h1
 obtain⟨g2,rfl⟩:=HB.mp h2
 rw[Jt g1,Jt g2,hJ]
def uV {ns ms:List Int}{i:Nat}(h:ns.length<=i\/ms.length<=i)(hi:i<=ns.length)(hj:i<=ms.length):lexLt (ns.drop i) (ms.drop i)=decide (ns.length < ms.length):=by
 by_cases c:ms.length<=i
 ·rw[List.drop_of_length_le c,HV (by omega)]
  cases ns.drop i <;> rfl
 ·have:ns.length<=i:=h.resolve_right c
  rw[List.drop_of_length_le this,HK (by omega),Jt (show i < ms.length by omega)];rfl
section
open PySem.SeqAt
open PySem.AutoSeq1 (wpAny_loadPart')
open PySem.MeetsSeq PySem.MeetsSeq2 PySem.MeetsSeq3
theorem Bm (l b:Addr)(items items2:Array Value)(n n2:Nat)(dd dd2:Option Addr)(sl sl2:Array (Option Value))(ns ms:List Int)(hi:IntsAre items.toList ns)(hj:IntsAre items2.toList ms)(k:Nat) :
  ∀i:Nat,items.size - i=k->i<=items.size->i<=items2.size->Meets (Builtin.«list.__eq__.loop» ⟨[.ref l,.ref b,rawInt i,rawInt 0],[]⟩)
   (λA R s=>s.heap.get? l=some {cls:=.type "list",dict:=dd,data:=.seq items n,slots:=sl}/\s.heap.get? b=some {cls:=.type "list",dict:=dd2,data:=.seq items2 n2,slots:=sl2}/\R (.ok (.ret (.bool (lexLt (ns.drop i) (ms.drop i))))) s):=by
 have z1:items.size=ns.length:=by rw[<-hi.length];simp
 have z2:items2.size=ms.length:=by rw[<-hj.length];simp
 induction k with
 |zero=>
  intro i hk h1 h2 prog w A R s h
  obtain⟨hp,g,d,tk,os⟩:=s;obtain⟨hl,hb,h⟩:=h
  rw[uV (.inl (by omega)) (by omega) (by omega)] at h
  wp_walk using wpAny_loadPart' hl,wpAny_loadPart' hb
  have e1:items[((i:Nat):Int).toNat]? =none:=by simp;omega
  rw[e1]
  wp_walk using wpAny_loadPart' hl,wpAny_loadPart' hb
  show R (.ok (.ret (.bool (decide (items.size < items2.size))))) _
  rw[z1,z2];exact h
 |succ k ih=>
  intro i hk h1 h2 prog w A R s h
  obtain⟨hp,g,d,tk,os⟩:=s;obtain⟨hl,hb,h⟩:=h
  have lt1:i < items.size:=by omega
  by_cases c2:items2.size<=i
  ·rw[uV (.inr (by omega)) (by omega) (by omega)] at h
   wp_walk using wpAny_loadPart' hl,wpAny_loadPart' hb
   have e1:items[((i:Nat):Int).toNat]? =some items[i]:=by simp[lt1]
   have e2:items2[((i:Nat):Int).toNat]? =none:=by simp;omega
   rw[e1,e2]
   wp_walk using wpAny_loadPart' hl,wpAny_loadPart' hb
   show R (.ok (.ret (.bool (decide (items.size < items2.size))))) _
   rw[z1,z2];exact h
  ·have lt2:i < items2.size:=by omega
   have e1:items[((i:Nat):Int).toNat]? =some items[i]:=by simp[lt1]
   have e2:items2[((i:Nat):Int).toNat]? =some items2[i]:=by simp[lt2]
   obtain⟨a,t,ea,va⟩:=vE hi (i:=i) (v:=items[i]) (by simp[lt1])
   obtain⟨c,u,ec,vc⟩:=vE hj (i:=i) (v:=items2[i]) (by simp[lt2])
   rw[yW ea ec] at h
   rw[va] at e1
   rw[vc] at e2
   wp_walk using wpAny_loadPart' hl,wpAny_loadPart' hb
   rw[e1,e2]
   obtain⟨e,he,hiff⟩:=HT.xW A.in1 ⟨hp,g,d,tk,os⟩ a t c u
   refine Hv (he prog w _ _ ?_)
   cases e with
   |true=>
    rw[HA (hiff.mp rfl)] at h
    have hc:((i:Int) + 1)=((i + 1:Nat):Int):=by omega
    wp_walk
    rw[hc]
    exact⟨Kd plain_eq_loop _,Jv entry_eq_loop (by
     rw[Jd plain_eq_loop _]
     exact ih (i + 1) (by omega) (by omega) (by omega) prog w A R _ ⟨hl,hb,h⟩)⟩
   |false=>
    rw[HI (λq=>absurd (hiff.mpr q) Iw)] at h
    have hri:=rB A.in1 ⟨hp,g,d,tk,os⟩ a t c u prog w
    wp_walk using wpAny_loadPart' hl,wpAny_loadPart' hb
    rw[e1,e2]
    wp_walk using hri
    exact h
def Ab (l b:Addr)(items items2:Array Value)(n n2:Nat)(dd dd2:Option Addr)(sl sl2:Array (Option Value))(ns ms:List Int)(hi:IntsAre items.toList ns)(hj:IntsAre items2.toList ms) :
  Meets (Builtin.«list.__lt__» ⟨[.ref l,.ref b],[]⟩)
   (λA R s=>s.heap.get? l=some {cls:=.type "list",dict:=dd,data:=.seq items n,slots:=sl}/\s.heap.get? b=some {cls:=.type "list",dict:=dd2,data:=.seq items2 n2,slots:=sl2}/\R (.ok (.ret (.bool (lexLt ns ms)))) s):=by
 intro prog w A R s h
 obtain⟨hp,g,d,tk,os⟩:=s;obtain⟨hl,hb,h⟩:=h
 have f3:=AutoSeq1.sub_list_list
 wp_walk using wpAny_loadPart' hl,wpAny_loadPart' hb
 exact⟨Kd plain_eq_loop _,Jv entry_eq_loop (by
  rw[Jd plain_eq_loop _]
  exact Bm l b items items2 n n2 dd dd2 sl sl2 ns ms hi hj _ 0 rfl (Ia _) (Ia _) prog w A R _ ⟨hl,hb,h⟩)⟩
end
end HM
end L2
namespace L2
open PySem PyProof.Rows
section
variable {X:Cx}{K:Frag}{σ:St}{G H:Hp}{s:Shared}{E:XK}
def yu (K:Frag)(H:Hp):List V->List (List Int)->Prop:=Paired λv r=>∃b,v=.ref b/\dJ K H b (r.map V.int)
def mh (h:Heap)(us:List Value)(rs:List (List Int)):Prop:=us.length=rs.length/\∀(i:Nat) (v:Value) (r:List Int),us[i]? =some v->rs[i]? =some r->∃(b:Addr) (o:Obj) (its:Array Value) (n:Nat),v=.ref b/\h.get? b=some o/\o.cls=.type "list"/\o.data=.seq its n/\IntsAre its.toList r
theorem vJ {pins:List (Addr×Obj)}(I:Inv X pins σ H s):∀{vs:List V} {us:List Value} {rs:List (List Int)},Vals vs us->yu X.K H vs rs->mh s.heap us rs
 |_,_,_,.nil,.nil=>⟨rfl,λi v r h _=>by simp at h⟩
 |_,_,_,.cons hv tv,.cons hr tr=>by
  obtain⟨e,f⟩:=vJ I tv tr
  refine⟨by simp[e],λi v r h1 h2=>?_⟩
  cases i with
  |zero=>
   simp at h1 h2
   subst h1 h2
   obtain⟨b,rfl,hq⟩:=hr
   cases hv
   obtain⟨its,rv,⟨o,n,ho,hc,_,hd⟩,_⟩:=I.list hq
   exact⟨b,o,its.toArray,n,rfl,ho,hc,hd,intsAre_of rv⟩
  |succ i=>exact f i v r (by simpa using h1) (by simpa using h2)
def k6:List D->Option (List (List Int))
 | []=>some []
 | .list ds :: es=>match eG ds,k6 es with
  |some r,some rs=>some (r :: rs)
  |_,_=>none
 |_=>none
theorem yU:∀{xs:List V} {ds:List D} {rs:List (List Int)},bw K G xs ds->k6 ds=some rs->af G H->yu K H xs rs/\∀i:Nat,(rs[i]?).map (λr:List Int=>PyData.list (r.map int))=ds[i]?
 |_,_,_,.nil,e,s=>by cases e;exact⟨.nil,λi=>rfl⟩
 |_,_,_,@bw.cons _ _ x xs d ds hx hs,e,s=>by
  cases d with
  |list es=>
   unfold k6 at e
   cases e1:eG es with
   |none=>rw[e1] at e;cases e
   |some r=>
    cases e2:k6 ds with
    |none=>rw[e1,e2] at e;cases e
    |some rs=>
     rw[e1,e2] at e
     cases e
     obtain⟨h1,h2⟩:=yU hs e2 s
     cases hx with
     | @lst a ys _ ha hr=>
      have ee:=j8 e1
      subst ee
      have hr:=hr.intsB
      subst hr
      refine⟨.cons ⟨a,rfl,.inl (.inl (s _ _ ha))⟩ h1,λi=>?_⟩
      cases i with
      |zero=>rfl
      |succ i=>simpa using h2 i
  |_=>cases e
end
end L2
namespace L2
open PySem PySem.Spec PyProof.Rows
def Et:SF:=λ_ _=>.bad
section
variable {X:Cx}{Γ:Fx}{E:XK}
def DS {st:Stmt}:SS X Γ E st Et:=λpins s σ H D I ⟨env,G,B,β,J,o⟩=>o.elim
end
def DY:D->Bool
 | .int _=>true
 |_=>false
def Br:D->Bool
 | .list ds=>ds.all DY
 |_=>false
def nO (io i:Nat)(F:List D->FR)(L:List Nat)(t:VF Bool)(m m':SF):SF:=λenv β=>match env[io]? with
 |some (.fz d)=>if iB d=true/\i < env.length then (match F [d] with
  | .ok (.list (.list e0 :: es)) false=>if e0.all DY=true/\es.all Br=true/\e0.length < sizeLine/\es.length + 1 < sizeLine then
    toS (t (vl (env.set i (.fz (.list (.list e0 :: es))))) β) λc β'=>if c=true then (match m (aU L (env.set i (.fz (.list (.list e0 :: es))))) β' with
     | .rt d fr β2=>.rt d fr β2
     |_=>.bad) else m' (env.set i .no) β'
   else .bad
  | .exc c=>.exc c
  |_=>.bad) else .bad
 |_=>.bad
section
variable {K:Frag}{G G' H H' G2:Hp}
theorem rb:∀{ys:List V} {ds:List D},bw K G' ys ds->ds.all DY=true->bw K G2 ys ds
 |_,_,.nil,_=>.nil
 |_,_,.cons h hs,e=>by
  rw[JX,Ig] at e
  refine .cons ?_ (rb hs e.2)
  cases h with
  |int i=>exact .int i
  |_=>cases e.1
theorem oy (hn:∀b ys,G' b=some (.lst ys)->G2 b=some (.lst ys)):∀{ys:List V} {ds:List D},bw K G' ys ds->ds.all Br=true->bw K G2 ys ds
 |_,_,.nil,_=>.nil
 |_,_,.cons h hs,e=>by
  rw[JX,Ig] at e
  refine .cons ?_ (oy hn hs e.2)
  cases h with
  |lst q r=>exact .lst (hn _ _ q) (rb r e.1)
  |_=>cases e.1
end
section
variable {Γ:Fx}{B:Option Addr}{G H G3 H3:Hp}{σ σ1:St}{env env1:En}{β β':Int}
def SR.poke (I:SR Γ B G H σ env β)(hbr:∀j,Γ.br j=false){a:Addr}{zs ys:List V}(h0:Γ.H0 a=none)(hg:G a=none)(hb:B≠some a)(hn:∀(j:Nat) (d':D),env[j]? =some (.ow d')->σ[j]?≠some (some (.ref a)))(ha:H a=some (.lst zs)):SR Γ B G (upd H a (.lst ys)) σ env β:=by
 have hf:∀x y,H a≠some (.aU x y):=λx y w=>by rw[ha] at w;cases w
 refine⟨λb u q=>gr (I.sub b u q) (λz=>by rw[z,hg] at q;cases q) hf,I.old,I.new,λb u q n=>gr (I.keep b u q n) (λz=>by rw[z,h0] at q;cases q) hf,λb q=>?_,I.fix,λb q=>?_,I.len,λj s q=>?_,I.sep⟩
 ·by_cases z:b=a
  ·subst z;exact Mx.lst aq
  ·exact (I.pin b q).same λo e=>Kt.of (by rw[ak z];exact e)
 ·obtain⟨k1,k2,k3⟩:=I.box b q
  exact⟨by rw[ak (λz=>hb (by rw[<-z];exact q))];exact k1,k2,k3⟩
 ·have w:=I.slot j s q
  cases s with
  |no=>trivial
  |fz d1=>exact w
  |ow d1=>
   obtain⟨c,w1,w2,w3,w4,w5⟩:=w
   have ca:c≠a:=λz2=>hn j d1 q (by rw[<-z2];exact w1)
   exact⟨c,w1,w2,w3,w4,w5.mono (af.refl _) λo q=>Kt.of (by rw[ak ca];exact q)⟩
  |bx=>exact w
  |br d1=>obtain⟨b1,_⟩:=w;rw[hbr j] at b1;cases b1
def SR.dropD (I:SR Γ B G H σ env β)(J:SR Γ B G3 H3 σ1 env1 β')(hbr:∀j,Γ.br j=false)(i:Nat)(v:V)(hσ:σ1=σ.set i (some v))(s:af G G3)(m:fm B H H3):SR Γ B G H3 σ1 (env.set i .no) β':=by
 subst hσ
 have back:∀{j:Nat} {d:Sl},(env.set i Sl.no)[j]? =some d->d≠.no->j≠i/\env[j]? =some d:=λ{j d} q n=>by
  by_cases z:j=i
  ·subst z
   rw[Kw] at q
   split at q
   ·split at q
    ·cases q;exact absurd rfl n
    ·cases q
   ·rename_i z;exact absurd rfl z
  ·rw[HS (Ne.symm z)] at q;exact⟨z,q⟩
 refine⟨s.trans J.sub,I.old,I.new,J.keep,J.pin,I.fix,λb e=>?_,by rw[Jh,Jh];exact I.len,λj t q=>?_,λj k c d1 d2 q1 q2 q3 q4=>?_⟩
 ·exact⟨(J.box b e).1,(I.box b e).2⟩
 ·cases t with
  |no=>trivial
  |fz d=>
   obtain⟨n,q⟩:=back q (by simp)
   rw[HS (Ne.symm n)]
   exact I.slot j _ q
  |ow d=>
   obtain⟨n,q⟩:=back q (by simp)
   rw[HS (Ne.symm n)]
   obtain⟨c,w1,w2,w3,w4,w5⟩:=I.slot j _ q
   exact⟨c,w1,w2,w3,w4,w5.mono (af.refl _) λo q=>m.1 c o q w4⟩
  |bx=>
   obtain⟨n,q⟩:=back q (by simp)
   rw[HS (Ne.symm n)]
   exact I.slot j _ q
  |br d=>
   obtain⟨n,q⟩:=back q (by simp)
   obtain⟨b1,_⟩:=I.slot j _ q
   rw[hbr j] at b1;cases b1
 ·obtain⟨n1,e1⟩:=back q1 (by simp)
  obtain⟨n2,e2⟩:=back q2 (by simp)
  rw[HS (Ne.symm n1)] at q3
  rw[HS (Ne.symm n2)] at q4
  exact I.sep j k c d1 d2 e1 e2 q3 q4
end
section
variable {X:Cx}{Γ:Fx}{E:XK}{c:Expr}{L:List Nat}{ta:VF Bool}{m m':SF}{sts body:List Stmt}
theorem A8 {i io:Nat}{x y g:Str}{ps:List Str}{k:Nat}{F:List D->FR}{p1 p2 p3 p4 p5 p6 p7 p8 p9 q1 q2 q3 q4 q5 q6 q7 q8 pif:Pos}{j1 j2}
  (hb:∀j,Γ.br j=false) (hf:cY X.prog X.w X.K X.mg X.base Γ.ca g ps k F) (hr:cX k X.A) (hxx:Passes (nh X.prog X.w) X E) (hK:X.K=Γ.K) (hg:Gl X g) (hN:X.N.Nodup)
  (hc:xp X Γ E c ta L) (hbd:wx X Γ E body m) (hrest:wx X Γ E sts m')
  (hp0:pG (.Constant (.int 0) j1 p7):=by first |exact λ_ _=>rfl |assumption)
  (hi:X.N[i]? =some x:=by rfl) (hx:Loc X.env.scope x:=by first |exact Or.inl rfl |exact Or.inr rfl) (hvx:wW X.env.scope x:=by first |exact Or.inl rfl |exact Or.inr (Or.inl rfl) |exact Or.inr (Or.inr rfl)) (hfx:X.fn x=true\/X.env.scope.names.lookup x=some .local:=by first |exact .inl rfl |exact .inr rfl |assumption)
  (hio:X.N[io]? =some y:=by rfl) (hvy:wW X.env.scope y:=by first |exact Or.inl rfl |exact Or.inr (Or.inl rfl) |exact Or.inr (Or.inr rfl))
  (dx:(x == ("__debug__":Str))=false:=by decide) (cx:(x == ("__classdict__":Str))=false:=by decide) (dy:(y == ("__debug__":Str))=false:=by decide) (cy:(y == ("__classdict__":Str))=false:=by decide) (dg:(g == ("__debug__":Str))=false:=by decide)
  (hs1:swapsWith (.Call (.Name g p1) [.Name y p2] [] p3) (some (.Name x p4)) p5.line X.env=pure false:=by rfl)
  (he1:starEach [.Name y p2] X.env=(false,eval (.Name y p2) X.env) :: starEach [] X.env:=by rfl) (hpl1:(backTo p3 (starEach [] X.env)).any (·.1)=false:=by rfl)
  (hba:attributeBase (.Subscript (.Name x p8) (.Constant (.int 0) j1 p7) p9) "append" X.env (eval (.Subscript (.Name x p8) (.Constant (.int 0) j1 p7) p9) X.env)=eval (.Subscript (.Name x p8) (.Constant (.int 0) j1 p7) p9) X.env:=by rfl)
  (hw1:((backTo q2 (starEach [.Constant (.int 0) j2 q1] X.env)).all (λx=> !x.1) && (backToKw q2 (keywordEach [] X.env)).all (λx=>x.1.isSome)
   && decide ([Expr.Constant (.int 0) j2 q1].length + ([]:List Keyword).length + (if ([]:List Keyword).isEmpty then 0 else 1) < 30))=true:=by rfl)
  (hl1:(q3.endLine == q2.line)=true:=by rfl) (hsa1:starEach [.Constant (.int 0) j2 q1] X.env=(false,eval (.Constant (.int 0) j2 q1) X.env) :: starEach [] X.env:=by rfl)
  (hsw1:swapsWith (.Call (.Attribute (.Subscript (.Name x p8) (.Constant (.int 0) j1 p7) p9) "append" q3) [.Constant (.int 0) j2 q1] [] q2) none p6.line X.env=pure false:=by rfl)
  (hbb:attributeBase (.Name x q4) "append" X.env (eval (.Name x q4) X.env)=eval (.Name x q4) X.env:=by rfl)
  (hw2:((backTo q6 (starEach [.List [] q5] X.env)).all (λx=> !x.1) && (backToKw q6 (keywordEach [] X.env)).all (λx=>x.1.isSome)
   && decide ([Expr.List [] q5].length + ([]:List Keyword).length + (if ([]:List Keyword).isEmpty then 0 else 1) < 30))=true:=by rfl)
  (hl2:(q7.endLine == q6.line)=true:=by rfl) (hsa2:starEach [.List [] q5] X.env=(false,eval (.List [] q5) X.env) :: starEach [] X.env:=by rfl)
  (hsw2:swapsWith (.Call (.Attribute (.Name x q4) "append" q7) [.List [] q5] [] q6) none q8.line X.env=pure false:=by rfl) :
  wx X Γ E (.Assign [.Name x p4] (.Call (.Name g p1) [.Name y p2] [] p3) p5 :: .If c body [] pif
   :: .Expr (.Call (.Attribute (.Subscript (.Name x p8) (.Constant (.int 0) j1 p7) p9) "append" q3) [.Constant (.int 0) j2 q1] [] q2) p6
   :: .Expr (.Call (.Attribute (.Name x q4) "append" q7) [.List [] q5] [] q6) q8 :: sts) (nO io i F L ta m m'):=by
 obtain⟨f,fd,hm,hk,hbi,hF⟩:=hf.ex
 refine nE.post (b7 (l5 hN hi hx (i9 (dvs:=[]) hF hr hg hm hk hbi .nil hxx (aC (fu hio hvy dy cy) aY he1) dg he1 hpl1) hs1 hfx)
  (b7 (zC hc hbd pj)
  (b7 (jH (rW JB JS JT gL (iX dA (fu hi hvx dx cx) kF hp0) (aC kF aY hsa1) hba hw1 hl1 hsa1 rfl) hsw1)
  (b7 (jH (rW JB JS JT gL (fu hi hvx dx cx) (aC (sQ aY) aY hsa2) hbb hw2 hl2 hsa2 rfl) hsw2) hrest)))) λN σ H ⟨env,G,B,β,I,o⟩=>?_
 unfold nO at o
 cases qo:env[io]? with
 |none=>rw[qo] at o;exact o.elim
 |some s=>
 rw[qo] at o
 cases s with
 |no=>exact o.elim
 |ow d=>exact o.elim
 |bx=>exact o.elim
 |br d=>exact o.elim
 |fz d=>
 dsimp only at o
 by_cases hfl:iB d=true/\i < env.length
 case neg=>rw[HI hfl] at o;exact o.elim
 rw[HA hfl] at o
 obtain⟨hfl,hil⟩:=hfl
 obtain⟨vo,h1,h2⟩:=I.slot io _ qo
 have hlen:F [d]≠.bad-> [d].length=ps.length:=hf.len _
 refine⟨vo,h1,?_⟩
 show xl X.K Γ.ca ps.length F [vo] H _ E
 have sn:af (fB DN G) H:=(mT rT).trans I.sub
 refine⟨fB DN G,[d],sn,?_,by rw[hK];exact .cons (Rp.flat rT (af.refl _) h2 hfl) .nil,?_⟩
 ·exact hlen λz=>by rw[z] at o;exact o
 cases q:F [d] with
 |bad=>rw[q] at o;exact o
 |exc c=>rw[q] at o;exact λH' s=>o H' (I.kp s)
 |ok r fr=>
 rw[q] at o
 split at o
 case h_2 z=>cases z
 case h_3=>exact o.elim
 rename_i e0 es z
 cases z
 by_cases hcd:e0.all DY=true/\es.all Br=true/\e0.length < sizeLine/\es.length + 1 < sizeLine
 case neg=>rw[HI hcd] at o;exact o.elim
 rw[HA hcd] at o
 obtain⟨c1,c2,c3,c4⟩:=hcd
 intro v G' H' hh g1 g2 hn fv
 have fv:Rp X.K G' v (.list (.list e0 :: es)):=fv
 rw[hK] at fv
 have new:∀b ys,G' b=some (.lst ys)->H b=none/\H' b=some (.lst ys):=by
  intro b ys hy
  have hH':H' b=some (.lst ys):=g2 _ _ hy
  refine⟨?_,hH'⟩
  cases z:H b with
  |none=>rfl
  |some o=>
   have z':=yE (hh _ _ z) hH'
   subst z'
   have hm:Mx H b:=Mx.lst z
   have:fB DN G b=none:=by
    cases y:fB DN G b with
    |none=>rfl
    |some o=>
     have y':=yE (sn _ _ y) z
     subst y'
     exact (Bi y).elim
   rw[hn b hm this] at hy
   cases hy
 let G2:Hp:=λb=>match H b with |none=>H' b |some _=>G b
 have hG2:∀b ys,G' b=some (.lst ys)->G2 b=some (.lst ys):=λb ys hy=>by
  obtain⟨a1,a2⟩:=new b ys hy
  show (match H b with |none=>H' b |some _=>G b)=_
  rw[a1];exact a2
 have xt:Ext G H G2 H':=by
  refine⟨hh,λb o e=>?_,λb o e=>?_,λb mb=>?_⟩
  ·refine Kt.of ?_
   show (match H b with |none=>H' b |some _=>G b)=_
   cases z:H b with
   |none=>rw[I.sub.free z] at e;cases e
   |some u=>exact e
  ·have e:(match H b with |none=>H' b |some _=>G b)=some o:=e
   cases z:H b with
   |none=>rw[z] at e;exact Kt.of e
   |some u=>rw[z] at e;exact (I.sub.trans hh) b o e
  ·show (match H b with |none=>H' b |some _=>G b)=_
   cases z:H b with
   |none=>exact absurd z mb.1
   |some u=>rfl
 have I2:=I.ext xt
 have rp2:Rp Γ.K G2 v (.list (.list e0 :: es)):=by
  cases fv with
  |lst ha hs=>
   refine .lst (hG2 _ _ ha) (oy hG2 hs ?_)
   rw[JX,Ig];exact⟨c1,c2⟩
 have I3:=I2.set' i rp2
 show qT Γ E ta L (σ.set i (some v)) H' _
 refine⟨env.set i (.fz (.list (.list e0 :: es))),G2,B,β,I3,cM o λc β' k G3 H3 J s3 m3=>?_⟩
 have s03:af G G3:=xt.gg.trans s3
 cases c with
 |true=>
  refine qZ ?_
  rw[HA rfl] at k
  refine⟨_,G3,B,β',J,?_⟩
  cases r:m (aU L (env.set i (.fz (.list (.list e0 :: es))))) β' with
  |rt d2 fr2 β2=>rw[r] at k;exact nj.weak (r:=.rt d2 fr2 β2) k s03
  |nx _ _=>rw[r] at k;exact k.elim
  |bk _ _=>rw[r] at k;exact k.elim
  |ct _ _=>rw[r] at k;exact k.elim
  |exc _=>rw[r] at k;exact k.elim
  |bad=>rw[r] at k;exact k.elim
 |false=>
  refine qX ?_
  rw[HI Iw] at k
  have M:fm B H H3:=(hh.mov B).trans m3
  have S:=I.dropD J hb i v rfl s03 M
  cases fv with
  | @lst a xs _ ha hs=>
  cases hs with
  | @cons x0 xs0 _ _ r0 rs=>
  cases r0 with
  | @lst b ys _ hb0 ry=>
  have hH:∀b ys,G' b=some (.lst ys)->H3 b=some (.lst ys):=λb ys hy=>J.sub _ _ (s3 _ _ (hG2 b ys hy))
  have ab:b≠a:=λz=>by
   subst z
   rw[ha] at hb0
   cases hb0
   cases e0 with
   |nil=>cases ry
   |cons e e0=>
    rw[JX,Ig] at c1
    cases ry with
    |cons rr _=>cases rr with
     |lst _ _=>cases c1.1
     |tup _ _=>cases c1.1
     |_=>cases c1.1
  have hσ:(σ.set i (some (V.ref a)))[i]? =some (some (.ref a)):=HY (by rw[I.len];exact hil)
  have fr:∀{b ys},G' b=some (.lst ys)->Γ.H0 b=none/\G b=none/\B≠some b/\∀(j:Nat) (d:D),(env.set i Sl.no)[j]? =some (.ow d)->(σ.set i (some (V.ref a)))[j]?≠some (some (.ref b)):=λ{b ys} hy=>by
   obtain⟨f1,f2,f3,f4⟩:=I.fresh (new b ys hy).1
   refine⟨f1,f2,f3,λj d e=>?_⟩
   by_cases z:j=i
   ·subst z;rw[HY hil] at e;cases e
   ·rw[HS (Ne.symm z)] at e ⊢;exact f4 j d e
  refine⟨.ref a,hσ,a,.ref b :: xs0,0,.ref b,rfl,rfl,.inl (.inl (hH _ _ ha)),by unfold i4 vi;simp,.inl ⟨rfl,ys,.inl (.inl (hH _ _ hb0))⟩,?_⟩
  refine⟨b,ys,.int 0,rfl,rfl,hH _ _ hb0,by rw[ry.len];exact c3,?_⟩
  obtain⟨f1,f2,f3,f4⟩:=fr hb0
  have S1:=S.poke hb (ys:=ys ++ [.int 0]) f1 f2 f3 f4 (hH _ _ hb0)
  have ha1:upd H3 b (.lst (ys ++ [.int 0])) a=some (.lst (.ref b :: xs0)):=by rw[ak ab.symm];exact hH _ _ ha
  refine⟨.ref a,hσ,.inl ⟨rfl,_,.inl (.inl ha1)⟩,Ia _,λp hp=>?_⟩
  have S2:=S1.ext (Ext.own S1.sub (o:=.lst []) hp)
  have ha2:upd (upd H3 b (.lst (ys ++ [.int 0]))) p (.lst []) a=some (.lst (.ref b :: xs0)):=by rw[ak (ax ha1 hp)];exact ha1
  refine⟨a,.ref b :: xs0,.ref p,rfl,rfl,ha2,by rw[HX,rs.len];exact c4,?_⟩
  obtain⟨f1,f2,f3,f4⟩:=fr ha
  exact⟨env.set i .no,G,B,β',S2.poke hb f1 f2 f3 f4 ha2,k⟩
end
end L2
section
namespace L2.ST
open PySem PySem.W PyProof.Rows
section
variable {prog:Program}{w:World}{A:Around}{E:Value->Shared->Prop}{s:Shared}
def sV {M:Model}{h:Heap}{b:Addr}{o:Obj}(hb:h.get? b=some o)(hc:o.cls=.type "list"):Looks M h (typeOf (.ref b)) (.type "list"):=λA Q E s k q=>by
 have e:=k _ _ hb
 refine wpAny_typeOf_ref e ?_
 rw[hc];exact q
def ER {l b:Addr}{o o2:Obj}{items items2:Array Value}{n n2:Nat}{ns ms:List Int}{Q:Bool->Shared->Prop}(ho:s.heap.get? l=some o)(hc:o.cls=.type "list")(hd:o.data=.seq items n)(ho2:s.heap.get? b=some o2)(hc2:o2.cls=.type "list")(hd2:o2.data=.seq items2 n2)(hi:IntsAre items.toList ns)(hj:IntsAre items2.toList ms)
  (hu:A.units < cLine) (h:Q (HM.lexLt ns ms) s):wpAny (model prog w) A (keyLt' oneType' (.ref l) (.ref b)) Q E s:=by
 obtain⟨cls,dd,data,sl⟩:=o
 obtain⟨cls2,dd2,data2,sl2⟩:=o2
 simp only at hc hd hc2 hd2
 subst hc hd hc2 hd2
 rw[keyLt'_oneType,oneLt'_eq]
 simp only[IM]
 refine Hv (wpAny_cRoomFor hu ?_)
 refine Hv (wpAny_callSpecialIfBound?_slot (T:="list") ⟨_,ho,rfl⟩ PySem.F.slot_list_lt (call_meets PySem.F.slot_list_lt ⟨_,ho,rfl⟩ PySem.F.entry_list_lt (PySem.F.args_list_lt_2 _ _) (HM.Ab l b items items2 n n2 dd dd2 sl sl2 ns ms hi hj) ⟨ho,ho2,?_⟩))
 exact IZ h
def tj {a:Addr}{vs:List Value}{rs:List (List Int)}{n:Nat}{P:PySem.Fin->Shared->Prop}(ho:s.heap.get? a=some (seqObj "list" vs.toArray n))(hu:A.units < cLine)(hps:mh s.heap vs rs)(hna:∀v,v∈vs->v≠.ref a)(hasc:∀k r q,rs[k]? =some q->rs[k + 1]? =some r->HM.lexLt r q=false)(hz:vs.length<=sizeLine)
  (h:∀(h':Heap) (c:Nat),(∀b o,b≠a->s.heap.get? b=some o->h'.get? b=some o)->h'.get? a=some (seqObj "list" vs.toArray c)->P (.done (.ret .none)) {s with heap:=h'}) :
  wpAny (model prog w) A (Builtin.«list.sort» ⟨[.ref a],[]⟩) P E s:=by
 have ha:a < s.heap.objs.size:=HJ ho
 obtain⟨e1,ho1⟩:∃e1,(s.heap.update a (Obj.mapSeq λ_=>(#[]:Array Value))).get? a=some (seqObj "list" #[] e1):=⟨_,get?_update_seq ho λ_=>#[]⟩
 generalize hH1:(s.heap.update a (Obj.mapSeq λ_=>(#[]:Array Value)))=H1 at ho1
 have sb1:Heap.SameBut a s.heap H1:=by rw[<-hH1];exact Heap.SameBut.update ..
 have kp2:∀b o,H1.get? b=some o->((H1.push (seqObj "tuple" vs.toArray 0)).push (seqObj "list" #[] 0)).get? b=some o:=λb o e=>Hw _ (Hw _ e)
 generalize hH2:((H1.push (seqObj "tuple" vs.toArray 0)).push (seqObj "list" #[] 0))=H2 at kp2
 have kp:∀b o,b≠a->s.heap.get? b=some o->H2.get? b=some o:=λb o hb e=>kp2 b o ((sb1.2 b hb).trans e)
 have ho2:=kp2 _ _ ho1
 have hps2:mh H2 vs rs:=⟨hps.1,λi v p h1 h2=>by
  obtain⟨b,o,it,k,e,hb,hc,hd,r⟩:=hps.2 i v p h1 h2
  exact⟨b,o,it,k,e,kp b o (λz=>hna v (HN h1) (by rw[e,z])) hb,hc,hd,r⟩⟩
 rw[list_sort_plain]
 refine Hv (listItems_at ho rfl (Hv (listUpdate_at ho rfl ?_ (by simpa using hz) (Ia _))))
 rw[hH1]
 refine Hv (seqEpoch_at (s:={s with heap:=H1}) ho1 rfl (Hv (wpAny_newTuple ?_ (by simpa using hz))))
 refine Hv (wpAny_newList ?_ (Ia _))
 refine IX ?_
 show wpAny (model prog w) A _ P E {s with heap:=(H1.push (seqObj "tuple" vs.toArray 0)).push (seqObj "list" #[] 0)}
 rw[hH2]
 have fin:∀(st:SortSt),(arrOf st).map (·.2)=List.toArray vs->failedOf st=none->
   wpAny (model prog w) A (do
    let sorted:=(arrOf st).map (·.2)
    let touched:=(<-seqEpoch a) != e1
    Builtin.List.listUpdate (.ref a) λ_=>sorted
    if let some e:=failedOf st then rule "list.sort.comparison-raised";throw e
    if touched then rule "list.sort.modified";raiseError "ValueError" "list modified during sort"
    ret .none) P E {s with heap:=H2}:=λst hout hf=>by
  dsimp only
  rw[hout]
  refine Hv (seqEpoch_at (s:={s with heap:=H2}) ho2 rfl ?_)
  refine Hv (listUpdate_at (s:={s with heap:=H2}) ho2 rfl ?_ (Ia _) (Nat.le_succ_of_le (by simpa using hz)))
  rw[hf]
  simp only[bne_self_eq_false,HQ,Im]
  obtain⟨c2,hc2⟩:∃c2,(H2.update a (Obj.mapSeq λ_=>List.toArray vs)).get? a=some (seqObj "list" (List.toArray vs) c2):=⟨_,get?_update_seq ho2 λ_=>List.toArray vs⟩
  exact HE (h _ c2 (λb o hb e=>((Heap.SameBut.update H2 a _).2 b hb).trans (kp b o hb e)) hc2)
 have hout:∀l:List Value,(List.range l.length).map (λi=>l.getD i Value.none)=l:=λl=>by
  refine List.ext_getElem (by simp) λi h1 h2=>by simp[h2]
 by_cases h2:vs.length < 2
 ·have h2':vs.toArray.size < 2:=by simpa using h2
  dsimp only
  rw[HA h2',HA h2']
  refine Hv (HE ?_)
  rw[StateT.run_pure]
  refine Hv (HE ?_)
  refine fin (SortSt.mk' general' (vs.toArray.zip vs.toArray) #[] 7 none) ?_ rfl
  have:∀{l:List Value},l.length < 2->((l.toArray.zip l.toArray).map (·.2))=List.toArray l:=λ{l} hl=>by
   match l,hl with
   | [],_=>simp
   | [x],_=>simp
  exact this h2
 ·have h2':¬vs.toArray.size < 2:=by simpa using h2
  dsimp only
  rw[HI h2',HI h2']
  refine Hv (kas_kind (s:={s with heap:=H2}) (T:=.type "list") (by omega) (λv hv=>?_) (by decide) (by decide) ?_)
  ·obtain⟨i,hi,e⟩:=List.getElem_of_mem hv
   have hir:i < rs.length:=by rw[<-hps.1];exact hi
   obtain⟨b,o,it,k,rfl,hb,hc,_⟩:=hps2.2 i v rs[i] (by rw[Hu hi,e]) (Hu hir)
   exact sV hb hc
  ·refine Hv (Jc (L2.SO.xR (s:={s with heap:=H2}) (κ:=oneType') (vs:=vs) (Q:=λst s'=>s'={s with heap:=H2}/\arrOf st=(List.toArray (List.range vs.length)).map (kas_item (vs.toArray.zip vs.toArray))/\failedOf st=none) (by omega) (λk C hk1 hk hC=>?_) λst a2 a3=>⟨rfl,a2,a3⟩) ?_ λ_ _ x=>x)
   ·unfold kas_ask
    have hj:k - 1 < vs.length:=by omega
    have hi':k < rs.length:=by rw[<-hps.1];exact hk
    have hj':k - 1 < rs.length:=by omega
    obtain⟨b1,o1,it1,n1,eb1,hb1,hc1,hd1,hr1⟩:=hps2.2 k vs[k] rs[k] (Hu hk) (Hu hi')
    obtain⟨b2,o2,it2,n2,eb2,hb2,hc2,hd2,hr2⟩:=hps2.2 (k - 1) vs[k - 1] rs[k - 1] (Hu hj) (Hu hj')
    have e1:vs.getD k Value.none=.ref b1:=by rw[<-eb1];simp[hk]
    have e2:vs.getD (k - 1) Value.none=.ref b2:=by rw[<-eb2];simp[hj]
    rw[e1,e2]
    refine ER (s:={s with heap:=H2}) hb1 hc1 hd1 hb2 hc2 hd2 hr1 hr2 hu ?_
    have:HM.lexLt rs[k] rs[k - 1]=false:=hasc (k - 1) _ _ (Hu hj') (by rw[show k - 1 + 1=k by omega];exact Hu hi')
    rw[this];exact hC
   ·rintro⟨⟨⟩,st⟩ s' ⟨rfl,har,hf⟩
    exact fin st ((kat_snds rfl har).trans (by rw[show (List.toArray (List.range vs.length)).toList=List.range vs.length by simp,hout])) hf
def qJ {v:Value}{vs:List Value}{rs:List (List Int)}{Q:Value->Shared->Prop}(hu:A.units + 5 < cLine)(hps:mh s.heap vs rs)(hasc:∀k r q,rs[k]? =some q->rs[k + 1]? =some r->HM.lexLt r q=false)(hz:vs.length<=sizeLine)
  (hcol:∀(Q':List Value->Shared->Prop),(∀h' tk,(∀b o,s.heap.get? b=some o->h'.get? b=some o)->Q' vs {s with heap:=h',toks:=tk})->wpAny (model prog w) A.in1 (collect v) Q' (λe s'=>E e s') s)
  (h:∀(h1 h':Heap) (tk:Nat) (D:Addr) (c:Nat),(∀b o,s.heap.get? b=some o->h1.get? b=some o)->D=h1.objs.size->(∀b o,h1.get? b=some o->h'.get? b=some o)->h'.get? D=some (seqObj "list" vs.toArray c)->Q (.ref D) {s with heap:=h',toks:=tk}):wpAny (model prog w) A (call (.builtin "sorted") [v]) Q E s:=by
 refine Calls.call_function_entry kind_sorted plain_sorted entry_sorted (args_sorted1 _) ?_
 unfold Builtin.«sorted»
 refine Hv (m:=checkCount "sorted" 1 1 ([v]:List Value).length) (HE ?_)
 refine Hv (hcol _ λh1 tk1 k1=>?_)
 refine Hv (wpAny_newList ?_ hz)
 show wpAny _ _ _ _ _ {s with heap:=h1.push (seqObj "list" vs.toArray 0),toks:=tk1}
 have hoL:(h1.push (seqObj "list" vs.toArray 0)).get? h1.objs.size=some (seqObj "list" vs.toArray 0):=HU _ rfl
 have kp:∀b o,s.heap.get? b=some o->(h1.push (seqObj "list" vs.toArray 0)).get? b=some o:=λb o e=>Hw _ (k1 b o e)
 have hp1:mh (h1.push (seqObj "list" vs.toArray 0)) vs rs:=⟨hps.1,λi v p a b=>by
  obtain⟨c,o,it,n,e,ho,r⟩:=hps.2 i v p a b
  exact⟨c,o,it,n,e,kp _ _ ho,r⟩⟩
 have hna:∀v,v∈vs->v≠.ref h1.objs.size:=λv hv z=>by
  obtain⟨i,hi,e⟩:=List.getElem_of_mem hv
  have hir:i < rs.length:=by rw[<-hps.1];exact hi
  obtain⟨c,o,it,n,e2,ho,r⟩:=hps.2 i v rs[i] (by rw[Hu hi,e]) (Hu hir)
  rw[e2] at z
  cases z
  exact Iv _ (HJ (k1 _ _ ho))
 refine Hv (IX (JR slot_list_sort ⟨_,hoL,rfl⟩ entry_list_sort ?_ (args_list_sort _)))
 refine tj (s:={s with heap:=h1.push (seqObj "list" vs.toArray 0),toks:=tk1}) hoL (by show A.units + 1 + 1 < cLine;omega) hp1 hna hasc hz λh' c hk ho=>?_
 refine⟨_,rfl,HE ⟨_,rfl,?_⟩⟩
 exact h h1 h' tk1 h1.objs.size c k1 rfl (λb o e=>hk b o (Ih (HJ e)) (Hw _ e)) ho
end
end L2.ST
namespace L2
open PySem PyProof.Rows
section
variable {X:Cx}{K:Frag}{σ:St}{G H:Hp}{s:Shared}{E:XK}
def zm (K:Frag):List V->Hp->VK->Prop:=λxs H Q=>∃a vs rs,xs= [.ref a]/\dJ K H a vs/\yu K H vs rs/\(∀k r q,rs[k]? =some q->rs[k + 1]? =some r->HM.lexLt r q=false)/\∀l,H l=none->Q (.ref l) (upd H l (.lst vs))
def sX (hu:X.A.units + 100 < cLine):cf X (.builtin "sorted") (zm X.K):=by
 intro pins s σ H xs us Q I r h
 obtain⟨a,vs,rs,rfl,hq,hp,hasc,q⟩:=h
 obtain⟨u,rfl,rx⟩:=vals1 r
 cases rx
 obtain⟨its,rv,pl,hz⟩:=I.list hq
 have hz':its.length<=sizeLine:=by rw[<-rv.length];exact hz
 refine ST.qJ (v:=.ref a) (by omega) (vJ I rv hp) hasc hz' (λQ' hQ'=>collect_list pl.isList ?_ hz') λh1 h' tk D c k1 eD k2 ho=>?_
 ·exact hQ' _ s.toks λb o e=>by
   rw[Heap.get?_update_ne _ _ _ _ (Ih (HJ e)),Heap.get?_push_ne _ _ _ (Ih (HJ e))];exact e
 ·have I1:Inv X pins σ H {s with heap:=h1,toks:=tk}:=I.kept k1
  have hf:H D=none:=by rw[eD];exact I1.hok.fresh (Hy _)
  have I2:Inv X pins σ (upd H D (.lst vs)) {s with heap:=h',toks:=tk}:=I1.laid (t':=tk) k2 (by rw[eD];exact Hy _) (show bL X.prog X.w _ h' _ (.lst vs) from⟨hz,its,c,rv,ho⟩)
  exact⟨.ref D,_,I2,rfl,q D hf⟩
def wz:List (List Int)->Bool
 |r :: q :: rs=> !HM.lexLt q r && wz (q :: rs)
 |_=>true
theorem u4:∀{rs:List (List Int)},wz rs=true->∀k r q,rs[k]? =some q->rs[k + 1]? =some r->HM.lexLt r q=false
 | [],_,k,r,q,h1,_=>by simp at h1
 | [x],_,k,r,q,_,h2=>by simp at h2
 |x :: y :: rs,h,k,r,q,h1,h2=>by
  unfold wz at h
  simp only[Ig,Jz] at h
  cases k with
  |zero=>simp at h1 h2;subst h1 h2;exact h.1
  |succ k=>exact u4 h.2 k r q (by simpa using h1) (by simpa using h2)
def lL:D->Option D
 | .list ds=>match k6 ds with
  |some rs=>if wz rs=true then some (.list ds) else none
  |none=>none
 |_=>none
theorem BK:wU K (λx=>zm K [x]) lL .w:=by
 intro B G H x dx d Q s hB bx e k
 cases dx with
 |list ds=>
  unfold lL at e
  dsimp only at e
  cases e1:k6 ds with
  |none=>rw[e1] at e;cases e
  |some rs=>
   rw[e1] at e
   dsimp only at e
   split at e
   ·rename_i hz
    cases e
    obtain⟨p,xs,rfl,hq,r⟩:=bx.list s
    refine⟨p,xs,rs,rfl,.inl hq,(yU r e1 s).1,u4 hz,λl hl=>?_⟩
    have hh:af H (upd H l (.lst xs)):=af.new hl
    refine k _ _ _ (Ext.tups s hh) ⟨l,rfl,hl,?_,xs,aq,r.mono (Ext.tups s hh).gg⟩
    unfold fB
    rw[s.free hl,aq]
    exact HI λy=>y
   ·cases e
 |_=>cases e
end
end L2
end
namespace RM
open PySem L2
def dU (dt:List D->FR):SF:=(jc ([0] ++ []) (ng (jt (aA dt (aa (gv 0) ao))))
 Et
 kL)
def pU (bb:List D->FR):SF:=(bD (f1 (f1 (a7 1 [0,2] (.nm 0) (bZ (gv 1)) ni (aA bb (aa (gv 1) (aa (gv 0) (aa (gv 2) ao))))) (b8 λbs=>bs.any id)) qG))
def bY (aM kR:List D->FR):SF:=(aH (jc ([] ++ ([] ++ [])) (gf (f2 (gv 3) (f2 (gv 0) (cst (.int 0)) dz) (de false)))
 (jd 2)
 kL)
 (aH (cH (.two 4 5) [2] (EW (gv 2))
 (jc ([0] ++ ([5] ++ ([3] ++ []))) (jt (aA kR (aa (gv 0) (aa (gv 5) (aa (gv 3) ao)))))
 (aH (bF 6 ([0] ++ ([1] ++ ((((([] ++ []) ++ []) ++ (([] ++ ([3] ++ [])) ++ [])) ++ (([] ++ ([] ++ [])) ++ [])) ++ (([] ++ []) ++ [])))) (aA aM (aa (gv 0) (aa (gv 1) (aa (f2 (f2 (AN (gv 2) (λ_ β=>.ok none β) (A1 (gv 4))) (a9 (aa (f2 (gv 5) (a9 (aa (gv 3) ao)) cV) ao)) cV) (AN (gv 2) (A1 (f2 (gv 4) (cst (.int 1)) bJ)) (λ_ β=>.ok none β)) cV) (aa (f2 (gv 3) (cst (.int 1)) bJ) ao))))))
 (jc [] (tN (gv 6) true)
 (jd 6)
 kL))
 kL))
 (aH (jc ([] ++ []) (gf (f2 (f1 (gv 2) dc) (gv 1) (de false)))
 (bD (cst .none))
 kL)
 (bD (aA aM (aa (gv 0) (aa (gv 1) (aa (f2 (gv 2) (a9 (aa (a9 (aa (gv 3) ao)) ao)) cV) (aa (f2 (gv 3) (cst (.int 1)) bJ) ao)))))))))
def kc (aW aM cA:List D->FR):SF:=(aH (oh ([0] ++ []) (aA aW (aa (gv 0) ao)))
 (bD (aA aM (aa (gv 0) (aa (f1 (aA cA (aa (gv 0) ao)) dc) (aa (a9 ao) (aa (cst (.int 0)) ao)))))))
def fW (aZ:List D->FR):SF:=(aH (bF 1 ([] ++ []) (a9 (aa (a9 ao) ao)))
 (aH (cH (.nm 2) ([] ++ []) (iA (f2 (gv 0) (cst (.int 0)) dz))
 (aH (jG 3 [] (a9 ao))
 (aH (cH (.nm 4) [1] (bZ (gv 1))
 (jc (([] ++ [0,2]) ++ []) (gf (f2 (a7 1 [0,2] (.nm 0) (bZ (gv 4)) (ng (jt (aA aZ (aa (gv 1) (aa (gv 0) (aa (gv 2) ao)))))) (gv 0)) (a9 ao) (de false)))
 (ll 3 ([] ++ ([2] ++ [])) (f2 (gv 4) (a9 (aa (gv 2) ao)) cV))
 kL))
 (bF 1 ([] ++ []) (f2 (gv 1) (gv 3) cV)))))
 (bD (f1 (a7 1 [] (.nm 0) (bZ (gv 1)) ni (f1 (gv 0) dc)) (o5 zM)))))
noncomputable def eM (cU cn aZ:List D->FR):SF:=(aH (jc ([] ++ (([] ++ []) ++ ([] ++ ([1] ++ [])))) (m8 (ng (jt (f1 (gv 0) (gS "list")))) (m8 (gf (f2 (gv 0) (f1 (gv 0) lL) (de true))) (gf (f2 (f1 (gv 0) dc) (aA cU (aa (gv 1) ao)) (de true)))))
 (bD (cst (.bool false)))
 kL)
 (aH (bF 2 [] (a9 ao))
 (aH (cH (.nm 3) [0] (bZ (gv 0))
 (aH (jc ([] ++ (([] ++ []) ++ ([] ++ []))) (m8 (ng (jt (f1 (gv 3) (gS "list")))) (m8 (gf (f2 (gv 3) (a9 ao) (de false))) (ng (jt (f1 (a7 1 [] (.nm 0) (bZ (gv 3)) ni (aA cn (aa (gv 0) ao))) (b8 λbs=>bs.all id))))))
 (bD (cst (.bool false)))
 kL)
 (aH (cH (.nm 4) [3] (bZ (gv 3))
 (jc (([] ++ [1,4]) ++ []) (gf (f2 (a7 1 [1,4] (.nm 0) (bZ (gv 3)) (jt (aA aZ (aa (gv 1) (aa (gv 2) (aa (gv 0) ao))))) (gv 0)) (a9 ao) (de true)))
 (bD (cst (.bool false)))
 kL))
 (aH (jc ([] ++ []) (gf (f2 (gv 3) (f1 (gv 3) iR) (de true)))
 (bD (cst (.bool false)))
 kL)
 (bF 2 ([] ++ []) (f2 (gv 2) (gv 3) cV))))))
 (bD (f2 (f1 (gv 2) iR) (f1 (f2 (gv 1) (cst (.int 0)) dz) c5) (de false))))))
def uZ (dm fq bS:List D->FR)(ck:List D->Int->FB):SF:=(aH (cH (.nm 1) ([] ++ ([] ++ [])) (iA (f2 (cst (.int 1)) (f2 (f1 (gv 0) dc) (cst (.int 4)) (wV λi j=>.int (if j < i then j else i))) (wV λi j=>.int (if j > i then j else i))))
 (aH (bF 2 ([0] ++ ([1] ++ [])) (Fi (qz dm (aa (gv 0) (aa (gv 1) ao))) ck 8))
 (nO 2 3 fq ([3] ++ ([2] ++ [])) (ng (jt (aA bS (aa (gv 3) (aa (gv 2) ao)))))
 (bD (cst (.bool false)))
 (jc (([2] ++ []) ++ ([2] ++ [])) (ng (jt (aA bS (aa (aA fq (aa (gv 2) ao)) (aa (gv 2) ao)))))
 (bD (cst (.bool false)))
 kL))))
 (bD (cst (.bool true))))
end RM
namespace RQ
open PySem L2 RM
def top (i:Nat):Stmt:=PySem.Challenge.pw_rowsorder_k17_chains_told.main.body.getD i (.Pass ⟨0,0,0,0⟩)
section
variable {P:Program}{w:World}{K:Frag}{mg:Str->Option Value}{base:Heap}{ca:Str->Addr}
abbrev ij:Stmt:=top 2
def rz:aF ["thing"] ["thing"] (ar ij):=⟨rfl,rfl,rfl,by decide +kernel,rfl,by decide +kernel,by decide +kernel⟩
def oZ {f:Addr}{fd:FuncData}(F:je K mg "is_whole" ij ["thing"] f fd)(B:jD mg):cY P w K mg base ca "is_whole" ["thing"] 1 (bh 1 1 (mO)):=
 ⟨⟨f,fd,F.mg,F.F.kp,F.b,aX (N:=["thing"]) (k:=0) F.F rz λcdv A outer s H G E hr=>
  (aw (aQ (gm (gW "int" (by decide) rfl rfl B.isinstance rfl B.int (by decide +kernel) (ah 0)) (iM (o9 (gW "bool" (by decide) rfl rfl B.isinstance rfl B.bool (by decide +kernel) (ah 0)))) (λ_ _=>rfl))))⟩,λds h=>aP ds h⟩
abbrev ic:Stmt:=top 3
def sy:aF ["thing","bound"] ["thing","bound"] (ar ic):=⟨rfl,rfl,rfl,by decide +kernel,rfl,by decide +kernel,by decide +kernel⟩
def oQ {f:Addr}{fd:FuncData}{bu:List D->FR}(F:je K mg "is_below" ic ["thing","bound"] f fd)(B:jD mg)(dk:cY P w K mg base ca "is_whole" ["thing"] 1 bu):cY P w K mg base ca "is_below" ["thing","bound"] 2 (bh 2 2 (mq bu)):=
 ⟨⟨f,fd,F.mg,F.F.kp,F.b,aX (N:=["thing","bound"]) (k:=1) F.F sy λcdv A outer s H G E hr=>
  (aw (aQ (gm (aN dk (hr.mono (by decide)) bq rfl rfl (ae (ay 0 rfl) au)) (iM (qS zg B5 CN E6 az (ah 0) (ah 1))) (λ_ _=>rfl))))⟩,λds h=>aP ds h⟩
abbrev iZ:Stmt:=top 4
def tG:aF ["thing"] ["thing"] (ar iZ):=⟨rfl,rfl,rfl,by decide +kernel,rfl,by decide +kernel,by decide +kernel⟩
def se {f:Addr}{fd:FuncData}{bu:List D->FR}(F:je K mg "is_many" iZ ["thing"] f fd)(B:jD mg)(dk:cY P w K mg base ca "is_whole" ["thing"] 1 bu){nt:Tok}(gq:mg "MOST_THINGS"=some (.int 8 nt)):cY P w K mg base ca "is_many" ["thing"] 2 (bh 1 1 (oo bu)):=
 ⟨⟨f,fd,F.mg,F.F.kp,F.b,aX (N:=["thing"]) (k:=1) F.F tG λcdv A outer s H G E hr=>
  (aw (aQ (gm (aN dk (hr.mono (by decide)) bq rfl rfl (ae (ay 0 rfl) au)) (iM (qS zg zg CN CN az (ah 0) (AQ (by rfl) gq))) (λ_ _=>rfl))))⟩,λds h=>aP ds h⟩
abbrev i3:Stmt:=top 5
def tS:aF ["thing","many"] ["thing","many"] (ar i3):=⟨rfl,rfl,rfl,by decide +kernel,rfl,by decide +kernel,by decide +kernel⟩
def rA {f:Addr}{fd:FuncData}{cO:List D->FR}(F:je K mg "is_pair" i3 ["thing","many"] f fd)(B:jD mg)(ie:cY P w K mg base ca "is_below" ["thing","bound"] 2 cO):cY P w K mg base ca "is_pair" ["thing","many"] 3 (bh 2 2 (oj cO)):=
 ⟨⟨f,fd,F.mg,F.F.kp,F.b,aX (N:=["thing","many"]) (k:=2) F.F tS λcdv A outer s H G E hr=>
  (av (cZ (zW.t (lZ (dY (cC rfl (gW "tuple" (by decide) rfl rfl B.isinstance rfl B.tuple (by decide +kernel) (ah 0)))) (l6 (cB (gp hr.units) gC (aR b9 iU rfl B.len IY (ah 0)) az (bG _))) (λ_ _=>rfl)))
  (aw (aQ iP))
  bQ)
  (aw (aQ (gm (aN ie (hr.mono (by decide)) bq rfl rfl (ae (cR bM gG (ah 0) az (λ_ _=>rfl)) (ae (ay 1 rfl) au))) (iM (aN ie (hr.mono (by decide)) bq rfl rfl (ae (cR bM gG (ah 0) az (λ_ _=>rfl)) (ae (ay 1 rfl) au)))) (λ_ _=>rfl)))))⟩,λds h=>aP ds h⟩
abbrev c8:Stmt:=top 6
def nr:aF ["many"] ["many"] (ar c8):=⟨rfl,rfl,rfl,by decide +kernel,rfl,by decide +kernel,by decide +kernel⟩
def mn {f:Addr}{fd:FuncData}(F:je K mg "every_pair" c8 ["many"] f fd)(B:jD mg):cY P w K mg base ca "every_pair" ["many"] 1 (bh 1 1 (pd)):=
 ⟨⟨f,fd,F.mg,F.F.kp,F.b,aX (N:=["many"]) (k:=0) F.F nr λcdv A outer s H G E hr=>
  (aw (pW (dF (NB:=["number","many"]) (own:=1) (ixs:=[0]) [] rfl (fA (by kernel_rfl)) (λ_ _=>rfl) (oB rfl B.range (a8 iI jx (ah 0) (ah 0))) (λH0 G0 par br bx C ex s3 H3 pn=>(c7 (i:=0) (show (["number","many"]:List Str).Nodup by decide +kernel))) (λH0 G0 par br bx C ex s3 H3 pn hB1=>fX) (λH0 G0 par br bx C ex s3 H3 pn hB1=>(iY (ae (a8 jQ AD (ah 0) (ah 1)) (ae (a8 jq oJ (ah 0) (ah 1)) au)))))))⟩,λds h=>aP ds h⟩
abbrev iu:Stmt:=top 13
def rG:aF ["pairs"] ["pairs"] (ar iu):=⟨rfl,rfl,rfl,by decide +kernel,rfl,by decide +kernel,by decide +kernel⟩
def pO {f:Addr}{fd:FuncData}(F:je K mg "has_ring" iu ["pairs"] f fd)(B:jD mg):cY P w K mg base ca "has_ring" ["pairs"] 1 (bh 1 1 (mQ)):=
 ⟨⟨f,fd,F.mg,F.F.kp,F.b,aX (N:=["pairs"]) (k:=0) F.F rG λcdv A outer s H G E hr=>
  (aw (aQ (aR (rq rfl) km rfl B.any (by decide +kernel) (dF (NB:=["a","b"]) (own:=2) (ixs:=[]) [] rfl (fA (by kernel_rfl)) (λ_ _=>rfl) (oP rfl (ah 0)) (λH0 G0 par br bx C ex s3 H3 pn=>(qh (i:=0) (j:=1) (show (["a","b"]:List Str).Nodup by decide +kernel))) (λH0 G0 par br bx C ex s3 H3 pn hB1=>fX) (λH0 G0 par br bx C ex s3 H3 pn hB1=>(g7 (gj hr.units) gC (ah 0) (ah 1) (bG _)))))))⟩,λds h=>aP ds h⟩
abbrev hU:Stmt:=top 11
def iG:aF ["thing","many","pairs"] ["thing"] (ar hU):=⟨rfl,rfl,rfl,by decide +kernel,rfl,by decide +kernel,by decide +kernel⟩
def pZ {f:Addr}{fd:FuncData}{e8 fj gy dh:List D->FR}(F:je K mg "is_order" hU ["thing"] f fd)(B:jD mg)(kE:cY P w K mg base ca "is_many" ["thing"] 2 e8)(kO:cY P w K mg base ca "is_pair" ["thing","many"] 3 fj)(mJ:cY P w K mg base ca "closed" ["many","pairs"] 3 gy)(jy:cY P w K mg base ca "has_ring" ["pairs"] 1 dh):cY P w K mg base ca "is_order" ["thing"] 4 (bh 3 1 (fo e8 fj gy dh)):=
 ⟨⟨f,fd,F.mg,F.F.kp,F.b,aX (N:=["thing","many","pairs"]) (k:=3) F.F iG λcdv A outer s H G E hr=>
  (av (cZ (zW.t (lZ (dY (cC rfl (gW "tuple" (by decide) rfl rfl B.isinstance rfl B.tuple (by decide +kernel) (ah 0)))) (l6 (cB (gp hr.units) gC (aR b9 iU rfl B.len IY (ah 0)) az (bG _))) (λ_ _=>rfl)))
  (aw (aQ iP))
  bQ)
  (av (bg (i:=1) (cR bM gG (ah 0) az (λ_ _=>rfl)) iG.nd)
  (av (bg (i:=2) (cR bM gG (ah 0) az (λ_ _=>rfl)) iG.nd)
  (av (cZ (zW.t (lZ (dY (cC rfl (aN kE (hr.mono (by decide)) bq rfl rfl (ae (ay 1 rfl) au)))) (l6 (dY (cC rfl (gW "tuple" (by decide) rfl rfl B.isinstance rfl B.tuple (by decide +kernel) (ah 2))))) (λ_ _=>rfl)))
  (aw (aQ iP))
  bQ)
  (av (cZ (dY (cC rfl (aR (mz rfl) km rfl B.all (by decide +kernel) (dF (NB:=["pair","many"]) (own:=1) (ixs:=[1]) [1] rfl (fA (by kernel_rfl)) (λ_ _=>rfl) (oP rfl (ah 2)) (λH0 G0 par br bx C ex s3 H3 pn=>(c7 (i:=0) (show (["pair","many"]:List Str).Nodup by decide +kernel))) (λH0 G0 par br bx C ex s3 H3 pn hB1=>fX) (λH0 G0 par br bx C ex s3 H3 pn hB1=>(aN kO (hr.mono (by decide)) n5 rfl rfl (ae (ay 0 (hB1 0 (by decide))) (ae (ay 1 (hB1 1 (by decide))) au))))))))
  (aw (aQ iP))
  bQ)
  (aw (aQ (gm (g7 (gj hr.units) gC (ah 2) (aN mJ (hr.mono (by decide)) bq rfl rfl (ae (ay 1 rfl) (ae (ay 2 rfl) au))) (bG _)) (iM (o9 (aN jy (hr.mono (by decide)) bq rfl rfl (ae (ay 2 rfl) au)))) (λ_ _=>rfl)))))))))⟩,λds h=>aP ds h⟩
abbrev eJ:Stmt:=top 14
def nH:aF ["thing"] ["thing"] (ar eJ):=⟨rfl,rfl,rfl,by decide +kernel,rfl,by decide +kernel,by decide +kernel⟩
def mC {f:Addr}{fd:FuncData}{dt:List D->FR}(F:je K mg "need_order" eJ ["thing"] f fd)(B:jD mg)(js:cY P w K mg base ca "is_order" ["thing"] 4 dt):cY P w K mg base ca "need_order" ["thing"] 5 (bh 1 1 (dU dt)):=
 ⟨⟨f,fd,F.mg,F.F.kp,F.b,aX (N:=["thing"]) (k:=4) F.F nH λcdv A outer s H G E hr=>
  (aw (cZ (dY (cC rfl (aN js (hr.mono (by decide)) bq rfl rfl (ae (ay 0 rfl) au))))
  (aw DS)
  bQ))⟩,λds h=>aP ds h⟩
abbrev fR:Stmt:=top 15
def pA:aF ["order","a","b"] ["order","a","b"] (ar fR):=⟨rfl,rfl,rfl,by decide +kernel,rfl,by decide +kernel,by decide +kernel⟩
def nz {f:Addr}{fd:FuncData}(F:je K mg "are_apart" fR ["order","a","b"] f fd)(B:jD mg):cY P w K mg base ca "are_apart" ["order","a","b"] 1 (bh 3 3 (kW)):=
 ⟨⟨f,fd,F.mg,F.F.kp,F.b,aX (N:=["order","a","b"]) (k:=0) F.F pA λcdv A outer s H G E hr=>
  (aw (aQ (gm (g7 (gp hr.units) gC (ah 1) (ah 2) (bG _)) (gm (g7 (i6 hr.u1) AG (iY (ae (ay 1 rfl) (ae (ay 2 rfl) au))) (cR bM gG (ah 0) az (λ_ _=>rfl)) (by with_unfolding_all rfl)) (iM (g7 (i6 hr.u1) AG (iY (ae (ay 2 rfl) (ae (ay 1 rfl) au))) (cR bM gG (ah 0) az (λ_ _=>rfl)) (by with_unfolding_all rfl))) (λ_ _=>rfl)) (λ_ _=>rfl))))⟩,λds h=>aP ds h⟩
abbrev cI:Stmt:=top 18
def cw:aF ["order","groups","grown","group","thing"] ["order","groups"] (ar cI):=⟨rfl,rfl,rfl,by decide +kernel,rfl,by decide +kernel,by decide +kernel⟩
def j7 {f:Addr}{fd:FuncData}{bb:List D->FR}(F:je K mg "longer_groups" cI ["order","groups"] f fd)(B:jD mg)(cT:cY P w K mg base ca "are_apart" ["order","a","b"] 1 bb):cY P w K mg base ca "longer_groups" ["order","groups"] 2 (bh 5 2 (cK bb)):=
 ⟨⟨f,fd,F.mg,F.F.kp,F.b,aX (N:=["order","groups","grown","group","thing"]) (k:=1) F.F cw λcdv A outer s H G E hr=>
  (av (kn (i:=2) (bp au) cw.nd)
  (av (eB PassesOwn.leaving rfl (zq rfl (ay 1 rfl)) (c7 (i:=3) cw.nd)
  (aw (eB PassesOwn.leaving rfl (BX rfl B.range (a8 fI fC (cR bM gG (ah 3) (B7 y2 Cp az) (λ_ _=>rfl)) az) (cR bM gG (ah 0) az (λ_ _=>rfl))) (c7 (i:=4) cw.nd)
  (aw (cZ (cC rfl (aR (mz rfl) km rfl B.all (by decide +kernel) (dF (NB:=["one","order","thing"]) (own:=1) (ixs:=[0,4]) [0,4] rfl (fA (by kernel_rfl)) (λ_ _=>rfl) (oP rfl (ah 3)) (λH0 G0 par br bx C ex s3 H3 pn=>(c7 (i:=0) (show (["one","order","thing"]:List Str).Nodup by decide +kernel))) (λH0 G0 par br bx C ex s3 H3 pn hB1=>fX) (λH0 G0 par br bx C ex s3 H3 pn hB1=>(aN cT (hr.mono (by decide)) n5 rfl rfl (ae (ay 1 (hB1 1 (by decide))) (ae (ay 0 (hB1 0 (by decide))) (ae (ay 2 (hB1 2 (by decide))) au))))))))
  (aw (kq 2 (λ_=>rfl) (SE.wv (a8 dG jm (ah 3) (bp (ae (ay 4 rfl) au))))))
  bQ)))))
  (aw (lI 2))))⟩,λds h=>aP ds h⟩
abbrev eQ:Stmt:=top 17
def cD:aF ["order","groups","longer"] ["order"] (ar eQ):=⟨rfl,rfl,rfl,by decide +kernel,rfl,by decide +kernel,by decide +kernel⟩
def mM {f:Addr}{fd:FuncData}{aW bA:List D->FR}(F:je K mg "most_apart" eQ ["order"] f fd)(B:jD mg)(cq:cY P w K mg base ca "need_order" ["thing"] 5 aW)(dS:cY P w K mg base ca "longer_groups" ["order","groups"] 2 bA):cY P w K mg base ca "most_apart" ["order"] 6 (bh 3 1 (eR aW bA)):=
 ⟨⟨f,fd,F.mg,F.F.kp,F.b,aX (N:=["order","groups","longer"]) (k:=5) F.F cD λcdv A outer s H G E hr=>
  (av (ux (aN cq (hr.mono (by decide)) bq rfl rfl (ae (ay 0 rfl) au)))
  (av (Bl (i:=1) (NB:=["thing"]) (own:=1) (ixs:=[]) [] rfl (fA (by kernel_rfl)) (λ_ _=>rfl) (oB rfl B.range (cR bM gG (ah 0) az (λ_ _=>rfl))) (λH0 G0 par br bx C ex s3 H3 pn=>(c7 (i:=0) (show (["thing"]:List Str).Nodup by decide +kernel))) (λH0 G0 par br bx C ex s3 H3 pn hB1=>fX) (λH0 G0 par br bx C ex s3 H3 pn hB1=>(SE.wv (bp (ae (ay 0 (hB1 0 (by decide))) au)))) cD.nd)
  (av (bg (i:=2) (ay 1 rfl) cD.nd)
  (av (me 1000 PassesOwn.leaving (cC rfl (ah 2))
  (av (bg (i:=1) (ay 2 rfl) cD.nd)
  (aw (bg (i:=2) (aN dS (hr.mono (by decide)) bq rfl rfl (ae (ay 0 rfl) (ae (ay 1 rfl) au))) cD.nd))))
  (aw (aQ (cR bM gG (ah 1) az (λ_ _=>rfl))))))))⟩,λds h=>aP ds h⟩
abbrev oY:Stmt:=top 21
def Bc:aF ["order","chain","thing"] ["order","chain","thing"] (ar oY):=⟨rfl,rfl,rfl,by decide +kernel,rfl,by decide +kernel,by decide +kernel⟩
def xU {f:Addr}{fd:FuncData}{bb:List D->FR}(F:je K mg "fits" oY ["order","chain","thing"] f fd)(B:jD mg)(cT:cY P w K mg base ca "are_apart" ["order","a","b"] 1 bb):cY P w K mg base ca "fits" ["order","chain","thing"] 2 (bh 3 3 (pU bb)):=
 ⟨⟨f,fd,F.mg,F.F.kp,F.b,aX (N:=["order","chain","thing"]) (k:=1) F.F Bc λcdv A outer s H G E hr=>
  (aw (aQ (o9 (aR (rq rfl) km rfl B.any (by decide +kernel) (dF (NB:=["one","order","thing"]) (own:=1) (ixs:=[0,2]) [0,2] rfl (fA (by kernel_rfl)) (λ_ _=>rfl) (oP rfl (ah 1)) (λH0 G0 par br bx C ex s3 H3 pn=>(c7 (i:=0) (show (["one","order","thing"]:List Str).Nodup by decide +kernel))) (λH0 G0 par br bx C ex s3 H3 pn hB1=>fX) (λH0 G0 par br bx C ex s3 H3 pn hB1=>(aN cT (hr.mono (by decide)) n5 rfl rfl (ae (ay 1 (hB1 1 (by decide))) (ae (ay 0 (hB1 0 (by decide))) (ae (ay 2 (hB1 2 (by decide))) au))))))))))⟩,λds h=>aP ds h⟩
abbrev dE:Stmt:=top 20
def fw:aF ["order","most","made","thing","at","chain","found"] ["order","most","made","thing"] (ar dE):=⟨rfl,rfl,rfl,by decide +kernel,rfl,by decide +kernel,by decide +kernel⟩
def lA {f:Addr}{fd:FuncData}{aM kR:List D->FR}{k:Nat}(hk:2<=k)(F:je K mg "chains_from" dE ["order","most","made","thing"] f fd)(B:jD mg)(bW:cY P w K mg base ca "chains_from" ["order","most","made","thing"] k aM)(sJ:cY P w K mg base ca "fits" ["order","chain","thing"] 2 kR):cY P w K mg base ca "chains_from" ["order","most","made","thing"] (k + 1) (bh 7 4 (bY aM kR)):=
 ⟨⟨f,fd,F.mg,F.F.kp,F.b,aX (N:=["order","most","made","thing","at","chain","found"]) (k:=k) F.F fw λcdv A outer s H G E hr=>
  (av (cZ (cB (gj hr.units) gC (ah 3) (cR bM gG (ah 0) az (λ_ _=>rfl)) (bG _))
  (aw (lI 2))
  bQ)
  (av (eB PassesOwn.leaving rfl (yF rfl rfl B.enumerate (ay 2 rfl)) (qh (i:=4) (j:=5) fw.nd)
  (aw (cZ (cC rfl (aN sJ (hr.mono (by omega)) bq rfl rfl (ae (ay 0 rfl) (ae (ay 5 rfl) (ae (ay 3 rfl) au)))))
  (av (bg (i:=6) (aN bW (hr.mono (by omega)) bq rfl rfl (ae (ay 0 rfl) (ae (ay 1 rfl) (ae (SE.wv (a8 dG jm (a8 dG jm (qP rfl (ah 2) vd (uQ (ah 4))) (bp (ae (SE.wv (a8 dG jm (ah 5) (bp (ae (ay 3 rfl) au)))) au))) (qP rfl (ah 2) (uQ (a8 fI fC (ah 4) az)) vd))) (ae (a8 fI fC (ah 3) az) au))))) fw.nd)
  (aw (cZ (BC (ah 6))
  (aw (lI 6))
  bQ)))
  bQ)))
  (av (cZ (cB (gj hr.units) gC (aR b9 iU rfl B.len IY (ah 2)) (ah 1) (bG _))
  (aw (aQ C1))
  bQ)
  (aw (aQ (aN bW (hr.mono (by omega)) bq rfl rfl (ae (ay 0 rfl) (ae (ay 1 rfl) (ae (SE.wv (a8 dG jm (ah 2) (bp (ae (SE.wv (bp (ae (ay 3 rfl) au))) au)))) (ae (a8 fI fC (ah 3) az) au))))))))))⟩,λds h=>aP ds h⟩
abbrev jS:Stmt:=top 19
def vS:aF ["order"] ["order"] (ar jS):=⟨rfl,rfl,rfl,by decide +kernel,rfl,by decide +kernel,by decide +kernel⟩
def tw {f:Addr}{fd:FuncData}{aW aM cA:List D->FR}(F:je K mg "chains" jS ["order"] f fd)(B:jD mg)(cq:cY P w K mg base ca "need_order" ["thing"] 5 aW)(bW:cY P w K mg base ca "chains_from" ["order","most","made","thing"] 42 aM)(gY:cY P w K mg base ca "most_apart" ["order"] 6 cA):cY P w K mg base ca "chains" ["order"] 43 (bh 1 1 (kc aW aM cA)):=
 ⟨⟨f,fd,F.mg,F.F.kp,F.b,aX (N:=["order"]) (k:=42) F.F vS λcdv A outer s H G E hr=>
  (av (ux (aN cq (hr.mono (by decide)) bq rfl rfl (ae (ay 0 rfl) au)))
  (aw (aQ (aN bW (hr.mono (by decide)) bq rfl rfl (ae (ay 0 rfl) (ae (aR b9 iU rfl B.len IY (aN gY (hr.mono (by decide)) bq rfl rfl (ae (ay 0 rfl) au))) (ae (SE.wv (bp au)) (ae az au))))))))⟩,λds h=>aP ds h⟩
abbrev fO:Stmt:=top 23
def oO:aF ["script","k"] ["script","k"] (ar fO):=⟨rfl,rfl,rfl,by decide +kernel,rfl,by decide +kernel,by decide +kernel⟩
def ny {f:Addr}{fd:FuncData}(F:je K mg "_law_cell" fO ["script","k"] f fd)(B:jD mg):cY P w K mg base ca "_law_cell" ["script","k"] 1 (bh 2 2 (dM)):=
 ⟨⟨f,fd,F.mg,F.F.kp,F.b,aX (N:=["script","k"]) (k:=0) F.F oO λcdv A outer s H G E hr=>
  (av (cZ (cB B5 E6 (ah 1) (aR b9 iU rfl B.len IY (ah 0)) (bG _))
  (aw (aQ (cR bM gG (ah 0) (ah 1) (λ_ _=>rfl))))
  bQ)
  (aw (aQ az)))⟩,λds h=>aP ds h⟩
abbrev dr:Stmt:=top 24
def fV:aF ["cell","k","some","stir"] ["cell","k"] (ar dr):=⟨rfl,rfl,rfl,by decide +kernel,rfl,by decide +kernel,by decide +kernel⟩
def qj:∃(es:List Expr) (p1 p2 p3:Pos),b6 dr=.Assign [.Name "some" p1] (.List es p2) p3 :: (b6 dr).drop 1/\constsOf es=some [48271,69621,16807,39373,30269,40014,40692,50021,61687,71993,83869,95561,30307]:=⟨_,_,_,_,rfl,by kernel_rfl⟩
def qi {f:Addr}{fd:FuncData}(F:je K mg "_law_mix" dr ["cell","k"] f fd)(B:jD mg):cY P w K mg base ca "_law_mix" ["cell","k"] 1 (bh 4 2 (hW)):=by
 obtain⟨es,p1,p2,p3,hb,hes⟩:=qj
 refine⟨⟨f,fd,F.mg,F.F.kp,F.b,aX (N:=["cell","k","some","stir"]) (k:=0) F.F fV λcdv A outer s H G E hr=>?_⟩,λds h=>aP ds h⟩
 rw[hb]
 exact (av (bg (i:=2) (SE.wv (bp (nW hes))) fV.nd) (av (bg (i:=3) (a8 fI fC (a8 fI fC (a8 iI jx (a8 fI fC (a8 jq oJ (ah 0) az) az) (cR bM gG (ah 2) (a8 jq oJ (ah 1) az) (λ_ _=>rfl))) (a8 iI jx az (ah 1))) (a8 iI jx az (a8 jQ AD (ah 1) az))) fV.nd)
  (av (bg (i:=3) (a8 jq oJ (ah 3) az) fV.nd)
  (aw (aQ (a8 jQ AD (a8 jq oJ (a8 fI fC (a8 iI jx (ah 3) (ah 3)) (a8 iI jx az (ah 1))) az) az))))))
abbrev hV:Stmt:=top 25
def dN:aF ["script","k","cell","number","j"] ["script","k"] (ar hV):=⟨rfl,rfl,rfl,by decide +kernel,rfl,by decide +kernel,by decide +kernel⟩
def o8 {f:Addr}{fd:FuncData}{cS dv:List D->FR}(F:je K mg "_law_box" hV ["script","k"] f fd)(B:jD mg)(iK:cY P w K mg base ca "_law_cell" ["script","k"] 1 cS)(jz:cY P w K mg base ca "_law_mix" ["cell","k"] 1 dv):cY P w K mg base ca "_law_box" ["script","k"] 2 (bh 5 2 (il cS dv)):=
 ⟨⟨f,fd,F.mg,F.F.kp,F.b,aX (N:=["script","k","cell","number","j"]) (k:=1) F.F dN λcdv A outer s H G E hr=>
  (av (bg (i:=2) (aN iK (hr.mono (by decide)) bq rfl rfl (ae (ay 0 rfl) (ae (ay 1 rfl) au))) dN.nd)
  (av (cZ (cB (gj hr.units) gC (a8 jq oJ (ah 2) az) az (bG _))
  (aw (pW (bp (ae (a8 jQ AD (aR yR D0 rfl B.abs (by decide +kernel) (ah 2)) az) au))))
  bQ)
  (av (bg (i:=3) az dN.nd)
  (av (eB PassesOwn.leaving rfl (oB rfl B.range az) (c7 (i:=4) dN.nd)
  (aw (bg (i:=3) (a8 fI fC (a8 iI jx (ah 3) az) (aN jz (hr.mono (by decide)) bq rfl rfl (ae (ay 2 rfl) (ae (ay 4 rfl) au)))) dN.nd)))
  (aw (pW (bp (ae (ay 3 rfl) au))))))))⟩,λds h=>aP ds h⟩
abbrev fM:Stmt:=top 26
def jF:aF ["box","many","left","digit"] ["box","many"] (ar fM):=⟨rfl,rfl,rfl,by decide +kernel,rfl,by decide +kernel,by decide +kernel⟩
def nF {f:Addr}{fd:FuncData}(F:je K mg "_law_take" fM ["box","many"] f fd)(B:jD mg):qe P w K mg base "_law_take" ["box","many"] 1 c9:=by
 refine⟨⟨f,fd,F.mg,F.F.kp,F.b,?_⟩,λds β h=>?_⟩
 ·refine F.F.xr jF (λvs H Q E h=>?_) (λcdv A outer s H vs Q E hr h=>?_)
  ·obtain⟨b,rest,G,ds,β,rfl,hb,gb,sG,hl,r,_⟩:=h
   rw[HX,r.len,hl];rfl
  ·obtain⟨b,rest,G,ds,β,rfl,hb,gb,sG,hl,r,h⟩:=h
   obtain⟨m,rfl,h0,h1⟩:=uC (λz=>by rw[z] at h;exact h)
   rw[pS h0 h1] at h
   have kk:∀v G' H',fm (some b) H H'->H' b=some (.lst [.int (β / m)])->af G G'->af G' H'->(∀c,Mx H c->G c=none->G' c=none)->FV K H G' H' false (.int (β % m)) v->Q v H':=h
   cases r with
   |cons r1 r2=>
    cases r1
    cases r2
    refine⟨_,b7 (pY (iN rK rfl B.divmod (by decide +kernel) (aC (iX dA (pv 0) kF (λ_ _=>rfl)) (aC (pv 1) aY))) (A4 (i:=2) (j:=3) jF.nd rfl rfl rfl rfl rfl))
     (b7 (pY (pv 2) (tO (pv 0) kF set_list)) (fP (kB (pv 3)))),?_⟩
    refine⟨_,rfl,b,_,0,.int β,rfl,rfl,.inl (.inl hb),rfl,_,rfl,β,m,rfl,⟨h0,h1⟩,λp hp=>⟨p,_,rfl,.inl (.inl aq),rfl,_,_,rfl,_,_,rfl,rfl,?_⟩⟩
    have hbp:b≠p:=ax hb hp
    exact⟨_,rfl,_,rfl,b,[.int β],0,0,rfl,rfl,by rw[ak hbp];exact hb,rfl,_,rfl,xC hb sG hp kk gb⟩
 ·obtain⟨m,rfl,_⟩:=uC h
  rfl
abbrev eT:Stmt:=top 27
def nG:aF ["thing"] ["thing"] (ar eT):=⟨rfl,rfl,rfl,by decide +kernel,rfl,by decide +kernel,by decide +kernel⟩
def mP {f:Addr}{fd:FuncData}(F:je K mg "_law_whole" eT ["thing"] f fd)(B:jD mg):cY P w K mg base ca "_law_whole" ["thing"] 1 (bh 1 1 (kh)):=
 ⟨⟨f,fd,F.mg,F.F.kp,F.b,aX (N:=["thing"]) (k:=0) F.F nG λcdv A outer s H G E hr=>
  (aw (aQ (gm (gW "int" (by decide) rfl rfl B.isinstance rfl B.int (by decide +kernel) (ah 0)) (iM (o9 (gW "bool" (by decide) rfl rfl B.isinstance rfl B.bool (by decide +kernel) (ah 0)))) (λ_ _=>rfl))))⟩,λds h=>aP ds h⟩
abbrev cL:Stmt:=top 28
def du:aF ["box","some","left","found"] ["box","some"] (ar cL):=⟨rfl,rfl,rfl,by decide +kernel,rfl,by decide +kernel,by decide +kernel⟩
def jO {f:Addr}{fd:FuncData}{aV:List D->Int->FB}(F:je K mg "_law_mixed_up" cL ["box","some"] f fd)(B:jD mg)(bP:qe P w K mg base "_law_take" ["box","many"] 1 aV):qe P w K mg base "_law_mixed_up" ["box","some"] 2 (qV 4 1 (cJ aV)):=
 ⟨⟨f,fd,F.mg,F.F.kp,F.b,rC (ca:=λ_=>0) (N:=["box","some","left","found"]) (k:=1) F.F du (by decide) λcdv A outer s H G b E hr=>
  (av (kn (i:=2) (qU pf Dk rfl B.list (by decide +kernel) (ah 1)) du.nd)
  (av (kn (i:=3) (bp au) du.nd)
  (av (me 1000 PassesOwn.leaving (cB (gp hr.units) gC (ah 2) (bp au) (bG _))
  (aw (vU 3 2 (λ_=>rfl) (qA 0 bP (hr.mono (by decide)) bq rfl rfl (ae (aR b9 iU rfl B.len IY (ah 2)) au)))))
  (aw (lI 3)))))⟩,λds β h=>rg ds β h⟩
abbrev dC:Stmt:=top 29
def bf:aF ["pairs","found","size","more","a","b"] ["pairs"] (ar dC):=⟨rfl,rfl,rfl,by decide +kernel,rfl,by decide +kernel,by decide +kernel⟩
def ly {f:Addr}{fd:FuncData}(F:je K mg "_law_closed" dC ["pairs"] f fd)(B:jD mg):cY P w K mg base ca "_law_closed" ["pairs"] 1 (bh 6 1 (dD)):=
 ⟨⟨f,fd,F.mg,F.F.kp,F.b,aX (N:=["pairs","found","size","more","a","b"]) (k:=0) F.F bf λcdv A outer s H G E hr=>
  (av (bg (i:=1) (SE.wv (mE rfl hr.units rfl rfl B.sorted rfl B.set (ah 0))) bf.nd)
  (av (bg (i:=2) (B7 y2 Cp az) bf.nd)
  (av (me 1000 PassesOwn.leaving (cB (gp hr.units) gC (ah 2) (aR b9 iU rfl B.len IY (ah 1)) (bG _))
  (av (bg (i:=2) (aR b9 iU rfl B.len IY (ah 1)) bf.nd)
  (av (bg (i:=3) (SE.wv (bp au)) bf.nd)
  (av (eB PassesOwn.leaving rfl (zq rfl (ay 1 rfl)) (qh (i:=4) (j:=5) bf.nd)
  (aw (bg (i:=3) (SE.wv (a8 dG jm (ah 3) (dF (NB:=["c","d","b","a"]) (own:=2) (ixs:=[5,4]) [4] rfl (fA (by kernel_rfl)) (λ_ _=>rfl) (oP rfl (ah 1)) (λH0 G0 par br bx C ex s3 H3 pn=>(qh (i:=0) (j:=1) (show (["c","d","b","a"]:List Str).Nodup by decide +kernel))) (λH0 G0 par br bx C ex s3 H3 pn hB1=>(pL (cB (gj hr.units) gC (ah 0) (ah 2) (bG _)))) (λH0 G0 par br bx C ex s3 H3 pn hB1=>(iY (ae (ay 3 (hB1 3 (by decide))) (ae (ay 1 (hB1 1 (by decide))) au))))))) bf.nd)))
  (aw (bg (i:=1) (SE.wv (mE rfl hr.units rfl rfl B.sorted rfl B.set (a8 dG jm (ah 1) (ah 3)))) bf.nd))))))
  (aw (aQ (qU jl Bq rfl B.tuple (by decide +kernel) (ah 1)))))))⟩,λds h=>aP ds h⟩
abbrev eO:Stmt:=top 30
def bI:aF ["box","most","many","names","thin","pairs","i","j"] ["box","most"] (ar eO):=⟨rfl,rfl,rfl,by decide +kernel,rfl,by decide +kernel,by decide +kernel⟩
def l9 {f:Addr}{fd:FuncData}{bX:List D->FR}{aV bB:List D->Int->FB}(F:je K mg "_law_order" eO ["box","most"] f fd)(B:jD mg)(gk:cY P w K mg base ca "_law_closed" ["pairs"] 1 bX)(bP:qe P w K mg base "_law_take" ["box","many"] 1 aV)(dR:qe P w K mg base "_law_mixed_up" ["box","some"] 2 bB):qe P w K mg base "_law_order" ["box","most"] 3 (qV 8 1 (eY bX aV bB)):=
 ⟨⟨f,fd,F.mg,F.F.kp,F.b,rC (ca:=ca) (N:=["box","most","many","names","thin","pairs","i","j"]) (k:=2) F.F bI (by decide) λcdv A outer s H G b E hr=>
  (av (bg (i:=2) (a8 fI fC az (qA 0 bP (hr.mono (by decide)) bq rfl rfl (ae (ay 1 rfl) au))) bI.nd)
  (av (bg (i:=3) (qA 0 dR (hr.mono (by decide)) bq rfl rfl (ae (SE.wv (mj rfl rfl B.list rfl B.range (ah 2))) au)) bI.nd)
  (av (bg (i:=4) (cR bM gG (bp (ae az (ae az (ae az (ae az au))))) (qA 0 bP (hr.mono (by decide)) bq rfl rfl (ae az au)) (λ_ _=>rfl)) bI.nd)
  (av (kn (i:=5) (bp au) bI.nd)
  (av (eB PassesOwn.leaving rfl (oB rfl B.range (ah 2)) (c7 (i:=6) bI.nd)
  (aw (eB PassesOwn.leaving rfl (BX rfl B.range (a8 fI fC (ah 6) az) (ah 2)) (c7 (i:=7) bI.nd)
  (aw (cZ (cB (gj hr.units) gC (qA 0 bP (hr.mono (by decide)) bq rfl rfl (ae (ay 4 rfl) au)) az (bG _))
  (aw (kq 5 (λ_=>rfl) (iY (ae (cR bM gG (ah 3) (ah 6) (λ_ _=>rfl)) (ae (cR bM gG (ah 3) (ah 7) (λ_ _=>rfl)) au)))))
  bQ)))))
  (aw (aQ (iY (ae (ay 2 rfl) (ae (aN gk (hr.mono (by decide)) bq rfl rfl (ae (ay 5 rfl) au)) au))))))))))⟩,λds β h=>rg ds β h⟩
abbrev eS:Stmt:=top 31
def nA:aF ["order","a","b"] ["order","a","b"] (ar eS):=⟨rfl,rfl,rfl,by decide +kernel,rfl,by decide +kernel,by decide +kernel⟩
def lP {f:Addr}{fd:FuncData}(F:je K mg "_law_apart" eS ["order","a","b"] f fd)(B:jD mg):cY P w K mg base ca "_law_apart" ["order","a","b"] 1 (bh 3 3 (jY)):=
 ⟨⟨f,fd,F.mg,F.F.kp,F.b,aX (N:=["order","a","b"]) (k:=0) F.F nA λcdv A outer s H G E hr=>
  (aw (aQ (gm (g7 (gp hr.units) gC (ah 1) (ah 2) (bG _)) (gm (g7 (i6 hr.u1) AG (iY (ae (ay 1 rfl) (ae (ay 2 rfl) au))) (cR bM gG (ah 0) az (λ_ _=>rfl)) (by with_unfolding_all rfl)) (iM (g7 (i6 hr.u1) AG (iY (ae (ay 2 rfl) (ae (ay 1 rfl) au))) (cR bM gG (ah 0) az (λ_ _=>rfl)) (by with_unfolding_all rfl))) (λ_ _=>rfl)) (λ_ _=>rfl))))⟩,λds h=>aP ds h⟩
abbrev fS:Stmt:=top 32
def cz:aF ["order","found","thing","more","some"] ["order"] (ar fS):=⟨rfl,rfl,rfl,by decide +kernel,rfl,by decide +kernel,by decide +kernel⟩
def nN {f:Addr}{fd:FuncData}{aZ:List D->FR}(F:je K mg "_law_most" fS ["order"] f fd)(B:jD mg)(cg:cY P w K mg base ca "_law_apart" ["order","a","b"] 1 aZ):cY P w K mg base ca "_law_most" ["order"] 2 (bh 5 1 (fW aZ)):=
 ⟨⟨f,fd,F.mg,F.F.kp,F.b,aX (N:=["order","found","thing","more","some"]) (k:=1) F.F cz λcdv A outer s H G E hr=>
  (av (bg (i:=1) (SE.wv (bp (ae (SE.wv (bp au)) au))) cz.nd)
  (av (eB PassesOwn.leaving rfl (oB rfl B.range (cR bM gG (ah 0) az (λ_ _=>rfl))) (c7 (i:=2) cz.nd)
  (av (kn (i:=3) (bp au) cz.nd)
  (av (eB PassesOwn.leaving rfl (zq rfl (ay 1 rfl)) (c7 (i:=4) cz.nd)
  (aw (cZ (cB (gj hr.units) gC (dF (NB:=["one","order","thing"]) (own:=1) (ixs:=[0,2]) [0,2] rfl (fA (by kernel_rfl)) (λ_ _=>rfl) (oP rfl (ah 4)) (λH0 G0 par br bx C ex s3 H3 pn=>(c7 (i:=0) (show (["one","order","thing"]:List Str).Nodup by decide +kernel))) (λH0 G0 par br bx C ex s3 H3 pn hB1=>(pL (dY (cC rfl (aN cg (hr.mono (by decide)) n5 rfl rfl (ae (ay 1 (hB1 1 (by decide))) (ae (ay 0 (hB1 0 (by decide))) (ae (ay 2 (hB1 2 (by decide))) au)))))))) (λH0 G0 par br bx C ex s3 H3 pn hB1=>(ay 0 (hB1 0 (by decide))))) (bp au) (bG _))
  (aw (kq 3 (λ_=>rfl) (SE.wv (a8 dG jm (ah 4) (bp (ae (ay 2 rfl) au))))))
  bQ)))
  (aw (bg (i:=1) (SE.wv (a8 dG jm (ah 1) (ah 3))) cz.nd)))))
  (aw (aQ (aR (xj rfl) AA rfl B.max (by decide +kernel) (dF (NB:=["one"]) (own:=1) (ixs:=[]) [] rfl (fA (by kernel_rfl)) (λ_ _=>rfl) (oP rfl (ah 1)) (λH0 G0 par br bx C ex s3 H3 pn=>(c7 (i:=0) (show (["one"]:List Str).Nodup by decide +kernel))) (λH0 G0 par br bx C ex s3 H3 pn hB2=>fX) (λH0 G0 par br bx C ex s3 H3 pn hB2=>(aR b9 iU rfl B.len IY (ah 0)))))))))⟩,λds h=>aP ds h⟩
abbrev eV:Stmt:=top 33
def cF:aF ["found","order","things","chain","one"] ["found","order"] (ar eV):=⟨rfl,rfl,rfl,by decide +kernel,rfl,by decide +kernel,by decide +kernel⟩
def mW {f:Addr}{fd:FuncData}{cU cn aZ:List D->FR}(F:je K mg "_law_right" eV ["found","order"] f fd)(B:jD mg)(iH:cY P w K mg base ca "_law_most" ["order"] 2 cU)(h9:cY P w K mg base ca "_law_whole" ["thing"] 1 cn)(cg:cY P w K mg base ca "_law_apart" ["order","a","b"] 1 aZ):cY P w K mg base ca "_law_right" ["found","order"] 3 (bh 5 2 (eM cU cn aZ)):=
 ⟨⟨f,fd,F.mg,F.F.kp,F.b,aX (N:=["found","order","things","chain","one"]) (k:=2) F.F cF λcdv A outer s H G E hr=>
  (av (cZ (zW.t (lZ (dY (cC rfl (gW "list" (by decide) rfl rfl B.isinstance rfl B.list (by decide +kernel) (ah 0)))) (lZ (cB (gp hr.units) gC (ah 0) (aR (sX hr.u1) BK rfl B.sorted (by decide +kernel) (ah 0)) (bG _)) (l6 (cB (gp hr.units) gC (aR b9 iU rfl B.len IY (ah 0)) (aN iH (hr.mono (by decide)) bq rfl rfl (ae (ay 1 rfl) au)) (bG _))) (λ_ _=>rfl)) (λ_ _=>rfl)))
  (aw (aQ iP))
  bQ)
  (av (bg (i:=2) (SE.wv (bp au)) cF.nd)
  (av (eB PassesOwn.leaving rfl (zq rfl (ay 0 rfl)) (c7 (i:=3) cF.nd)
  (av (cZ (zW.t (lZ (dY (cC rfl (gW "list" (by decide) rfl rfl B.isinstance rfl B.list (by decide +kernel) (ah 3)))) (lZ (cB (gj hr.units) gC (ah 3) (bp au) (bG _)) (l6 (dY (cC rfl (aR (mz rfl) km rfl B.all (by decide +kernel) (dF (NB:=["one"]) (own:=1) (ixs:=[]) [] rfl (fA (by kernel_rfl)) (λ_ _=>rfl) (oP rfl (ah 3)) (λH0 G0 par br bx C ex s3 H3 pn=>(c7 (i:=0) (show (["one"]:List Str).Nodup by decide +kernel))) (λH0 G0 par br bx C ex s3 H3 pn hB1=>fX) (λH0 G0 par br bx C ex s3 H3 pn hB1=>(aN h9 (hr.mono (by decide)) n5 rfl rfl (ae (ay 0 (hB1 0 (by decide))) au)))))))) (λ_ _=>rfl)) (λ_ _=>rfl)))
  (aw (aQ iP))
  bQ)
  (av (eB PassesOwn.leaving rfl (zq rfl (ay 3 rfl)) (c7 (i:=4) cF.nd)
  (aw (cZ (cB (gp hr.units) gC (dF (NB:=["other","order","one"]) (own:=1) (ixs:=[1,4]) [1,4] rfl (fA (by kernel_rfl)) (λ_ _=>rfl) (oP rfl (ah 3)) (λH0 G0 par br bx C ex s3 H3 pn=>(c7 (i:=0) (show (["other","order","one"]:List Str).Nodup by decide +kernel))) (λH0 G0 par br bx C ex s3 H3 pn hB2=>(pL (cC rfl (aN cg (hr.mono (by decide)) n5 rfl rfl (ae (ay 1 (hB2 1 (by decide))) (ae (ay 2 (hB2 2 (by decide))) (ae (ay 0 (hB2 0 (by decide))) au))))))) (λH0 G0 par br bx C ex s3 H3 pn hB2=>(ay 0 (hB2 0 (by decide))))) (bp au) (bG _))
  (aw (aQ iP))
  bQ)))
  (av (cZ (cB (gp hr.units) gC (ah 3) (aR m6 vt rfl B.sorted (by decide +kernel) (ah 3)) (bG _))
  (aw (aQ iP))
  bQ)
  (aw (bg (i:=2) (SE.wv (a8 dG jm (ah 2) (ah 3))) cF.nd))))))
  (aw (aQ (g7 (gj hr.units) gC (aR m6 vt rfl B.sorted (by decide +kernel) (ah 2)) (mj rfl rfl B.list rfl B.range (cR bM gG (ah 1) az (λ_ _=>rfl))) (bG _)))))))⟩,λds h=>aP ds h⟩
abbrev jj:Stmt:=top 34
def pC:aF ["script","k","order","found"] ["script"] (ar jj):=⟨rfl,rfl,rfl,by decide +kernel,rfl,by decide +kernel,by decide +kernel⟩
def AI {f:Addr}{fd:FuncData}{dm fq bS:List D->FR}{ck:List D->Int->FB}(F:je K mg "law" jj ["script"] f fd)(B:jD mg)(jB:cY P w K mg base ca "_law_box" ["script","k"] 2 dm)(jT:cY P w K mg base ca "chains" ["order"] 43 fq)(eN:cY P w K mg base ca "_law_right" ["found","order"] 3 bS)(ip:qe P w K mg base "_law_order" ["box","most"] 3 ck):dw P w K mg base (nh P w) 44 f fd ["script"] (xl K ca 1 (bh 4 1 (uZ dm fq bS ck))):=
 aX (N:=["script","k","order","found"]) (k:=43) F.F pC λcdv A outer s H G E hr=>
  (av (eB PassesOwn.leaving rfl (oB rfl B.range (rn (vT rfl) Dc rfl B.max (by decide +kernel) az (rn (v5 rfl) DP rfl B.min (by decide +kernel) (aR b9 iU rfl B.len IY (ah 0)) az))) (c7 (i:=1) pC.nd)
  (av (bg (i:=2) (Fe ip (hr.mono (by decide)) bq rfl rfl (xB jB (hr.mono (by decide)) bq rfl rfl (ae (ay 0 rfl) (ae (ay 1 rfl) au)))) pC.nd)
  (A8 (i:=3) (io:=2) (λ_=>rfl) jT (hr.mono (by decide)) bq rfl rfl pC.nd (dY (cC rfl (aN eN (hr.mono (by decide)) bq rfl rfl (ae (ay 3 rfl) (ae (ay 2 rfl) au)))))
  (aw (aQ iP))
  (aw (cZ (dY (cC rfl (aN eN (hr.mono (by decide)) bq rfl rfl (ae (aN jT (hr.mono (by decide)) bq rfl rfl (ae (ay 2 rfl) au)) (ae (ay 2 rfl) au)))))
  (aw (aQ iP))
  bQ)))))
  (aw (aQ iP)))
end
end RQ
namespace RM
open PySem L2
def jr {t:VF Bool}{vs:List Nv}{β:Int}{a:Bool}(h:t vs β=.ok a β):ng t vs β=.ok (!a) β:=by rw[ua,h];rfl
def C9 (n:Nat):(eZ n).Pairwise (· < ·):=by
 unfold eZ
 rw[IA]
 exact JZ.imp λ{a b} h=>by omega
section
variable {fa fb:VF D}{vs:List Nv}{β:Int}
def uk {t u:VF Bool}{c:Bool}(h:t vs β=.ok false β)(h':u vs β=.ok c β):m8 t u vs β=.ok c β:=by rw[uM,h];exact h'
end
def Sq (c k:Nat)(d:D):Prop:=d.showable=true/\d.depth<=k/\d.shown.length<=c
theorem zi {c k:Nat}:∀{ds:List D},(∀d,d∈ds->Sq c k d)->PyData.showableAll ds=true/\PyData.depthAll ds<=k/\(∀t,t∈PyData.shownAll ds->t.length<=c)/\(PyData.shownAll ds).length=ds.length
 | [],_=>⟨by simp[PyData.showableAll],by simp[PyData.depthAll],λt h=>by simp[PyData.shownAll] at h,by simp[PyData.shownAll]⟩
 |d :: ds,h=>by
  obtain⟨h1,h2,h3,h4⟩:=zi λx hx=>h x (HG _ hx)
  obtain⟨q1,q2,q3⟩:=h d (Hz ..)
  refine⟨?_,?_,λt ht=>?_,?_⟩
  ·rw[PyData.showableAll,q1,h1];rfl
  ·rw[PyData.depthAll];omega
  ·rw[PyData.shownAll] at ht
   rcases Hx.mp ht with rfl |ht
   ·exact q3
   ·exact h3 t ht
  ·rw[PyData.shownAll,HX,HX,h4]
theorem rJ {c:Nat}:∀{ts:List Str},(∀t,t∈ts->t.length<=c)->(Str.join ", " ts).length<=(c + 2) * ts.length
 | [],_=>by show (Str.join ", " []).length<=_;exact Ia _
 | [x],h=>by
  have:=h x (Hz ..)
  show x.length<=(c + 2) * 1
  omega
 |x :: y :: r,h=>by
  have ih:=rJ (ts:=y :: r) λt ht=>h t (HG _ ht)
  have:=h x (Hz ..)
  show (x ++ ", " ++ Str.join ", " (y :: r)).length<=_
  rw[strLen_append,strLen_append]
  have e2:((", ":String):Str).length=2:=rfl
  rw[e2]
  have e:(c + 2) * (x :: y :: r).length=(c + 2) * (y :: r).length + (c + 2):=by rw[HX,Nat.mul_succ]
  omega
def DF {c k:Nat}{ds:List D}(h:∀d,d∈ds->Sq c k d):Sq (3 + (c + 2) * ds.length) (k + 1) (.tuple ds):=by
 obtain⟨h1,h2,h3,h4⟩:=zi h
 refine⟨by rw[PyData.showable];exact h1,by rw[PyData.depth];omega,?_⟩
 rw[PyData.shown]
 unfold tupleText
 rw[strLen_append,strLen_append]
 have j:=rJ h3
 rw[h4] at j
 have e1:((("(":String):Str)).length=1:=rfl
 have e3:((if (PyData.shownAll ds).length == 1 then ",)" else ")":String):Str).length<=2:=by split <;> exact by decide
 rw[e1]
 omega
def Bf (d:D):Prop:=EZ d=true
theorem yL:∀{ds:List D},(∀d,d∈ds->Bf d)->yj ds=true
 | [],_=>rfl
 |d :: ds,h=>by
  have h1:=yL λx hx=>h x (HG _ hx)
  have q1:EZ d=true:=h d (Hz ..)
  rw[yj,q1,h1];rfl
def C4 {ds:List D}(h:∀d,d∈ds->Bf d):Bf (.tuple ds):=by show EZ (.tuple ds)=true;rw[EZ];exact yL h
section
variable {vs:List Nv}{β β1 β2:Int}{fa:VF D}{fr:VF (List D)}{d:D}{ds:List D}
def ac {fa:VF D}{fr:VF (List D)}(h:fa vs β=.ok d β)(h':fr vs β=.ok ds β):aa fa fr vs β=.ok (d :: ds) β:=by rw[cc,h];dsimp only[R.bnd];rw[h']
def an:ao vs β=.ok [] β:=rfl
def lp (h:fr vs β=.ok ds β)(hz:ds.length<=1000:=by simp):a9 fr vs β=.ok (.list ds) β:=fU h hz
end
def pI {fa:VF D}{vs:List Nv}{β:Int}{ds:List D}(ha:fa vs β=.ok (.list ds) β):f1 fa dc vs β=.ok (.int ds.length) β:=df ha rfl
def Ge (e:D):Prop:=eH e=false/\∀es,e=.tuple es->es.length<=100/\∀x,x∈es->eH x=false
def D7:List D->FR:=bh 1 1 kh
def GL {d:D}(h:eH d=false):D7 [d]=.ok (.bool (DE d)) false:=by
 have:=uE [d] (by rw[jV h];exact λz=>by cases z)
 rw[jV h] at this
 exact this
def Sp (p:Pr):Prop:=(0<=p.1/\p.1<=8)/\(0<=p.2/\p.2<=8)
def CD {es:List D}(hl:es.length<=100)(h:∀x,x∈es->eH x=false):Ge (.tuple es):=⟨rfl,λes' e=>by cases e;exact⟨hl,h⟩⟩
def z6 {fa fb:VF D}{vs:List Nv}{β:Int}{ds:List D}{i:Nat}(ha:fa vs β=.ok (.list ds) β)(hb:fb vs β=.ok (.int ((i:Nat):Int)) β):AN fa (A1 fb) (λ_ β=>.ok none β) vs β=.ok (.list (ds.drop i)) β:=by
 unfold AN A1
 rw[ha];dsimp only[R.bnd]
 rw[hb];dsimp only[R.bnd]
 congr 2
 unfold cutD
 rw[HT.rF,HT.uw]
 by_cases h:i<=ds.length
 ·rw[Nat.min_eq_left h];exact Jl (by rw[List.length_drop];omega)
 ·rw[Nat.min_eq_right (by omega),List.drop_length,List.drop_of_length_le (by omega)];simp
def zh {fa fb:VF D}{vs:List Nv}{β:Int}{ds:List D}{i:Nat}(ha:fa vs β=.ok (.list ds) β)(hb:fb vs β=.ok (.int ((i:Nat):Int)) β):AN fa (λ_ β=>.ok none β) (A1 fb) vs β=.ok (.list (ds.take i)) β:=by
 unfold AN A1
 rw[ha];dsimp only[R.bnd]
 rw[hb];dsimp only[R.bnd]
 congr 2
 unfold cutD
 rw[HT.rF,HT.uw]
 by_cases h:i<=ds.length
 ·rw[Nat.min_eq_left h];rfl
 ·rw[Nat.min_eq_right (by omega),Jl (show ds.length<=i by omega)];simp
end RM
namespace RM
open PySem PySem.Spec L2 PyProof.Rows
theorem fk:∀r:List Int,eG (r.map int)=some r
 | []=>rfl
 |x :: r=>by
  have:=fk r
  simp only[ID,eG,this]
  try rfl
end RM
namespace RM
open PySem L2
def uW {α:Type}{fa:VF D}{vs:List Nv}{β:Int}{l:List α}{f:α->Bool}(h:fa vs β=.ok (.list (l.map λq=>PyData.bool (f q))) β):f1 fa (b8 λbs=>bs.all id) vs β=.ok (.bool (l.all f)) β:=by
 refine df h ?_
 simp only[b8]
 rw[gE]
 simp[List.all_map,Function.comp_def]
def y6 (l:List Pr)(r:List Int)(x:Int):List Int:=(l.filter λp=>decide (p.2=x) && !decide (p.1∈r)).map (·.1)
def ki {l:List Pr}{r:List Int}{x a:Int}:a∈y6 l r x↔(a,x)∈l/\a∉r:=by
 unfold y6
 rw[HH]
 constructor
 ·rintro⟨p,hp,rfl⟩
  have:=Iq.mp hp
  simp only[Ig,IP,Jz,decide_eq_false_iff_not] at this
  obtain⟨pa,pb⟩:=p
  obtain⟨h1,h2,h3⟩:=this
  simp only at h2 h3
  subst h2
  exact⟨h1,h3⟩
 ·rintro⟨h1,h2⟩
  exact⟨(a,x),Iq.mpr ⟨h1,by simp[h2]⟩,rfl⟩
def wC {n:Nat}{l:List Pr}(O:OM.Ord n l)(r:List Int)(x:Int):(y6 l r x).Nodup:=by
 unfold y6
 rw[Jm,IA]
 refine Ip (λ{a b} ha hb h e=>h ?_) (Jm.mp ((OM.gx O.ris).filter _))
 have h1:=(Iq.mp ha).2
 have h2:=(Iq.mp hb).2
 simp only[Ig,IP] at h1 h2
 exact Prod.ext e (h1.1.trans h2.1.symm)
theorem least {n:Nat}{l:List Pr}(O:OM.Ord n l)(r:List Int):∀(k:Nat) (x:Int),(0<=x/\x < n)->x∉r->(y6 l r x).length<=k->∃y:Int,(0<=y/\y < n)/\y∉r/\y6 l r y= []
 | 0,x,hx,hr,hk=>⟨x,hx,hr,List.length_eq_zero_iff.mp (by omega)⟩
 |k + 1,x,hx,hr,hk=>by
  by_cases he:y6 l r x= []
  ·exact⟨x,hx,hr,he⟩
  ·obtain⟨a,ha⟩:=List.exists_mem_of_ne_nil _ he
   obtain⟨h1,h2⟩:=ki.mp ha
   refine least O r k a (O.wn _ h1).1 h2 ?_
   have nd:(a :: y6 l r a).Nodup:=Il.mpr ⟨λq=>O.irr a (ki.mp q).1,wC O r a⟩
   have:=L2.ST.aO nd (m:=y6 l r x) λy hy=>by
    rcases Hx.mp hy with rfl |hy
    ·exact ha
    ·obtain⟨q1,q2⟩:=ki.mp hy
     exact ki.mpr ⟨O.tr _ _ _ q1 h1,q2⟩
   rw[HX] at this
   omega
structure FC (n:Nat)(l:List Pr)(r:List Int):Prop where
 nd:r.Nodup
 inn:∀x,x∈r->0<=x/\x < (n:Int)
 fit:∀p,p∈l->p.2∈r->p.1∈r/\r.idxOf p.1 < r.idxOf p.2
def rD (l:List Pr)(r:List Int)(x:Int):Bool:= !decide (x∈r) && decide (y6 l r x= [])
def FC.more {n:Nat}{l:List Pr}{r:List Int}{x:Int}(B:FC n l r)(hx:0<=x/\x < (n:Int))(hf:rD l r x=true):FC n l (r ++ [x]):=by
 unfold rD at hf
 rw[Ig,Jz,decide_eq_false_iff_not,IP] at hf
 obtain⟨h1,h2⟩:=hf
 refine⟨?_,λy hy=>?_,λp hp hm=>?_⟩
 ·rw[List.nodup_append]
  refine⟨B.nd,Il.mpr ⟨by simp,Kr⟩,λa ha b hb=>?_⟩
  rw[HC] at hb
  subst hb
  exact λq=>h1 (q▸ha)
 ·rcases HP.mp hy with hy |hy
  ·exact B.inn y hy
  ·rw[HC] at hy;subst hy;exact hx
 ·rcases HP.mp hm with hm |hm
  ·obtain⟨q1,q2⟩:=B.fit p hp hm
   refine⟨Jb _ q1,?_⟩
   rw[Kx,Kx,HA q1,HA hm]
   exact q2
  ·rw[HC] at hm
   have hp1:p.1∈r:=by
    by_cases z:p.1∈r
    ·exact z
    ·have:p.1∈y6 l r x:=ki.mpr ⟨by rw[<-hm];exact hp,z⟩
     rw[h2] at this;cases this
   refine⟨Jb _ hp1,?_⟩
   rw[Kx,Kx,HA hp1,HI (by rw[hm];exact h1)]
   have:=List.idxOf_lt_length_iff.mpr hp1
   omega
def sh (i:Nat):eZ (i + 1)=eZ i ++ [(i:Int)]:=by unfold eZ;rw[List.range_succ,Ic];rfl
end RM
namespace RM
open PySem L2 PyProof.Rows
def mk (f:Nat->Bool):Nat->Nat
 | 0=>0
 |n + 1=>mk f n ||| if f n=true then 2 ^ n else 0
end RM
namespace RM
open PySem L2
def nS (r:List Int)(i:Nat):Bool:=decide ((i:Int)∈r)
structure FO (n:Nat)(l:List Pr)(late r:List Int):Prop where
 beg:FC n l r
 late:∀q x,(q ++ [x]) <+:r->x∈late->∀y:Int,(0<=y/\y < n)->rD l q y=true->y∈late
def FO.more {n:Nat}{l:List Pr}{late r:List Int}{x:Int}(R:FO n l late r)(hx:0<=x/\x < (n:Int))(hf:rD l r x=true)(hl:x∈late->∀y:Int,(0<=y/\y < n)->rD l r y=true->y∈late):FO n l late (r ++ [x]):=by
 refine⟨R.beg.more hx hf,λq z hp hz y hy hfy=>?_⟩
 rcases List.prefix_concat_iff.mp hp with e |hp
 ·have:=List.append_inj' e rfl
  obtain⟨rfl,e2⟩:=this
  cases e2
  exact hl hz y hy hfy
 ·exact R.late q z hp hz y hy hfy
structure WP (r:SO)(Q:SO->Prop):Prop where
 out:Q r
section
variable {m m' m1 m2:SF}{env env1:En}{β β1 β2 z:Int}{Q:SO->Prop}{f fa fb:VF D}{t:VF Bool}{d e:D}{L La Lb:List Nat}{i j:Nat}{c:Bool}
def wp_at (env1:En)(e:env=env1)(k:WP (m env1 β) Q):WP (m env β) Q:=by rw[e];exact k
def wp_seq (h:m env β=.nx env1 β1)(k:WP (m' env1 β1) Q):WP (aH m m' env β) Q:=by rw[aE h];exact k
theorem sW (h:WP (aH m kL env β) Q):WP (m env β) Q:=by
 obtain⟨h⟩:=h
 unfold aH at h
 cases e:m env β with
 |_=>rw[e] at h;exact⟨h⟩
def jI (q:Q (.nx env β)):WP (kL env β) Q:=⟨q⟩
def kU (h:f (vl env) β=.ok d β1)(k:WP (m' ((aU L env).set i (.fz d)) β1) Q):WP (aH (bF i L f) m' env β) Q:=wp_seq (by unfold bF;rw[h];rfl) k
def Ai (h:f (vl env) β=.ok d β1)(k:WP (m' ((aU L env).set i (.ow d)) β1) Q):WP (aH (jG i L f) m' env β) Q:=wp_seq (by unfold jG;rw[h];rfl) k
def Ac (h:f (vl env) β=.ok d β1)(k:WP (m' (aU L env) β1) Q):WP (aH (oh L f) m' env β) Q:=wp_seq (by unfold oh;rw[h];rfl) k
def Df {ds:List D}(hi:env[i]? =some (.ow (.list ds)))(h:f (vl env) β=.ok d β1)(hL:(aU L env)[i]? =some (.ow (.list ds)))(hz:ds.length<=1000)(k:WP (m' ((aU L env).set i (.ow (.list (ds ++ [d])))) β1) Q):WP (aH (ll i L f) m' env β) Q:=wp_seq (pV hi h hL hz) k
def jX (h:t (vl env) β=.ok false β1)(k:WP (m' (aU L env) β1) Q):WP (aH (jc L t m1 kL) m' env β) Q:=wp_seq (by rw[kX h];rfl) k
def uR (h:t (vl env) β=.ok true β1)(k:WP (aH m1 m' (aU L env) β1) Q):WP (aH (jc L t m1 m2) m' env β) Q:=by
 have:aH (jc L t m1 m2) m' env β=aH m1 m' (aU L env) β1:=by unfold aH;rw[oG h]
 rw[this];exact k
def DH (h:t (vl env) β=.ok true β1)(k:WP (m1 (aU L env) β1) Q):WP (jc L t m1 m2 env β) Q:=by rw[oG h];exact k
def wK (h:t (vl env) β=.ok false β1)(k:WP (m2 (aU L env) β1) Q):WP (jc L t m1 m2 env β) Q:=by rw[kX h];exact k
def mR (h:f (vl env) β=.ok d β1)(q:Q (.rt d false β1)):WP (bD f env β) Q:=⟨by unfold bD;rw[h];exact q⟩
def AV (h:f (vl env) β=.ok d β1)(q:Q (.rt d false β1)):WP (aH (bD f) m' env β) Q:=⟨by unfold aH bD;rw[h];exact q⟩
def kQ {R:FR}(h:WP (m env β) λr=>fin r=R):fin (m env β)=R:=h.out
def mi {t:Tg}{fi:VF (List D)}{ds:List D}(I:Nat->En->Int->Prop)(hi:fi (vl env) β=.ok ds β1)(h0:I 0 (aU L env) β1)
  (hs:∀i d env β,ds[i]? =some d->I i env β->∃env1,dH t d env=some env1/\WP (m env1 β) λr=>∃env2 β2,r=.nx env2 β2/\I (i + 1) env2 β2)
  (k:∀env β,I ds.length env β->WP (m' env β) Q):WP (aH (cH t L fi m) m' env β) Q:=by
 obtain⟨env',β',e,h⟩:=fD (t:=t) (m:=m) I (ds:=ds) (k:=0) h0 λi d env β hd h=>by
  rw[Jk] at h
  obtain⟨env1,e1,⟨env2,β2,e2,h2⟩⟩:=hs i d env β hd h
  exact⟨env1,e1,env2,β2,e2,by rw[Jk];exact h2⟩
 rw[Jk] at h
 exact wp_seq ((fG hi).trans e) (k _ _ h)
end
def zA (c:Int)(hc:0<=c/\c<=100)(ns:List Int)(vs:List Nv)(β:Int)(h:gv 0 vs β=.ok (cP ns) β):∃m:Nat,m<=101/\iA (f2 (cst (.int 1)) (f2 (f1 (gv 0) dc) (cst (.int c)) (wV λi j=>.int (if j < i then j else i))) (wV λi j=>.int (if j > i then j else i))) vs β=.ok (bN 0 m) β:=by
 have e1:f2 (cst (.int 1)) (f2 (f1 (gv 0) dc) (cst (.int c)) (wV λi j=>.int (if j < i then j else i))) (wV λi j=>.int (if j > i then j else i)) vs β=.ok (.int (if (if c < ((ns.map int).length:Int) then c else ((ns.map int).length:Int)) > 1 then (if c < ((ns.map int).length:Int) then c else ((ns.map int).length:Int)) else 1)) β:=
  aK (x:=.int 1) rfl (aK (x:=.int (ns.map int).length) (y:=.int c) (df h rfl) rfl rfl) rfl
 generalize ((ns.map int).length:Nat)=k at e1
 refine⟨(if (if c < (k:Int) then c else (k:Int)) > 1 then (if c < (k:Int) then c else (k:Int)) else 1).toNat,?_,jN (e1.trans ?_) ?_⟩
 ·split <;> split <;> omega
 ·congr 2
  split <;> split <;> omega
 ·split <;> split <;> omega
def xH {n:Nat}{r:List Int}:(sortI r=eZ n)↔r.Perm (eZ n):=by
 constructor
 ·intro h;rw[<-h];exact (sortI_perm r).symm
 ·intro h;exact (jA h.symm ((C9 n).imp λh=>Int.le_of_lt h)).symm
def zQ {ds:List D}{k:Nat}(h:k < ds.length):∃d,ds[k]? =some d/\d∈ds/\i4 ds (k:Int)=some d:=⟨ds[k],Hu h,IV h,lF (Hu h)⟩
def n6 {fa fb:VF D}{vs:List Nv}{β β1 β2:Int}{a b:List D}(h1:fa vs β=.ok (.list a) β1)(h2:fb vs β1=.ok (.list b) β2)(hz:a.length + b.length<=1000):f2 fa fb cV vs β=.ok (.list (a ++ b)) β2:=aK h1 h2 (jE (by omega))
def Hh {fa:VF D}{vs:List Nv}{β:Int}{i:Nat}(h:fa vs β=.ok (.int (i:Nat)) β):f2 fa (cst (.int 1)) bJ vs β=.ok (.int ((i + 1:Nat):Int)) β:=aK h rfl (by show some (int ((i:Int) + 1))=_;rw[show ((i + 1:Nat):Int)=(i:Int) + 1 by omega])
def Cc (l:List Pr)(ns:List Int)(t:Int):Bool:= !(ns.any λa=>og l (a,t))
def EV:List D->FR:=bh 3 3 (pU BQ)
def BB {fa:VF D}{vs:List Nv}{β:Int}{l:List Int}{f:Int->Bool}(h:fa vs β=.ok (.list (l.map λq=>PyData.bool (f q))) β):f1 fa (b8 λbs=>bs.any id) vs β=.ok (.bool (l.any f)) β:=df h (by simp only[b8];rw[gE];simp[List.any_map])
def Gj {n:Nat}{l:List Pr}{ns:List Int}{t:Int}(hz:ns.length<=1000):EV [aB n l,.list (ns.map int),.int t]=.ok (.bool (Cc l ns t)) false:=by
 show fin (pU BQ [.fz (aB n l),.fz (.list (ns.map int)),.fz (.int t)] 0)=_
 unfold pU
 have ec:a7 1 [0,2] (.nm 0) (bZ (gv 1)) ni (aA BQ (aa (gv 1) (aa (gv 0) (aa (gv 2) ao)))) (vl [.fz (aB n l),.fz (.list (ns.map int)),.fz (.int t)]) 0=.ok (.list (ns.map λa=>PyData.bool (og l (a,t)))) 0:=
  cQ (l:=ns) (e:=int) (λa=>PyData.bool (og l (a,t))) rfl hz λa _=>⟨_,rfl,aL (ds:=[aB n l,.int a,.int t]) rfl (Dm n l a t)⟩
 rw[uJ,df (BB ec) (show qG (.bool _)=some (.bool (!_)) from rfl)];rfl
def yT (l:List Pr)(a b:Int):og l (a,b)=og l (b,a):=by
 unfold og
 rw[JK]
 simp only[Ig,Jz,decide_eq_false_iff_not]
 exact⟨λ⟨h1,h2,h3⟩=>⟨λe=>h1 e.symm,h3,h2⟩,λ⟨h1,h2,h3⟩=>⟨λe=>h1 e.symm,h3,h2⟩⟩
def Dv (l:List Pr)(a:Int):og l (a,a)=false:=by unfold og;simp
def Fd {xs:List Int}(h:xs.Nodup):(sortI xs).Pairwise (· < ·):=by
 have nd:(sortI xs).Pairwise (· ≠ ·):=(sortI_perm xs).nodup_iff.mpr h
 exact ((qw xs).and nd).imp λ⟨h1,h2⟩=>by omega
end RM
namespace OM
theorem gN:∀{l g:List Int},l.Pairwise (· < ·)->g.Pairwise (· < ·)->(∀x,x∈g->x∈l)->List.Sublist g l
 | [],[],_,_,_=>.slnil
 | [],b :: g,_,_,h=>by cases h b (Hz ..)
 |a :: l,[],_,_,_=>List.nil_sublist _
 |a :: l,b :: g,hl,hg,h=>by
  have hl':=Jr.mp hl
  have hg':=Jr.mp hg
  by_cases e:a=b
  ·subst e
   refine .cons_cons _ (gN hl'.2 hg'.2 λx hx=>?_)
   have:=hg'.1 x hx
   rcases Hx.mp (h x (HG _ hx)) with rfl |h2
   ·omega
   ·exact h2
  ·refine .cons _ (gN hl'.2 hg λx hx=>?_)
   have hb:b∈l:=by
    rcases Hx.mp (h b (Hz ..)) with z |z
    ·exact absurd z.symm e
    ·exact z
   have hab:=hl'.1 b hb
   rcases Hx.mp hx with rfl |hx'
   ·exact hb
   ·have:=hg'.1 x hx'
    rcases Hx.mp (h x hx) with rfl |h2
    ·omega
    ·exact h2
section
variable (c:Int->Int->Bool)(n:Nat)
def ups (lo:Int):List Int:=(List.range ((n:Int) - lo).toNat).map λ(k:Nat)=>lo + (k:Int)
def DB (g:List Int):List (List Int):=((ups n (g.getLast?.getD (-1) + 1)).filter λt=>g.all λa=>c a t).map λt=>g ++ [t]
def longer (gs:List (List Int)):List (List Int):=gs.flatMap (DB c n)
def Lv (k:Nat)(g:List Int):Prop:=g.length=k/\g.Pairwise (· < ·)/\(∀x,x∈g->0<=x/\x < n)/\g.Pairwise (λa b=>c a b=true)
def zj {g:List Int}(h:g.Pairwise (· < ·)){t:Int}(ht:g.getLast?.getD (-1) < t):∀x,x∈g->x < t:=by
 intro x hx
 have hne:g≠ []:=λz=>by rw[z] at hx;cases hx
 obtain⟨init,y,rfl⟩:∃init y,g=init ++ [y]:=⟨g.dropLast,g.getLast hne,(J9 hne).symm⟩
 rw[List.getLast?_append] at ht
 simp at ht
 rcases HP.mp hx with h1 |h1
 ·have:=(IF.mp h).2.2 x h1 y (by simp)
  omega
 ·rw[HC] at h1;omega
def hZ {lo t:Int}:t∈ups n lo↔lo<=t/\t < n:=by
 unfold ups
 rw[HH]
 constructor
 ·rintro⟨k,hk,rfl⟩
  rw[HR] at hk;omega
 ·rintro⟨h1,h2⟩
  exact⟨(t - lo).toNat,HR.mpr (by omega),by omega⟩
def ud {gs:List (List Int)}{k:Nat}(hk:1<=k)(h:∀g,g∈gs↔Lv c n k g)(g':List Int):g'∈longer c n gs↔Lv c n (k + 1) g':=by
 unfold longer
 rw[List.mem_flatMap]
 constructor
 ·rintro⟨g,hg,hm⟩
  obtain⟨t,ht,rfl⟩:=HH.mp hm
  obtain⟨h1,h2,h3,h4⟩:=(h g).mp hg
  rw[Iq,IG,hZ] at ht
  obtain⟨hr,hall⟩:=ht
  have hm:=zj h2 (show g.getLast?.getD (-1) < t by omega)
  have h0:0<=t:=by
   cases g with
   |nil=>simp at h1;omega
   |cons a g=>have:=hm a (Hz ..);have:=h3 a (Hz ..);omega
  refine⟨by rw[Ik,h1];rfl,IF.mpr ⟨h2,JV ..,λx hx y hy=>?_⟩,λx hx=>?_,IF.mpr ⟨h4,JV ..,λx hx y hy=>?_⟩⟩
  ·rw[HC] at hy;subst hy;exact hm x hx
  ·rcases HP.mp hx with hx |hx
   ·exact h3 x hx
   ·rw[HC] at hx;subst hx;omega
  ·rw[HC] at hy;subst hy;exact hall x hx
 ·rintro⟨h1,h2,h3,h4⟩
  have hne:g'≠ []:=λz=>by rw[z] at h1;simp at h1
  obtain⟨g,t,rfl⟩:∃g t,g'=g ++ [t]:=⟨g'.dropLast,g'.getLast hne,(J9 hne).symm⟩
  rw[Ik] at h1
  simp only[HX,Kh] at h1
  have p2:=IF.mp h2
  have p4:=IF.mp h4
  refine⟨g,(h g).mpr ⟨by omega,p2.1,λx hx=>h3 x (Jb _ hx),p4.1⟩,HH.mpr ⟨t,?_,rfl⟩⟩
  have ht:=h3 t (HZ _ (by simp))
  rw[Iq,IG,hZ]
  refine⟨⟨?_,ht.2⟩,λa ha=>p4.2.2 a ha t (by simp)⟩
  have hg:g≠ []:=λz=>by rw[z] at h1;simp at h1;omega
  rw[List.getLast?_eq_some_getLast hg]
  have:=p2.2.2 _ (List.getLast_mem hg) t (by simp)
  show g.getLast hg + 1<=t
  omega
end
section
variable (c:Int->Int->Bool)(n:Nat)
def z0 (x:Int):Nat:=2 ^ ((n:Int) - 1 - x).toNat
def uX {lo:Int}(h:(n:Int)<=lo):ups n lo= []:=by
 unfold ups
 rw[show ((n:Int) - lo).toNat=0 by omega];rfl
def yP {lo:Int}(h:lo < n):ups n lo=lo :: ups n (lo + 1):=by
 unfold ups
 rw[show ((n:Int) - lo).toNat=((n:Int) - (lo + 1)).toNat + 1 by omega,List.range_succ_eq_map,ID,Ja]
 congr 1
 ·simp
 ·apply Jj
  intro k _
  show lo + ((k + 1:Nat):Int)=lo + 1 + (k:Int)
  omega
theorem o6 (f:Int->Bool):∀(m:Nat) (lo:Int),((n:Int) - lo).toNat<=m->(((ups n lo).filter f).map (z0 n)).sum < 2 ^ ((n:Int) - lo).toNat
 | 0,lo,h=>by
  rw[uX n (by omega),show ((n:Int) - lo).toNat=0 by omega];simp
 |m + 1,lo,h=>by
  by_cases hl:lo < n
  ·have ih:=o6 f m (lo + 1) (by omega)
   rw[yP n hl,show ((n:Int) - lo).toNat=((n:Int) - (lo + 1)).toNat + 1 by omega,Nat.pow_succ]
   have hw:z0 n lo=2 ^ ((n:Int) - (lo + 1)).toNat:=by unfold z0;congr 1;omega
   by_cases hf:f lo=true
   ·rw[JC hf,ID,List.sum_cons,hw];omega
   ·rw[JD hf];omega
  ·rw[uX n (by omega)]
   simp only[filter_nil,Kk,List.sum_nil]
   exact Nat.pow_pos (by omega)
def wg (g:List Int):Nat:=z0 n (g.getLast?.getD (-1))
def W (gs:List (List Int)):Nat:=(gs.map (wg n)).sum
def Eu (g:List Int):W n (DB c n g)<=wg n g:=by
 unfold W DB
 rw[Ja]
 have:(wg n ∘ λt=>g ++ [t])=z0 n:=by
  funext t
  show z0 n ((g ++ [t]).getLast?.getD (-1))=z0 n t
  rw[List.getLast?_append];rfl
 rw[this]
 have h:=o6 n (λt=>g.all λa=>c a t) _ (g.getLast?.getD (-1) + 1) (Hy _)
 have e:wg n g=2 ^ ((n:Int) - (g.getLast?.getD (-1) + 1)).toNat:=by unfold wg z0;congr 1;omega
 omega
def Cg (a b:List (List Int)):W n (a ++ b)=W n a + W n b:=by
 unfold W;rw[Ic,List.sum_append]
theorem j3:∀gs:List (List Int),W n (longer c n gs)<=W n gs
 | []=>Hy _
 |g :: gs=>by
  have h1:=Eu c n g
  have h2:=j3 gs
  show W n (DB c n g ++ longer c n gs)<=wg n g + W n gs
  rw[Cg];omega
theorem zD:∀gs:List (List Int),gs.length<=W n gs
 | []=>Ia _
 |g :: gs=>by
  have h2:=zD gs
  have:1<=wg n g:=Nat.pow_pos (by omega)
  show gs.length + 1<=wg n g + W n gs
  omega
def ones:List (List Int):=(ups n 0).map λt=>[t]
def yO:W n (ones n) < 2 ^ n:=by
 have h:=o6 n (λ_=>true) _ 0 (Hy _)
 rw[List.filter_eq_self.mpr (λ_ _=>rfl)] at h
 unfold W ones
 rw[Ja]
 have e:(wg n ∘ λt=>[t])=z0 n:=rfl
 rw[e]
 simpa using h
end
section
variable (c:Int->Int->Bool)(n:Nat)
def lJ (lo:Int):(ups n lo).Pairwise (· < ·):=by
 unfold ups
 rw[IA]
 exact JZ.imp λh=>by omega
def jb:Nat->List (List Int)
 | 0=>ones n
 |k + 1=>longer c n (jb k)
theorem fZ:∀(k:Nat) (g:List Int),g∈jb c n k↔Lv c n (k + 1) g
 | 0,g=>by
  show g∈ones n↔_
  unfold ones
  rw[HH]
  constructor
  ·rintro⟨t,ht,rfl⟩
   refine⟨rfl,JV ..,λx hx=>?_,JV ..⟩
   rw[HC] at hx;subst hx;exact (hZ n).mp ht
  ·rintro⟨h1,_,h3,_⟩
   obtain⟨t,rfl⟩:=List.length_eq_one_iff.mp h1
   exact⟨t,(hZ n).mpr (h3 t (by simp)),rfl⟩
 |k + 1,g=>ud c n (by omega) (fZ k) g
def Ay (k:Nat):(jb c n k).length < 2 ^ n:=by
 have:W n (jb c n k) < 2 ^ n:=by
  induction k with
  |zero=>exact yO n
  |succ k ih=>exact Ko (j3 c n _) ih
 exact Ko (zD n _) this
theorem uD {k:Nat}(h:n<=k):jb c n k= []:=by
 cases e:jb c n k with
 |nil=>rfl
 |cons g gs=>
  have hg:g∈jb c n k:=by rw[e];exact Hz ..
  obtain⟨h1,h2,h3,_⟩:=(fZ c n k g).mp hg
  have hs:List.Sublist g (ups n 0):=gN (lJ n 0) h2 λx hx=>(hZ n).mpr (h3 x hx)
  have:=hs.length_le
  unfold ups at this
  rw[HF,Jg] at this
  omega
end
open L2.HM
theorem uL:∀(g a b:List Int),lexLt (g ++ a) (g ++ b)=lexLt a b
 | [],_,_=>rfl
 |x :: g,a,b=>by
  show (if x=x then lexLt (g ++ a) (g ++ b) else _)=_
  rw[HA rfl,uL g]
theorem vp:∀{g h a b:List Int},g.length=h.length->lexLt g h=true->lexLt (g ++ a) (h ++ b)=true
 | [],[],_,_,_,e=>by cases e
 | [],_ :: _,_,_,l,_=>by cases l
 |_ :: _,[],_,_,l,_=>by cases l
 |x :: g,y :: h,a,b,l,e=>by
  show (if x=y then lexLt (g ++ a) (h ++ b) else decide (x < y))=true
  rw[hJ] at e
  split at e
  ·rename_i q;rw[HA q];exact vp (by simpa using l) e
  ·rename_i q;rw[HI q];exact e
theorem uA (c:Int->Int->Bool)(n:Nat):∀k,(jb c n k).Pairwise λa b=>lexLt a b=true
 | 0=>by
  show (ones n).Pairwise _
  unfold ones
  refine List.Pairwise.map _ (λa b h=>?_) (lJ n 0)
  show (if a=b then lexLt [] [] else decide (a < b))=true
  rw[HI (by omega)];exact HK h
 |k + 1=>by
  show (longer c n (jb c n k)).Pairwise _
  unfold longer
  refine List.pairwise_flatMap.mpr ⟨λg hg=>?_,Ip ?_ (uA c n k)⟩
  ·unfold DB
   refine List.Pairwise.map _ (λa b h=>?_) ((lJ n _).sublist List.filter_sublist)
   rw[uL]
   show (if a=b then lexLt [] [] else decide (a < b))=true
   rw[HI (by omega)];exact HK h
  ·intro g h hg hh l x hx y hy
   obtain⟨t,_,rfl⟩:=HH.mp hx
   obtain⟨u,_,rfl⟩:=HH.mp hy
   exact vp (((fZ c n k g).mp hg).1.trans ((fZ c n k h).mp hh).1.symm) l
end OM
namespace RM
open PySem L2
def aI (g:List Int):D:=.list (g.map int)
def bH (l:List Pr)(a b:Int):Bool:=og l (a,b)
noncomputable def Ar:List D->FR:=bh 5 2 (cK BQ)
abbrev nI (n:Nat)(l:List Pr)(gs ws:List (List Int))(s3 s4:Sl):En:=[.fz (aB n l),.fz (.list (gs.map aI)),.ow (.list (ws.map aI)),s3,s4]
noncomputable abbrev kM:SF:=jc ([] ++ [0,4]) (jt (f1 (a7 1 [0,4] (.nm 0) (bZ (gv 3)) ni (aA BQ (aa (gv 1) (aa (gv 0) (aa (gv 2) ao))))) (b8 λbs=>bs.all id)))
 (ll 2 ([] ++ ([4] ++ [])) (f2 (gv 3) (a9 (aa (gv 4) ao)) cV))
 kL
theorem FG {n:Nat}{l:List Pr}{gs ws:List (List Int)}{g:List Int}{t:Int}(hg:g.length<=100)(hw:ws.length<=900):kM (nI n l gs ws (.fz (aI g)) (.fz (.int t))) 0=.nx (nI n l gs (ws ++ (([t].filter λt=>g.all λa=>bH l a t).map λt=>g ++ [t])) (.fz (aI g)) (.fz (.int t))) 0:=by
 have ec:a7 1 [0,4] (.nm 0) (bZ (gv 3)) ni (aA BQ (aa (gv 1) (aa (gv 0) (aa (gv 2) ao)))) (vl (nI n l gs ws (.fz (aI g)) (.fz (.int t)))) 0=.ok (.list (g.map λa=>PyData.bool (bH l a t))) 0:=
  cQ (l:=g) (e:=int) (λa=>PyData.bool (bH l a t)) rfl (by omega) λa ha=>⟨_,rfl,aL (ds:=[aB n l,.int a,.int t]) rfl (Dm n l a t)⟩
 have tt:=jf (uW ec)
 unfold kM
 cases hc:(g.all λa=>bH l a t) with
 |true=>
  rw[hc] at tt
  rw[oG tt]
  show ll 2 ([] ++ ([4] ++ [])) _ (nI n l gs ws (.fz (aI g)) (.fz (.int t))) 0=_
  have ea:f2 (gv 3) (a9 (aa (gv 4) ao)) cV (vl (nI n l gs ws (.fz (aI g)) (.fz (.int t)))) 0=.ok (aI (g ++ [t])) 0:=by
   refine aK (x:=.list (g.map int)) (y:=.list [.int t]) rfl (lp (ac rfl an)) ?_
   rw[jE (by rw[HF];simp;omega)]
   unfold aI;rw[Ic];rfl
  rw[pV (i:=2) (ds:=ws.map aI) (d:=aI (g ++ [t])) (β':=0) (by rfl) ea (by rfl) (by rw[HF];omega),JC (by rw[hc])]
  show SO.nx (([.fz (aB n l),.fz (.list (gs.map aI)),.ow (.list (ws.map aI ++ [aI (g ++ [t])])),.fz (aI g),.fz (.int t)]:En)) 0=_
  rw[show ws.map aI ++ [aI (g ++ [t])]=(ws ++ [g ++ [t]]).map aI by rw[Ic];rfl];rfl
 |false=>
  rw[hc] at tt
  rw[kX tt,JD (by rw[hc];simp)]
  show SO.nx _ 0=_
  rw[show ws ++ ([].filter λt=>g.all λa=>bH l a t).map (λt=>g ++ [t])=ws by simp];rfl
theorem EU {n:Nat}{l:List Pr}{gs:List (List Int)}{g:List Int}(hg:g.length<=100):∀(ts:List Int) (ws:List (List Int)) (s4:Sl),ws.length + ts.length<=900->∃s4',gV (.nm 4) kM (ts.map int) (nI n l gs ws (.fz (aI g)) s4) 0=.nx (nI n l gs (ws ++ ((ts.filter λt=>g.all λa=>bH l a t).map λt=>g ++ [t])) (.fz (aI g)) s4') 0
 | [],ws,s4,_=>⟨s4,by rw[show ws ++ ((([]:List Int).filter λt=>g.all λa=>bH l a t).map λt=>g ++ [t])=ws by simp];rfl⟩
 |t :: ts,ws,s4,h=>by
  simp only[HX] at h
  have e:=FG (n:=n) (l:=l) (gs:=gs) (ws:=ws) (t:=t) hg (by omega)
  have hl:(ws ++ (([t].filter λt=>g.all λa=>bH l a t).map λt=>g ++ [t])).length<=ws.length + 1:=by
   rw[Ik,HF]
   have:=Js (λt=>g.all λa=>bH l a t) [t]
   simp only[HX,Kh] at this;omega
  obtain⟨s4',e2⟩:=EU hg ts (ws ++ (([t].filter λt=>g.all λa=>bH l a t).map λt=>g ++ [t])) (.fz (.int t)) (by omega)
  refine⟨s4',?_⟩
  show gV (.nm 4) kM (.int t :: ts.map int) _ 0=_
  unfold gV
  rw[show dH (.nm 4) (.int t) (nI n l gs ws (.fz (aI g)) s4)=some (nI n l gs ws (.fz (aI g)) (.fz (.int t))) from rfl]
  dsimp only
  rw[e]
  dsimp only
  rw[e2,show ws ++ (((t :: ts).filter λt=>g.all λa=>bH l a t).map λt=>g ++ [t])=ws ++ (([t].filter λt=>g.all λa=>bH l a t).map λt=>g ++ [t]) ++ ((ts.filter λt=>g.all λa=>bH l a t).map λt=>g ++ [t]) by rw[I0,<-Ic,<-Kq];rfl]
noncomputable abbrev tM:SF:=cH (.nm 4) ((([] ++ []) ++ []) ++ ([] ++ [])) (lh (f2 (f2 (gv 3) (f1 (cst (.int 1)) yh) dz) (cst (.int 1)) bJ) (f2 (gv 0) (cst (.int 0)) dz)) kM
def y7 {g:List Int}(h:g≠ []):i4 (g.map int) (-1)=some (.int (g.getLast?.getD (-1))):=by
 obtain⟨i,y,rfl⟩:∃i y,g=i ++ [y]:=⟨g.dropLast,g.getLast h,(J9 h).symm⟩
 rw[i0]
 have:i4 (i ++ [y]) (-1)=some y:=by
  unfold i4 vi
  simp only[Ik,HX,Kh]
  rw[HI (by omega),HA (by omega),show (-1 + ((i.length + (0 + 1):Nat):Int)).toNat=i.length by omega]
  simp
 rw[this,List.getLast?_append];rfl
def GU {n:Nat}{l:List Pr}{gs ws:List (List Int)}{g:List Int}(hn:n<=8)(hg:g.length<=100)(hne:g≠ [])(hr:∀x,x∈g->0<=x/\x < n)(hw:ws.length<=800)(s4:Sl):∃s4',tM (nI n l gs ws (.fz (aI g)) s4) 0=.nx (nI n l gs (ws ++ OM.DB (bH l) n g) (.fz (aI g)) s4') 0:=by
 have hy:0<=g.getLast?.getD (-1)/\g.getLast?.getD (-1) < n:=by
  rw[List.getLast?_eq_some_getLast hne]
  exact hr _ (List.getLast_mem hne)
 generalize hy':g.getLast?.getD (-1)=y at hy
 have e1:f2 (f2 (gv 3) (f1 (cst (.int 1)) yh) dz) (cst (.int 1)) bJ (vl (nI n l gs ws (.fz (aI g)) s4)) 0=.ok (.int (y + 1)) 0:=aK (x:=.int y) (y:=.int 1) (aK (x:=aI g) (y:=.int (-1)) rfl rfl (by rw[<-hy'];exact y7 hne)) rfl rfl
 have e2:f2 (gv 0) (cst (.int 0)) dz (vl (nI n l gs ws (.fz (aI g)) s4)) 0=.ok (.int n) 0:=aK (x:=aB n l) (y:=.int 0) rfl rfl rfl
 have er:=si e1 e2 (by omega) (by omega)
 have hi:bN (y + 1) ((n:Int) - (y + 1)).toNat=(OM.ups n (y + 1)).map int:=by
  unfold bN OM.ups
  rw[Ja];rfl
 rw[hi] at er
 have hul:(OM.ups n (y + 1)).length<=8:=by unfold OM.ups;rw[HF,Jg];omega
 obtain⟨s4',e⟩:=EU (n:=n) (l:=l) (gs:=gs) hg (OM.ups n (y + 1)) ws s4 (by omega)
 refine⟨s4',?_⟩
 unfold tM
 rw[fG (env:=nI n l gs ws (.fz (aI g)) s4) (β1:=0) er]
 show gV (.nm 4) kM _ (nI n l gs ws (.fz (aI g)) s4) 0=_
 rw[e]
 unfold OM.DB
 rw[hy']
def D3 {n:Nat}{l:List Pr}{k:Nat}(hn:n<=8):Ar [aB n l,.list ((OM.jb (bH l) n k).map aI)]=.ok (.list ((OM.jb (bH l) n (k + 1)).map aI)) true:=by
 have hlen:=OM.Ay (bH l) n k
 have h64:2 ^ n<=2 ^ 8:=Nat.pow_le_pow_right (by omega) hn
 have hmem:=OM.fZ (bH l) n k
 generalize hgs:OM.jb (bH l) n k=gs at hlen hmem
 show fin (cK BQ [.fz (aB n l),.fz (.list (gs.map aI)),.no,.no,.no] 0)=_
 unfold cK
 rw[aE (env':=nI n l gs [] .no .no) (β':=0) (by rw[yb,lp (ds:=[]) an];rfl)]
 obtain⟨env',β',ef,rfl,s3,s4,rfl⟩:=fD (t:=.nm 3) (m:=tM) (ds:=gs.map aI) (k:=0)
  (λi env β=>β=0/\∃s3 s4:Sl,env=nI n l gs (OM.longer (bH l) n (gs.take i)) s3 s4)
  (env:=nI n l gs [] .no .no) (β:=0) ⟨rfl,.no,.no,rfl⟩ (by
   rintro i d env β hi ⟨rfl,s3,s4,rfl⟩
   rw[Jk]
   rw[HL] at hi
   cases hq:gs[i]? with
   |none=>rw[hq] at hi;cases hi
   |some g=>
    rw[hq] at hi;cases hi
    have hgm:g∈gs:=HN hq
    obtain⟨h1,h2,h3,h4⟩:=(hmem g).mp hgm
    have hne:g≠ []:=λz=>by rw[z] at h1;simp at h1
    have hsub:List.Sublist g (OM.ups n 0):=OM.gN (OM.lJ n 0) h2 λx hx=>(OM.hZ n).mpr (h3 x hx)
    have hg8:g.length<=8:=by
     have:=hsub.length_le
     unfold OM.ups at this
     rw[HF,Jg] at this
     omega
    have hw:(OM.longer (bH l) n (gs.take i)).length<=800:=by
     have a1:=OM.zD n (OM.longer (bH l) n (gs.take i))
     have a2:=OM.j3 (bH l) n (gs.take i)
     have a3:OM.W n (gs.take i)<=OM.W n gs:=by
      have:=OM.Cg n (gs.take i) (gs.drop i)
      rw[Jq] at this
      omega
     have a4:OM.W n gs < 2 ^ n:=by
      rw[<-hgs]
      have:∀k,OM.W n (OM.jb (bH l) n k) < 2 ^ n:=λk=>by
       induction k with
       |zero=>exact OM.yO n
       |succ k ih=>exact Ko (OM.j3 (bH l) n _) ih
      exact this k
     omega
    obtain⟨s4',e⟩:=GU (n:=n) (l:=l) (gs:=gs) (by omega) (by omega) hne h3 hw s4
    refine⟨nI n l gs (OM.longer (bH l) n (gs.take i)) (.fz (aI g)) s4,rfl,_,_,e,rfl,.fz (aI g),s4',?_⟩
    have ht:gs.take (i + 1)=gs.take i ++ [g]:=by
     obtain⟨hi',eg⟩:=HB.mp hq
     rw[List.take_succ_eq_append_getElem hi',eg]
    rw[ht]
    unfold OM.longer
    rw[List.flatMap_append]
    simp)
 rw[HF,Jk,List.take_length] at *
 rw[aE (env':=nI n l gs (OM.longer (bH l) n gs) s3 s4) (β':=0) ?zz]
 ·show FR.ok _ true=_
  rw[show OM.jb (bH l) n (k + 1)=OM.longer (bH l) n gs by rw[<-hgs];rfl]
 case zz=>
  rw[fG (env:=nI n l gs [] .no .no) (ds:=gs.map aI) (β1:=0) (by rfl)]
  exact ef
noncomputable def Ey:List D->FR:=bh 3 1 (eR jL Ar)
noncomputable abbrev xJ:SF:=aH (bF 1 [2] (gv 2))
 (bF 2 ([0] ++ ([1] ++ [])) (aA Ar (aa (gv 0) (aa (gv 1) ao))))
abbrev Bv (n:Nat)(l:List Pr)(gs ls:List (List Int)):En:=[.fz (aB n l),.fz (.list (gs.map aI)),.fz (.list (ls.map aI))]
theorem Eo {n:Nat}{l:List Pr}{gs ls:List (List Int)}:jt (gv 2) (vl (Bv n l gs ls)) 0=.ok (!decide (ls= [])) 0:=by
 cases ls with
 |nil=>rfl
 |cons g ls=>rfl
def FJ {n:Nat}{l:List Pr}(O:OM.Ord n l)(h6:n<=8):∃(g:List Int) (k:Nat),Ey [aB n l]=.ok (aI g) false/\OM.Lv (bH l) n (k + 1) g/\(∀g',¬OM.Lv (bH l) n (k + 2) g')/\∀g',OM.Lv (bH l) n (k + 1) g'->g'=g\/L2.HM.lexLt g g'=true:=by
 show ∃(g:List Int) (k:Nat),fin (eR jL Ar [.fz (aB n l),.no,.no] 0)=.ok (aI g) false/\_
 unfold eR
 rw[aE (env':=[.fz (aB n l),.no,.no]) (β':=0) (by rw[xK,aL (ds:=[aB n l]) (β1:=0) rfl (sH O)];rfl)]
 have e1:f2 (gv 0) (cst (.int 0)) dz (vl [.fz (aB n l),.no,.no]) 0=.ok (.int n) 0:=aK (x:=aB n l) (y:=.int 0) rfl rfl rfl
 have hi:bN 0 n=(OM.ups n 0).map int:=by
  unfold bN OM.ups
  rw[Ja,show ((n:Int) - 0).toNat=n by omega];rfl
 have er:iA (f2 (gv 0) (cst (.int 0)) dz) (vl [.fz (aB n l),.no,.no]) 0=.ok ((OM.ups n 0).map int) 0:=by
  rw[<-hi];exact jN (n:=n) e1 (by omega)
 have hul:(OM.ups n 0).length=n:=by unfold OM.ups;rw[HF,Jg];omega
 have ec:a7 1 [] (.nm 0) (iA (f2 (gv 0) (cst (.int 0)) dz)) ni (a9 (aa (gv 0) ao)) (vl [.fz (aB n l),.no,.no]) 0=.ok (.list ((OM.ones n).map aI)) 0:=by
  unfold OM.ones
  rw[Ja]
  exact cQ (l:=OM.ups n 0) (e:=int) (λt=>aI [t]) er (by omega) λt ht=>⟨_,rfl,lp (ac rfl an)⟩
 rw[aE (env':=[.fz (aB n l),.fz (.list ((OM.ones n).map aI)),.no]) (β':=0) (by rw[vk,ec];rfl)]
 rw[aE (env':=Bv n l (OM.jb (bH l) n 0) (OM.jb (bH l) n 0)) (β':=0) (by rfl)]
 obtain⟨env',β',ew,rfl,i,gs,rfl,hgs⟩:=gQ (L:=[]) (t:=jt (gv 2)) (m:=xJ)
  (λk env β=>β=0/\∃(i:Nat) (gs:List (List Int)),env=Bv n l gs (OM.jb (bH l) n i)/\k + i=n + 1/\((i=0/\gs=OM.jb (bH l) n 0)\/(1<=i/\gs=OM.jb (bH l) n (i - 1)/\gs≠ [])))
  (λenv β=>β=0/\∃(i:Nat) (gs:List (List Int)),env=Bv n l gs (OM.jb (bH l) n i)/\OM.jb (bH l) n i= []/\1<=i/\gs=OM.jb (bH l) n (i - 1)/\gs≠ [])
  (n:=1000) (k:=n + 1) (env:=Bv n l (OM.jb (bH l) n 0) (OM.jb (bH l) n 0)) (β:=0) (by omega) ⟨rfl,0,_,rfl,by omega,.inl ⟨rfl,rfl⟩⟩ (by
   rintro k env β ⟨rfl,i,gs,rfl,hk,hgs⟩
   refine⟨_,0,Eo,?_⟩
   by_cases hz:OM.jb (bH l) n i= []
   ·refine .inl ⟨by rw[HK hz];rfl,rfl,i,gs,rfl,hz,?_⟩
    rcases hgs with⟨rfl,rfl⟩ |h
    ·exfalso
     have h0:(0:Int)∈OM.ups n 0:=(OM.hZ n).mpr ⟨by omega,by have:=O.lo;omega⟩
     have: [(0:Int)]∈OM.jb (bH l) n 0:=HH.mpr ⟨0,h0,rfl⟩
     rw[hz] at this;cases this
    ·exact h
   ·refine .inr ⟨by rw[HV hz];rfl,Bv n l (OM.jb (bH l) n i) (OM.jb (bH l) n (i + 1)),0,n + 1 - (i + 1),?_,?_,rfl,i + 1,_,rfl,?_,.inr ⟨by omega,rfl,hz⟩⟩
    ·show xJ (Bv n l gs (OM.jb (bH l) n i)) 0=_
     unfold xJ
     rw[aE (env':=Bv n l (OM.jb (bH l) n i) (OM.jb (bH l) n i)) (β':=0) (by rfl)]
     rw[vk,aL (ds:=[aB n l,.list ((OM.jb (bH l) n i).map aI)]) (β1:=0) rfl (D3 h6)];rfl
    ·have:i < n:=by
      by_cases q:i < n
      ·exact q
      ·exact absurd (OM.uD (bH l) n (by omega)) hz
     omega
    ·have:i < n:=by
      by_cases q:i < n
      ·exact q
      ·exact absurd (OM.uD (bH l) n (by omega)) hz
     omega)
 obtain⟨hend,hi1,hgs,hne⟩:=hgs
 obtain⟨g,rest,hg⟩:=List.exists_cons_of_ne_nil hne
 have hgm:g∈OM.jb (bH l) n (i - 1):=by rw[<-hgs,hg];exact Hz ..
 have hL:=(OM.fZ (bH l) n (i - 1) g).mp hgm
 have hno:∀g',¬OM.Lv (bH l) n (i + 1) g':=λg' z=>by
  have:=(OM.fZ (bH l) n i g').mpr z
  rw[hend] at this;cases this
 refine⟨g,i - 1,?_,hL,λg' z=>hno g' (by rw[show i + 1=i - 1 + 2 by omega];exact z),λg' z=>?_⟩
 rotate_left
 ·have hm:=(OM.fZ (bH l) n (i - 1) g').mpr z
  have hp:=OM.uA (bH l) n (i - 1)
  rw[<-hgs,hg] at hm hp
  rcases Hx.mp hm with e |e
  ·exact .inl e
  ·exact .inr ((Jr.mp hp).1 g' e)
 rw[aE ew,hg]
 have e0:f2 (gv 1) (cst (.int 0)) dz (vl (Bv n l (g :: rest) (OM.jb (bH l) n i))) 0=.ok (aI g) 0:=aK (x:=.list ((g :: rest).map aI)) (y:=.int 0) rfl rfl (by show i4 ((g :: rest).map aI) 0=_;exact lF (j:=0) rfl)
 rw[uJ,e0];rfl
end RM
namespace L2.DW
open Classical
section
variable (lt:Int->Int->Prop)
def Cm (x y:Int):Prop:=x=y\/lt x y\/lt y x
structure An (S A:List Int):Prop where
 nd:A.Nodup
 sub:∀x,x∈A->x∈S
 ap:∀x y,x∈A->y∈A->Cm lt x y->x=y
structure Co (S:List Int)(w:Nat)(c:Int->Nat):Prop where
 lt':∀x,x∈S->c x < w
 cm:∀x y,x∈S->y∈S->c x=c y->Cm lt x y
variable {lt}
def An.cols {S A:List Int}{w:Nat}{c:Int->Nat}(h:An lt S A)(k:Co lt S w c):(A.map c).Nodup/\∀i,i∈A.map c->i∈List.range w:=by
 refine⟨IA.mpr (Ip (λ{x y} hx hy hne e=>hne (h.ap x y hx hy (k.cm x y (h.sub x hx) (h.sub y hy) e))) h.nd),λi hi=>?_⟩
 obtain⟨x,hx,rfl⟩:=HH.mp hi
 exact HR.mpr (k.lt' x (h.sub x hx))
def An.len {S A:List Int}{w:Nat}{c:Int->Nat}(h:An lt S A)(k:Co lt S w c):A.length<=w:=by
 have:=L2.ST.aO (h.cols k).1 (h.cols k).2
 simpa using this
def An.hits {S A:List Int}{w:Nat}{c:Int->Nat}(h:An lt S A)(k:Co lt S w c)(e:A.length=w){i:Nat}(hi:i < w):∃x,x∈A/\c x=i:=by
 by_cases q:i∈A.map c
 ·obtain⟨x,hx,e⟩:=HH.mp q;exact⟨x,hx,e⟩
 ·exfalso
  have:=L2.ST.aO (l:=i :: A.map c) (m:=List.range w) (Il.mpr ⟨q,(h.cols k).1⟩) λx hx=>by
   rcases Hx.mp hx with rfl |hx
   ·exact HR.mpr hi
   ·exact (h.cols k).2 x hx
  simp at this;omega
theorem maxOf (ir:∀x,¬lt x x)(tr:∀x y z,lt x y->lt y z->lt x z):∀(S:List Int),S≠ []->∃a,a∈S/\∀y,y∈S->¬lt a y
 | [],h=>absurd rfl h
 | [x],_=>⟨x,Hz ..,λy hy=>by rw[HC] at hy;subst hy;exact ir _⟩
 |x :: y :: r,_=>by
  obtain⟨a,ha,hm⟩:=maxOf ir tr (y :: r) (by simp)
  by_cases h:lt a x
  ·refine⟨x,Hz ..,λz hz=>?_⟩
   rcases Hx.mp hz with rfl |hz
   ·exact ir _
   ·exact λq=>hm z hz (tr _ _ _ h q)
  ·refine⟨a,HG _ ha,λz hz=>?_⟩
   rcases Hx.mp hz with rfl |hz
   ·exact h
   ·exact hm z hz
theorem zR (ir:∀x,¬lt x x)(tr:∀x y z,lt x y->lt y z->lt x z):∀(m:Nat) (S:List Int),S.length<=m->S.Nodup->∃(w:Nat) (c:Int->Nat) (A:List Int),Co lt S w c/\An lt S A/\A.length=w:=by
 intro m
 induction m with
 |zero=>
  intro S hl _
  have:S= []:=List.length_eq_zero_iff.mp (by omega)
  subst this
  exact⟨0,λ_=>0,[],⟨(λx h=>by cases h),(λx y h=>by cases h)⟩,⟨Kr,(λx h=>by cases h),(λx y h=>by cases h)⟩,rfl⟩
 |succ m ih=>
  intro S hl nd
  by_cases ne:S= []
  ·subst ne
   exact⟨0,λ_=>0,[],⟨(λx h=>by cases h),(λx y h=>by cases h)⟩,⟨Kr,(λx h=>by cases h),(λx y h=>by cases h)⟩,rfl⟩
  obtain⟨a,ha,hmax⟩:=maxOf ir tr S ne
  have memS:∀x,x∈S.filter (λx=>decide (x≠a))↔x∈S/\x≠a:=λx=>by rw[Iq,decide_eq_true_iff]
  have lenf:∀(p:Int->Bool),p a=false->(S.filter p).length<=m:=λp hp=>by
   have:(S.filter p).length < S.length:=by
    rcases IH (S.filter p).length S.length with h |h
    ·exact h
    ·have e:=List.filter_sublist (l:=S) (p:=p) |>.eq_of_length_le h
     have:a∈S.filter p:=by rw[e];exact ha
     rw[(Iq.mp this).2] at hp;cases hp
   omega
  obtain⟨w,c,A,hc,hA,hAl⟩:=ih (S.filter λx=>decide (x≠a)) (lenf _ (by simp)) (nd.filter _)
  have ex:∀i,i < w->∃x,x∈S/\x≠a/\c x=i/\(∃B,An lt (S.filter λx=>decide (x≠a)) B/\B.length=w/\x∈B)/\
    ∀B y,An lt (S.filter λx=>decide (x≠a)) B->B.length=w->y∈B->c y=i->y=x\/lt y x:=λi hi=>by
   obtain⟨x0,h0,e0⟩:=hA.hits hc hAl hi
   obtain⟨x,hx,hmx⟩:=maxOf ir tr (S.filter λx=>decide (x≠a/\c x=i/\∃B,An lt (S.filter λx=>decide (x≠a)) B/\B.length=w/\x∈B)) (λz=>by
    have:x0∈S.filter λx=>decide (x≠a/\c x=i/\∃B,An lt (S.filter λx=>decide (x≠a)) B/\B.length=w/\x∈B):=Iq.mpr ⟨((memS x0).mp (hA.sub x0 h0)).1,HK ⟨((memS x0).mp (hA.sub x0 h0)).2,e0,A,hA,hAl,h0⟩⟩
    rw[z] at this;cases this)
   obtain⟨hxS,hx2⟩:=Iq.mp hx
   obtain⟨hxa,hxi,hxB⟩:=of_decide_eq_true hx2
   refine⟨x,hxS,hxa,hxi,hxB,λB y hB hBl hy hyi=>?_⟩
   have hyS:=(memS y).mp (hB.sub y hy)
   have nlt:=hmx y (Iq.mpr ⟨hyS.1,HK ⟨hyS.2,hyi,B,hB,hBl,hy⟩⟩)
   rcases hc.cm y x (hB.sub y hy) ((memS x).mpr ⟨hxS,hxa⟩) (by rw[hyi,hxi]) with h |h |h
   ·exact .inl h
   ·exact .inr h
   ·exact absurd h nlt
  obtain⟨g,hg⟩:∃g:Nat->Int,∀i,i < w->g i∈S/\g i≠a/\c (g i)=i/\(∃B,An lt (S.filter λx=>decide (x≠a)) B/\B.length=w/\g i∈B)/\∀B y,An lt (S.filter λx=>decide (x≠a)) B->B.length=w->y∈B->c y=i->y=g i\/lt y (g i):=
   ⟨λi=>if h:i < w then Classical.choose (ex i h) else 0,λi hi=>by dsimp only;rw[dif_pos hi];exact Classical.choose_spec (ex i hi)⟩
  have nle:∀i j,i < w->j < w->i≠j->¬lt (g j) (g i):=λi j hi hj hij hlt=>by
   obtain⟨B,hB,hBl,hgB⟩:=(hg i hi).2.2.2.1
   obtain⟨y,hy,ey⟩:=hB.hits hc hBl hj
   have hyi:lt y (g i):=by
    rcases (hg j hj).2.2.2.2 B y hB hBl hy ey with h |h
    ·rw[h];exact hlt
    ·exact tr _ _ _ h hlt
   have:=hB.ap y (g i) hy hgB (.inr (.inl hyi))
   rw[this] at hyi
   exact ir _ hyi
  by_cases far:∀i,i < w->¬lt (g i) a
  ·
   refine⟨w + 1,λx=>if x=a then w else c x,a :: (List.range w).map g,⟨λx hx=>?_,λx y hx hy e=>?_⟩,⟨Il.mpr ⟨λz=>?_,?_⟩,λx hx=>?_,λx y hx hy hcm=>?_⟩,by simp⟩
   ·split
    ·omega
    ·rename_i h;have:=hc.lt' x ((memS x).mpr ⟨hx,h⟩);omega
   ·by_cases xa:x=a
    ·by_cases ya:y=a
     ·exact .inl (xa.trans ya.symm)
     ·rw[HA xa,HI ya] at e
      have:=hc.lt' y ((memS y).mpr ⟨hy,ya⟩);omega
    ·by_cases ya:y=a
     ·rw[HI xa,HA ya] at e
      have:=hc.lt' x ((memS x).mpr ⟨hx,xa⟩);omega
     ·rw[HI xa,HI ya] at e
      exact hc.cm x y ((memS x).mpr ⟨hx,xa⟩) ((memS y).mpr ⟨hy,ya⟩) e
   ·obtain⟨i,hi,e⟩:=HH.mp z
    exact (hg i (HR.mp hi)).2.1 e
   ·refine IA.mpr (Ip (λ{i j} hi hj hne e=>hne ?_) JF)
    have h1:=(hg i (HR.mp hi)).2.2.1
    have h2:=(hg j (HR.mp hj)).2.2.1
    rw[e] at h1;omega
   ·rcases Hx.mp hx with rfl |hx
    ·exact ha
    ·obtain⟨i,hi,rfl⟩:=HH.mp hx
     exact (hg i (HR.mp hi)).1
   ·rcases Hx.mp hx with rfl |hx
    ·rcases Hx.mp hy with rfl |hy
     ·rfl
     ·obtain⟨j,hj,rfl⟩:=HH.mp hy
      have hj:=HR.mp hj
      rcases hcm with h |h |h
      ·exact h
      ·exact absurd h (hmax _ (hg j hj).1)
      ·exact absurd h (far j hj)
    ·obtain⟨i,hi,rfl⟩:=HH.mp hx
     have hi:=HR.mp hi
     rcases Hx.mp hy with rfl |hy
     ·rcases hcm with h |h |h
      ·exact h
      ·exact absurd h (far i hi)
      ·exact absurd h (hmax _ (hg i hi).1)
     ·obtain⟨j,hj,rfl⟩:=HH.mp hy
      have hj:=HR.mp hj
      by_cases e:i=j
      ·rw[e]
      ·rcases hcm with h |h |h
       ·exact h
       ·exact absurd h (nle j i hj hi λz=>e z.symm)
       ·exact absurd h (nle i j hi hj e)
  ·
   obtain⟨i,hi⟩:=Classical.not_forall.mp far
   obtain⟨hi,hia⟩:=Classical.not_imp.mp hi
   have hia:=Classical.not_not.mp hia
   obtain⟨K,hK⟩:∃K:Int->Prop,K=λz=>z=a\/(c z=i/\(z=g i\/lt z (g i))):=⟨_,rfl⟩
   have memR:∀x,x∈S.filter (λx=>decide (¬K x))↔x∈S/\¬K x:=λx=>by rw[Iq,decide_eq_true_iff]
   obtain⟨w2,c2,A2,hc2,hA2,hA2l⟩:=ih (S.filter λx=>decide (¬K x)) (lenf _ (by rw[hK];simp)) (nd.filter _)
   have hw:w2 + 1<=w:=by
    have hA3:An lt (S.filter λx=>decide (x≠a)) A2:=⟨hA2.nd,λx hx=>by
     have:=(memR x).mp (hA2.sub x hx)
     exact (memS x).mpr ⟨this.1,λz=>this.2 (by rw[hK];exact .inl z)⟩,hA2.ap⟩
    have h1:=hA3.len hc
    rcases IH w2 w with h |h
    ·exact h
    ·exfalso
     have e:A2.length=w:=by omega
     obtain⟨z,hz,ez⟩:=hA3.hits hc e hi
     have:=((memR z).mp (hA2.sub z hz)).2
     rw[hK] at this
     exact this (.inr ⟨ez,(hg i hi).2.2.2.2 A2 z hA3 e hz ez⟩)
   have inS:∀x,x∈S->K x->x=a\/(x≠a/\c x=i/\(x=g i\/lt x (g i))):=λx hx hk=>by
    rw[hK] at hk
    by_cases xa:x=a
    ·exact .inl xa
    ·exact .inr ⟨xa,hk.elim (λz=>absurd z xa) id⟩
   have up:∀x,(x=g i\/lt x (g i))->lt x a:=λx h=>h.elim (λe=>by rw[e];exact hia) λh=>tr _ _ _ h hia
   refine⟨w,λx=>if K x then w2 else c2 x,A,⟨λx hx=>?_,λx y hx hy e=>?_⟩,⟨hA.nd,λx hx=>((memS x).mp (hA.sub x hx)).1,hA.ap⟩,hAl⟩
   ·split
    ·omega
    ·rename_i h;have:=hc2.lt' x ((memR x).mpr ⟨hx,h⟩);omega
   ·by_cases kx:K x
    ·by_cases ky:K y
     ·rcases inS x hx kx with rfl | ⟨xa,xc,xg⟩
      ·rcases inS y hy ky with rfl | ⟨ya,yc,yg⟩
       ·exact .inl rfl
       ·exact .inr (.inr (up y yg))
      ·rcases inS y hy ky with rfl | ⟨ya,yc,yg⟩
       ·exact .inr (.inl (up x xg))
       ·exact hc.cm x y ((memS x).mpr ⟨hx,xa⟩) ((memS y).mpr ⟨hy,ya⟩) (by rw[xc,yc])
     ·rw[HA kx,HI ky] at e
      have:=hc2.lt' y ((memR y).mpr ⟨hy,ky⟩);omega
    ·by_cases ky:K y
     ·rw[HI kx,HA ky] at e
      have:=hc2.lt' x ((memR x).mpr ⟨hx,kx⟩);omega
     ·rw[HI kx,HI ky] at e
      exact hc2.cm x y ((memR x).mpr ⟨hx,kx⟩) ((memR y).mpr ⟨hy,ky⟩) e
end
end L2.DW
namespace RM
open PySem L2
section
variable {m m':SF}{env env1:En}{β β1:Int}{Q:SO->Prop}{L:List Nat}
def Aa {t:Tg}{fi:VF (List D)}{ds:List D}(Pd:D->Bool->Prop)(Ng:D->Prop)(I:En->Int->Prop)(hi:fi (vl env) β=.ok ds β1)(h0:I (aU L env) β1)
  (hs:∀d,d∈ds->∀env β,I env β->∃env1,dH t d env=some env1/\WP (m env1 β) λs=>(∃d b β2,s=.rt d b β2/\Pd d b)\/(Ng d/\∃env2 β2,s=.nx env2 β2/\I env2 β2))
  (kr:∀d b β,Pd d b->Q (.rt d b β)) (k:(∀d,d∈ds->Ng d)->∀env β,I env β->WP (m' env β) Q):WP (aH (cH t L fi m) m' env β) Q:=by
 have key:∀(es:List D),(∀d,d∈es->d∈ds)->∀env β,I env β->(∃d b β2,gV t m es env β=.rt d b β2/\Pd d b)\/((∀d,d∈es->Ng d)/\∃env2 β2,gV t m es env β=.nx env2 β2/\I env2 β2):=by
  intro es
  induction es with
  |nil=>exact λ_ env β h=>.inr ⟨(λd hd=>by cases hd),env,β,rfl,h⟩
  |cons d es ih=>
   intro hd env β h
   obtain⟨env1,e1,⟨h1⟩⟩:=hs d (hd d (Hz ..)) env β h
   rcases h1 with⟨d',b,β2,e2,hp⟩ | ⟨hn,env2,β2,e2,h2⟩
   ·exact .inl ⟨d',b,β2,by unfold gV;rw[e1];dsimp only;rw[e2],hp⟩
   ·have e3:gV t m (d :: es) env β=gV t m es env2 β2:=by conv=>lhs;unfold gV;rw[e1];dsimp only;rw[e2]
    rw[e3]
    rcases ih (λd h=>hd d (HG _ h)) env2 β2 h2 with h | ⟨h1,h2⟩
    ·exact .inl h
    ·exact .inr ⟨λx hx=>(Hx.mp hx).elim (λe=>e▸hn) (h1 x),h2⟩
 rcases key ds (λ_ h=>h) _ _ h0 with⟨d,b,β2,e,hp⟩ | ⟨hn,env2,β2,e,h2⟩
 ·exact⟨by rw[o7 ((fG hi).trans e)];exact kr d b β2 hp⟩
 ·exact wp_seq ((fG hi).trans e) (k hn _ _ h2)
def BL {i:Nat}{d:D}(h:env[i]? =some (.fz d))(q:Q (.rt d false β)):WP (jd i env β) Q:=⟨by unfold jd;rw[h];exact q⟩
def zF {i:Nat}{d:D}(h:env[i]? =some (.fz d))(q:Q (.rt d false β)):WP (aH (jd i) m' env β) Q:=⟨by unfold aH jd;rw[h];exact q⟩
end
structure Gd (l:List Pr)(t:Nat)(made:List (List Int)):Prop where
 perm:made.flatten.Perm (eZ t)
 ne:∀c,c∈made->c≠ []
 up:∀c,c∈made->c.Pairwise (· < ·)
 ap:∀c,c∈made->∀a b,a∈c->b∈c->og l (a,b)=false
 hds:(made.map λc:List Int=>c.headD 0).Pairwise (· < ·)
def Gd.inn {l:List Pr}{t:Nat}{made:List (List Int)}(G:Gd l t made){c:List Int}(hc:c∈made){a:Int}(ha:a∈c):0<=a/\a < (t:Int):=bR.mp (G.perm.mem_iff.mp (List.mem_flatten.mpr ⟨c,hc,ha⟩))
def Gd.one {l:List Pr}{t:Nat}{made:List (List Int)}(G:Gd l t made):Gd l (t + 1) (made ++ [[(t:Int)]]):=by
 refine⟨?_,λc hc=>?_,λc hc=>?_,λc hc a b ha hb=>?_,?_⟩
 ·rw[Kg,sh]
  exact G.perm.append (by simp)
 rotate_right
 ·rw[Ic]
  refine IF.mpr ⟨G.hds,by simp,λa ha b hb=>?_⟩
  obtain⟨c,hc,rfl⟩:=HH.mp ha
  simp only[ID,Kk,HC] at hb
  subst hb
  show c.headD 0 < (t:Int)
  cases c with
  |nil=>exact absurd rfl (G.ne [] hc)
  |cons x c=>exact (G.inn hc (Hz ..)).2
 all_goals rcases HP.mp hc with hc |hc
 ·exact G.ne c hc
 ·rw[HC] at hc;subst hc;simp
 ·exact G.up c hc
 ·rw[HC] at hc;subst hc;simp
 ·exact G.ap c hc a b ha hb
 ·rw[HC] at hc
  subst hc
  rw[HC] at ha hb
  subst ha hb
  unfold og;simp
def Gd.put {l:List Pr}{t i:Nat}{made:List (List Int)}{c:List Int}(G:Gd l t made)(hi:made[i]? =some c)(hf:Cc l c t=true):Gd l (t + 1) (made.take i ++ [c ++ [(t:Int)]] ++ made.drop (i + 1)):=by
 have hc:=HN hi
 have split:made=made.take i ++ [c] ++ made.drop (i + 1):=by
  have h:=HB.mp hi
  obtain⟨h1,h2⟩:=h
  rw[<-h2,I0,List.singleton_append,List.getElem_cons_drop,Jq]
 have hno:∀a,a∈c->og l (a,(t:Int))=false:=λa ha=>by
  unfold Cc at hf
  rw[Jz,Ku] at hf
  simpa using hf a ha
 have mem:∀d,d∈made.take i ++ [c ++ [(t:Int)]] ++ made.drop (i + 1)->d∈made\/d=c ++ [(t:Int)]:=λd hd=>by
  rcases HP.mp hd with hd |hd
  ·rcases HP.mp hd with hd |hd
   ·exact .inl (Je hd)
   ·exact .inr (HC.mp hd)
  ·exact .inl (List.mem_of_mem_drop hd)
 refine⟨?_,λd hd=>?_,λd hd=>?_,λd hd a b ha hb=>?_,?_⟩
 rotate_right
 ·have e:(made.take i ++ [c ++ [(t:Int)]] ++ made.drop (i + 1)).map (λc:List Int=>c.headD 0)=made.map λc:List Int=>c.headD 0:=by
   conv=>rhs;rw[split]
   simp only[Ic,ID,Kk]
   congr 3
   cases c with
   |nil=>exact absurd rfl (G.ne [] hc)
   |cons x c=>rfl
  rw[e];exact G.hds
 ·rw[sh]
  refine List.Perm.trans ?_ (G.perm.append_right [(t:Int)])
  conv=>rhs;rw[split]
  simp only[Kg,JM,List.flatten_nil,Ju,I0]
  exact J5 _ (J5 _ List.perm_append_comm)
 all_goals rcases mem d hd with hd |hd
 ·exact G.ne d hd
 ·rw[hd];simp
 ·exact G.up d hd
 ·rw[hd]
  exact IF.mpr ⟨G.up c hc,by simp,λa ha b hb=>by rw[HC] at hb;subst hb;exact (G.inn hc ha).2⟩
 ·exact G.ap d hd a b ha hb
 ·rw[hd] at ha hb
  rcases HP.mp ha with ha |ha
  ·rcases HP.mp hb with hb |hb
   ·exact G.ap c hc a b ha hb
   ·rw[HC] at hb;rw[hb];exact hno a ha
  ·rw[HC] at ha
   rw[ha]
   rcases HP.mp hb with hb |hb
   ·rw[yT];exact hno b hb
   ·rw[HC] at hb;rw[hb];exact Dv l _
def Ft (col:Int->Nat)(made:List (List Int)):Prop:=∀c c',c∈made->c'∈made->∀a b,a∈c->b∈c'->(col a=col b↔c=c')
abbrev xX (l:List Pr)(a b:Int):Prop:=(a,b)∈l
def vg {l:List Pr}{a b:Int}:og l (a,b)=false↔DW.Cm (xX l) a b:=by
 unfold og DW.Cm
 simp only[Bool.and_eq_false_iff,Bool.not_eq_false',IP]
def EJ:Option (List (List Int))->D
 |none=>.none
 |some m=>.list (m.map aI)
noncomputable def E9 (F:List D->FR):List D->FR:=bh 7 4 (bY F EV)
abbrev sC (n w:Nat)(l:List Pr)(made:List (List Int))(t:Nat)(s4 s5 s6:Sl):En:=[.fz (aB n l),.fz (.int w),.fz (.list (made.map aI)),.fz (.int t),s4,s5,s6]
def wI {zs:List D}{d:D}(h:d∈jZ zs):∃(i:Nat) (e:D),zs[i]? =some e/\d=.tuple [.int i,e]:=by
 unfold jZ at h
 obtain⟨i,hi,e⟩:=List.mem_mapIdx.mp h
 exact⟨i,zs[i],Hu hi,e.symm⟩
def kj {l:List Pr}{t:Nat}{made:List (List Int)}(G:Gd l t made):made.Nodup:=by
 refine Jm.mpr ?_
 have nd:made.flatten.Nodup:=G.perm.nodup_iff.mpr (ja t)
 have:=(List.pairwise_flatten.mp nd).2
 refine Ip (λ{x y} hx hy h e=>?_) this
 subst e
 obtain⟨a,ha⟩:=List.exists_mem_of_ne_nil _ (G.ne x hx)
 exact h a ha a ha rfl
theorem Gu {n w:Nat}{l:List Pr}(O:OM.Ord n l)(hw:w<=8):∀(k t m:Nat) (made:List (List Int)),t + k=n->k < m->Gd l t made->made.length<=w->∃R fr,sP E9 m [aB n l,.int w,.list (made.map aI),.int t]=.ok (EJ R) fr/\(∀res,R=some res->Gd l n res/\res.length<=w)/\∀col,DW.Co (xX l) (eZ n) w col->Ft col made->R≠none:=by
 intro k
 induction k with
 |zero=>
  intro t m made ht hm G hl
  obtain⟨m,rfl⟩:∃m',m=m' + 1:=⟨m - 1,by omega⟩
  have ht:t=n:=by omega
  subst ht
  refine⟨some made,false,?_,λres e=>by cases e;exact⟨G,hl⟩,λ_ _ _ z=>by cases z⟩
  show fin (bY (sP E9 m) EV (sC t w l made t .no .no .no) 0)=_
  refine kQ ?_
  unfold bY
  have t1:gf (f2 (gv 3) (f2 (gv 0) (cst (.int 0)) dz) (de false)) (vl (sC t w l made t .no .no .no)) 0=.ok (decide ((t:Int)=t)) 0:=fQ (neg:=false) rfl (FA (n:=t) (l:=l) rfl)
  rw[HK rfl] at t1
  exact uR t1 (zF rfl rfl)
 |succ k ih=>
  intro t m made ht hm G hl
  obtain⟨m,rfl⟩:∃m',m=m' + 1:=⟨m - 1,by omega⟩
  have h8:=O.hi
  refine Exists.elim (?_:∃R:FR,(fin (bY (sP E9 m) EV (sC n w l made t .no .no .no) 0)=R)/\∃R' fr,R=.ok (EJ R') fr/\(∀res,R'=some res->Gd l n res/\res.length<=w)/\∀col,DW.Co (xX l) (eZ n) w col->Ft col made->R'≠none) λR ⟨e,R',fr,e2,h⟩=>⟨R',fr,e.trans e2,h⟩
  refine⟨_,rfl,?_⟩
  refine WP.out (Q:=λs=>∃R' fr,fin s=.ok (EJ R') fr/\(∀res,R'=some res->Gd l n res/\res.length<=w)/\∀col,DW.Co (xX l) (eZ n) w col->Ft col made->R'≠none) ?_
  unfold bY
  have t1:gf (f2 (gv 3) (f2 (gv 0) (cst (.int 0)) dz) (de false)) (vl (sC n w l made t .no .no .no)) 0=.ok (decide ((t:Int)=n)) 0:=fQ (neg:=false) rfl (FA (n:=n) (l:=l) rfl)
  rw[HV (by omega)] at t1
  refine jX t1 (wp_at (sC n w l made t .no .no .no) rfl ?_)
  have ad:∀s4 s5 s6,f2 (gv 3) (cst (.int 1)) bJ (vl (sC n w l made t s4 s5 s6)) 0=.ok (.int ((t + 1:Nat):Int)) 0:=λ_ _ _=>Hh rfl
  refine Aa (ds:=jZ (made.map aI)) (β1:=0) (λd b=>b=false/\∃res,d=EJ (some res)/\Gd l n res/\res.length<=w)
   (λd=>∀(i:Nat) (e:D),d=.tuple [.int i,e]->∀c,made[i]? =some c->Cc l c t=true->∀col,DW.Co (xX l) (eZ n) w col->¬Ft col (made.take i ++ [c ++ [(t:Int)]] ++ made.drop (i + 1)))
   (λenv b=>b=0/\∃s4 s5 s6,env=sC n w l made t s4 s5 s6) rfl ⟨rfl,_,_,_,rfl⟩ ?_ ?_ ?_
  ·intro d hd env b ⟨hb,s4,s5,s6,he⟩
   subst hb he
   obtain⟨i,e,hi,rfl⟩:=wI hd
   rw[HL] at hi
   obtain⟨c,hc,rfl⟩:=Option.map_eq_some_iff.mp hi
   have hil:=(HB.mp hc).1
   refine⟨sC n w l made t (.fz (.int i)) (.fz (aI c)) s6,rfl,?_⟩
   have cl:c.length<=8:=by
    have:=L2.ST.aO ((G.up c (HN hc)).imp (λh e=>by omega):c.Nodup) (m:=eZ t) λa ha=>bR.mpr (G.inn (HN hc) ha)
    rw[fT] at this;omega
   have t2:jt (aA EV (aa (gv 0) (aa (gv 5) (aa (gv 3) ao)))) (vl (sC n w l made t (.fz (.int i)) (.fz (aI c)) s6)) 0=.ok (Cc l c t) 0:=jf (aL (ds:=[aB n l,.list (c.map int),.int t]) rfl (Gj (by omega)))
   cases hf:Cc l c t with
   |false=>
    rw[hf] at t2
    refine wK t2 (jI (.inr ⟨λi' e' h' c' hc' hf'=>?_,_,_,rfl,rfl,_,_,_,rfl⟩))
    simp only[PyData.tuple.injEq,List.cons.injEq,int.injEq] at h'
    have:i'=i:=by omega
    subst this
    rw[hc] at hc'
    cases hc'
    rw[hf] at hf';cases hf'
   |true=>
    rw[hf] at t2
    refine DH t2 (wp_at (sC n w l made t (.fz (.int i)) (.fz (aI c)) s6) rfl ?_)
    have G2:=G.put hc hf
    have l2:(made.take i ++ [c ++ [(t:Int)]] ++ made.drop (i + 1)).length=made.length:=by simp;omega
    obtain⟨R,fr,e1,e2,e3⟩:=ih (t + 1) m _ (by omega) (by omega) G2 (by omega)
    have arg:f2 (f2 (AN (gv 2) (λ_ β=>.ok none β) (A1 (gv 4))) (a9 (aa (f2 (gv 5) (a9 (aa (gv 3) ao)) cV) ao)) cV) (AN (gv 2) (A1 (f2 (gv 4) (cst (.int 1)) bJ)) (λ_ β=>.ok none β)) cV (vl (sC n w l made t (.fz (.int i)) (.fz (aI c)) s6)) 0=.ok (.list ((made.take i ++ [c ++ [(t:Int)]] ++ made.drop (i + 1)).map aI)) 0:=by
     rw[Ic,Ic,List.map_take,List.map_drop]
     refine n6 (n6 (zh (ds:=made.map aI) rfl rfl) (lp (ac (?_:_=L2.R.ok (aI (c ++ [(t:Int)])) 0) an)) ?_) (z6 (ds:=made.map aI) rfl (Hh rfl)) ?_
     ·have:=n6 (fa:=gv 5) (fb:=a9 (aa (gv 3) ao)) (vs:=vl (sC n w l made t (.fz (.int i)) (.fz (aI c)) s6)) (β:=0) (a:=c.map int) (b:=[.int t]) rfl (lp (ac rfl an)) (by simp;omega)
      rw[this];unfold aI;rw[Ic];rfl
     ·rw[IE,HF];simp;omega
     ·rw[Ik,IE,List.length_drop,HF];simp;omega
    refine kU (aL (ds:=[aB n l,.int w,.list ((made.take i ++ [c ++ [(t:Int)]] ++ made.drop (i + 1)).map aI),.int ((t + 1:Nat):Int)]) (ac rfl (ac rfl (ac arg (ac (ad _ _ _) an)))) e1) (wp_at (sC n w l made t (.fz (.int i)) (.fz (aI c)) (.fz (EJ R))) rfl ?_)
    cases R with
    |none=>
     refine wK (β1:=0) rfl (jI (.inr ⟨λi' e' h' c' hc' hf' col hco hft=>?_,_,_,rfl,rfl,_,_,_,rfl⟩))
     simp only[PyData.tuple.injEq,List.cons.injEq,int.injEq] at h'
     have:i'=i:=by omega
     subst this
     rw[hc] at hc'
     cases hc'
     exact e3 col hco hft rfl
    |some res=>
     obtain⟨g1,g2⟩:=e2 res rfl
     exact DH (β1:=0) rfl (BL rfl (.inl ⟨_,_,_,rfl,rfl,res,rfl,g1,g2⟩))
  ·intro d b β ⟨hb,res,hd,g1,g2⟩
   subst hb hd
   exact⟨some res,false,rfl,(λr e=>by cases e;exact⟨g1,g2⟩),λ_ _ _ z=>by cases z⟩
  ·intro hN env b ⟨hb,s4,s5,s6,he⟩
   subst hb he
   have t3:gf (f2 (f1 (gv 2) dc) (gv 1) (de false)) (vl (sC n w l made t s4 s5 s6)) 0=.ok (decide ((made.length:Int)=w)) 0:=fQ (neg:=false) (by rw[pI (ds:=made.map aI) rfl,HF]) rfl
   have own:∀col,DW.Co (xX l) (eZ n) w col->Ft col made->(∀c,c∈made->∀a,a∈c->col a≠col t):=λcol hco hft c hc a ha e=>by
    obtain⟨i,hi⟩:=IT hc
    have same:∀b,b∈c->col b=col t:=λb hb=>((hft c c hc hc b a hb ha).mpr rfl).trans e
    have hf:Cc l c t=true:=by
     unfold Cc
     rw[Jz,Ku]
     intro b hb
     have hbn:=G.inn hc hb
     have:=vg.mpr (hco.cm b t (bR.mpr ⟨hbn.1,by omega⟩) (bR.mpr ⟨by omega,by omega⟩) (same b hb))
     rw[this];decide
    have hgi:(made.map aI)[i]? =some (aI c):=by rw[HL,hi];rfl
    refine hN (.tuple [.int i,aI c]) (by
     unfold jZ
     obtain⟨h1,h2⟩:=HB.mp hgi
     exact List.mem_mapIdx.mpr ⟨i,h1,by rw[h2]⟩) i (aI c) rfl c hi hf col hco ?_
    have hil:=(HB.mp hi).1
    have ndm:=kj G
    have mem:∀d,d∈made.take i ++ [c ++ [(t:Int)]] ++ made.drop (i + 1)->(d∈made/\d≠c)\/d=c ++ [(t:Int)]:=λd hd=>by
     have key:∀j,j≠i->made[j]? =some d->d∈made/\d≠c:=λj hj h=>⟨HN h,λz=>by
      rw[z] at h
      exact hj ((List.getElem?_inj (HB.mp h).1 ndm).mp (h.trans hi.symm))⟩
     rcases HP.mp hd with hd |hd
     ·rcases HP.mp hd with hd |hd
      ·obtain⟨j,hj⟩:=IT hd
       have hj1:=(HB.mp hj).1
       rw[IE] at hj1
       rw[Kj (by omega)] at hj
       exact .inl (key j (by omega) hj)
      ·exact .inr (HC.mp hd)
     ·obtain⟨j,hj⟩:=IT hd
      rw[List.getElem?_drop] at hj
      exact .inl (key (i + 1 + j) (by omega) hj)
    have colc:∀a,a∈c ++ [(t:Int)]->col a=col t:=λa ha=>by
     rcases HP.mp ha with ha |ha
     ·exact same a ha
     ·rw[HC] at ha;rw[ha]
    intro d d' hd hd' x y hx hy
    rcases mem d hd with⟨h1,h1'⟩ |h1
    ·rcases mem d' hd' with⟨h2,h2'⟩ |h2
     ·exact hft d d' h1 h2 x y hx hy
     ·subst h2
      refine⟨λe'=>absurd ((hft d c h1 hc x a hx ha).mp (e'.trans ((colc y hy).trans (same a ha).symm))) h1',λe'=>?_⟩
      subst e'
      have:=(G.inn h1 (HZ c (HC.mpr rfl))).2
      omega
    ·subst h1
     rcases mem d' hd' with⟨h2,h2'⟩ |h2
     ·refine⟨λe'=>absurd ((hft d' c h2 hc y a hy ha).mp (e'.symm.trans ((colc x hx).trans (same a ha).symm))) h2',λe'=>?_⟩
      subst e'
      have:=(G.inn h2 (HZ c (HC.mpr rfl))).2
      omega
     ·subst h2
      exact⟨λ_=>rfl,λ_=>(colc x hx).trans (colc y hy).symm⟩
   by_cases hfull:(made.length:Int)=w
   ·rw[HK hfull] at t3
    refine uR t3 (AV rfl ⟨none,false,rfl,(λr e=>by cases e),λcol hco hft _=>?_⟩)
    have ow:=own col hco hft
    have ndm:=kj G
    have:=L2.ST.aO (l:=col t :: made.map λc=>col (c.headD 0)) (m:=List.range w) (Il.mpr ⟨λz=>?_,IA.mpr (Ip (λ{x y} hx hy h e=>?_) ndm)⟩) λq hq=>?_
    ·simp at this;omega
    ·obtain⟨c,hc,e⟩:=HH.mp z
     have:c.headD 0∈c:=by
      have:=G.ne c hc
      cases c with
      |nil=>exact absurd rfl this
      |cons a _=>exact Hz ..
     exact ow c hc _ this e
    ·have hdx:∀c,c∈made->c.headD 0∈c:=λc hc=>by
      have:=G.ne c hc
      cases c with
      |nil=>exact absurd rfl this
      |cons a _=>exact Hz ..
     exact h ((hft x y hx hy _ _ (hdx x hx) (hdx y hy)).mp e)
    ·rcases Hx.mp hq with rfl |hq
     ·exact HR.mpr (hco.lt' _ (bR.mpr ⟨by omega,by omega⟩))
     ·obtain⟨c,hc,rfl⟩:=HH.mp hq
      have:c.headD 0∈c:=by
       have:=G.ne c hc
       cases c with
       |nil=>exact absurd rfl this
       |cons a _=>exact Hz ..
      have hb:=G.inn hc this
      exact HR.mpr (hco.lt' _ (bR.mpr ⟨hb.1,by omega⟩))
   ·rw[HV hfull] at t3
    refine jX t3 (wp_at (sC n w l made t s4 s5 s6) rfl ?_)
    obtain⟨R,fr,e1,e2,e3⟩:=ih (t + 1) m _ (by omega) (by omega) G.one (by simp;omega)
    have arg:f2 (gv 2) (a9 (aa (a9 (aa (gv 3) ao)) ao)) cV (vl (sC n w l made t s4 s5 s6)) 0=.ok (.list ((made ++ [[(t:Int)]]).map aI)) 0:=by
     rw[Ic]
     exact n6 (a:=made.map aI) (b:=[aI [(t:Int)]]) rfl (lp (ac (lp (ac rfl an)) an)) (by rw[HF];simp;omega)
    refine mR (aL (ds:=[aB n l,.int w,.list ((made ++ [[(t:Int)]]).map aI),.int ((t + 1:Nat):Int)]) (ac rfl (ac rfl (ac arg (ac (ad _ _ _) an)))) e1) ⟨R,false,rfl,e2,λcol hco hft=>e3 col hco ?_⟩
    have ow:=own col hco hft
    intro d d' hd hd' x y hx hy
    rcases HP.mp hd with h1 |h1
    ·rcases HP.mp hd' with h2 |h2
     ·exact hft d d' h1 h2 x y hx hy
     ·rw[HC] at h2
      subst h2
      rw[HC] at hy
      subst hy
      exact⟨λe'=>absurd e' (ow d h1 x hx),λe'=>by subst e';have:=(G.inn h1 (HC.mpr rfl)).2;omega⟩
    ·rw[HC] at h1
     subst h1
     rw[HC] at hx
     subst hx
     rcases HP.mp hd' with h2 |h2
     ·exact⟨λe'=>absurd e'.symm (ow d' h2 y hy),λe'=>by subst e';have:=(G.inn h2 (HC.mpr rfl)).2;omega⟩
     ·rw[HC] at h2
      subst h2
      rw[HC] at hy
      subst hy
      exact⟨λ_=>rfl,λ_=>rfl⟩
noncomputable def GN:List D->FR:=bh 1 1 (kc jL (sP E9 40) Ey)
def Gd.mem {l:List Pr}{t:Nat}{made:List (List Int)}(G:Gd l t made){a:Int}(h:0<=a/\a < (t:Int)):∃c,c∈made/\a∈c:=by
 obtain⟨c,hc,ha⟩:=List.mem_flatten.mp (G.perm.mem_iff.mpr (bR.mpr h))
 exact⟨c,hc,ha⟩
def Gd.only {l:List Pr}{t:Nat}{made:List (List Int)}(G:Gd l t made){c c':List Int}{a:Int}(hc:c∈made)(hc':c'∈made)(ha:a∈c)(ha':a∈c'):c=c':=by
 have nd:made.flatten.Nodup:=G.perm.nodup_iff.mpr (ja t)
 have pw:=(List.pairwise_flatten.mp nd).2
 obtain⟨i,hi⟩:=IT hc
 obtain⟨j,hj⟩:=IT hc'
 obtain⟨i1,i2⟩:=HB.mp hi
 obtain⟨j1,j2⟩:=HB.mp hj
 rcases Jy i j with h |h |h
 ·have:=IC.mp pw i j i1 j1 h
  rw[i2,j2] at this
  exact absurd rfl (this a ha a ha')
 ·subst h;rw[<-i2,<-j2]
 ·have:=IC.mp pw j i j1 i1 h
  rw[i2,j2] at this
  exact absurd rfl (this a ha' a ha)
noncomputable def FD (made:List (List Int))(a:Int):Nat:=made.findIdx λc=>decide (a∈c)
def sL {l:List Pr}{t:Nat}{made:List (List Int)}(G:Gd l t made){a:Int}(h:0<=a/\a < (t:Int)):∃c,made[FD made a]? =some c/\a∈c:=by
 obtain⟨c,hc,ha⟩:=G.mem h
 have lt:FD made a < made.length:=List.findIdx_lt_length.mpr ⟨c,hc,HK ha⟩
 exact⟨made[FD made a],Hu lt,of_decide_eq_true (List.findIdx_getElem (w:=lt))⟩
def Dl {n:Nat}{l:List Pr}{made:List (List Int)}(G:Gd l n made):DW.Co (xX l) (eZ n) made.length (FD made):=by
 refine⟨λx hx=>?_,λx y hx hy e=>?_⟩
 ·obtain⟨c,hc,_⟩:=sL G (bR.mp hx)
  exact (HB.mp hc).1
 ·obtain⟨c,hc,h1⟩:=sL G (bR.mp hx)
  obtain⟨c',hc',h2⟩:=sL G (bR.mp hy)
  rw[e,hc'] at hc
  cases hc
  exact vg.mp (G.ap _ (HN hc') x y h1 h2)
def B8 {n k:Nat}{l:List Pr}{g:List Int}(h:OM.Lv (bH l) n k g):DW.An (xX l) (eZ n) g:=by
 obtain⟨h1,h2,h3,h4⟩:=h
 refine⟨h2.imp λh e=>by omega,λx hx=>bR.mpr (h3 x hx),λx y hx hy hc=>?_⟩
 have:=vg.mpr hc
 rcases Int.lt_trichotomy x y with h |h |h
 ·exfalso
  obtain⟨i,hi⟩:=IT hx
  obtain⟨j,hj⟩:=IT hy
  obtain⟨i1,i2⟩:=HB.mp hi
  obtain⟨j1,j2⟩:=HB.mp hj
  rcases Jy i j with q |q |q
  ·have:=IC.mp h4 i j i1 j1 q
   rw[i2,j2] at this
   unfold bH at this
   simp_all
  ·subst q;omega
  ·have:=IC.mp h2 j i j1 i1 q
   rw[i2,j2] at this;omega
 ·exact h
 ·exfalso
  obtain⟨i,hi⟩:=IT hx
  obtain⟨j,hj⟩:=IT hy
  obtain⟨i1,i2⟩:=HB.mp hi
  obtain⟨j1,j2⟩:=HB.mp hj
  rcases Jy j i with q |q |q
  ·have:=IC.mp h4 j i j1 i1 q
   rw[i2,j2] at this
   unfold bH at this
   rw[yT] at this
   simp_all
  ·subst q;omega
  ·have:=IC.mp h2 i j i1 j1 q
   rw[i2,j2] at this;omega
def E3 {n:Nat}{l:List Pr}{A:List Int}(h:DW.An (xX l) (eZ n) A){k:Nat}(hk:k<=A.length):OM.Lv (bH l) n k ((sortI A).take k):=by
 have mm:∀a,a∈sortI A↔a∈A:=λa=>(sortI_perm A).mem_iff
 have up:=Fd h.nd
 have pw:(sortI A).Pairwise λa b=>bH l a b=true:=Ip (λ{a b} ha hb hlt=>by
  unfold bH
  cases e:og l (a,b) with
  |true=>rfl
  |false=>have:=h.ap a b ((mm a).mp ha) ((mm b).mp hb) (vg.mp e);omega) up
 refine⟨by rw[IE,(sortI_perm A).length_eq];omega,up.sublist (JL ..),λx hx=>bR.mp (h.sub x ((mm x).mp (Je hx))),pw.sublist (JL ..)⟩
theorem FF {n:Nat}{l:List Pr}(O:OM.Ord n l):∃(res:List (List Int)) (g:List Int) (k:Nat),GN [aB n l]=.ok (.list (res.map aI)) false/\Gd l n res/\res.length=g.length/\Ey [aB n l]=.ok (aI g) false/\OM.Lv (bH l) n (k + 1) g/\(∀g',¬OM.Lv (bH l) n (k + 2) g')/\(∀g',OM.Lv (bH l) n (k + 1) g'->g'=g\/L2.HM.lexLt g g'=true):=by
 have h8:=O.hi
 obtain⟨g,k,eg,lv,nlv,lx⟩:=FJ O h8
 have gl:g.length=k + 1:=lv.1
 have ag:=B8 lv
 have g8:g.length<=8:=by
  have:=L2.ST.aO ag.nd (m:=eZ n) ag.sub
  rw[fT] at this;omega
 have G0:Gd l 0 []:=⟨by simp[eZ],(λc h=>by cases h),(λc h=>by cases h),(λc h=>by cases h),.nil⟩
 obtain⟨R,fr,e1,e2,e3⟩:=Gu O g8 n 0 40 [] (by omega) (by omega) G0 (by simp)
 obtain⟨w,col,A,hco,hA,hAl⟩:=DW.zR (lt:=xX l) (λx h=>O.irr x h) (λx y z h1 h2=>O.tr x y z h1 h2) n (eZ n) (by rw[fT];omega) (ja n)
 have wle:w<=g.length:=by
  rcases IH (k + 1) w with h |h
  ·exact absurd (E3 hA (k:=k + 2) (by omega)) (nlv _)
  ·omega
 have hR:=e3 col ⟨λx hx=>by have:=hco.lt' x hx;omega,hco.cm⟩ (λc c' hc=>by cases hc)
 cases R with
 |none=>exact absurd rfl hR
 |some res=>
  obtain⟨G,rl⟩:=e2 res rfl
  have:=ag.len (Dl G)
  refine⟨res,g,k,?_,G,by omega,eg,lv,nlv,lx⟩
  show fin (kc jL (sP E9 40) Ey [.fz (aB n l)] 0)=_
  refine kQ ?_
  unfold kc
  refine Ac (aL (ds:=[aB n l]) (ac rfl an) (sH O)) (wp_at [.fz (aB n l)] rfl ?_)
  have el:f1 (aA Ey (aa (gv 0) ao)) dc (vl [.fz (aB n l)]) 0=.ok (.int (g.length:Nat)) 0:=by
   rw[pI (ds:=g.map int) (aL (ds:=[aB n l]) (ac rfl an) eg),HF]
  exact mR (aL (ds:=[aB n l,.int (g.length:Nat),.list (([]:List (List Int)).map aI),.int ((0:Nat):Int)]) (ac rfl (ac el (ac (lp an) (ac rfl an)))) e1) rfl
def Gd.lens {n:Nat}{l:List Pr}{res:List (List Int)}(G:Gd l n res):res.flatten.length=n/\∀c,c∈res->c.length<=n:=by
 have h:=G.perm.length_eq
 rw[fT] at h
 refine⟨h,λc hc=>?_⟩
 have:=(List.sublist_flatten_of_mem hc).length_le
 omega
def tX (ds:List D)(h:jL ds≠.bad):bh 1 1 (dU fH) ds=jL ds:=by
 unfold jL at h
 split at h
 ·obtain⟨n,l,rfl,O⟩:=rh h
  rw[sH O]
  show fin (dU fH [.fz (aB n l)] 0)=_
  exact kQ (wK (jr (jf (aL (ds:=[aB n l]) rfl (ot O)))) (jI rfl))
 ·exact absurd rfl h
def mo (l:List Pr):Nat->List (List Int)
 | 0=>[[]]
 |t + 1=>mo l t ++ ((mo l t).filter λc=>c.all λa=>bH l a (t:Int)).map (· ++ [(t:Int)])
theorem jv {l:List Pr}:∀{t:Nat} {c:List Int},c∈mo l t↔c.Pairwise (· < ·)/\(∀x,x∈c->0<=x/\x < (t:Int))/\c.Pairwise λa b=>bH l a b=true
 | 0,c=>by
  unfold mo
  rw[HC]
  constructor
  ·rintro rfl;exact⟨.nil,(λx h=>by cases h),.nil⟩
  ·rintro⟨_,h,_⟩
   cases c with
   |nil=>rfl
   |cons x c=>have:=h x (Hz ..);omega
 |t + 1,c=>by
  unfold mo
  rw[HP,HH,jv (t:=t)]
  constructor
  ·rintro (⟨h1,h2,h3⟩ | ⟨b,hb,rfl⟩)
   ·exact⟨h1,λx hx=>by have:=h2 x hx;omega,h3⟩
   ·obtain⟨hb,ha⟩:=Iq.mp hb
    obtain⟨h1,h2,h3⟩:=(jv (t:=t)).mp hb
    rw[IG] at ha
    refine⟨IF.mpr ⟨h1,by simp,λa ha b hb=>?_⟩,λx hx=>?_,IF.mpr ⟨h3,by simp,λa ha' b hb=>?_⟩⟩
    ·rw[HC] at hb;subst hb;exact (h2 a ha).2
    ·rcases HP.mp hx with hx |hx
     ·have:=h2 x hx;omega
     ·rw[HC] at hx;omega
    ·rw[HC] at hb;subst hb;exact ha a ha'
  ·rintro⟨h1,h2,h3⟩
   rcases List.eq_nil_or_concat c with rfl | ⟨b,x,rfl⟩
   ·exact .inl ⟨.nil,(λx h=>by cases h),.nil⟩
   ·rw[List.concat_eq_append] at *
    have p1:=IF.mp h1
    have p3:=IF.mp h3
    have hx:=h2 x (by simp)
    by_cases e:x=(t:Int)
    ·subst e
     refine .inr ⟨b,Iq.mpr ⟨jv.mpr ⟨p1.1,λy hy=>⟨(h2 y (by simp[hy])).1,p1.2.2 y hy _ (by simp)⟩,p3.1⟩,?_⟩,rfl⟩
     rw[IG]
     exact λa ha=>p3.2.2 a ha _ (by simp)
    ·refine .inl ⟨h1,λy hy=>⟨(h2 y hy).1,?_⟩,h3⟩
     rcases HP.mp hy with hy |hy
     ·have:=p1.2.2 y hy x (by simp);omega
     ·rw[HC] at hy;omega
theorem ye (l:List Pr):∀t:Nat,(mo l t).length<=2 ^ t
 | 0=>Hy _
 |t + 1=>by
  have h:=ye l t
  have h2:=Js (λc:List Int=>c.all λa=>bH l a (t:Int)) (mo l t)
  unfold mo
  rw[Ik,HF,Nat.pow_succ];omega
def ph {l:List Pr}{t:Nat}(h8:t<=8):(mo l t).length<=256/\∀c,c∈mo l t->c.length<=8:=by
 refine⟨IW (ye l t) (Nat.pow_le_pow_right (by omega) h8:2 ^ t<=2 ^ 8),λc hc=>?_⟩
 obtain⟨h1,h2,_⟩:=jv.mp hc
 have nd:c.Nodup:=h1.imp λh e=>by omega
 have:=L2.ST.aO nd (m:=eZ t) λx hx=>bR.mpr (h2 x hx)
 rw[fT] at this;omega
def AS {n k j:Nat}{c:Int->Int->Bool}{g:List Int}(h:OM.Lv c n k g)(hj:j<=k):OM.Lv c n j (g.take j):=by
 obtain⟨h1,h2,h3,h4⟩:=h
 exact⟨by rw[IE];omega,h2.sublist (JL ..),λx hx=>h3 x (Je hx),h4.sublist (JL ..)⟩
def CM {n k:Nat}{l:List Pr}{g:List Int}(lv:OM.Lv (bH l) n (k + 1) g)(nlv:∀g',¬OM.Lv (bH l) n (k + 2) g'):zM ((mo l n).map λc=>(c.length:Int))=(k:Int) + 1:=by
 obtain⟨h1,h2,h3,h4⟩:=lv
 have hg:g∈mo l n:=jv.mpr ⟨h2,h3,h4⟩
 have hm:(g.length:Int)∈(mo l n).map λc=>(c.length:Int):=HH.mpr ⟨g,hg,rfl⟩
 have le:=BA hm
 obtain⟨c,hc,e⟩:=HH.mp (zd (List.ne_nil_of_mem hm))
 rw[h1] at le
 have:c.length<=k + 1:=by
  rcases IH (k + 1) c.length with h |h
  ·obtain⟨c1,c2,c3⟩:=jv.mp hc
   exact absurd (AS (j:=k + 2) ⟨rfl,c1,c2,c3⟩ (by omega)) (nlv _)
  ·exact h
 omega
def Fm:List D->FR:=bh 5 1 (fW r6)
def BD {c:List Int}(f:Int->Bool):decide ((c.filter λa=> !f a)= [])=c.all f:=by
 rw[JK,decide_eq_true_iff,List.filter_eq_nil_iff,IG]
 simp
def GQ {n k:Nat}{l:List Pr}{g:List Int}(h8:n<=8)(lv:OM.Lv (bH l) n (k + 1) g)(nlv:∀g',¬OM.Lv (bH l) n (k + 2) g'):Fm [aB n l]=.ok (.int ((k + 1:Nat):Int)) false:=by
 show fin (fW r6 [.fz (aB n l),.no,.no,.no,.no] 0)=_
 refine kQ ?_
 unfold fW
 refine kU (d:=.list ((mo l 0).map aI)) (β1:=0) (show a9 (aa (a9 ao) ao) _ _=.ok (.list [.list []]) 0 from lp (ac (lp an) an)) (wp_at [.fz (aB n l),.fz (.list ((mo l 0).map aI)),.no,.no,.no] rfl ?_)
 refine mi (ds:=bN 0 n) (β1:=0) (λt env b=>b=0/\t<=n/\∃s2 s3 s4,env= [.fz (aB n l),.fz (.list ((mo l t).map aI)),s2,s3,s4]) ?_ ⟨rfl,Ia _,_,_,_,rfl⟩ ?_ ?_
 ·exact jN (n:=n) (FA (n:=n) (l:=l) rfl) (by omega)
 ·intro t d env b hd ⟨hb,ht,s2,s3,s4,he⟩
  subst hb he
  obtain⟨hlt,rfl⟩:=j6 hd
  rw[J8]
  refine⟨[.fz (aB n l),.fz (.list ((mo l t).map aI)),.fz (.int t),s3,s4],rfl,?_⟩
  obtain⟨ml,mc⟩:=ph (l:=l) (t:=t) (by omega)
  refine Ai (d:=.list []) (β1:=0) (lp an) (wp_at [.fz (aB n l),.fz (.list ((mo l t).map aI)),.fz (.int t),.ow (.list ([].map aI)),s4] rfl ?_)
  refine mi (ds:=(mo l t).map aI) (β1:=0) (λj env b=>b=0/\∃s4,env= [.fz (aB n l),.fz (.list ((mo l t).map aI)),.fz (.int t),.ow (.list (((((mo l t).take j).filter λc=>c.all λa=>bH l a (t:Int)).map (· ++ [(t:Int)])).map aI)),s4]) rfl ⟨rfl,_,rfl⟩ ?_ ?_
  ·intro j d env b hd ⟨hb,s4,he⟩
   subst hb he
   rw[HL] at hd
   cases hj:(mo l t)[j]? with
   |none=>rw[hj] at hd;cases hd
   |some c=>
    rw[hj] at hd
    cases hd
    have hc:=HN hj
    have hl:=mc c hc
    generalize hws:((((mo l t).take j).filter λc=>c.all λa=>bH l a (t:Int)).map (· ++ [(t:Int)]))=ws
    have wl:ws.length<=256:=by
     rw[<-hws,HF]
     refine IW (Js ..) ?_
     rw[IE];omega
    have nxt:((((mo l t).take (j + 1)).filter λc=>c.all λa=>bH l a (t:Int)).map (· ++ [(t:Int)]))=ws ++ (([c].filter λc=>c.all λa=>bH l a (t:Int)).map (· ++ [(t:Int)])):=by
     rw[<-hws,List.take_succ,hj,Kq,Ic];rfl
    refine⟨[.fz (aB n l),.fz (.list ((mo l t).map aI)),.fz (.int t),.ow (.list (ws.map aI)),.fz (aI c)],rfl,?_⟩
    have ec:a7 1 [0,2] (.nm 0) (bZ (gv 4)) (ng (jt (aA r6 (aa (gv 1) (aa (gv 0) (aa (gv 2) ao)))))) (gv 0) (vl [.fz (aB n l),.fz (.list ((mo l t).map aI)),.fz (.int t),.ow (.list (ws.map aI)),.fz (aI c)]) 0=.ok (.list ((c.filter λa=> !bH l a (t:Int)).map int)) 0:=
     jw (l:=c) (e:=int) (λa=> !bH l a (t:Int)) int rfl (by omega) λa _=>⟨_,rfl,jr (jf (aL (ds:=[aB n l,.int a,.int t]) rfl (B9 n l a t))),λ_=>rfl⟩
    have tt:gf (f2 (a7 1 [0,2] (.nm 0) (bZ (gv 4)) (ng (jt (aA r6 (aa (gv 1) (aa (gv 0) (aa (gv 2) ao)))))) (gv 0)) (a9 ao) (de false)) (vl [.fz (aB n l),.fz (.list ((mo l t).map aI)),.fz (.int t),.ow (.list (ws.map aI)),.fz (aI c)]) 0=.ok (c.all λa=>bH l a (t:Int)) 0:=by
     rw[iV _ _ _ _ (aK ec (lp (ds:=([]:List Int).map int) an) (gJ false _ []))]
     simp only[HQ,Im]
     rw[BD λa=>bH l a (t:Int)]
    cases hq:(c.all λa=>bH l a (t:Int)) with
    |true=>
     rw[hq] at tt
     have ea:f2 (gv 4) (a9 (aa (gv 2) ao)) cV (vl [.fz (aB n l),.fz (.list ((mo l t).map aI)),.fz (.int t),.ow (.list (ws.map aI)),.fz (aI c)]) 0=.ok (aI (c ++ [(t:Int)])) 0:=by
      refine aK (x:=.list (c.map int)) (y:=.list [.int t]) rfl (lp (ac rfl an)) ?_
      rw[jE (by rw[HF];simp;omega)]
      unfold aI;rw[Ic];rfl
     refine DH tt (sW (Df (ds:=ws.map aI) rfl ea rfl (by rw[HF];omega) (jI ⟨_,_,rfl,rfl,.fz (aI c),?_⟩)))
     rw[nxt,JC (by rw[hq])]
     show [_,_,_,Sl.ow (.list (ws.map aI ++ [aI (c ++ [(t:Int)])])),_]=_
     rw[show ws.map aI ++ [aI (c ++ [(t:Int)])]=(ws ++ [c ++ [(t:Int)]]).map aI by rw[Ic];rfl];rfl
    |false=>
     rw[hq] at tt
     refine wK tt (jI ⟨_,_,rfl,rfl,.fz (aI c),?_⟩)
     rw[nxt,JD (by rw[hq];simp)]
     simp only[filter_nil,Kk,Ju];rfl
  ·intro env b ⟨hb,s4,he⟩
   subst hb he
   rw[HF,List.take_length]
   obtain⟨ml2,_⟩:=ph (l:=l) (t:=t + 1) (by omega)
   have e1:(mo l (t + 1)).map aI=(mo l t).map aI ++ ((((mo l t).filter λc=>c.all λa=>bH l a (t:Int)).map (· ++ [(t:Int)])).map aI):=by
    conv=>lhs;unfold mo
    rw[Ic]
   refine sW (kU (d:=.list ((mo l (t + 1)).map aI)) (β1:=0) ?_ (jI ⟨_,_,rfl,rfl,hlt,.fz (.int t),_,s4,rfl⟩))
   rw[e1]
   refine n6 rfl rfl ?_
   have:=congrArg List.length e1
   rw[Ik,HF] at this
   omega
 ·intro env b ⟨hb,_,s2,s3,s4,he⟩
  subst hb he
  rw[kK]
  obtain⟨ml,mc⟩:=ph (l:=l) h8
  have ec:a7 1 [] (.nm 0) (bZ (gv 1)) ni (f1 (gv 0) dc) (vl [.fz (aB n l),.fz (.list ((mo l n).map aI)),s2,s3,s4]) 0=.ok (.list ((mo l n).map λc=>int (c.length:Int))) 0:=
   cQ (l:=mo l n) (e:=aI) (λc=>int (c.length:Int)) rfl (by omega) λc _=>⟨_,rfl,by rw[pI (ds:=c.map int) rfl,HF]⟩
  refine mR (d:=.int ((k + 1:Nat):Int)) (β1:=0) (df ec ?_) rfl
  have e2:((mo l n).map λc=>int (c.length:Int))=((mo l n).map λc=>(c.length:Int)).map int:=by rw[Ja];rfl
  have hpos:0 < (mo l n).length:=List.length_pos_of_mem (jv.mpr ⟨.nil,(λx h=>by cases h),.nil⟩: []∈mo l n)
  unfold o5
  simp only[iF]
  rw[e2,fk]
  dsimp only
  rw[HA (by rw[HF];exact hpos),CM lv nlv];rfl
theorem uF:∀rs:List (List Int),PyData.canLayAll0 (rs.map aI)=true
 | []=>rfl
 |r :: rs=>by
  show ((aI r).canLay0 && PyData.canLayAll0 (rs.map aI))=true
  rw[uF rs,show (aI r).canLay0=true by unfold aI;simp only[PyData.canLay0];exact lay_ints r];rfl
theorem uP:∀rs:List (List Int),PyData.depthAll (rs.map aI)<=1
 | []=>by show (0:Nat)<=1;omega
 |r :: rs=>by
  show max (aI r).depth (PyData.depthAll (rs.map aI))<=1
  have h1:(aI r).depth=1:=by unfold aI;simp only[PyData.depth];rw[lR]
  have h2:=uP rs
  omega
def tp (rs:List (List Int)):SeqAt.shaped (.list (rs.map aI))=true:=by
 unfold SeqAt.shaped
 have h1:(PyData.list (rs.map aI)).canLay0=true:=by simp only[PyData.canLay0];exact uF rs
 have h2:(PyData.list (rs.map aI)).depth<=64:=by simp only[PyData.depth];have:=uP rs;omega
 rw[h1,HK h2];rfl
theorem vn:∀l:List (List Int),PyData.eqvAll (l.map aI) (l.map aI)=true
 | []=>rfl
 |p :: l=>by
  show (PyData.eqv (aI p) (aI p) && PyData.eqvAll (l.map aI) (l.map aI))=_
  rw[vn l,show PyData.eqv (aI p) (aI p)=true by unfold aI;simp only[PyData.eqv,my];simp];rfl
def z7 (l:List (List Int)):de true (.list (l.map aI)) (.list (l.map aI))=some (.bool false):=by
 unfold de
 rw[tp]
 simp only[Kc,IM,PyData.eqv,vn];rfl
theorem rS:∀rs:List (List Int),k6 (rs.map aI)=some rs
 | []=>rfl
 |r :: rs=>by
  show (match eG (r.map int),k6 (rs.map aI) with
   |some r,some rs=>some (r :: rs)
   |_,_=>none)=_
  rw[fk,rS rs]
theorem uK:∀{rs:List (List Int)},(∀c,c∈rs->c≠ [])->(rs.map λc:List Int=>c.headD 0).Pairwise (· < ·)->wz rs=true
 | [],_,_=>rfl
 | [r],_,_=>rfl
 |r :: q :: rs,hn,h=>by
  rw[ID] at h
  obtain⟨h1,h2⟩:=Jr.mp h
  have h3:=h1 (q.headD 0) (by simp)
  unfold wz
  rw[uK (λc hc=>hn c (HG _ hc)) h2,Bool.and_true,Jz]
  cases r with
  |nil=>exact absurd rfl (hn [] (Hz ..))
  |cons x r=>
   cases q with
   |nil=>exact absurd rfl (hn [] (HG _ (Hz ..)))
   |cons y q=>
    have h3:x < y:=h3
    rw[HM.hJ,HI (by omega),HV (by omega)]
def yn {ns:List Int}(h:ns.length < 64):iR (.list (ns.map int))=some (.list ((sortI ns).map int)):=by
 unfold iR
 simp only[fk]
 rw[HA h]
def Ew {n:Nat}{l:List Pr}{g:List Int}(ag:DW.An (xX l) (eZ n) g):g.length<=n:=by
 have:=L2.ST.aO ag.nd (m:=eZ n) ag.sub
 rw[fT] at this;exact this
noncomputable def FW:List D->FR:=bh 5 2 (eM Fm D7 r6)
abbrev vD (n:Nat)(l:List Pr)(res:List (List Int))(th:List Int)(s3 s4:Sl):En:=[.fz (.list (res.map aI)),.fz (aB n l),.fz (.list (th.map int)),s3,s4]
def GJ {n k:Nat}{l:List Pr}{g:List Int}{res:List (List Int)}(h8:n<=8)(G:Gd l n res)(rl:res.length=k + 1)(lv:OM.Lv (bH l) n (k + 1) g)(nlv:∀g',¬OM.Lv (bH l) n (k + 2) g'):FW [.list (res.map aI),aB n l]=.ok (.bool true) false:=by
 show fin (eM Fm D7 r6 [.fz (.list (res.map aI)),.fz (aB n l),.no,.no,.no] 0)=_
 refine kQ ?_
 unfold eM
 have fl:=G.lens
 have q1:ng (jt (f1 (gv 0) (gS "list"))) (vl [.fz (.list (res.map aI)),.fz (aB n l),.no,.no,.no]) 0=.ok false 0:=jr (a:=true) (jf (df (x:=.list (res.map aI)) rfl rfl))
 have q2:gf (f2 (gv 0) (f1 (gv 0) lL) (de true)) (vl [.fz (.list (res.map aI)),.fz (aB n l),.no,.no,.no]) 0=.ok false 0:=iV _ _ _ _ (aK (x:=.list (res.map aI)) (y:=.list (res.map aI)) rfl (df (x:=.list (res.map aI)) rfl (by unfold lL;dsimp only;rw[rS];dsimp only;rw[HA (uK G.ne G.hds)])) (z7 res))
 have q3:gf (f2 (f1 (gv 0) dc) (aA Fm (aa (gv 1) ao)) (de true)) (vl [.fz (.list (res.map aI)),.fz (aB n l),.no,.no,.no]) 0=.ok false 0:=by
  have:=fQ (neg:=true) (pI (fa:=gv 0) (vs:=vl [.fz (.list (res.map aI)),.fz (aB n l),.no,.no,.no]) (β:=0) (ds:=res.map aI) rfl) (aL (fr:=aa (gv 1) ao) (ds:=[aB n l]) rfl (GQ h8 lv nlv))
  rw[this,HA rfl,HF,rl,HK rfl];rfl
 refine jX (uk q1 (uk q2 q3)) (wp_at [.fz (.list (res.map aI)),.fz (aB n l),.no,.no,.no] rfl ?_)
 refine kU (d:=.list (([]:List Int).map int)) (β1:=0) (lp an) (wp_at (vD n l res [] .no .no) rfl ?_)
 refine mi (ds:=res.map aI) (β1:=0) (λj env b=>b=0/\∃s3 s4,env=vD n l res (res.take j).flatten s3 s4) rfl ⟨rfl,_,_,rfl⟩ ?_ ?_
 ·intro j d env b hd ⟨hb,s3,s4,he⟩
  subst hb he
  rw[HL] at hd
  cases hj:res[j]? with
  |none=>rw[hj] at hd;cases hd
  |some c=>
  rw[hj] at hd
  cases hd
  have hc:=HN hj
  have cl:=fl.2 c hc
  have tl:(res.take j).flatten.length<=n:=by
   have:=fl.1
   conv at this=>lhs;rw[<-Jq j res]
   rw[Kg,Ik] at this;omega
  refine⟨vD n l res (res.take j).flatten (.fz (aI c)) s4,rfl,?_⟩
  generalize hth:(res.take j).flatten=th at tl ⊢
  have a1:ng (jt (f1 (gv 3) (gS "list"))) (vl (vD n l res th (.fz (aI c)) s4)) 0=.ok false 0:=jr (a:=true) (jf (df (x:=aI c) rfl rfl))
  have a2:gf (f2 (gv 3) (a9 ao) (de false)) (vl (vD n l res th (.fz (aI c)) s4)) 0=.ok false 0:=by
   rw[iV _ _ _ _ (aK (x:=.list (c.map int)) (y:=.list (([]:List Int).map int)) rfl (lp an) (gJ false c []))]
   simp only[HQ,Im]
   rw[HV (G.ne c hc)]
  have a3:ng (jt (f1 (a7 1 [] (.nm 0) (bZ (gv 3)) ni (aA D7 (aa (gv 0) ao))) (b8 λbs=>bs.all id))) (vl (vD n l res th (.fz (aI c)) s4)) 0=.ok false 0:=by
   have ec:a7 1 [] (.nm 0) (bZ (gv 3)) ni (aA D7 (aa (gv 0) ao)) (vl (vD n l res th (.fz (aI c)) s4)) 0=.ok (.list (c.map λ_=>PyData.bool true)) 0:=
    cQ (l:=c) (e:=int) (λ_=>PyData.bool true) rfl (by omega) λa _=>⟨_,rfl,aL (ds:=[.int a]) rfl (GL (d:=.int a) rfl)⟩
   have:=jr (jf (uW (f:=λ_=>true) ec))
   rw[this,show (c.all λ_=>true)=true by simp];rfl
  refine jX (uk a1 (uk a2 a3)) (wp_at (vD n l res th (.fz (aI c)) s4) rfl ?_)
  refine mi (ds:=c.map int) (β1:=0) (λ_ env b=>b=0/\∃s4,env=vD n l res th (.fz (aI c)) s4) rfl ⟨rfl,_,rfl⟩ ?_ ?_
  ·intro i d env b hd ⟨hb,s4,he⟩
   subst hb he
   obtain⟨x,hx,rfl⟩:=HH.mp (HN hd)
   refine⟨vD n l res th (.fz (aI c)) (.fz (.int x)),rfl,?_⟩
   have ec:a7 1 [1,4] (.nm 0) (bZ (gv 3)) (jt (aA r6 (aa (gv 1) (aa (gv 2) (aa (gv 0) ao))))) (gv 0) (vl (vD n l res th (.fz (aI c)) (.fz (.int x)))) 0=.ok (.list ((c.filter λa=>og l (x,a)).map int)) 0:=
    jw (l:=c) (e:=int) (λa=>og l (x,a)) int rfl (by omega) λa _=>⟨_,rfl,jf (aL (ds:=[aB n l,.int x,.int a]) rfl (B9 n l x a)),λ_=>rfl⟩
   have nil:(c.filter λa=>og l (x,a))= []:=by
    rw[List.filter_eq_nil_iff]
    intro a ha
    rw[G.ap c hc x a hx ha];decide
   rw[nil] at ec
   exact wK (iV _ _ _ _ (aK ec (lp (ds:=([]:List Int).map int) an) (gJ true [] []))) (jI ⟨_,_,rfl,rfl,_,rfl⟩)
  intro env b ⟨hb,s4,he⟩
  subst hb he
  have so:sortI c=c:=(jA (List.Perm.refl c) ((G.up c hc).imp λh=>Int.le_of_lt h)).symm
  have b1:gf (f2 (gv 3) (f1 (gv 3) iR) (de true)) (vl (vD n l res th (.fz (aI c)) s4)) 0=.ok false 0:=by
   rw[iV _ _ _ _ (aK (x:=.list (c.map int)) (y:=.list ((sortI c).map int)) rfl (df (x:=.list (c.map int)) rfl (yn (by omega))) (gJ true c (sortI c))),so]
   simp
  refine jX b1 (wp_at (vD n l res th (.fz (aI c)) s4) rfl ?_)
  refine sW (kU (d:=.list ((th ++ c).map int)) (β1:=0) (by
   rw[Ic]
   exact n6 rfl rfl (by rw[HF,HF];omega)) (jI ⟨_,_,rfl,rfl,.fz (aI c),s4,?_⟩))
  rw[List.take_succ,hj,Kg,hth]
  simp only[Option.toList_some,JM,List.flatten_nil,Ju];rfl
 ·intro env b ⟨hb,s3,s4,he⟩
  subst hb he
  rw[HF,List.take_length]
  have fl1:=fl.1
  refine mR (d:=.bool true) (β1:=0) ?_ rfl
  have:=aK (fa:=f1 (gv 2) iR) (fb:=f1 (f2 (gv 1) (cst (.int 0)) dz) c5) (vs:=vl (vD n l res res.flatten s3 s4)) (β:=0) (df (x:=.list (res.flatten.map int)) rfl (yn (by omega))) (df (FA (n:=n) (l:=l) rfl) (k8 (by omega))) (gJ false _ _)
  rw[this]
  simp only[HQ,Im]
  rw[HK (xH.mpr G.perm)]
def Bh {io i:Nat}{F:List D->FR}{L:List Nat}{t:VF Bool}{m m':SF}{env:En}{β β1:Int}{Q:SO->Prop}{d:D}{e0 es:List D}(h1:env[io]? =some (.fz d))(h2:iB d=true)(h3:i < env.length)(h4:F [d]=.ok (.list (.list e0 :: es)) false)
  (c1:e0.all DY=true) (c2:es.all Br=true) (c3:e0.length<=1000) (c4:es.length<=1000) (h5:t (vl (env.set i (.fz (.list (.list e0 :: es))))) β=.ok false β1) (k:WP (m' (env.set i .no) β1) Q):WP (nO io i F L t m m' env β) Q:=by
 have z:e0.length < sizeLine/\es.length + 1 < sizeLine:=by
  have:(1002:Nat)<=sizeLine:=by decide +kernel
  omega
 have:nO io i F L t m m' env β=m' (env.set i .no) β1:=by
  unfold nO
  rw[h1]
  dsimp only
  rw[HA ⟨h2,h3⟩,h4]
  dsimp only
  rw[HA ⟨c1,c2,z.1,z.2⟩,h5]
  rfl
 rw[this];exact k
theorem qO:∀l:List Pr,jo (l.map aG)=true
 | []=>rfl
 |p :: l=>by
  show (iB (aG p) && jo (l.map aG))=true
  rw[qO l];rfl
def zH (n:Nat)(l:List Pr):iB (aB n l)=true:=by
 show (true && (jo (l.map aG) && true))=true
 rw[qO l];rfl
noncomputable def Dp:List D->FR:=bh 4 1 (uZ DD GN FW oS)
theorem Eb (ns:List Int):Dp [cP ns]=.ok (.bool true) false:=by
 show fin (uZ DD GN FW oS [.fz (cP ns),.no,.no,.no] 0)=_
 refine kQ ?_
 obtain⟨m0,hm0,em⟩:=zA 4 (by omega) ns (vl [.fz (cP ns),.no,.no,.no]) 0 rfl
 unfold uZ
 refine mi (λ_ env b=>b=0/\∃s1 s2 s3,env= [.fz (cP ns),s1,s2,s3]) em ⟨rfl,_,_,_,rfl⟩ ?_ λenv β ⟨_,s1,s2,s3,e⟩=>mR (d:=.bool true) rfl rfl
 rintro i d env β hi ⟨hβ,s1,s2,s3,rfl⟩
 subst hβ
 obtain⟨_,rfl⟩:=j6 hi
 rw[J8]
 refine⟨[.fz (cP ns),.fz (.int i),s2,s3],rfl,?_⟩
 obtain⟨z,ez⟩:=Ek ns i
 obtain⟨n,l,β1,eo,O,h7⟩:=y9 (most:=8) (by omega) (by omega) z
 have h8:=O.hi
 refine kU (d:=aB n l) (β1:=0) (CZ (z:=z) (ym (ds:=[cP ns,.int i]) rfl ez) eo) (wp_at [.fz (cP ns),.fz (.int i),.fz (aB n l),s3] rfl ?_)
 obtain⟨res,g,k,ec,G,rl,eg,lv,nlv,lx⟩:=FF O
 have gl:g.length=k + 1:=lv.1
 have er:=GJ h8 G (by omega) lv nlv
 have fl:=G.lens
 cases res with
 |nil=>simp at rl;omega
 |cons c cs=>
 have cl:=fl.2 c (Hz ..)
 have rl8:cs.length + 1<=8:=by
  have:=(Ew (B8 lv))
  simp only[HX] at rl;omega
 refine Bh (d:=aB n l) (e0:=c.map int) (es:=cs.map aI) (β1:=0) rfl (zH n l) (by simp) ec ?_ ?_ (by rw[HF];omega) (by rw[HF];omega) ?_ (wp_at [.fz (cP ns),.fz (.int i),.fz (aB n l),.no] rfl ?_)
 ·rw[IG];intro x hx;obtain⟨a,_,rfl⟩:=HH.mp hx;rfl
 ·rw[IG];intro x hx;obtain⟨a,_,rfl⟩:=HH.mp hx
  show (a.map int).all DY=true
  rw[IG];intro x hx;obtain⟨b,_,rfl⟩:=HH.mp hx;rfl
 ·exact jr (jf (aL (ds:=[.list ((c :: cs).map aI),aB n l]) rfl er))
 ·exact wK (jr (jf (aL (ds:=[.list ((c :: cs).map aI),aB n l]) (ac (aL (ds:=[aB n l]) rfl ec) (ac rfl an)) er))) (jI ⟨_,_,rfl,rfl,_,_,_,rfl⟩)
end RM
namespace RO
open PySem L2
abbrev gO:Stmt:=RQ.c8
abbrev jU:Stmt:=RQ.top 12
abbrev Fn (K:Frag)(mg:Str->Option Value)(x:Str)(st:Stmt)(ps:List Str)(f:Addr)(fd:FuncData):Prop:=je K mg x st ps f fd
abbrev Bt (mg:Str->Option Value):Prop:=jD mg
end RO
section
namespace L2
open PySem PySem.Spec PyProof.Rows
section
variable {K:Frag}{H H':Hp}{a:Addr}
theorem aJ.snoc {x y:Int}(q:fK K H a [.int x,.int y]):∀{vs:List V} {ps:List (Int×Int)},aJ K H vs ps->aJ K H (vs ++ [.ref a]) (ps ++ [(x,y)])
 |_,_,.nil=>.cons ⟨a,rfl,q⟩ .nil
 |_,_,.cons r t=>.cons r (aJ.snoc q t)
def aJ.len {vs:List V}{ps:List (Int×Int)}(h:aJ K H vs ps):vs.length=ps.length:=Paired.length h
def aJ.same {vs:List V}{ps:List (Int×Int)}(h:aJ K H vs ps)(s:af H H'):aJ K H' vs ps:=h.grow s.grow
def aJ.at {vs:List V}{ps:List (Int×Int)}{i:Nat}{v:V}(h:aJ K H vs ps)(e:vs[i]? =some v):∃p:Int×Int,ps[i]? =some p/\∃b,v=.ref b/\fK K H b [.int p.1,.int p.2]:=Paired.getP h e
def af.put {o:HO}(s:af H H')(h:H a=none)(hf:∀x y,H' a≠some (.aU x y)):af H (L2.upd H' a o):=λb u e=>gr (s b u e) (ax e h) hf
def BW (h:H a=none):∀x y,H a≠some (.aU x y):=λx y z=>by rw[h] at z;cases z
def E5 {xs:List V}(h:H a=some (.lst xs)):∀x y,H a≠some (.aU x y):=λx y z=>by rw[h] at z;cases z
end
end L2
namespace RO
open PySem L2
def x8 (N:List Str)(sc:Scope)(NB:List Str)(own:Nat)(ixs:List Nat)(scope:Scope):Bool:=
 decide (scope.kind=.function) && (scope.names.all λy=>decide (y.2≠.cell)) && (scope.names.all λy=>decide (scope.names.lookup y.1=some y.2)) &&
 (scope.names.all λy=>decide (y.2=.free->(sc.names.lookup y.1=some .cell\/sc.names.lookup y.1=some .free))) && decide NB.Nodup && decide (NB.length=own + ixs.length) &&
 ((List.range ixs.length).all λk=>decide (NB[own + k]? =N[ixs.getD k 0]?) && (match NB[own + k]? with |some x=>decide ((x,NameKind.free)∈scope.names) |none=>true))
def kz {X:Cx}{NB:List Str}{own:Nat}{ixs:List Nat}{scope:Scope}(h:x8 X.N X.env.scope NB own ixs scope=true):cj X NB own ixs scope:=by
 unfold x8 at h
 simp only[Ig,IG,IP,HR] at h
 obtain⟨⟨⟨⟨⟨⟨h1,h2⟩,h3⟩,h4⟩,h5⟩,h6⟩,h7⟩:=h
 refine⟨h1,h2,h3,h4,h5,h6,λk hk=>⟨(h7 k hk).1,λx hx=>?_⟩⟩
 have:=(h7 k hk).2
 rw[hx] at this
 simpa using this
section
variable {X:Cx}{tg l:Expr}{tl:TE}{K:Frag}{H H1:Hp}{a:Addr}{xs:List V}{σ:St}
def GC (K:Frag)(tl:TE):TI:=λσ H R=>tl σ H λx H1=>∃a xs,x=.ref a/\((dJ K H1 a xs/\R (xb K a) H1)\/(fK K H1 a xs/\R (Ci K a) H1))
end
def GY (K:Frag){X:Cx}(h:X.K=K:=by rfl):zf X (DR K):=by subst h;exact dA
def DT (K:Frag)(i j:Nat){X:Cx}{x y:Str}{px py pos:Pos}{k:Nat}(hN:X.N.Nodup)(hi:X.N[i]? =some x)(hj:X.N[j]? =some y)(hx:X.env.scope.names.lookup x=some .local)(hy:X.env.scope.names.lookup y=some .local)(hc:X.calm=true)(hK:X.K=K) :
  PG X (.Tuple [.Name x px,.Name y py] k pos) (Bw K 2 (lU (ji i) (lU (ji j) AW))):=by
 subst hK
 exact mF hc (cE (b5 hN hi (Or.inl hx) (Or.inr hx)) (cE (b5 hN hj (Or.inl hy) (Or.inr hy)) kf))
section
open PySem.Spec PyProof.Rows
variable {X:Cx}{tg l:Expr}{tl:TE}
def DO (hl:PE X l tl):PI X tg l (GC X.K tl):=by
 intro pins s σ H R I h
 refine b4 (hl pins s σ H _ I h) λv s1 ⟨x,H1,I1,r1,q1⟩=>?_
 obtain⟨a,xs,e,q⟩:=q1
 subst e
 cases r1
 rcases q with⟨hq,q⟩ | ⟨hq,q⟩
 ·obtain⟨its,rv,p,hz⟩:=I1.list hq
  refine J2 p.isList ?_
  refine⟨s1.heap.objs.size,[s1.heap.objs.size],_,_,H1,rfl,I1.kept (t':=s1.toks) λb o e=>Hw _ e,kH a _,⟨_,HU _ rfl,rfl,rfl⟩,λb hb=>?_,q⟩
  have e:b=s1.heap.objs.size:=by simpa using hb
  subst e
  exact I1.fpOk (Hy _) (I1.hok.fresh (Hy _))
 ·obtain⟨its,rv,p,hz⟩:=I1.tuple hq
  refine Km (show s1.heap.IsTuple a its.toArray from p) ?_
  refine⟨s1.heap.objs.size,[s1.heap.objs.size],_,_,H1,rfl,I1.kept (t':=s1.toks) λb o e=>Hw _ e,lY a _,⟨_,HU _ rfl,rfl,rfl⟩,λb hb=>?_,q⟩
  have e:b=s1.heap.objs.size:=by simpa using hb
  subst e
  exact I1.fpOk (Hy _) (I1.hok.fresh (Hy _))
end
section
variable {K:Frag}{H H1 H':Hp}{a:Addr}{xs:List V}{σ:St}
abbrev EC (J:It)(g:TG)(tb:TS)(D:Ends)(σ:St)(H:Hp):Prop:=∃W:Nat->Nat->St->Hp->Prop,(∃m,W 0 m σ H)/\∀i m σ H,W i m σ H->
   (J.stop i H/\D.nx σ H)\/(J.go i H/\∃N:St->Hp->Prop,(∀σ' H',N σ' H'->∃m',m' < m/\W (i + 1) m' σ' H')/\∀x H',J.yld i H x H'->g x σ H' λσ2 H2=>tb {D with nx:=N,ct:=N,bk:=D.nx} σ2 H2)
def BN (s:af H1 H')(hq:dJ K H1 a xs\/fK K H1 a xs):dJ K H' a xs\/fK K H' a xs:=hq.elim (λq=>.inl (s.seq q)) λq=>.inr (q.grow s.grow)
def As {g:TG}{tb:TS}{D:Ends}(hq:dJ K H1 a xs\/fK K H1 a xs)(Pv:Nat->St->Hp->Prop)(h0:Pv 0 σ H)(hl:∀i σ H',Pv i σ H'->af H1 H')
  (hs:∀i x σ H,xs[i]? =some x->Pv i σ H->g x σ H λσ2 H2=>tb {D with nx:=Pv (i + 1),ct:=Pv (i + 1),bk:=D.nx} σ2 H2) (hd:∀σ H,Pv xs.length σ H->D.nx σ H) :
  (dJ K H a xs/\EC (xb K a) g tb D σ H)\/(fK K H a xs/\EC (Ci K a) g tb D σ H):=
 hq.elim (λq=>.inl ⟨(hl _ _ _ h0).seq q,qH Pv h0 (λi σ H' _ p=>(hl i σ H' p).seq q) hs hd⟩) λq=>.inr ⟨q.grow (hl _ _ _ h0).grow,Aw Pv h0 (λi σ H' _ p=>q.grow (hl i σ H' p).grow) hs hd⟩
def vb (J:It)(own:Nat)(ixs:List Nat)(g:TG)(tt:TT)(te:TE)(Q:VK)(D:Addr)(σ:St)(H:Hp):Prop:=∃W:Nat->Nat->St->Hp->Prop,(∃m,W 0 m (nS own ixs σ) (upd H D (.lst [])))/\∀i m σ' H',W i m σ' H'->
   (J.stop i H'/\(∃acc,H' D=some (.lst acc))/\Q (.ref D) H')\/
   (J.go i H'/\∃N:St->Hp->Prop,(∀σ2 H2,N σ2 H2->∃m',m' < m/\W (i + 1) m' σ2 H2)/\∀x H2,J.yld i H' x H2->c6 g tt te D x σ' H2 N)
structure qy (own:Nat)(ixs:List Nat)(wi:TI)(g:TG)(tt:TT)(te:TE)(σ:St)(H:Hp)(Q:VK):Prop where
 out:wi σ H λJ H1=>∀D,H1 D=none->vb J own ixs g tt te Q D σ H1
def tQ {own:Nat}{ixs:List Nat}{wi:TI}{g:TG}{tt:TT}{te:TE}{Q:VK}(h:wi σ H λJ H1=>∀D,H1 D=none->vb J own ixs g tt te Q D σ H1):qy own ixs wi g tt te σ H Q:=⟨h⟩
def oX {X:Cx}{NB:List Str}{own:Nat}{ixs:List Nat}{scope:Scope}{tg iter elt:Expr}{ifs:List Expr}{wi:TI}{g:TG}{tt:TT}{te:TE}{pos:Pos}(hc:X.calm=true)(S:cj X NB own ixs scope)(hi:PI X tg iter wi)
  (hg:∀C ex s3 H3 pn,PG (gu X NB scope C ex s3 H3 pn) tg g) (ht:∀C ex s3 H3 pn,zS (gu X NB scope C ex s3 H3 pn) ifs tt) (he:∀C ex s3 H3 pn,PE (gu X NB scope C ex s3 H3 pn) elt te)
  (hs:∀x,foldedSetIterable iter X.env x=pure x:=by intro _;rfl):PE X (.ListComp elt [⟨tg,iter,ifs,0⟩] scope pos) (qy own ixs wi g tt te):=
 λpins s σ H Q I h=>rm hc S hi hg ht he hs pins s σ H Q I h.out
section
variable {own:Nat}{ixs:List Nat}{g:TG}{tt:TT}{te:TE}{Q:VK}{D:Addr}
def Ao (Pv:Nat->St->Hp->Prop)(h0:Pv 0 (nS own ixs σ) (upd H D (.lst [])))(hl:∀i σ H,i<=xs.length->Pv i σ H->dJ K H a xs)
  (hs:∀i x σ H,xs[i]? =some x->Pv i σ H->c6 g tt te D x σ H (Pv (i + 1))) (hd:∀σ H,Pv xs.length σ H->(∃acc,H D=some (.lst acc))/\Q (.ref D) H):vb (xb K a) own ixs g tt te Q D σ H:=vO Pv h0 hl hs hd
def qY {lo:Int}{n:Nat}(Pv:Nat->St->Hp->Prop)(h0:Pv 0 (nS own ixs σ) (upd H D (.lst [])))
  (hs:∀i σ H,i < n->Pv i σ H->c6 g tt te D (.int (lo + i)) σ H (Pv (i + 1))) (hd:∀σ H,Pv n σ H->(∃acc,H D=some (.lst acc))/\Q (.ref D) H):vb (wL lo n) own ixs g tt te Q D σ H:=tx Pv h0 hs hd
end
def qM {i:Nat}{te:TE}{D:Addr}{x:V}{N:St->Hp->Prop}(h:te (σ.set i (some x)) H λv H5=>∃acc,H5 D=some (.lst acc)/\acc.length < sizeLine/\N (σ.set i (some x)) (upd H5 D (.lst (acc ++ [v])))):c6 (ji i) Cr te D x σ H N:=by
 unfold c6 ji Cr
 exact qZ h
def xT {i j:Nat}{x y:V}{Q:St->Hp->Prop}(h:fK K H a [x,y])(q:Q ((σ.set i (some x)).set j (some y)) H):Bw K 2 (lU (ji i) (lU (ji j) AW)) (.ref a) σ H Q:=⟨a,_,rfl,h,rfl,x,_,rfl,y,_,rfl,rfl,q⟩
def Gv {c A B:Prop}[Decidable c](h:c)(a:A):if c then A else B:=by rw[HA h];exact a
def Gs {c A B:Prop}[Decidable c](h:¬c)(b:B):if c then A else B:=by rw[HI h];exact b
def take_snoc {α:Type}{l:List α}{i:Nat}{x:α}(h:l[i]? =some x):l.take (i + 1)=l.take i ++ [x]:=by
 rw[JN,h];rfl
def take_all {α:Type}(l:List α):l.take l.length=l:=Jl (Hy _)
end
def iW (n:Nat):(OM.fF n).length=n * n:=by unfold OM.fF;simp
def A3 {n i:Nat}(h:i < n * n):(OM.fF n)[i]? =some (((i / n:Nat):Int),((i % n:Nat):Int)):=by
 unfold OM.fF
 rw[HL,List.getElem?_range h];rfl
def G8 {n:Nat}(h:n<=8):n * n<=64:=JP h h
section
variable {P:Program}{w:World}{K:Frag}{mg:Str->Option Value}{base:Heap}
def um (K:Frag):Sp:=λvs H Q _=>∃n:Nat,vs= [.int n]/\1<=n/\n<=8/\∀H' l ws,af H H'->H l=none->H' l=some (.lst ws)->aJ K H' ws (OM.fF n)->Q (.ref l) H'
def Bo:aF ["many"] ["many"] (ar gO):=⟨rfl,rfl,rfl,by decide +kernel,rfl,by decide +kernel,by decide +kernel⟩
def Eg:(["number","many"]:List Str).Nodup:=by decide +kernel
def zO {f:Addr}{fd:FuncData}(F:Fn K mg "every_pair" gO ["many"] f fd)(B:Bt mg):dw P w K mg base Cu 1 f fd ["many"] (um K):=by
 refine F.F.ok Bo (λvs H Q E h=>?_) (λcdv A outer s H vs Q E hr h=>?_)
 ·obtain⟨n,rfl,_⟩:=h;rfl
 ·obtain⟨n,rfl,h1,h8,k⟩:=h
  refine⟨_,fP (kB (oX (NB:=["number","many"]) (own:=1) (ixs:=[0]) rfl (kz (by kernel_rfl)) (i7 rfl B.range (aC (rM iI (pv 0) (pv 0)) aY))
   (λC ex s3 H3 pn=>b5 (i:=0) Eg rfl (Or.inl rfl) (hf:=Or.inr rfl)) (λC ex s3 H3 pn=>pK)
   (λC ex s3 H3 pn=>tu (aC (rM jQ (pv 0) (pv 1)) (aC (rM jq (pv 0) (pv 1)) aY))))),?_⟩
  have hn:=G8 h8
  have e0:((n:Int) * (n:Int))=((n * n:Nat):Int):=by rw[Int.natCast_mul]
  refine tQ ⟨_,rfl,_,rfl,_,_,rfl,rfl,.inl ⟨by omega,by omega⟩,_,rfl,by rw[e0];omega,by rw[e0];omega,λD hD=>?_⟩
  rw[e0,IJ]
  refine qY (λi σ' H'=>(∃v,σ'= [v,some (.int n)])/\af H H'/\∃vs,H' D=some (.lst vs)/\aJ K H' vs ((OM.fF n).take i)) ⟨⟨none,rfl⟩,(af.refl H).put hD (BW hD),[],aq,.nil⟩ ?_ ?_
  ·rintro i σ' H' hi ⟨⟨v,rfl⟩,s1,vs,hv,hp⟩
   have hn0:(0:Int) < (n:Int):=by omega
   refine qM ⟨_,rfl,_,rfl,_,_,rfl,rfl,⟨hn0,by omega⟩,_,rfl,_,rfl,_,_,rfl,rfl,hn0,by show 2<=sizeLine;rw[Iu];omega,λp hp0=>?_⟩
   have hpD:D≠p:=ax hv hp0
   have hl:=hp.len
   refine⟨vs,by rw[ak hpD];exact hv,?_,⟨_,rfl⟩,?_,vs ++ [.ref p],aq,?_⟩
   ·rw[hl,IE,Iu];rw[iW];omega
   ·exact (s1.put (s1.free hp0) (BW hp0)).put hD (E5 (xs:=vs) (by rw[ak hpD];exact hv))
   ·rw[take_snoc (A3 hi)]
    have g1:fL H' (upd H' p (.tup [.int ((0 + (i:Int)) / n),.int ((0 + (i:Int)) % n)])):=fL.new hp0
    have g2:∀o,fL (upd H' p (.tup [.int ((0 + (i:Int)) / n),.int ((0 + (i:Int)) % n)])) (upd (upd H' p (.tup [.int ((0 + (i:Int)) / n),.int ((0 + (i:Int)) % n)])) D o):=λo=>fL.list (by rw[ak hpD];exact hv)
    refine aJ.snoc ?_ (hp.grow (g1.trans (g2 _)))
    refine (fK.grow ?_ (g2 _))
    refine .inl (.inl ?_)
    rw[aq,J8];rfl
  ·rintro σ' H' ⟨_,s1,vs,hv,hp⟩
   refine⟨⟨_,hv⟩,k H' D vs s1 hD hv ?_⟩
   rw[<-iW n,take_all] at hp
   exact hp
end
end RO
end
namespace RO
open PySem L2
structure TabAt (n:Nat)(M:OM.Tb)(L:Addr)(r:Nat->Addr)(H:Hp):Prop where
 top:H L=some (.lst ((List.range n).map λi=>V.ref (r i)))
 row:∀i,i < n->H (r i)=some (.lst ((List.range n).map λj=>V.bl (M i j)))
 inj:∀i j,i < n->j < n->r i=r j->i=j
 ne:∀i,i < n->r i≠L
def uv {n x:Nat}(h:x < n):vi n (x:Int)=some x:=by
 unfold vi;rw[HA (by omega),HA (by omega)];simp
def zQ {α:Type}{xs:List α}{x:Nat}(h:x < xs.length):i4 xs (x:Int)=xs[x]?:=by
 unfold i4;rw[uv h];rfl
def dI {f:Nat->V}{n x:Nat}(h:x < n):i4 ((List.range n).map f) (x:Int)=some (f x):=by
 rw[zQ (by simpa using h),HL,List.getElem?_range h];rfl
def nP {f:Nat->V}{n x:Nat}(h:x < n):vi ((List.range n).map f).length (x:Int)=some x:=by
 rw[HF,Jg];exact uv h
def v3 {f:Nat->V}{n y:Nat}{v:V}:((List.range n).map f).set y v=(List.range n).map λj=>if j=y then v else f j:=by
 apply Kv
 intro i
 by_cases hi:i < n
 ·by_cases e:y=i
  ·subst e;simp[Kw,hi]
  ·have e':¬i=y:=λz=>e z.symm
   simp[Kw,hi,e,e']
 ·rw[List.getElem?_eq_none (by simp;omega),List.getElem?_eq_none (by simp;omega)]
section
variable {n:Nat}{M:OM.Tb}{L:Addr}{r:Nat->Addr}{H H':Hp}
def TabAt.set (T:TabAt n M L r H){x y:Nat}(hx:x < n):TabAt n (M.set x y) L r (upd H (r x) (.lst (((List.range n).map λj=>V.bl (M x j)).set y (.bl true)))):=by
 refine⟨by rw[ak (T.ne x hx).symm];exact T.top,λi hi=>?_,T.inj,T.ne⟩
 by_cases e:i=x
 ·subst e
  rw[aq,v3]
  refine congrArg _ (congrArg _ (Jj λj _=>?_))
  unfold OM.Tb.set
  by_cases c:j=y
  ·simp[c]
  ·simp[c]
 ·rw[ak (λz=>e (T.inj i x hi hx z)),T.row i hi]
  refine congrArg _ (congrArg _ (Jj λj _=>?_))
  unfold OM.Tb.set;simp[e]
def TabAt.same (T:TabAt n M L r H)(s:af H H'):TabAt n M L r H':=⟨s _ _ T.top,λi hi=>s _ _ (T.row i hi),T.inj,T.ne⟩
end
def pB {n:Nat}{ps:List (Int×Int)}(w:OM.Wn n ps){p:Int×Int}(h:p∈ps):∃u v:Nat,p=((u:Int),(v:Int))/\u < n/\v < n:=by
 obtain⟨x,y⟩:=p
 have q:=w _ h
 simp only at q
 exact⟨x.toNat,y.toNat,by rw[Int.toNat_of_nonneg q.1.1,Int.toNat_of_nonneg q.2.1],by omega,by omega⟩
def fN {M0 M:OM.Tb}{m:Nat}{D D':Nat->Nat->Prop}(P:OM.Phase M0 M m D)(h:∀a b,D a b↔D' a b):OM.Phase M0 M m D':=λa b=>by rw[P a b,h a b]
def i5 {l:List (Int×Int)}{u v a b:Nat}:(((a:Int),(b:Int))∈l\/(a=u/\b=v))↔((a:Int),(b:Int))∈l ++ [((u:Int),(v:Int))]:=by
 rw[HP,HC,Prod.mk.injEq]
 constructor
 ·rintro (h | ⟨h1,h2⟩)
  ·exact .inl h
  ·exact .inr ⟨by omega,by omega⟩
 ·rintro (h | ⟨h1,h2⟩)
  ·exact .inl h
  ·exact .inr ⟨by omega,by omega⟩
def Bz {M:OM.Tb}{u v a b:Nat}:M.set u v a b=true↔M a b=true\/(a=u/\b=v):=by
 unfold OM.Tb.set
 by_cases c:a=u/\b=v
 ·simp[c]
 ·rw[HI c];exact⟨.inl,λh=>h.resolve_right c⟩
def Ec (n:Nat)(x:V):(List.replicate n [x]).flatten=(List.range n).map λ_=>x:=by
 rw[List.flatten_replicate_singleton,List.map_const',Jg]
section
variable {P:Program}{w:World}{K:Frag}{mg:Str->Option Value}{base:Heap}
def yw (K:Frag):Sp:=λvs H Q _=>∃(n:Nat) (a:Addr) (xs:List V) (ps:List (Int×Int)),vs= [.int n,.ref a]/\1<=n/\n<=8/\(dJ K H a xs\/fK K H a xs)/\aJ K H xs ps/\OM.Wn n ps/\
 ∀H' t ws,af H H'->H t=none->H' t=some (.tup ws)->aJ K H' ws (OM.bK n (OM.Tr (OM.Mem ps)))->Q (.ref t) H'
def dQ:aF ["many","pairs","corners","leads","a","b","middle"] ["many","pairs"] (ar jU):=⟨rfl,rfl,rfl,by decide +kernel,rfl,by decide +kernel,by decide +kernel⟩
def D8:(["start","many"]:List Str).Nodup:=by decide +kernel
def C3:(["a","b","leads"]:List Str).Nodup:=by decide +kernel
set_option maxHeartbeats 1000000 in
theorem wb {f g:Addr}{fd gd:FuncData}(F:Fn K mg "closed" jU ["many","pairs"] f fd)(G:Fn K mg "every_pair" gO ["many"] g gd)(GE:dw P w K mg base Cu 1 g gd ["many"] (um K))(B:Bt mg):dw P w K mg base Cu 2 f fd ["many","pairs"] (yw K):=by
 refine F.F.ok dQ (λvs H Q E h=>?_) (λcdv A outer s H vs Q E hr h=>?_)
 ·obtain⟨n,a,xs,ps,rfl,_⟩:=h;rfl
 ·obtain⟨n,a,xs,ps,rfl,h1,h8,hq,hp,wn,k⟩:=h
  refine⟨_,b7 (l5 (i:=2) dQ.nd rfl (Or.inl rfl) (i9 GE hr rfl G.mg G.F.kp G.b .nil Fc (aC (pv 0) aY)))
   (b7 (l5 (i:=3) dQ.nd rfl (Or.inr rfl) (oX (NB:=["start","many"]) (own:=1) (ixs:=[0]) rfl (kz (by kernel_rfl)) (i7 rfl B.range (aC (pv 0) aY))
    (λC ex s3 H3 pn=>b5 (i:=0) D8 rfl (Or.inl rfl) (hf:=Or.inr rfl)) (λC ex s3 H3 pn=>pK) (λC ex s3 H3 pn=>rM DC (sQ (aC uH aY)) (pv 1))))
   (b7 (pz PassesOwn.never rfl (DO (pv 1)) (mF rfl (cE (b5 (i:=4) dQ.nd rfl (Or.inl rfl)) (cE (b5 (i:=5) dQ.nd rfl (Or.inl rfl)) kf)))
    (fP (pY uH (tO (iX dA (pv 3) (pv 4) (λ_ _=>rfl)) (pv 5) set_list))))
   (b7 (pz PassesOwn.never rfl (i7 rfl B.range (aC (pv 0) aY)) (b5 (i:=6) dQ.nd rfl (Or.inl rfl))
    (fP (pz PassesOwn.never rfl (vB (pv 2)) (mF rfl (cE (b5 (i:=4) dQ.nd rfl (Or.inl rfl)) (cE (b5 (i:=5) dQ.nd rfl (Or.inl rfl)) kf)))
     (fP (zC (PW.pt (Dz (sF (iX dA (iX dA (pv 3) (pv 4) (λ_ _=>rfl)) (pv 6) (λ_ _=>rfl))) (A0 (sF (iX dA (iX dA (pv 3) (pv 6) (λ_ _=>rfl)) (pv 5) (λ_ _=>rfl))))))
      (fP (pY uH (tO (iX dA (pv 3) (pv 4) (λ_ _=>rfl)) (pv 5) set_list))) pj)))))
   (fP (kB (gM jl rfl B.tuple (by decide +kernel) (aC (oX (NB:=["a","b","leads"]) (own:=2) (ixs:=[3]) rfl (kz (by kernel_rfl)) (vB (pv 2))
    (λC ex s3 H3 pn=>DT K 0 1 C3 rfl rfl rfl rfl rfl rfl)
    (λC ex s3 H3 pn=>vv (sF (iX (GY K) (iX (GY K) (pv 2) (pv 0) (λ_ _=>rfl)) (pv 1) (λ_ _=>rfl)))) (λC ex s3 H3 pn=>tu (aC (pv 0) (aC (pv 1) aY)))) aY))))))),?_⟩
  have hn:=G8 h8
  have hn0:(0:Int)<=(n:Int):=by omega
  refine⟨_,rfl,n,rfl,h1,h8,λH1 c ws s1 hc0 hc hw=>?_⟩
  have hwl:ws.length=n * n:=by rw[hw.len,iW]
  have gw:OM.Wn n (OM.fF n):=λp hp=>OM.fx.mp hp
  refine tQ ?_
  refine⟨_,rfl,n,rfl,by omega,by omega,λD hD=>?_⟩
  rw[IJ]
  refine qY (λi σ' H'=>(∃v,σ'= [v,some (.int n)])/\af H1 H'/\∃r:Nat->Addr,H' D=some (.lst ((List.range i).map λk=>V.ref (r k)))/\
   (∀k,k < i->H' (r k)=some (.lst ((List.range n).map λ_=>V.bl false))/\H1 (r k)=none/\r k≠D)/\∀j k,j < i->k < i->r j=r k->j=k)
   ?_ ?_ ?_
  ·exact⟨⟨none,rfl⟩,(af.refl H1).put hD (BW hD),λ_=>0,aq,λk hk=>absurd hk (Nat.not_lt_zero _),λj k hj=>absurd hj (Nat.not_lt_zero _)⟩
  ·rintro i σ' H' hi ⟨⟨v,rfl⟩,s2,r,hr0,hr1,hr2⟩
   refine qM ⟨by show 1<=sizeLine;rw[Iu];omega,λp hp0=>⟨_,rfl,p,n,[.bl false],rfl,rfl,aq,by omega,by omega,by show 1 * (n:Int).toNat<=sizeLine;rw[Iu];omega,λq hq0=>?_⟩⟩
   have hqp:q≠p:=by intro e;subst e;rw[aq] at hq0;cases hq0
   have hq1:H' q=none:=by rw[ak hqp] at hq0;exact hq0
   have hDp:D≠p:=ax hr0 hp0
   have hDq:D≠q:=ax hr0 hq1
   rw[IJ,Ec]
   refine⟨_,by rw[ak hDq,ak hDp];exact hr0,by rw[HF,Jg,Iu];omega,⟨_,rfl⟩,((s2.put (s2.free hp0) (BW hp0)).put (s2.free hq1) (BW hq0)).put hD (E5 (by rw[ak hDq,ak hDp];exact hr0)),λk=>if k=i then q else r k,?_,λk hk=>?_,λj k hj hk e=>?_⟩
   ·have e:(List.range i).map (λk=>V.ref (r k))=(List.range i).map (λk=>V.ref (if k=i then q else r k)):=Jj λk hk=>by
     have:=HR.mp hk
     rw[HI (by omega)]
    rw[aq,List.range_succ,Ic,e]
    simp
   ·dsimp only
    by_cases e:k=i
    ·rw[HA e]
     exact⟨by rw[ak hDq.symm,aq],s2.free hq1,hDq.symm⟩
    ·rw[HI e]
     obtain⟨a1,a2,a3⟩:=hr1 k (by omega)
     exact⟨by rw[ak a3,ak (ax a1 hq1),ak (ax a1 hp0)];exact a1,a2,a3⟩
   ·dsimp only at e
    by_cases ej:j=i
    ·by_cases ek:k=i
     ·omega
     ·rw[HA ej,HI ek] at e
      exact absurd e.symm (ax (hr1 k (by omega)).1 hq1)
    ·by_cases ek:k=i
     ·rw[HI ej,HA ek] at e
      exact absurd e (ax (hr1 j (by omega)).1 hq1)
     ·rw[HI ej,HI ek] at e
      exact hr2 j k (by omega) (by omega) e
  rintro σ2 H2 ⟨_,s2,r,hr0,hr1,hr2⟩
  refine⟨⟨_,hr0⟩,?_⟩
  have sep:∀i,i < n->H1 (r i)=none:=λi hi=>(hr1 i hi).2.1
  have T0:TabAt n (λ_ _=>false) D r H2:=⟨hr0,λi hi=>(hr1 i hi).1,hr2,λi hi=>(hr1 i hi).2.2⟩
  refine⟨_,rfl,a,xs,rfl,As (H1:=H1) (BN s1 hq) (λi σ' H'=>(∃x y,σ'= [some (.int n),some (.ref a),some (.ref c),some (.ref D),x,y,none])/\af H1 H'/\∃M,TabAt n M D r H'/\∀u v:Nat,M u v=true↔((u:Int),(v:Int))∈ps.take i)
   ⟨⟨none,none,rfl⟩,s2,_,T0,λu v=>by simp⟩ (λi σ' H' q=>q.2.1) ?_ ?_⟩
  ·rintro i x σ' H' hx ⟨⟨_,_,rfl⟩,s3,M,T,hM⟩
   obtain⟨p,hpi,b,rfl,hb⟩:=(hp.same (s1.trans s3)).at hx
   obtain⟨u,v,rfl,hu,hv⟩:=pB wn (HN hpi)
   refine xT hb ?_
   refine⟨_,rfl,_,rfl,D,_,u,_,rfl,rfl,.inl (.inl T.top),dI hu,_,rfl,r u,_,v,v,rfl,rfl,T.row u hu,nP hv,⟨_,_,rfl⟩,s3.put (sep u hu) (E5 (T.row u hu)),_,T.set hu,λx y=>?_⟩
   rw[take_snoc hpi,<-i5,Bz,hM]
  rintro σ3 H3 ⟨⟨x3,y3,rfl⟩,s3,M3,T3,hM3⟩
  rw[hp.len,take_all] at hM3
  refine⟨_,rfl,n,rfl,by omega,by omega,?_⟩
  rw[IJ]
  refine wo (λm σ' H'=>(∃x y z,σ'= [some (.int n),some (.ref a),some (.ref c),some (.ref D),x,y,z])/\af H1 H'/\∃M,TabAt n M D r H'/\OM.Tab n ps M/\OM.Bj M m)
   ⟨⟨_,_,_,rfl⟩,s3,M3,T3,⟨λa b h=>by have:=wn _ ((hM3 a b).mp h);simp only at this;omega,λa b h=>(hM3 a b).mpr h,λa b h=>.one ((hM3 a b).mp h)⟩,λk a b hk=>absurd hk (Nat.not_lt_zero _)⟩ ?_ ?_
  ·rintro m σ' H' hm ⟨⟨_,_,_,rfl⟩,s4,M,T,TT,Th⟩
   rw[J8]
   refine⟨_,rfl,c,rfl,⟨ws,.inl (.inl (s4 _ _ hc))⟩,qH (xs:=ws) (λi σ' H'=>(∃x y,σ'= [some (.int n),some (.ref a),some (.ref c),some (.ref D),x,y,some (.int m)])/\af H1 H'/\∃M',TabAt n M' D r H'/\OM.Phase M M' m λu v=>((u:Int),(v:Int))∈(OM.fF n).take i)
    ⟨⟨_,_,rfl⟩,s4,M,T,fN (OM.Phase.start M m) λa b=>by simp⟩ (λi σ' H' _ q=>.inl (.inl (q.2.1 _ _ hc))) ?_ ?_⟩
   ·rintro i x σ' H' hx ⟨⟨_,_,rfl⟩,s5,M',T',Ph⟩
    obtain⟨p,hpi,b,rfl,hb⟩:=(hw.same s5).at hx
    obtain⟨u,v,rfl,hu,hv⟩:=pB gw (HN hpi)
    refine xT hb ?_
    have st:=Ph.step u v
    refine⟨_,rfl,_,rfl,D,_,u,_,rfl,rfl,.inl (.inl T'.top),dI hu,_,rfl,r u,_,m,_,rfl,rfl,.inl (.inl (T'.row u hu)),dI hm,_,rfl,?_⟩
    by_cases c1:M' u m=true
    ·refine Gv c1 ?_
     refine⟨_,rfl,_,rfl,D,_,m,_,rfl,rfl,.inl (.inl T'.top),dI hm,_,rfl,r m,_,v,_,rfl,rfl,.inl (.inl (T'.row m hm)),dI hv,_,rfl,?_⟩
     by_cases c2:M' m v=true
     ·refine Gv c2 ?_
      rw[HA ⟨c1,c2⟩] at st
      refine⟨_,rfl,_,rfl,D,_,u,_,rfl,rfl,.inl (.inl T'.top),dI hu,_,rfl,r u,_,v,v,rfl,rfl,T'.row u hu,nP hv,⟨_,_,rfl⟩,s5.put (sep u hu) (E5 (T'.row u hu)),_,T'.set hu,fN st λa b=>?_⟩
      rw[take_snoc hpi];exact i5
     ·refine Gs c2 ?_
      rw[HI λz=>c2 z.2] at st
      refine⟨⟨_,_,rfl⟩,s5,_,T',fN st λa b=>?_⟩
      rw[take_snoc hpi];exact i5
    ·refine Gs c1 ?_
     rw[HI λz=>c1 z.1] at st
     refine qX ⟨⟨_,_,rfl⟩,s5,_,T',fN st λa b=>?_⟩
     rw[take_snoc hpi];exact i5
   ·rintro σ' H' ⟨⟨_,_,rfl⟩,s5,M',T',Ph⟩
    rw[hw.len,take_all] at Ph
    have dn:=Ph.done (n:=n) (λa b ha hb=>OM.fx.mpr ⟨⟨by simp,by simp;omega⟩,by simp,by simp;omega⟩) TT.inn Th
    exact⟨⟨_,_,_,rfl⟩,s5,M',T',TT.phase Ph,dn.1⟩
  rintro σ4 H4 ⟨⟨x4,y4,z4,rfl⟩,s4,M,T,TT,Th⟩
  refine tQ ⟨_,rfl,c,rfl,⟨ws,.inl (.inl (s4 _ _ hc))⟩,λD' hD'=>Ao (xs:=ws) (λi σ' H'=>(∃x y,σ'= [x,y,some (.ref D)])/\af H4 H'/\∃vs,H' D'=some (.lst vs)/\aJ K H' vs (((OM.fF n).take i).filter λp=>M p.1.toNat p.2.toNat))
   ⟨⟨_,_,rfl⟩,(af.refl H4).put hD' (BW hD'),[],aq,.nil⟩ (λi σ' H' _ q=>.inl (.inl (q.2.1 _ _ (s4 _ _ hc)))) ?_ ?_⟩
  ·rintro i x σ' H' hx ⟨⟨_,_,rfl⟩,s5,vs,hv,hpv⟩
   obtain⟨p,hpi,b,rfl,hb⟩:=(hw.same (s4.trans s5)).at hx
   obtain⟨u,v,rfl,hu,hv'⟩:=pB gw (HN hpi)
   refine xT hb ?_
   have T':=T.same s5
   refine⟨_,rfl,_,rfl,D,_,u,_,rfl,rfl,.inl (.inl T'.top),dI hu,_,rfl,r u,_,v,_,rfl,rfl,.inl (.inl (T'.row u hu)),dI hv',_,rfl,?_⟩
   by_cases c1:M u v=true
   ·refine Gv c1 ?_
    refine⟨_,rfl,_,rfl,by show 2<=sizeLine;rw[Iu];omega,λp hp0=>?_⟩
    have hpD:D'≠p:=ax hv hp0
    refine⟨vs,by rw[ak hpD];exact hv,?_,⟨_,_,rfl⟩,(s5.put (s5.free hp0) (BW hp0)).put hD' (E5 (by rw[ak hpD];exact hv)),_,aq,?_⟩
    ·rw[hpv.len]
     refine Ko (Js ..) ?_
     rw[IE,iW,Iu];omega
    ·rw[take_snoc hpi,Kq,JC (by simpa using c1),filter_nil]
     have g1:fL H' (upd H' p (.tup [.int u,.int v])):=fL.new hp0
     have g2:∀o,fL (upd H' p (.tup [.int u,.int v])) (upd (upd H' p (.tup [.int u,.int v])) D' o):=λo=>fL.list (by rw[ak hpD];exact hv)
     refine aJ.snoc ?_ (hpv.grow (g1.trans (g2 _)))
     exact fK.grow (.inl (.inl aq)) (g2 _)
   ·refine Gs c1 ?_
    refine⟨⟨_,_,rfl⟩,s5,vs,hv,?_⟩
    rw[take_snoc hpi,Kq,JD (by simpa using c1),filter_nil,Ju]
    exact hpv
  ·rintro σ' H' ⟨_,s5,vs,hv,hpv⟩
   rw[hw.len,take_all] at hpv
   refine⟨⟨_,hv⟩,D',vs,rfl,.inl ⟨.inl (.inl hv),λt ht=>?_⟩⟩
   have sA:af H H':=(s1.trans s4).trans s5
   refine k _ t vs (sA.put (sA.free ht) (BW ht)) (sA.free ht) aq ?_
   have e:((OM.fF n).filter λp=>M p.1.toNat p.2.toNat)=OM.bK n (OM.Tr (OM.Mem ps)):=by
    unfold OM.bK
    refine List.filter_congr λp hp=>?_
    obtain⟨u,v,rfl,hu,hv⟩:=pB gw hp
    have:=TT.all wn Th u v
    simp only[IJ]
    rw[JK,this]
    simp
   rw[e] at hpv
   exact hpv.grow (fL.new ht)
end
end RO
namespace RO
open PySem L2 RM
section
variable {P:Program}{w:World}{K:Frag}{mg:Str->Option Value}{base:Heap}{ca:Str->Addr}
def Hi {k:Nat}{f:Addr}{fd:FuncData}{ps:List Str}{sp:Sp}(F:dw P w K mg base Cu k f fd ps sp):dw P w K mg base (nh P w) k f fd ps sp:=
 ⟨F.len,λA outer s H args us vs Q E hr he hb hv hs=>Ki (F.run A outer s H args us vs Q E hr he hb hv hs) λr s' h=>by
  cases r with
  |ok x=>cases x <;> exact h
  |error e=>exact h.elim⟩
def tT {G H:Hp}(s:af G H){ws:List V}{ps:List Pr}(h:aJ K H ws ps):aJ K (fB G H) ws ps:=Paired.mapP h λv p ⟨a,e,q⟩=>⟨a,e,ke s q⟩
def mr {ds:List D}(h:cv ds≠.bad):∃(n:Nat) (d:D) (ps:List Pr),ds= [.int n,d]/\iF d=some (ps.map aG)/\1<=n/\n<=8/\OM.Wn n ps/\cv ds=.ok (.tuple ((OM.bK n (OM.Tr (OM.Mem ps))).map aG)) false:=by
 unfold cv at h
 split at h
 ·rename_i n d
  cases q:iF d with
  |none=>rw[q] at h;exact absurd rfl h
  |some es=>
   rw[q] at h
   dsimp only at h
   cases q2:dX es with
   |none=>rw[q2] at h;exact absurd rfl h
   |some ps=>
    rw[q2] at h
    dsimp only at h
    by_cases c:1<=n/\n<=8/\OM.Wn n.toNat ps
    ·have e:((n.toNat:Nat):Int)=n:=by omega
     refine⟨n.toNat,d,ps,by rw[e],by rw[q,i8 q2],by omega,by omega,c.2.2,?_⟩
     unfold cv
     dsimp only
     rw[q]
     dsimp only
     rw[q2]
     dsimp only
     rw[HA c]
    ·rw[HI c] at h;exact absurd rfl h
 ·exact absurd rfl h
def uj {f g:Addr}{fd gd:FuncData}(F:je K mg "closed" jU ["many","pairs"] f fd)(E:je K mg "every_pair" gO ["many"] g gd)(B:jD mg):cY P w K mg base ca "closed" ["many","pairs"] 3 cv:=by
 refine⟨⟨f,fd,F.mg,F.F.kp,F.b,((Hi (wb F E (zO E B) B)).mono (by decide)).imp ?_⟩,λds h=>?_⟩
 ·rintro vs H Q X ⟨G,ds,s,hl,r,h⟩
  have hb:cv ds≠.bad:=λz=>by rw[z] at h;exact h
  obtain⟨n,d,ps,rfl,hd,h1,h8,wn,e⟩:=mr hb
  rw[e] at h
  cases r with
  |cons r1 r=>
   cases r with
   |cons r2 r=>
    cases r
    cases r1
    obtain⟨a,xs,rfl,hq,hr⟩:=(jk.seq (B:=none) (G:=G) (H:=G) (.inl r2) hd (af.refl _))
    refine⟨n,a,xs,ps,rfl,h1,h8,hq.elim (λq=>.inl (s.seq q)) (λq=>.inr (q.grow s.grow)),(hr.pairs).grow s.grow,wn,λH' t ws hh ht ht' hp=>?_⟩
    have s2:=s.trans hh
    refine h (.ref t) (fB G H') H' hh oI (mT s2) (λb m hb=>by rw[uy hh m];exact hb) ?_
    exact .tup (ke s2 (.inl (.inl ht'))) (aJ.rps (tT s2 hp))
 ·obtain⟨n,d,ps,rfl,_⟩:=mr h
  rfl
end
end RO
namespace HD
open PySem PySem.W
noncomputable abbrev yi:=@PySem.W.Fast.tw10156331382660048174
noncomputable abbrev C6:=@PySem.W.Fast.tw11892475500146522536
noncomputable abbrev Gp:=@PySem.W.Fast.tw6613529449190102663
noncomputable abbrev CK:=@PySem.W.Fast.tw14364793385576792824
noncomputable abbrev B4:=@PySem.W.Fast.tw17154629097778926822
noncomputable abbrev yS:=@PySem.W.Fast.tw12822647523644345616
noncomputable def yy (p:Program):Thread:=
 ⟨do
  let code <-B4 p.main
  let frame <-yS code mainNs mainNs
  let _ <-run (.body (behindTheImports p) {scope:=p.main.scope,locals:=mainNs,globals:=mainNs,cells:=[],code,frame:=some frame})
  ret .none,
  .builtin "claim.caller" {},default,[]⟩
def yd (p:Program):topStub p=yy p:=by
 unfold topStub yy B4 yS
 rw[<-PySem.W.Fast.te17154629097778926822,<-PySem.W.Fast.te12822647523644345616]
noncomputable def lG (p:Program)(w:World)(n₀:Nat)(ann:Option Value):Nat->SharedT->Thread->Option SharedT
 | 0,_,_=>none
 |n + 1,s,t=>match through t with
  |true=>some s
  |false=>match Gp n₀ ann t with
   |false=>none
   |true=>match yi (C6 CK) p w s t with
    |some (s',t')=>lG p w n₀ ann n s' t'
    |none=>none
theorem oq {p:Program}{w:World}{n₀:Nat}{ann:Option Value}:∀{n:Nat} {s s':SharedT} {t:Thread},lG p w n₀ ann n s t=some s'->topRun treeTable p w n₀ ann n s.abs t=some s'.abs
 | 0,_,_,_,h=>by cases h
 |n + 1,s,s',t,h=>by
  unfold lG at h
  unfold topRun
  cases ht:through t with
  |true=>rw[ht] at h;cases h;rfl
  |false=>
   rw[ht] at h
   have hq:Gp n₀ ann t=stepOk n₀ ann t:=by unfold Gp;rw[<-PySem.W.Fast.te6613529449190102663]
   dsimp only at h
   rw[hq] at h
   cases hk:stepOk n₀ ann t with
   |false=>rw[hk] at h;cases h
   |true=>
    rw[hk] at h
    have hq:yi (C6 CK) p w s t=stepT (denote treeTable) p w s t:=by unfold yi C6 CK;rw[<-PySem.W.Fast.te10156331382660048174,<-PySem.W.Fast.te11892475500146522536,<-PySem.W.Fast.te14364793385576792824]
    dsimp only at h
    rw[hq] at h
    cases hs:stepT (denote treeTable) p w s t with
    |none=>rw[hs] at h;cases h
    |some r=>obtain⟨s₂,t₂⟩:=r;rw[hs] at h;rw[stepT_spec hs];exact oq h
def treeOf (l:List Obj):BT:=(l.foldl (λ(x:BT×Nat) o=>(x.1.ins x.2 o,x.2 + 1)) (.nil,0)).1
noncomputable def yZ (P:Params):BT:=treeOf (boot_heap P).objs.toList
abbrev su:Nat:=11
abbrev yv:Life:={}
def boot_abs (P:Params):absHeap (yZ P) su yv=boot_heap P:=by kernel_rfl
def xf (w:World):((boot_heap w.params).isNs mainGlobals && (Array.mk ([]:List GenState)).size == 0,(boot_heap w.params).objs.size,(boot_heap w.params).nsMap mainGlobals "__annotations__")=(true,su,some (.ref 6)):=by kernel_rfl
noncomputable def yH (w:World)(os:OsState):SharedT:=⟨yZ w.params,su,yv,Array.mk [],boot_drawn,boot_toks,os⟩
noncomputable def BZ (p:Program)(w:World)(s:Shared):Bool:=staticsOk (importedModules p.main.body) (boot_heap w.params) s.heap && namesBound p s.heap && gensDone s && laidKept (boot_heap w.params) s.heap
def BJ {p q:Program}{loose:List Str}{Xt:Shared->Bool}{α:Type}{Yf:Shared->α}{Ya:World->α}{N:Nat}{g0:Bool}
  (e:opening p=plainProg p.main.scope.names) (hN:Nat.ble 600 N=true) (f:∀s,fenceModules? p s=some s)
  (run:∀(w:World) (os:OsState),(lG p w su (some (.ref 6)) N (yH w os) (yy p)).map (λs=>(BZ p w s.abs,openSeen q loose (importedModules p.main.body) Xt g0 s.abs,Yf s.abs))=some (true,openGood q loose,Ya w)):LeftO p q loose Xt Yf Ya N g0:=λw=>by
 obtain⟨⟨h,gs,d,k,os⟩,e,e'⟩:=Option.map_eq_some_iff.mp (boot_open e hN f w)
 obtain⟨rfl,rfl,rfl,rfl⟩:h=boot_heap w.params/\gs=Array.mk []/\d=boot_drawn/\k=boot_toks:=by simpa using e'
 obtain⟨z1,z2,z3⟩:_/\_/\_:=by simpa only [Prod.mk.injEq] using xf w
 obtain⟨s',r,ls⟩:=Option.map_eq_some_iff.mp (run w os)
 obtain⟨l1,l2,l3⟩:_/\_/\_:=by simpa only [Prod.mk.injEq] using ls
 have r:=oq r
 have ha:(yH w os).abs=⟨boot_heap w.params,Array.mk [],boot_drawn,boot_toks,os⟩:=by
  show Shared.mk (absHeap (yZ w.params) su yv) _ _ _ _=_
  rw[boot_abs]
  rfl
 rw[ha,<-yd] at r
 have t:topFrom treeTable p w N ⟨boot_heap w.params,Array.mk [],boot_drawn,boot_toks,os⟩=some s'.abs:=by
  unfold topFrom
  dsimp only
  rw[z1,z2,z3,r]
  show (match BZ p w s'.abs with |true=>_ |false=>_)=_
  rw[l1]
 unfold openEnds
 rw[e]
 show (topFrom treeTable p w N _).map _=_
 rw[t]
 exact congrArg some (Prod.ext l2 l3)
end HD
section
namespace RO
open PySem L2 RM
def u7 (K:Frag):Sp:=λvs H Q _=>∃(a:Addr) (ns:List Int),vs= [.ref a]/\dJ K H a (ns.map V.int)/\∀H',af H H'->Q (.bl true) H'
def Di {K:Frag}{ca:Str->Addr}(vs:List V)(H:Hp)(Q:VK)(E:XK)(h:u7 K vs H Q E):xl K ca 1 Dp vs H Q E:=by
 obtain⟨a,ns,rfl,hS,q⟩:=h
 refine⟨H,[cP ns],af.refl _,rfl,.cons (.scr hS) .nil,?_⟩
 rw[Eb]
 intro v G' H' s1 s2 s3 s4 fv
 have fv:Rp K G' v (.bool true):=fv
 cases fv
 exact q H' s1
def tq:ba "is_whole" RQ.ij ["thing"]:=λ_ _ _ _ _ _=>xq λ_=>rfl
def tm:ba "is_below" RQ.ic ["thing","bound"]:=λ_ _ _ _ _ _=>ln2 λ_ _=>rfl
def we:ba "is_many" RQ.iZ ["thing"]:=λ_ _ _ _ _ _=>xq λ_=>rfl
def wX:ba "is_pair" RQ.i3 ["thing","many"]:=λ_ _ _ _ _ _=>ln2 λ_ _=>rfl
def pD:ba "every_pair" RQ.c8 ["many"]:=λ_ _ _ _ _ _=>xq λ_=>rfl
def xD:ba "closed" jU ["many","pairs"]:=λ_ _ _ _ _ _=>ln2 λ_ _=>rfl
def sZ:ba "has_ring" RQ.iu ["pairs"]:=λ_ _ _ _ _ _=>xq λ_=>rfl
def ui:ba "is_order" RQ.hU ["thing"]:=λ_ _ _ _ _ _=>xq λ_=>rfl
def o4:ba "need_order" RQ.eJ ["thing"]:=λ_ _ _ _ _ _=>xq λ_=>rfl
def qB:ba "are_apart" RQ.fR ["order","a","b"]:=λ_ _ _ _ _ _=>Gg λ_ _ _=>rfl
def lu:ba "longer_groups" RQ.cI ["order","groups"]:=λ_ _ _ _ _ _=>ln2 λ_ _=>rfl
def pM:ba "most_apart" RQ.eQ ["order"]:=λ_ _ _ _ _ _=>xq λ_=>rfl
def DJ:ba "fits" RQ.oY ["order","chain","thing"]:=λ_ _ _ _ _ _=>Gg λ_ _ _=>rfl
def nD:ba "chains_from" RQ.dE ["order","most","made","thing"]:=λ_ _ _ _ _ _=>Ho λ_ _ _ _=>rfl
def yC:ba "chains" RQ.jS ["order"]:=λ_ _ _ _ _ _=>xq λ_=>rfl
def rj:ba "_law_cell" RQ.fO ["script","k"]:=λ_ _ _ _ _ _=>ln2 λ_ _=>rfl
def uf:ba "_law_mix" RQ.dr ["cell","k"]:=λ_ _ _ _ _ _=>ln2 λ_ _=>rfl
def tJ:ba "_law_box" RQ.hV ["script","k"]:=λ_ _ _ _ _ _=>ln2 λ_ _=>rfl
def ra:ba "_law_take" RQ.fM ["box","many"]:=λ_ _ _ _ _ _=>ln2 λ_ _=>rfl
def qf:ba "_law_whole" RQ.eT ["thing"]:=λ_ _ _ _ _ _=>xq λ_=>rfl
def lj:ba "_law_mixed_up" RQ.cL ["box","some"]:=λ_ _ _ _ _ _=>ln2 λ_ _=>rfl
def nu:ba "_law_closed" RQ.dC ["pairs"]:=λ_ _ _ _ _ _=>xq λ_=>rfl
def pN:ba "_law_order" RQ.eO ["box","most"]:=λ_ _ _ _ _ _=>ln2 λ_ _=>rfl
def oW:ba "_law_apart" RQ.eS ["order","a","b"]:=λ_ _ _ _ _ _=>Gg λ_ _ _=>rfl
def qL:ba "_law_most" RQ.fS ["order"]:=λ_ _ _ _ _ _=>xq λ_=>rfl
def qd:ba "_law_right" RQ.eV ["found","order"]:=λ_ _ _ _ _ _=>ln2 λ_ _=>rfl
def all_mk {l:PySem.W.OpenLaw}{w:World}{K:Frag}{h:Heap}{mg:Str->Option Value}{fa f27:Addr}(X:K.In h)(G:h.Ns mainGlobals mg)(hfa:mg "law"=some (.ref fa))
  {od27 an27:Option Addr} {sl27:Array (Option Value)} {oc27 kV27 dc27 pm27 cd27 ct27:Value} {tMOST_THINGS:Tok}
  (F1:Fo K mg "is_whole" RQ.ij ["thing"])
  (F2:Fo K mg "is_below" RQ.ic ["thing","bound"])
  (F3:Fo K mg "is_many" RQ.iZ ["thing"])
  (F4:Fo K mg "is_pair" RQ.i3 ["thing","many"])
  (F5:Fo K mg "every_pair" RQ.c8 ["many"])
  (F6:Fo K mg "closed" jU ["many","pairs"])
  (F7:Fo K mg "has_ring" RQ.iu ["pairs"])
  (F8:Fo K mg "is_order" RQ.hU ["thing"])
  (F9:Fo K mg "need_order" RQ.eJ ["thing"])
  (F10:Fo K mg "are_apart" RQ.fR ["order","a","b"])
  (F11:Fo K mg "longer_groups" RQ.cI ["order","groups"])
  (F12:Fo K mg "most_apart" RQ.eQ ["order"])
  (F13:Fo K mg "fits" RQ.oY ["order","chain","thing"])
  (F14:Fo K mg "chains_from" RQ.dE ["order","most","made","thing"])
  (F15:Fo K mg "chains" RQ.jS ["order"])
  (F16:Fo K mg "_law_cell" RQ.fO ["script","k"])
  (F17:Fo K mg "_law_mix" RQ.dr ["cell","k"])
  (F18:Fo K mg "_law_box" RQ.hV ["script","k"])
  (F19:Fo K mg "_law_take" RQ.fM ["box","many"])
  (F20:Fo K mg "_law_whole" RQ.eT ["thing"])
  (F21:Fo K mg "_law_mixed_up" RQ.cL ["box","some"])
  (F22:Fo K mg "_law_closed" RQ.dC ["pairs"])
  (F23:Fo K mg "_law_order" RQ.eO ["box","most"])
  (F24:Fo K mg "_law_apart" RQ.eS ["order","a","b"])
  (F25:Fo K mg "_law_most" RQ.fS ["order"])
  (F26:Fo K mg "_law_right" RQ.eV ["found","order"])
  (a27:PySem.W.nsIn K mainGlobals "law"=some (some (.ref f27))) (l27:K.lookup f27=some ⟨oc27,od27,.func (PySem.W.fnOf "law" "law" (gc RQ.jj) (b6 RQ.jj) (ar RQ.jj) .none kV27 dc27 pm27 an27 cd27 ct27),sl27⟩) (c27:PySem.W.codeIn K cd27 "law"=true) (k27:PySem.W.keepIn K (.ref f27)=true)
  (zB:FU K=true)
  (yMOST_THINGS:PySem.W.nsIn K mainGlobals "MOST_THINGS"=some (some (.int 8 tMOST_THINGS)))
  :∃fd:FuncData,(∀(s:Shared) (v:Value),BindsTo s fd ⟨[v],[]⟩ [("script",v)])/\∀base:Heap,K.In base->base.Ns mainGlobals mg->dw l.prog w K mg base (nh l.prog w) 44 fa fd ["script"] (u7 K):=by
 have e:=hfa.symm.trans (PySem.W.mg_of X G a27)
 cases e
 have B:jD mg:=Es X G zB
 have gq:=PySem.W.mg_of X G yMOST_THINGS
 obtain⟨f1,d1,bu⟩:=F1.ex
 obtain⟨f2,d2,cO⟩:=F2.ex
 obtain⟨f3,d3,e8⟩:=F3.ex
 obtain⟨f4,d4,fj⟩:=F4.ex
 obtain⟨f5,d5,kg⟩:=F5.ex
 obtain⟨f6,d6,gy⟩:=F6.ex
 obtain⟨f7,d7,dh⟩:=F7.ex
 obtain⟨f8,d8,dt⟩:=F8.ex
 obtain⟨f9,d9,aW⟩:=F9.ex
 obtain⟨f10,d10,bb⟩:=F10.ex
 obtain⟨f11,d11,bA⟩:=F11.ex
 obtain⟨f12,d12,cA⟩:=F12.ex
 obtain⟨f13,d13,kR⟩:=F13.ex
 obtain⟨f14,d14,aM⟩:=F14.ex
 obtain⟨f15,d15,fq⟩:=F15.ex
 obtain⟨f16,d16,cS⟩:=F16.ex
 obtain⟨f17,d17,dv⟩:=F17.ex
 obtain⟨f18,d18,dm⟩:=F18.ex
 obtain⟨f19,d19,aV⟩:=F19.ex
 obtain⟨f20,d20,cn⟩:=F20.ex
 obtain⟨f21,d21,bB⟩:=F21.ex
 obtain⟨f22,d22,bX⟩:=F22.ex
 obtain⟨f23,d23,ck⟩:=F23.ex
 obtain⟨f24,d24,aZ⟩:=F24.ex
 obtain⟨f25,d25,cU⟩:=F25.ex
 obtain⟨f26,d26,bS⟩:=F26.ex
 have U27:=tP (st:=RQ.jj) l27 c27 k27
 have Ef:je K mg "law" RQ.jj ["script"] fa _:=⟨PySem.W.mg_of X G a27,U27,U27.binds (ps:=["script"]) λ_ _ _ _ _ _=>xq λ_=>rfl⟩
 obtain⟨ca,hca⟩:∃ca:Str->Addr,True:=⟨λ_=>0,trivial⟩
 refine⟨PySem.W.fnOf "law" "law" (gc RQ.jj) (b6 RQ.jj) (ar RQ.jj) .none kV27 dc27 pm27 an27 cd27 ct27,λs v=>.of_eq rfl,λbase _ _=>?_⟩
 have dk:=(RQ.oZ (P:=l.prog) (w:=w) (base:=base) (ca:=ca) bu B).imp uE
 have ie:=(RQ.oQ (P:=l.prog) (w:=w) (base:=base) (ca:=ca) cO B dk).imp Ax
 have kE:=(RQ.se (P:=l.prog) (w:=w) (base:=base) (ca:=ca) e8 B dk gq).imp DG
 have kO:=(RQ.rA (P:=l.prog) (w:=w) (base:=base) (ca:=ca) fj B ie).imp DA
 have Af:=RQ.mn (P:=l.prog) (w:=w) (base:=base) (ca:=ca) kg B
 have mJ:=uj (P:=l.prog) (w:=w) (base:=base) (ca:=ca) gy kg B
 have jy:=(RQ.pO (P:=l.prog) (w:=w) (base:=base) (ca:=ca) dh B).imp CC
 have js:=(RQ.pZ (P:=l.prog) (w:=w) (base:=base) (ca:=ca) dt B kE kO mJ jy).imp ue
 have cq:=(RQ.mC (P:=l.prog) (w:=w) (base:=base) (ca:=ca) aW B js).imp tX
 have cT:=RQ.nz (P:=l.prog) (w:=w) (base:=base) (ca:=ca) bb B
 have dS:=RQ.j7 (P:=l.prog) (w:=w) (base:=base) (ca:=ca) bA B cT
 have gY:=RQ.mM (P:=l.prog) (w:=w) (base:=base) (ca:=ca) cA B cq dS
 have sJ:=RQ.xU (P:=l.prog) (w:=w) (base:=base) (ca:=ca) kR B cT
 have bW:=vj (P:=l.prog) (w:=w) (base:=base) (ca:=ca) (j:=2) aM (λk F' hk h=>RQ.lA hk aM B h sJ) 40
 have jT:=RQ.tw (P:=l.prog) (w:=w) (base:=base) (ca:=ca) fq B cq bW gY
 have iK:=RQ.ny (P:=l.prog) (w:=w) (base:=base) (ca:=ca) cS B
 have jz:=RQ.qi (P:=l.prog) (w:=w) (base:=base) (ca:=ca) dv B
 have jB:=RQ.o8 (P:=l.prog) (w:=w) (base:=base) (ca:=ca) dm B iK jz
 have bP:=RQ.nF (P:=l.prog) (w:=w) (base:=base) aV B
 have h9:=RQ.mP (P:=l.prog) (w:=w) (base:=base) (ca:=ca) cn B
 have dR:=RQ.jO (P:=l.prog) (w:=w) (base:=base) bB B bP
 have gk:=RQ.ly (P:=l.prog) (w:=w) (base:=base) (ca:=ca) bX B
 have ip:=RQ.l9 (P:=l.prog) (w:=w) (base:=base) (ca:=ca) ck B gk bP dR
 have cg:=RQ.lP (P:=l.prog) (w:=w) (base:=base) (ca:=ca) aZ B
 have iH:=RQ.nN (P:=l.prog) (w:=w) (base:=base) (ca:=ca) cU B cg
 have eN:=RQ.mW (P:=l.prog) (w:=w) (base:=base) (ca:=ca) bS B iH h9 cg
 have E4:=RQ.AI (P:=l.prog) (w:=w) (base:=base) (ca:=ca) Ef B jB jT eN ip
 exact dw.imp (sp:=xl K ca 1 Dp) E4 Di
def walk {l:PySem.W.OpenLaw}{q:Program}{loose:List Str}{XP:(Str->Option Value)->Heap->Prop}{YP:World->Heap->Prop}{d:DefRec}{K:Params->Frag}(hn:l.most=some 63)(hdf:d.params.defaults= [])(hi:PyProof.Rows.importsNone q=true)
  (hY:∀(w:World) (h:Heap),YP w h->(K w.params).In h)
  (F:∀(w:World) (mg:Str->Option Value) (fa:Addr) (h:Heap),(K w.params).In h->h.Ns mainGlobals mg->mg d.name=some (.ref fa)->
   ∃fd:FuncData,(∀(s:Shared) (u:Value),BindsTo s fd ⟨[u],[]⟩ [("script",u)])/\∀base:Heap,(K w.params).In base->base.Ns mainGlobals mg->dw l.prog w (K w.params) mg base (nh l.prog w) 44 fa fd ["script"] (u7 (K w.params))) :
  PySem.W.WalkO q loose XP YP l.row.toRowW d [] (λf vs=>PySem.call f vs):=
 L2.Ak (n:=63) (k:=44) (x:="script") (CX:=λw=>nh l.prog w) (sp:=λw=>u7 (K w.params)) hn (by decide) hdf hi ⟨rfl,by decide,by decide,rfl⟩ hY F (λ_ _ a ns hl _ hS=>⟨a,ns,rfl,hS,λ_ _=>rfl⟩) λ_ _ _ _ _ z=>by
  obtain⟨_,_,_,_,_,_,_,_,_,z⟩:=z
  exact z
end RO
namespace HD
noncomputable def vw:PySem.Program:=PySem.W.view PySem.Challenge.pw_rowsorder_k17_chains_told [1,2,3,4,5,6,8,9,11,12,13,14,15,17,18,19,20,21,23,24,25,26,27,28,29,30,31,32,33,34]
def D6:PySem.Challenge.rw_rowsorder_k17_chains_told.wellSaid=true:=by kernel_rfl
end HD
local macro_rules | `(tactic|o_head $H)=>`(tactic| (
 refine PySem.W.holds_open (q:=HD.vw) (loose:=[]) (Xt:=λs=>PySem.W.xlAt HD.vw [] s && PySem.W.recOk (PySem.W.RowW.records _) s) (XP:=PySem.W.XL HD.vw []) (Yf:=PySem.W.Hook.obs $H) (Ya:=PySem.W.Hook.val $H) (YP:=PySem.W.Hook.says $H) (N:=2610) ?hl (PySem.W.Hook.of $H) (PySem.W.Hook.keeps $H) (λs e=>PySem.W.xl_of s (Bool.and_eq_true_iff.mp e).1) PySem.W.XL.keeps (by rfl) (by rfl) (by rfl) (λs e=>PySem.W.recFacts_of (Bool.and_eq_true_iff.mp e).2) (by rfl) (by first |assumption |decide +kernel) (by decide +kernel) ⟨rfl,rfl,rfl,rfl,rfl,by decide +kernel⟩ ?hw ?hc
 case hl=>exact HD.BJ (by kernel_rfl) (by kernel_rfl) (λs=>by kernel_rfl) (λw os=>by kernel_rfl)))
open PySem PySem.W PyProof.Rows L2
set_option maxRecDepth 100000 in
set_option maxHeartbeats 0 in
theorem PySem.Challenge.cw_rowsorder_k17_chains_told_holds : PySem.Challenge.rw_rowsorder_k17_chains_told.Holds := by
 w_on;(refine holds_law HD.D6 λD6=>?_);k_head;(case hw=>w_witness2)
 k_fill
 refine RO.walk (l:=PySem.Challenge.rw_rowsorder_k17_chains_told) rfl rfl ?hi (λw h Y=>PySem.W.kIn_of Y) ?F
 case hi=>kernel_rfl
 case F=>
  intro w mg fa h KX G hmg
  refine' RO.all_mk KX G hmg ?F1 ?F2 ?F3 ?F4 ?F5 ?F6 ?F7 ?F8 ?F9 ?F10 ?F11 ?F12 ?F13 ?F14 ?F15 ?F16 ?F17 ?F18 ?F19 ?F20 ?F21 ?F22 ?F23 ?F24 ?F25 ?F26 ?a27 ?l27 ?c27 ?k27 ?zB ?yMOST_THINGS
  case F1=>refine' bO KX G RO.tq ?a ?l ?c ?k;(case a=>k_is);(case l=>k_is);(case c=>k_is);(case k=>k_is)
  case F2=>refine' bO KX G RO.tm ?a ?l ?c ?k;(case a=>k_is);(case l=>k_is);(case c=>k_is);(case k=>k_is)
  case F3=>refine' bO KX G RO.we ?a ?l ?c ?k;(case a=>k_is);(case l=>k_is);(case c=>k_is);(case k=>k_is)
  case F4=>refine' bO KX G RO.wX ?a ?l ?c ?k;(case a=>k_is);(case l=>k_is);(case c=>k_is);(case k=>k_is)
  case F5=>refine' bO KX G RO.pD ?a ?l ?c ?k;(case a=>k_is);(case l=>k_is);(case c=>k_is);(case k=>k_is)
  case F6=>refine' bO KX G RO.xD ?a ?l ?c ?k;(case a=>k_is);(case l=>k_is);(case c=>k_is);(case k=>k_is)
  case F7=>refine' bO KX G RO.sZ ?a ?l ?c ?k;(case a=>k_is);(case l=>k_is);(case c=>k_is);(case k=>k_is)
  case F8=>refine' bO KX G RO.ui ?a ?l ?c ?k;(case a=>k_is);(case l=>k_is);(case c=>k_is);(case k=>k_is)
  case F9=>refine' bO KX G RO.o4 ?a ?l ?c ?k;(case a=>k_is);(case l=>k_is);(case c=>k_is);(case k=>k_is)
  case F10=>refine' bO KX G RO.qB ?a ?l ?c ?k;(case a=>k_is);(case l=>k_is);(case c=>k_is);(case k=>k_is)
  case F11=>refine' bO KX G RO.lu ?a ?l ?c ?k;(case a=>k_is);(case l=>k_is);(case c=>k_is);(case k=>k_is)
  case F12=>refine' bO KX G RO.pM ?a ?l ?c ?k;(case a=>k_is);(case l=>k_is);(case c=>k_is);(case k=>k_is)
  case F13=>refine' bO KX G RO.DJ ?a ?l ?c ?k;(case a=>k_is);(case l=>k_is);(case c=>k_is);(case k=>k_is)
  case F14=>refine' bO KX G RO.nD ?a ?l ?c ?k;(case a=>k_is);(case l=>k_is);(case c=>k_is);(case k=>k_is)
  case F15=>refine' bO KX G RO.yC ?a ?l ?c ?k;(case a=>k_is);(case l=>k_is);(case c=>k_is);(case k=>k_is)
  case F16=>refine' bO KX G RO.rj ?a ?l ?c ?k;(case a=>k_is);(case l=>k_is);(case c=>k_is);(case k=>k_is)
  case F17=>refine' bO KX G RO.uf ?a ?l ?c ?k;(case a=>k_is);(case l=>k_is);(case c=>k_is);(case k=>k_is)
  case F18=>refine' bO KX G RO.tJ ?a ?l ?c ?k;(case a=>k_is);(case l=>k_is);(case c=>k_is);(case k=>k_is)
  case F19=>refine' bO KX G RO.ra ?a ?l ?c ?k;(case a=>k_is);(case l=>k_is);(case c=>k_is);(case k=>k_is)
  case F20=>refine' bO KX G RO.qf ?a ?l ?c ?k;(case a=>k_is);(case l=>k_is);(case c=>k_is);(case k=>k_is)
  case F21=>refine' bO KX G RO.lj ?a ?l ?c ?k;(case a=>k_is);(case l=>k_is);(case c=>k_is);(case k=>k_is)
  case F22=>refine' bO KX G RO.nu ?a ?l ?c ?k;(case a=>k_is);(case l=>k_is);(case c=>k_is);(case k=>k_is)
  case F23=>refine' bO KX G RO.pN ?a ?l ?c ?k;(case a=>k_is);(case l=>k_is);(case c=>k_is);(case k=>k_is)
  case F24=>refine' bO KX G RO.oW ?a ?l ?c ?k;(case a=>k_is);(case l=>k_is);(case c=>k_is);(case k=>k_is)
  case F25=>refine' bO KX G RO.qL ?a ?l ?c ?k;(case a=>k_is);(case l=>k_is);(case c=>k_is);(case k=>k_is)
  case F26=>refine' bO KX G RO.qd ?a ?l ?c ?k;(case a=>k_is);(case l=>k_is);(case c=>k_is);(case k=>k_is)
  case a27=>k_is
  case l27=>k_is
  case c27=>k_is
  case k27=>k_is
  case zB=>kernel_rfl
  case yMOST_THINGS=>k_is
end
