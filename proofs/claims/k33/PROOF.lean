import PyProof.Rows.All
import Wide.All
import OpenK.AllK
import Wide.FinOn
import Lean
import PyProof.EqAt
import PyProof.EqKinds
import PyProof.TupleCall
import PySem.SetOps
import PyProof.SetKind
import PyProof.TupleKey
import PyProof.DictKinds
import PyProof.Rows.SetFrom
import PyProof.WalksMore
import KE.KSortTup
import PyProof.CollectWalk
import PyProof.ExcArgsOwn
import PyProof.Rows.CountFlat
import PyProof.Rows.SeqMore2
import PyProof.Rows.FStr
import PyProof.Rows.StrWeight2
import PyProof.Rows.StrNews
import PyProof.StrLawsTight
import PyProof.ExcBaseAll.ValueError
import PyProof.ZipIter
import PyProof.CallFns
import PyProof.Draws
import PyProof.EnumMake
import PyProof.SetRoads
import PyProof.Rows.SortWalk
import PyProof.SeqI3
import PyProof.Rows.SortShell
import PyProof.Rows.Range3
import KE.KStateDown
import PyProof.Rows.SumAny
import PyProof.ListRange
import PyProof.MaxThree
import PyProof.IsiH_list
import PyProof.RaisesAny
import KE.KDictOf
import PySem.Challenge.RW_rowsorder_k33_what_a_turn_forces
set_option Elab.async false
set_option linter.all false
set_option maxRecDepth 100000
set_option maxHeartbeats 1000000
def GS:=@PySem.wpAny_bind
def GU:=@List.getElem?_eq_getElem
def GV:=@PySem.Heap.get?_push_of_some
def GW:=@if_pos
def GX:=@PySem.wpAny_pure
def GY:=@List.mem_cons_of_mem
def GZ:=@Nat.le_refl
def G6:=@List.mem_cons_self
def G7:=@List.mem_cons
def G8:=@if_neg
def G9:=@PySem.Heap.lt_size
def Ha:=@List.mem_map
def Hb:=@decide_eq_true
def Hd:=@List.length_map
def He:=@List.getElem?_map
def Hf:=@PySem.Heap.get?_push_size
def Hg:=@Bool.false_eq_true
def Hh:=@decide_eq_false
def Hi:=@List.mem_of_getElem?
def Hj:=@List.size_toArray
def Hk:=@List.mem_filter
def Hl:=@Bool.and_eq_true
def Hm:=@List.getElem?_set_ne
def Hn:=@List.mem_range
def Ho:=@decide_eq_true_eq
def Hq:=@List.getElem?_set_self
def Hr:=@List.length_cons
def Hs:=@List.getElem?_eq_some_iff
def Ht:=@Bool.false_ne_true
def Hu:=@List.mem_append
def Hv:=@Array.getElem?_eq_getElem
def Hw:=@Nat.lt_of_lt_of_le
def Hx:=@List.map_cons
def Hy:=@List.getD_eq_getElem?_getD
def Hz:=@List.mem_iff_getElem
def HA:=@Nat.ne_of_lt
def HB:=@PySem.sizeLine_eq
def HC:=@List.mem_append_right
def HE:=@Array.getD_eq_getD_getElem?
def HF:=@List.mem_singleton
def HG:=@Nat.lt_irrefl
def HH:=@List.getElem?_append_right
def HI:=@if_false
def HJ:=@List.nodup_cons
def HK:=@Nat.zero_le
def HL:=@List.getElem?_append_left
def HM:=@List.pairwise_map
def HN:=@List.length_append
def HP:=@PySem.W.kia_one
def HQ:=@PySem.Heap.get?_update_self
def HR:=@List.length_filter_le
def HS:=@Array.getElem?_eq_some_iff
def HU:=@decide_eq_false_iff_not
def HV:=@Int.toNat_natCast
def HW:=@Nat.zero_add
def HX:=@PySem.wpAny_setState_of
def HY:=@PySem.Heap.get?_update_other
def HZ:=@Bool.eq_iff_iff
def Ia:=@Bool.not_eq_true'
def Ic:=@if_true
def Ie:=@Nat.le_trans
def Ig:=@Nat.lt_or_ge
def Ih:=@List.map_map
def Ij:=@List.Pairwise.imp_of_mem
def Ik:=@Nat.mul_le_mul
def Il:=@List.map_append
def Im:=@PySem.wpAny_holding
def Ip:=@Int.zero_add
def Iq:=@List.nodup_iff_pairwise_ne
def Ir:=@List.length_take
def Iu:=@List.getElem_mem
def Iv:=@List.all_eq_true
def Iw:=@PySem.Around.under_plainId
def Iy:=@List.getElem?_replicate
def Iz:=@PySem.wpAny_truthy_bool
def IA:=@List.append_assoc
def IB:=@List.toList_toArray
def IC:=@PySem.wpAny_mono
def ID:=@List.mem_filterMap
def IE:=@Array.getElem?_toList
def IF:=@List.mem_append_left
def IG:=@PySem.codeAny_builtin
def IH:=@List.set_eq_of_length_le
def II:=@PySem.Value.isInt_shape
def IJ:=@PySem.wpAny_newObj_type
def IK:=@List.length_range
def IL:=@PySem.mem_of_lookup
def IM:=@List.map_congr_left
def IP:=@List.nodup_range
def IQ:=@PySem.isSubtype_type
def IS:=@List.take_of_length_le
def IT:=@PyProof.Rows.F.plain_set_update_loop
def IU:=@PySem.wpAny_passesOwn
def IV:=@List.append_nil
def IW:=@List.length_replicate
def IX:=@List.length_set
def IY:=@List.foldl_cons
def IZ:=@List.any_cons
def I0:=@PySem.wpAny_pyIter_list
def Ja:=@List.take_add_one
def Jb:=@Array.mem_toList_iff
def Jc:=@List.pairwise_iff_getElem
def Jd:=@List.mem_of_mem_take
def Je:=@PySem.Heap.size_push
def Jf:=@PySem.boot_len
def Jg:=@PySem.F.called_set
def Jh:=@List.idxOf_lt_length_iff
def Ji:=@PySem.F.slot_list_getattribute
def Jj:=@List.replicate_succ
def Jk:=@Bool.not_true
def Jl:=@PySem.strLen_append
def Jm:=@List.find?_cons
def Jn:=@Array.getElem?_eq_none
def Jo:=@PySem.SeqAt.canLay_of_shaped
def Jp:=@List.nodup_nil
def Jq:=@PySem.builtinLookup_eq_fast
def Jr:=@PySem.wpAny_setField
def Js:=@PyProof.Rows.callWith_type1
def Jt:=@PySem.wpAny_askSetting
def Ju:=@PySem.wpAny_call_entry
def Jv:=@List.lookup_cons
def Jw:=@Bool.and_self
def Jx:=@PySem.plainId_quiet
def Jy:=@PySem.W.mg_of
def Jz:=@List.filterMap_cons
def JA:=@Array.length_toList
def JB:=@PySem.codeAny_mono
def JC:=@List.length_erase_of_mem
def JD:=@List.eq_of_mem_replicate
def JE:=@PySem.tupleKind_room_in1
def JF:=@List.flatten_cons
def JG:=@Nat.lt_trichotomy
def JH:=@Array.getElem_mem
def JI:=@List.ext_getElem?
def JJ:=@List.filter_congr
def JK:=@List.nodup_append
def JL:=@List.idxOf_append
open List (nil_append set_set)
open PySem.W (Frag)
open PySem.PyData (int)
section
set_option Elab.async false
namespace L2
open PySem PySem.Spec PyProof.Rows
abbrev Key:=Sum Int Str
def oZ:Key->Value->Bool
 | .inl k,v=>Value.isInt k v
 | .inr x,v=>Value.isStrOf x v
def FA (w:World):Key->Int
 | .inl k=>hashInt k
 | .inr x=>hashStr w x
theorem bL:∀{k:Key} {v:Value},oZ k v=true->(∃i t,k=Sum.inl i/\v=Value.int i t)\/(∃x t,k=Sum.inr x/\v=Value.str x t)
 | .inl i,v,h=>by
  obtain⟨t,e⟩:=II (k:=i) (v:=v) h
  exact .inl ⟨i,t,rfl,e⟩
 | .inr x,v,h=>by
  obtain⟨t,e⟩:=Value.isStrOf_shape (x:=x) (v:=v) h
  exact .inr ⟨x,t,rfl,e⟩
def xo (i:Int)(t:Tok):oZ (.inl i) (.int i t)=true:=by simp[oZ,Value.isInt]
def xp (x:Str)(t:Tok):oZ (.inr x) (.str x t)=true:=by simp[oZ,Value.isStrOf]
def Dy (a b:Int):decide ((Sum.inl a:Key)=Sum.inl b)=(a == b):=by
 by_cases e:a=b
 ·subst e;simp
 ·have h:¬(Sum.inl a:Key)=Sum.inl b:=λq=>e (Sum.inl.inj q)
  rw[Hh h]
  exact (beq_eq_false_iff_ne.mpr e).symm
def Cg (a b:Str):decide ((Sum.inr a:Key)=Sum.inr b)=decide (a=b):=by
 by_cases e:a=b
 ·subst e;simp
 ·have h:¬(Sum.inr a:Key)=Sum.inr b:=λq=>e (Sum.inr.inj q)
  rw[Hh h,Hh e]
def Dp (a:Int)(b:Str):decide ((Sum.inl a:Key)=Sum.inr b)=false:=Hh (λq=>nomatch q)
def CO (a:Str)(b:Int):decide ((Sum.inr a:Key)=Sum.inl b)=false:=Hh (λq=>nomatch q)
def bV (prog:Program)(w:World):PySem.KeyKind prog w Key where
 is:=oZ
 hash:=FA w
 inj:=λv a b ha hb=>by
  rcases bL ha with⟨i,t,rfl,rfl⟩ | ⟨x,t,rfl,rfl⟩
  ·rcases bL hb with⟨j,u,rfl,e⟩ | ⟨y,u,rfl,e⟩
   ·injection e with e1 _;rw[e1]
   ·exact nomatch e
  ·rcases bL hb with⟨j,u,rfl,e⟩ | ⟨y,u,rfl,e⟩
   ·exact nomatch e
   ·injection e with e1 _;rw[e1]
 byValue:=λk v h=>by
  rcases bL h with⟨i,t,rfl,rfl⟩ | ⟨x,t,rfl,rfl⟩ <;> rfl
 pyHash:=λhv h=>by
  rcases bL hv with⟨i,t,rfl,rfl⟩ | ⟨x,t,rfl,rfl⟩
  ·exact wpAny_pyHash_int h
  ·exact wpAny_pyHash_str h
 eqBool:=λhu hv h=>by
  rcases bL hu with⟨i,t,rfl,rfl⟩ | ⟨x,t,rfl,rfl⟩
  ·rcases bL hv with⟨j,u,rfl,rfl⟩ | ⟨y,u,rfl,rfl⟩
   ·rw[Dy] at h;exact wpAny_eqBool_int h
   ·rw[Dp] at h;exact SeqAt.EqAt.int_str i t y u _ _ _ _ h
  ·rcases bL hv with⟨j,u,rfl,rfl⟩ | ⟨y,u,rfl,rfl⟩
   ·rw[CO] at h;exact SeqAt.EqAt.str_int x t j u _ _ _ _ h
   ·rw[Cg] at h;exact wpAny_eqBool_str h
 «strs»:=λk x t v h=>by
  rcases bL h with⟨i,u,rfl,e⟩ | ⟨y,u,rfl,e⟩
  ·exact nomatch e
  ·injection e with e1 _
   subst e1
   cases v <;> rfl
def rN (prog:Program)(w:World)(i:Int)(t:Tok):(bV prog w).is (.inl i) (.int i t)=true:=xo i t
def qY (prog:Program)(w:World)(x:Str)(t:Tok):(bV prog w).is (.inr x) (.str x t)=true:=xp x t
inductive V where
 |non |bl (b:Bool) |int (i:Int) |str (x:Str) |byt (b:Array UInt8) |flt (b:UInt64) |ref (a:Addr) |ty (n:String)
 deriving DecidableEq
def RelV:V->Value->Prop
 | .non,u=>u=Value.none
 | .bl b,u=>u=Value.bool b
 | .int i,u=>∃t,u=Value.int i t
 | .str x,u=>∃t,u=Value.str x t
 | .byt b,u=>∃t,u=Value.bytes b t
 | .flt b,u=>∃t,u=Value.float b t
 | .ref a,u=>u=Value.ref a
 | .ty n,u=>u=Value.type n
abbrev Vals:List V->List Value->Prop:=Paired RelV
def Vals.length {xs:List V}{us:List Value}(r:Vals xs us):xs.length=us.length:=Paired.length r
theorem Vals.get:∀{xs:List V} {us:List Value} {i:Nat} {x:V},Vals xs us->xs[i]? =some x->∃u,us[i]? =some u/\RelV x u
 |_,_,_,_,.nil,e=>by simp at e
 |_,_,0,_,.cons r _,e=>by simp at e;subst e;exact⟨_,rfl,r⟩
 |_,_,i + 1,x,.cons _ t,e=>by
  obtain⟨u,h1,h2⟩:=Vals.get (i:=i) (x:=x) t (by simpa using e)
  exact⟨u,by simpa using h1,h2⟩
theorem Vals.set {x:V}{u:Value}(r:RelV x u):∀{xs:List V} {us:List Value} (i:Nat),Vals xs us->Vals (xs.set i x) (us.set i u)
 |_,_,_,.nil=>.nil
 |_,_,0,.cons _ t=>.cons r t
 |_,_,i + 1,.cons q t=>.cons q (Vals.set r i t)
theorem Vals.append:∀{xs ys:List V} {us ws:List Value},Vals xs us->Vals ys ws->Vals (xs ++ ys) (us ++ ws)
 |_,_,_,_,.nil,s=>s
 |_,_,_,_,.cons r t,s=>.cons r (Vals.append t s)
theorem Vals.take:∀{xs:List V} {us:List Value} (n:Nat),Vals xs us->Vals (xs.take n) (us.take n)
 |_,_,0,_=>.nil
 |_,_,_ + 1,.nil=>.nil
 |_,_,n + 1,.cons r t=>.cons r (Vals.take n t)
theorem Vals.drop:∀{xs:List V} {us:List Value} (n:Nat),Vals xs us->Vals (xs.drop n) (us.drop n)
 |_,_,0,r=>r
 |_,_,_ + 1,.nil=>.nil
 |_,_,n + 1,.cons _ t=>Vals.drop n t
def tR:Option V->Option Value->Prop
 |some v,some u=>RelV v u
 |none,none=>True
 |_,_=>False
def KV {κ:Type}:List (κ×V)->List (κ×Value)->Prop:=Paired λ(p:κ×V) (q:κ×Value)=>p.1=q.1/\RelV p.2 q.2
def kV:Key->V
 | .inl i=>.int i
 | .inr x=>.str x
inductive HO where
 |lst (xs:List V)
 |tup (xs:List V)
 |dK (kvs:List (Key×V)) |dT (kvs:List (List Key×V))
 |set (S:Int->Bool) (n:Nat)
 |ins (C dx:Addr) (fs:List (Str×V))
 |own (x:Addr)
 |xd (fs:List (Str×V))
 |met (f x:Addr)
 |gz (lo hi:Int)
 |a7 (o:Obj) (u:HO)
 |tbl (ps:Array Value)
 |ext (φ:Heap->Prop)
abbrev Hp:=Addr->Option HO
def upd (H:Hp)(a:Addr)(o:HO):Hp:=λb=>if b=a then some o else H b
def av {H:Hp}{a:Addr}{o:HO}:upd H a o a=some o:=by unfold upd;rw[GW rfl]
def au {H:Hp}{a b:Addr}{o:HO}(h:b≠a):upd H a o b=H b:=by unfold upd;rw[G8 h]
def uW {H:Hp}{a b:Addr}{o u:HO}(h:H a=some o)(h':H b=some u)(d:o≠u):a≠b:=by
 intro e;subst e;rw[h] at h';exact d (Option.some.inj h')
def aB {H:Hp}{a b:Addr}{o:HO}(h:H a=some o)(h':H b=none):a≠b:=by
 intro e;subst e;rw[h] at h';cases h'
section
variable (P:Program)(w:World)
def ub (h:Heap)(a:Addr)(items:Array Value):Prop:=∃o,h.get? a=some o/\o.cls=.type "tuple"/\∃n,o.data=.seq items n/\o.dict=none
def ub.isTup {h:Heap}{a:Addr}{items:Array Value}(x:ub h a items):IsTup h a items:=let ⟨o,e,c,n,d,_⟩:=x;⟨o,e,c,n,d⟩
def ub.new (h:Heap)(items:Array Value):ub (h.push {cls:=.type "tuple",data:=.seq items}) h.objs.size items:=⟨_,Hf _ rfl,rfl,_,rfl,rfl⟩
def bD (H:Hp)(h:Heap)(a:Addr):HO->Prop
 | .lst xs=>xs.length<=sizeLine/\∃(its:List Value) (n:Nat),Vals xs its/\h.get? a=some {cls:=.type "list",data:=.seq its.toArray n}
 | .tup xs=>xs.length<=sizeLine/\∃its:List Value,Vals xs its/\ub h a its.toArray
 | .dK kvs=>kvs.length<=sizeLine/\(a == sysModules)=false/\∃vs,KV kvs vs/\h.DictOf (bV P w) a vs
 | .dT kvs=>kvs.length<=sizeLine/\(a == sysModules)=false/\∃xs:List (List Key×Addr×Value),
   Paired (λ(p:List Key×V) (q:List Key×Addr×Value)=>p.1=q.1/\(H q.2.1=some (.tup (p.1.map kV))\/∃o,H q.2.1=some (.a7 o (.tup (p.1.map kV))))/\RelV p.2 q.2.2) kvs xs/\
   ∃o es ep,h.get? a=some o/\o.ExactDict/\o.data=.dict es ep/\es.toList=xs.map (entryOfKey (tupleKind (bV P w)))/\(xs.map (·.1)).Nodup
 | .set S n=>h.SetOf (intKind P w) a S n
 | .ins C dx fs=>H dx=some (.own a)/\fs.length<=1000/\dx≠a/\h.get? a=some (PySem.W.instObj C dx)/\
   ∃mA,h.Ns1 dx mA/\(∀f,tR (fs.lookup f) (mA f))/\PySem.Within mA (fs.map (·.1))
 | .own _=>∃o,h.get? a=some o
 | .xd fs=>∃mA,h.Ns1 a mA/\∀f,tR (fs.lookup f) (mA f)
 | .gz lo hi=>∃t u v,h.get? a=some {cls:=.type "range",data:=.fields #[.int lo t,.int hi u,.int 1 v]}
 | .a7 o u=>h.get? a=some o/\bD H h a u
 | .tbl ps=>h.get? a=some {cls:=.none,data:=.fields ps}
 | .met f x=>h.get? a=some (PySem.W.methodObj (.ref f) (.ref x))
 | .ext φ=>φ h/\(∃o,h.get? a=some o)/\∀h1 h2:Heap,φ h1->(∀o,h1.get? a=some o->h2.get? a=some o)->φ h2
def i9 (H:Hp)(h:Heap):Prop:=∀a o,H a=some o->bD P w H h a o
end
section
variable {P:Program}{w:World}{H H':Hp}{h h':Heap}{a:Addr}{o:HO}
theorem bD.lt (x:bD P w H h a o):a < h.objs.size:=by
 cases o with
 |lst xs=>obtain⟨_,_,_,_,e⟩:=x;exact G9 e
 |tup xs=>obtain⟨_,_,_,p⟩:=x;exact p.isTup.lt
 |dK kvs=>obtain⟨_,_,_,_,o,_,_,e,_⟩:=x;exact G9 e
 |dT kvs=>obtain⟨_,_,_,_,o,_,_,e,_⟩:=x;exact G9 e
 |set S n=>obtain⟨o,_,_,_,e,_⟩:=x;exact G9 e
 |ins C dx fs=>obtain⟨_,_,_,e,_⟩:=x;exact G9 e
 |own y=>obtain⟨_,e⟩:=x;exact G9 e
 |xd fs=>obtain⟨_,⟨_,_,_,e,_⟩,_⟩:=x;exact G9 e
 |gz lo hi=>obtain⟨_,_,_,e⟩:=x;exact G9 e
 |a7 ob u=>obtain⟨e,_⟩:=x;exact G9 e
 |tbl ps=>exact G9 (show h.get? a=some _ from x)
 |met f y=>exact G9 (show h.get? a=some _ from x)
 |ext φ=>obtain⟨_,⟨_,e⟩,_⟩:=x;exact G9 e
theorem Paired.mapP {α β:Type}{F G:α->β->Prop}:∀{l₁:List α} {l₂:List β},Paired F l₁ l₂->(∀a b,F a b->G a b)->Paired G l₁ l₂
 |_,_,.nil,_=>.nil
 |_,_,.cons r t,f=>.cons (f _ _ r) (Paired.mapP t f)
theorem bD.stay (x:bD P w H h a o)(k:∀b u,(b=a\/H b=some (.own a))->h.get? b=some u->h'.get? b=some u)
  (ho:∀b,H b=some (.own a)->H' b=some (.own a)) (ht:∀b xs,(H b=some (.tup xs)\/∃o,H b=some (.a7 o (.tup xs)))->(H' b=some (.tup xs)\/∃o,H' b=some (.a7 o (.tup xs)))):bD P w H' h' a o:=by
 induction o with
 |lst xs=>obtain⟨z,its,n,r,e⟩:=x;exact⟨z,its,n,r,k _ _ (.inl rfl) e⟩
 |tup xs=>obtain⟨z,its,r,ob,e,c⟩:=x;exact⟨z,its,r,ob,k _ _ (.inl rfl) e,c⟩
 |dK kvs=>obtain⟨z,y,vs,r,ob,es,ep,e,c⟩:=x;exact⟨z,y,vs,r,ob,es,ep,k _ _ (.inl rfl) e,c⟩
 |dT kvs=>
  obtain⟨z,y,xs,r,ob,es,ep,e,c⟩:=x
  exact⟨z,y,xs,Paired.mapP r λp q z=>⟨z.1,ht _ _ z.2.1,z.2.2⟩,ob,es,ep,k _ _ (.inl rfl) e,c⟩
 |set S n=>obtain⟨ob,es,ep,t,e,c⟩:=x;exact⟨ob,es,ep,t,k _ _ (.inl rfl) e,c⟩
 |ins C dx fs=>
  obtain⟨d,z,ne,e,mA,⟨od,es,ep,e2,c⟩,r⟩:=x
  exact⟨ho _ d,z,ne,k _ _ (.inl rfl) e,mA,⟨od,es,ep,k _ _ (.inr d) e2,c⟩,r⟩
 |own y=>obtain⟨ob,e⟩:=x;exact⟨ob,k _ _ (.inl rfl) e⟩
 |xd fs=>obtain⟨mA,⟨od,es,ep,e,c⟩,r⟩:=x;exact⟨mA,⟨od,es,ep,k _ _ (.inl rfl) e,c⟩,r⟩
 |gz lo hi=>obtain⟨t,u,v,e⟩:=x;exact⟨t,u,v,k _ _ (.inl rfl) e⟩
 |a7 ob u ih=>obtain⟨e,q⟩:=x;exact⟨k _ _ (.inl rfl) e,ih q⟩
 |tbl ps=>
  have e:h.get? a=some {cls:=.none,data:=.fields ps}:=x
  show h'.get? a=some {cls:=.none,data:=.fields ps}
  exact k a _ (.inl rfl) e
 |met f y=>
  have e:h.get? a=some (PySem.W.methodObj (.ref f) (.ref y)):=x
  show h'.get? a=some (PySem.W.methodObj (.ref f) (.ref y))
  exact k a _ (.inl rfl) e
 |ext φ=>obtain⟨p,⟨o,e⟩,st⟩:=x;exact⟨st _ _ p λo q=>k _ _ (.inl rfl) q,⟨o,k _ _ (.inl rfl) e⟩,st⟩
def i9.lt (x:i9 P w H h)(e:H a=some o):a < h.objs.size:=(x a o e).lt
theorem i9.fresh (x:i9 P w H h)(e:h.objs.size<=a):H a=none:=by
 cases q:H a with
 |none=>rfl
 |some u=>exact absurd (Hw (x.lt q) e) (HG _)
def i9.kept (x:i9 P w H h)(k:∀b u,h.get? b=some u->h'.get? b=some u):i9 P w H h':=λa o e=>
 (x a o e).stay (λb u _ q=>k b u q) (λ_ q=>q) λ_ _ q=>q
def i9.laid (x:i9 P w H h)(k:∀b u,h.get? b=some u->h'.get? b=some u)(hp:h.objs.size<=a)(new:bD P w (upd H a o) h' a o):i9 P w (upd H a o) h':=λb u e=>by
 have hn:=x.fresh hp
 by_cases hb:b=a
 ·subst hb;rw[av] at e;cases e;exact new
 ·rw[au hb] at e
  exact (x b u e).stay (λc v _ q=>k c v q) (λc q=>by rw[au (aB q hn)];exact q) λc xs q=>q.imp (λq=>by rw[au (aB q hn)];exact q) λ⟨o,q⟩=>⟨o,by rw[au (aB q hn)];exact q⟩
end
def Rd (H:Hp)(a:Addr)(u:HO):Prop:=H a=some u\/∃o,H a=some (.a7 o u)
def Rd.ok {P:Program}{w:World}{H:Hp}{h:Heap}{a:Addr}{u:HO}(r:Rd H a u)(x:i9 P w H h):bD P w H h a u:=by
 rcases r with r | ⟨o,r⟩
 ·exact x a u r
 ·obtain⟨_,q⟩:=x a _ r
  exact q
def Ed:Option HO->Prop
 |some (.lst _)=>True
 |some (.dK _)=>True
 |some (.dT _)=>True
 |some (.set _ _)=>True
 |some (.ins _ _ _)=>True
 |some (.ext _)=>True
 |_=>False
section
variable {P:Program}{w:World}{H:Hp}{h h':Heap}{x e:Addr}{o':HO}
def i9.write (ok:i9 P w H h)(mu:Ed (H x))(he:e=x\/H e=some (.own x))(k:∀b u,b≠e->h.get? b=some u->h'.get? b=some u)(heo:∃u,h'.get? e=some u)
  (new:bD P w (upd H x o') h' x o'):i9 P w (upd H x o') h':=λb u q=>by
 have nown:∀c y,H c=some (.own y)->c≠x:=λc y r z=>by subst z;rw[r] at mu;exact mu
 have ntup:∀c xs,H c=some (.tup xs)->c≠x:=λc xs r z=>by subst z;rw[r] at mu;exact mu
 by_cases hb:b=x
 ·subst hb;rw[av] at q;cases q;exact new
 ·rw[au hb] at q
  by_cases hbe:b=e
  ·have q':H b=some (.own x):=by
    rcases he with z |z
    ·exact absurd (hbe.trans z) hb
    ·rw[hbe];exact z
   rw[q] at q';cases q'
   obtain⟨v,hv⟩:=heo
   exact⟨v,by rw[hbe];exact hv⟩
  ·refine (ok b u q).stay (λc v hc r=>k c v ?_ r) (λc r=>by rw[au (nown c b r)];exact r) λc xs r=>r.imp (λr=>by rw[au (ntup c xs r)];exact r) λ⟨o,r⟩=>⟨o,by rw[au (λz=>by subst z;rw[r] at mu;exact mu)];exact r⟩
   rcases hc with rfl |hc
   ·exact hbe
   ·rintro rfl
    rcases he with z |z
    ·exact nown c b hc z
    ·rw[hc] at z;cases z;exact hb rfl
end
structure Un (fs ex:List Addr)(H H':Hp)(h h':Heap):Prop where
 keep:∀b o,h.get? b=some o->H b=none->b∉fs->b∉ex->h'.get? b=some o
 slot:∀b o,h.get? b=some o->H b=none->b∈fs->b∉ex->∃sl,h'.get? b=some {o with slots:=sl}
 free:∀b o,h.get? b=some o->H b=none->b∉ex->H' b=none
 there:∀b o,h.get? b=some o->b∉ex->∃o',h'.get? b=some o'
 tups:∀b xs,H b=some (.tup xs)->H' b=some (.tup xs)
 frzs:∀b o u,H b=some (.a7 o u)->H' b=some (.a7 o u)
 tbls:∀b ps,H b=some (.tbl ps)->∃more,H' b=some (.tbl (ps ++ more))
section
variable {fs fs' ex ex':List Addr}{H H1 H2:Hp}{h h1 h2 h':Heap}{a x e:Addr}{o:HO}
def Un.any (u:Un fs ex H H1 h h1){b:Addr}{ob:Obj}(q:h.get? b=some ob)(n:H b=none)(hx:b∉ex):∃sl,h1.get? b=some {ob with slots:=sl}:=by
 by_cases hb:b∈fs
 ·exact u.slot b ob q n hb hx
 ·exact⟨ob.slots,u.keep b ob q n hb hx⟩
def Un.kept (k:∀b u,h.get? b=some u->h'.get? b=some u):Un fs ex H H h h':=
 ⟨λb ob q _ _ _=>k b ob q,λb ob q _ _ _=>⟨ob.slots,k b ob q⟩,λ_ _ _ n _=>n,λb ob q _=>⟨ob,k b ob q⟩,λ_ _ q=>q,λ_ _ _ q=>q,λ_ ps q=>⟨#[],by rw[q];simp⟩⟩
def Un.refl:Un fs ex H H h h:=Un.kept λ_ _ q=>q
def Un.laid (k:∀b u,h.get? b=some u->h'.get? b=some u)(hp:h.objs.size<=a)(hn:H a=none):Un fs ex H (upd H a o) h h' where
 keep:=λb u q _ _ _=>k b u q
 slot:=λb u q _ _ _=>⟨u.slots,k b u q⟩
 free:=λb u q n _=>by rw[au (HA (Hw (G9 q) hp))];exact n
 there:=λb u q _=>⟨u,k b u q⟩
 tups:=λb xs q=>by rw[au (aB q hn)];exact q
 frzs:=λb u xs q=>by rw[au (aB q hn)];exact q
 tbls:=λb ps q=>⟨#[],by rw[au (aB q hn),q];simp⟩
def Un.write (mu:Ed (H x))(he:e=x\/H e=some (.own x))(k:∀b u,b≠e->h.get? b=some u->h'.get? b=some u)(heo:∃u,h'.get? e=some u):Un fs ex H (upd H x o) h h':=by
 have hx:∀b,H b=none->b≠x:=λb n z=>by subst z;rw[n] at mu;exact mu
 have hb:∀b,H b=none->b≠e:=λb n z=>by
  subst z
  rcases he with r |r
  ·exact hx b n r
  ·rw[n] at r;cases r
 have hm:∀b u,H b=some u->¬Ed (some u)->b≠x:=λb u q nm z=>by subst z;rw[q] at mu;exact nm mu
 refine⟨λb u q n _ _=>k b u (hb b n) q,λb u q n _ _=>⟨u.slots,k b u (hb b n) q⟩,λb u q n _=>by rw[au (hx b n)];exact n,λb u q _=>?_,
  λb xs q=>by rw[au (hm b _ q λz=>z)];exact q,λb u xs q=>by rw[au (hm b _ q λz=>z)];exact q,λb ps q=>⟨#[],by rw[au (hm b _ q λz=>z),q];simp⟩⟩
 by_cases hbe:b=e
 ·subst hbe;exact heo
 ·exact⟨u,k b u hbe q⟩
end
def E3 (h:Heap)(H:Hp):List Addr:=(List.range h.objs.size).filter λa=>(H a).isSome
def pJ (h:Heap)(H:Hp):Heap:=PySem.W.hideAll h (E3 h H)
def wQ (h:Heap)(H:Hp):(pJ h H).objs.size=h.objs.size:=PySem.W.hideAll_size _ _
def yD {h:Heap}{H:Hp}{b:Addr}{o:Obj}(e:h.get? b=some o)(n:H b=none):(pJ h H).get? b=some o:=
 PySem.W.hideAll_get _ e λhm=>by
  have q:(H b).isSome=true:=(Hk.mp hm).2
  rw[n] at q;simp at q
theorem Aa {h:Heap}{H:Hp}{b:Addr}{o:Obj}(e:(pJ h H).get? b=some o):h.get? b=some o/\H b=none:=by
 have e':h.get? b=some o:=PySem.W.of_hideAll (E3 h H) e
 refine⟨e',?_⟩
 cases q:H b with
 |none=>rfl
 |some x=>
  have hm:b∈E3 h H:=Hk.mpr ⟨Hn.mpr (G9 e'),by simp[q]⟩
  have z:(pJ h H).get? b=none:=PySem.W.hideAll_none (E3 h H) hm
  rw[z] at e;cases e
def An (g h:Heap)(L:Addr):List (Addr×Obj):=(List.range h.objs.size).filterMap λa=>if a=L\/(g.get? a).isSome=true then none else (h.get? a).map λo=>(a,o)
def rest (g h:Heap)(L d:Addr):List (Addr×Obj):=(An g h L).filter λp=>decide (p.1≠d)
structure Mod (K:Frag)(mg:Str->Option Value)(base:Heap):Prop where
 kin:K.In base
 glob:base.Ns mainGlobals mg
 blt:∃mb,base.Ns builtinsNs mb/\∀x:Str,x≠"__name__"->mb x=bootBuiltins x
 nolimit:base.NoLimit
 sys:∃mm,base.Ns sysModules mm
structure Cx where
 prog:Program
 w:World
 K:Frag
 mg:Str->Option Value
 base:Heap
 A:Around
 N:List Str
 s₀:Shared
 H₀:Hp
 env:Env
 outer:List Env
 stack:List Env
 ex:List Addr
 fn:Str->Bool
 calm:Bool
 pn:List (Addr×Obj)
 xe:Value->Shared->Prop
def hJ (l:List Env):List Addr:=l.filterMap (·.frame)
abbrev Cx.fs (X:Cx):List Addr:=hJ X.outer
def zJ (sc:Scope)(x:Str):Prop:=sc.names.lookup x=some .local\/sc.names.lookup x=some .cell\/sc.names.lookup x=some .free
def Loc (sc:Scope)(x:Str):Prop:=sc.names.lookup x=some .local\/sc.names.lookup x=some .cell
def Look (env:Env)(h:Heap)(m:Str->Option Value)(x:Str)(u:Value):Prop:=
 (env.kindOf x=some .local/\m x=some u)\/((env.kindOf x=some .cell\/env.kindOf x=some .free)/\∃c,env.cells.lookup x=some c/\h.IsCell c (some u))
structure Cx.Ok (X:Cx):Prop where
 mod:Mod X.K X.mg X.base
 kind:X.env.scope.kind=.function
 glob:X.env.globals=mainGlobals
 blt:X.env.builtins=builtinsNs
 above:X.s₀.heap.objs.size<=X.env.locals
 inj:∀x y c,X.env.cells.lookup x=some c->X.env.cells.lookup y=some c->x=y
 has:∀x,(X.env.kindOf x=some .cell\/X.env.kindOf x=some .free)->∃c,X.env.cells.lookup x=some c
 cab:∀x c,X.fn x=true->X.env.cells.lookup x=some c->X.s₀.heap.objs.size<=c
 hd:X.calm=true->X.A.handled=none
 frames:X.A.frames=some X.stack
 stk:X.stack=X.outer\/(X.stack=X.env :: X.outer/\X.env.frame=some X.env.locals)
 exf:∀b∈X.ex,b≠X.env.locals/\∀x c,X.env.cells.lookup x=some c->c≠b
 bs:∀b o,X.base.get? b=some o->X.s₀.heap.get? b=some o/\X.H₀ b=none
 bsz:X.base.objs.size<=X.s₀.heap.objs.size
 noex:∀b o,X.base.get? b=some o->b∉X.ex
 exfs:∀b∈X.ex,b∉X.fs
 funs:X.s₀.heap.FunFrames X.base X.outer
 frf:∀b∈X.fs,X.H₀ b=none
structure Inv (X:Cx)(pins:List (Addr×Obj))(σ:List (Option V))(H:Hp)(s:Shared):Prop where
 ok:X.Ok
 os:s.os=X.s₀.os
 bare:AllBare s.gens
 base:Un X.fs X.ex X.H₀ H X.s₀.heap s.heap
 loc:∃m,s.heap.Ns X.env.locals m/\∀(i:Nat) (x:Str) (v:V),X.N[i]? =some x->σ[i]? =some (some v)->zJ X.env.scope x->∃u,RelV v u/\Look X.env s.heap m x u
 cell:∀x c,X.env.cells.lookup x=some c->∃v,s.heap.IsCell c v
 free:H X.env.locals=none
 freeC:∀x c,X.env.cells.lookup x=some c->H c=none
 pin:∀p∈X.pn ++ pins,s.heap.get? p.1=some p.2/\H p.1=none/\p.1≠X.env.locals/\p.1∉X.fs/\∀v,p.2.data≠.cell v
 hok:i9 X.prog X.w H s.heap
 len:σ.length=X.N.length
section
variable {X:Cx}{pins:List (Addr×Obj)}{σ:List (Option V)}{H H':Hp}{s:Shared}{h':Heap}
def Cx.Ok.nofr (ok:X.Ok){b:Addr}{o:Obj}(e:X.base.get? b=some o):b∉X.fs:=λhb=>by
 have:=(ok.funs.mem hb).1
 rw[e] at this;cases this
def Inv.bs (I:Inv X pins σ H s):∀b o,X.base.get? b=some o->s.heap.get? b=some o/\H b=none:=λb o e=>
 ⟨I.base.keep b o (I.ok.bs b o e).1 (I.ok.bs b o e).2 (I.ok.nofr e) (I.ok.noex b o e),I.base.free b o (I.ok.bs b o e).1 (I.ok.bs b o e).2 (I.ok.noex b o e)⟩
def Inv.bk (I:Inv X pins σ H s):∀b o,X.base.get? b=some o->s.heap.get? b=some o:=λb o e=>(I.bs b o e).1
def Inv.mod (I:Inv X pins σ H s):Mod X.K X.mg X.base:=I.ok.mod
def Inv.kIn (I:Inv X pins σ H s):X.K.In s.heap:=I.ok.mod.kin.keeps I.bk
def Inv.fr (I:Inv X pins σ H s):∃m,Fr X.base X.env.locals s.heap m:=
 let ⟨m,hn,_⟩:=I.loc
 ⟨m,hn,I.bk,Ie I.ok.bsz I.ok.above⟩
def Inv.lt (I:Inv X pins σ H s):X.env.locals < s.heap.objs.size:=let ⟨_,hn,_⟩:=I.loc;hn.lt
def Inv.sz (I:Inv X pins σ H s):X.s₀.heap.objs.size<=s.heap.objs.size:=Ie I.ok.above (Nat.le_of_lt I.lt)
def Inv.nofs (I:Inv X pins σ H s){a:Addr}(h:s.heap.objs.size<=a):a∉X.fs:=λhb=>by
 obtain⟨_,o,ho,_⟩:=I.ok.funs.mem hb
 exact absurd (Hw (G9 ho) (Ie I.sz h)) (HG _)
def Inv.cne (I:Inv X pins σ H s):∀x c,X.env.cells.lookup x=some c->c≠X.env.locals:=λx c e z=>by
 obtain⟨v,o,ho,hd⟩:=I.cell x c e
 obtain⟨m,⟨o',es,ep,ho',hd',_⟩,_⟩:=I.loc
 rw[z,ho'] at ho;cases ho;rw[hd'] at hd;cases hd
def Inv.funs (I:Inv X pins σ H s):s.heap.FunFrames X.base X.outer:=by
 have all:∀(l:List Env),(∀b∈hJ l,b∈X.fs)->X.s₀.heap.FunFrames X.base l->s.heap.FunFrames X.base l:=by
  intro l
  induction l with
  |nil=>intro _ _;trivial
  |cons env r ih=>
   intro hs hl
   obtain⟨hk,⟨L,o,hf,hn,ho,hd⟩,hr⟩:=hl
   have hL:L∈X.fs:=hs L (by unfold hJ;rw[Jz,hf];exact G6)
   obtain⟨sl,e⟩:=I.base.slot L o ho (I.ok.frf L hL) hL λz=>I.ok.exfs L z hL
   exact⟨hk,⟨L,_,hf,hn,e,hd⟩,ih (λb hb=>hs b (by unfold hJ;rw[Jz,hf];exact GY _ hb)) hr⟩
 exact all X.outer (λ_ hb=>hb) I.ok.funs
def Inv.stack (I:Inv X pins σ H s):s.heap.FunFrames X.base X.stack:=by
 rcases I.ok.stk with e | ⟨e,hf⟩
 ·rw[e];exact I.funs
 ·rw[e]
  obtain⟨m,hn,_⟩:=I.loc
  refine .cons (by rw[I.ok.kind];decide) hf hn ?_ I.funs
  exact Heap.get?_none_of_le (Ie I.ok.bsz I.ok.above)
def Inv.stkSub (I:Inv X pins σ H s):∀b∈hJ X.stack,b∈X.env.locals :: X.fs:=λb hb=>by
 rcases I.ok.stk with e | ⟨e,hf⟩
 ·rw[e] at hb;exact GY _ hb
 ·rw[e] at hb
  unfold hJ at hb
  rw[Jz,hf] at hb
  exact hb
def Inv.stkFree (I:Inv X pins σ H s):∀b∈hJ X.stack,H b=none:=λb hb=>by
 rcases G7.mp (I.stkSub b hb) with e |hb
 ·rw[e];exact I.free
 ·obtain⟨_,o,ho,_⟩:=I.ok.funs.mem hb
  exact I.base.free b o ho (I.ok.frf b hb) λz=>I.ok.exfs b z hb
def Inv.step {g':Array GenState}{t':Nat}{d':Drawn}{ch:List Addr}(I:Inv X pins σ H s)
  (hch:∀b∈ch,(b∈X.ex\/X.s₀.heap.objs.size<=b)/\b≠X.env.locals/\(∀x c,X.env.cells.lookup x=some c->c≠b)/\∀p∈X.pn ++ pins,p.1≠b)
  (keep:∀b o,b≠X.env.locals->b∉X.fs->b∉ch->s.heap.get? b=some o->H b=none->h'.get? b=some o)
  (slot:∀b o,b≠X.env.locals->b∈X.fs->b∉ch->s.heap.get? b=some o->H b=none->∃sl,h'.get? b=some {o with slots:=sl}) (free:∀b o,b∉ch->s.heap.get? b=some o->H b=none->H' b=none)
  (there:∀b o,b∉ch->s.heap.get? b=some o->∃o',h'.get? b=some o')
  (tups:∀b xs,H b=some (.tup xs)->H' b=some (.tup xs)) (frzs:∀b o u,H b=some (.a7 o u)->H' b=some (.a7 o u)) (tbls:∀b ps,H b=some (.tbl ps)->∃more,H' b=some (.tbl (ps ++ more)))
  (ns:∀m,s.heap.Ns X.env.locals m->h'.Ns X.env.locals m) (hok:i9 X.prog X.w H' h') (hg:AllBare g') :
  Inv X pins σ H' {s with heap:=h',gens:=g',drawn:=d',toks:=t'}:=by
 have neL:∀b o,X.s₀.heap.get? b=some o->b≠X.env.locals:=λb o e=>HA (Hw (G9 e) I.ok.above)
 have neC:∀b o,X.s₀.heap.get? b=some o->b∉X.ex->b∉ch:=λb o e hx hb=>by
  rcases (hch b hb).1 with z |z
  ·exact hx z
  ·exact absurd (Hw (G9 e) z) (HG _)
 have cellK:∀x c,X.env.cells.lookup x=some c->∀v,s.heap.IsCell c v->h'.IsCell c v:=λx c e v ⟨o,ho,hd⟩=>by
  have nch:c∉ch:=λz=>(hch c z).2.2.1 x c e rfl
  by_cases hc:c∈X.fs
  ·obtain⟨sl,q⟩:=slot c o (I.cne x c e) hc nch ho (I.freeC x c e)
   exact⟨_,q,hd⟩
  ·exact⟨o,keep c o (I.cne x c e) hc nch ho (I.freeC x c e),hd⟩
 refine⟨I.ok,I.os,hg,⟨λb o e n hb hx=>?_,λb o e n hb hx=>?_,λb o e n hx=>?_,λb o e hx=>?_,λb xs e=>tups b xs (I.base.tups b xs e),λb o xs e=>frzs b o xs (I.base.frzs b o xs e),λb ps e=>?_⟩,?_,λx c e=>?_,?_,λx c e=>?_,λp hp=>?_,hok,I.len⟩
 ·exact keep b o (neL b o e) hb (neC b o e hx) (I.base.keep b o e n hb hx) (I.base.free b o e n hx)
 ·obtain⟨sl,e1⟩:=I.base.slot b o e n hb hx
  obtain⟨sl',e2⟩:=slot b _ (neL b o e) hb (neC b o e hx) e1 (I.base.free b o e n hx)
  exact⟨sl',e2⟩
 ·obtain⟨o',e1⟩:=I.base.there b o e hx
  exact free b o' (neC b o e hx) e1 (I.base.free b o e n hx)
 ·obtain⟨o',e1⟩:=I.base.there b o e hx
  exact there b o' (neC b o e hx) e1
 ·obtain⟨m1,e1⟩:=I.base.tbls b ps e
  obtain⟨m2,e2⟩:=tbls b _ e1
  exact⟨m1 ++ m2,by rw[e2,Array.append_assoc]⟩
 ·obtain⟨m,hn,hl⟩:=I.loc
  refine⟨m,ns m hn,λi x v e1 e2 e3=>?_⟩
  obtain⟨u,r,l⟩:=hl i x v e1 e2 e3
  refine⟨u,r,?_⟩
  rcases l with l | ⟨k,c,e,z⟩
  ·exact .inl l
  ·exact .inr ⟨k,c,e,cellK x c e _ z⟩
 ·obtain⟨v,z⟩:=I.cell x c e
  exact⟨v,cellK x c e v z⟩
 ·obtain⟨m,⟨o,_,_,ho,_⟩,_⟩:=I.loc
  exact free _ o (λz=>(hch _ z).2.1 rfl) ho I.free
 ·obtain⟨v,o,ho,hd⟩:=I.cell x c e
  exact free c o (λz=>(hch c z).2.2.1 x c e rfl) ho (I.freeC x c e)
 ·obtain⟨e,n,ne,nf,d⟩:=I.pin p hp
  have nch:p.1∉ch:=λz=>(hch p.1 z).2.2.2 p hp rfl
  exact⟨keep p.1 p.2 ne nf nch e n,free p.1 p.2 nch e n,ne,nf,d⟩
def Inv.un {t':Nat}(I:Inv X pins σ H s)(u:Un X.fs [] H H' s.heap h')(hok:i9 X.prog X.w H' h'):Inv X pins σ H' {s with heap:=h',toks:=t'}:=by
 obtain⟨m,⟨o,es,ep,ho,r⟩,_⟩:=id I.loc
 obtain⟨sl,hL⟩:=u.any ho I.free (by simp)
 exact I.step (g':=s.gens) (d':=s.drawn) (ch:=[]) (λ_ z=>nomatch z) (λb o _ hb _ e n=>u.keep b o e n hb (by simp)) (λb o _ hb _ e n=>u.slot b o e n hb (by simp)) (λb o _ e n=>u.free b o e n (by simp)) (λb o _ e=>u.there b o e (by simp)) u.tups u.frzs u.tbls (λm' hm=>by
  obtain⟨o',es',ep',ho',r'⟩:=hm
  rw[ho] at ho';cases ho'
  exact⟨_,es',ep',hL,r'⟩) hok I.bare
def Inv.call {g':Array GenState}{t':Nat}{d':Drawn}{ch:List Addr}(I:Inv X pins σ H s)(u:Un (hJ X.stack) ch H H' s.heap h')(hok:i9 X.prog X.w H' h')(hg:AllBare g')
  (hch:∀b∈ch,(b∈X.ex\/X.s₀.heap.objs.size<=b)/\b≠X.env.locals/\(∀x c,X.env.cells.lookup x=some c->c≠b)/\∀p∈X.pn ++ pins,p.1≠b) :
  Inv X pins σ H' {s with heap:=h',gens:=g',drawn:=d',toks:=t'}:=by
 obtain⟨m,⟨o,es,ep,ho,r⟩,_⟩:=id I.loc
 obtain⟨sl,hL⟩:=u.any ho I.free λz=>(hch _ z).2.1 rfl
 exact I.step (ch:=ch) hch (λb o hL hb hc e n=>u.keep b o e n (λz=>(G7.mp (I.stkSub b z)).elim hL hb) hc) (λb o _ _ hc e n=>u.any e n hc) (λb o hc e n=>u.free b o e n hc) (λb o hc e=>u.there b o e hc) u.tups u.frzs u.tbls (λm' hm=>by
  obtain⟨o',es',ep',ho',r'⟩:=hm
  rw[ho] at ho';cases ho'
  exact⟨_,es',ep',hL,r'⟩) hok hg
def Inv.turned {t':Nat}{it:Addr}(I:Inv X pins σ H s)(k:∀b o,b≠it->s.heap.get? b=some o->h'.get? b=some o)(hn:H it=none)(hL:it≠X.env.locals)
  (h1:it∈X.ex\/X.s₀.heap.objs.size<=it) (h2:∀x c,X.env.cells.lookup x=some c->c≠it) (h3:∀p∈X.pn ++ pins,p.1≠it):Inv X pins σ H {s with heap:=h',toks:=t'}:=by
 have nit:∀b u,H b=some u->b≠it:=λb u e z=>by rw[z,hn] at e;cases e
 refine I.step (g':=s.gens) (d':=s.drawn) (ch:=[it]) (λb hb=>?_) (λb o _ _ hc e _=>k b o (λz=>hc (by simp[z])) e) (λb o _ _ hc e _=>⟨o.slots,k b o (λz=>hc (by simp[z])) e⟩) (λ_ _ _ _ n=>n)
  (λb o hc e=>⟨o,k b o (λz=>hc (by simp[z])) e⟩) (λ_ _ e=>e) (λ_ _ _ e=>e) (λb ps e=>⟨#[],by rw[e];simp⟩) (λm hm=>?_) (λb u e=>?_) I.bare
 ·have e:b=it:=by simpa using hb
  subst e
  exact⟨h1,hL,h2,h3⟩
 ·obtain⟨o,es,ep,ho,r⟩:=hm
  exact⟨o,es,ep,k _ o (Ne.symm hL) ho,r⟩
 ·refine (I.hok b u e).stay (λc v hc q=>k c v ?_ q) (λ_ q=>q) λ_ _ q=>q
  rcases hc with z |z
  ·rw[z];exact nit b u e
  ·exact nit c _ z
def Inv.tok (I:Inv X pins σ H s)(t:Nat):Inv X pins σ H {s with toks:=t}:=I.un (h':=s.heap) (t':=t) Un.refl I.hok
def Inv.kept {t':Nat}(I:Inv X pins σ H s)(k:∀b u,s.heap.get? b=some u->h'.get? b=some u):Inv X pins σ H {s with heap:=h',toks:=t'}:=I.un (Un.kept k) (I.hok.kept k)
def Inv.laid {a:Addr}{o:HO}{t':Nat}(I:Inv X pins σ H s)(k:∀b u,s.heap.get? b=some u->h'.get? b=some u)(hp:s.heap.objs.size<=a)(new:bD X.prog X.w (upd H a o) h' a o) :
  Inv X pins σ (upd H a o) {s with heap:=h',toks:=t'}:=I.un (Un.laid k hp (I.hok.fresh hp)) (I.hok.laid k hp new)
def Inv.write {x e:Addr}{o:HO}{t':Nat}(I:Inv X pins σ H s)(mu:Ed (H x))(he:e=x\/H e=some (.own x))(k:∀b u,b≠e->s.heap.get? b=some u->h'.get? b=some u)(heo:∃u,h'.get? e=some u)
  (new:bD X.prog X.w (upd H x o) h' x o):Inv X pins σ (upd H x o) {s with heap:=h',toks:=t'}:=I.un (Un.write mu he k heo) (I.hok.write mu he k heo new)
def Inv.pins_of {pins':List (Addr×Obj)}(I:Inv X pins σ H s)(h:∀p∈pins',s.heap.get? p.1=some p.2/\H p.1=none/\p.1≠X.env.locals/\p.1∉X.fs/\∀v,p.2.data≠.cell v):Inv X pins' σ H s:=
 ⟨I.ok,I.os,I.bare,I.base,I.loc,I.cell,I.free,I.freeC,λp hp=>(Hu.mp hp).elim (λz=>I.pin p (IF _ z)) (h p),I.hok,I.len⟩
def rW {N:List Str}(hN:N.Nodup){i j:Nat}{x:Str}(a:N[i]? =some x)(b:N[j]? =some x):i=j:=by
 obtain⟨h1,e1⟩:=Hs.mp a
 obtain⟨h2,e2⟩:=Hs.mp b
 exact (List.getElem_inj hN).mp (e1.trans e2.symm)
def oR {M:Model}{A:Around}{E:Value->Shared->Prop}{i:Nat}{x:Str}{v:V}{u:Value}{Q:Unit->Shared->Prop}(I:Inv X pins σ H s)(hN:X.N.Nodup)(hi:X.N[i]? =some x)(hx:Loc X.env.scope x)(r:RelV v u)
  (h:∀s',Inv X pins (σ.set i (some v)) H s'->(∃a,Heap.SameBut a s.heap s'.heap/\(a=X.env.locals\/X.env.cells.lookup x=some a))->Q () s') (hf:X.fn x=true\/X.env.scope.names.lookup x=some .local:=by first |exact .inl rfl |exact .inr rfl |assumption):wpAny M A (storeName X.env x u) Q E s:=by
 obtain⟨m,hn,hl⟩:=id I.loc
 have hcls:(X.env.scope.kind == .class || (X.env.scope.kind == .module && X.env.locals != X.env.globals))=false:=by rw[I.ok.kind];rfl
 have hiσ:i < σ.length:=by rw[I.len];exact (Hs.mp hi).1
 have cne:=I.cne
 have tracked:∀{a:Addr} {h':Heap},(∃o,s.heap.get? a=some o/\H a=none)->Heap.SameBut a s.heap h'->i9 X.prog X.w H h':=λ{a h'} ha hs b ob e=>by
  obtain⟨_,_,hfree⟩:=ha
  refine (I.hok b ob e).stay (λc w' hc q=>(hs.2 c ?_).trans q) (λ_ q=>q) λ_ _ q=>q
  rintro rfl
  rcases hc with rfl |hc
  ·rw[hfree] at e;cases e
  ·rw[hfree] at hc;cases hc
 rcases hx with hk |hk
 ·refine wpAny_storeName_local hk hn (λh' hn' hs=>?_) hcls
  obtain⟨oL,_,_,hoL,_⟩:=id hn
  refine h _ ⟨I.ok,I.os,I.bare,⟨λb o e n hb hx=>?_,λb o e n hb hx=>?_,I.base.free,λb o e hx=>?_,I.base.tups,I.base.frzs,I.base.tbls⟩,⟨_,hn',λj y v' e1 e2 e3=>?_⟩,λy c e=>?_,I.free,I.freeC,λp hp=>?_,tracked ⟨oL,hoL,I.free⟩ hs,by simpa using I.len⟩ ⟨_,hs,.inl rfl⟩
  ·exact (hs.2 b (HA (Hw (G9 e) I.ok.above))).trans (I.base.keep b o e n hb hx)
  ·obtain⟨sl,e1⟩:=I.base.slot b o e n hb hx
   exact⟨sl,(hs.2 b (HA (Hw (G9 e) I.ok.above))).trans e1⟩
  ·obtain⟨o',e1⟩:=I.base.there b o e hx
   exact⟨o',(hs.2 b (HA (Hw (G9 e) I.ok.above))).trans e1⟩
  ·by_cases hj:j=i
   ·subst hj
    rw[hi] at e1;cases e1
    rw[Hq hiσ] at e2
    cases e2
    exact⟨u,r,.inl ⟨hk,by simp⟩⟩
   ·rw[Hm (Ne.symm hj)] at e2
    obtain⟨u',r',q⟩:=hl j y v' e1 e2 e3
    refine⟨u',r',?_⟩
    rcases q with⟨k,e⟩ | ⟨k,c,e,z⟩
    ·refine .inl ⟨k,?_⟩
     have:y≠x:=λe=>hj (rW hN e1 (e▸hi))
     simp[this,e]
    ·exact .inr ⟨k,c,e,z.sameBut hs (cne y c e)⟩
  ·obtain⟨w',z⟩:=I.cell y c e
   exact⟨w',z.sameBut hs (cne y c e)⟩
  ·obtain⟨e,n,ne,nf,d⟩:=I.pin p hp
   exact⟨(hs.2 p.1 ne).trans e,n,ne,nf,d⟩
 ·have hfn:X.fn x=true:=by
   rcases hf with z |z
   ·exact z
   ·rw[z] at hk;cases hk
  obtain⟨c,hc⟩:=I.ok.has x (.inl hk)
  obtain⟨w',z⟩:=I.cell x c hc
  refine wpAny_storeName_cell I.ok.kind hk hc z (λh' hc' hs=>?_)
  obtain⟨oc,hoc,hocd⟩:=id z
  refine h {s with heap:=h'} ⟨I.ok,I.os,I.bare,⟨λb o e n hb hx=>?_,λb o e n hb hx=>?_,I.base.free,λb o e hx=>?_,I.base.tups,I.base.frzs,I.base.tbls⟩,⟨m,hn.sameBut hs (Ne.symm (cne x c hc)),λj y v' e1 e2 e3=>?_⟩,λy c' e=>?_,I.free,I.freeC,λp hp=>?_,tracked ⟨oc,hoc,I.freeC x c hc⟩ hs,by simpa using I.len⟩ ⟨c,hs,.inr hc⟩
  ·exact (hs.2 b (HA (Hw (G9 e) (I.ok.cab x c hfn hc)))).trans (I.base.keep b o e n hb hx)
  ·obtain⟨sl,e1⟩:=I.base.slot b o e n hb hx
   exact⟨sl,(hs.2 b (HA (Hw (G9 e) (I.ok.cab x c hfn hc)))).trans e1⟩
  ·obtain⟨o',e1⟩:=I.base.there b o e hx
   exact⟨o',(hs.2 b (HA (Hw (G9 e) (I.ok.cab x c hfn hc)))).trans e1⟩
  ·by_cases hj:j=i
   ·subst hj
    rw[hi] at e1;cases e1
    rw[Hq hiσ] at e2
    cases e2
    exact⟨u,r,.inr ⟨.inl hk,c,hc,hc'⟩⟩
   ·rw[Hm (Ne.symm hj)] at e2
    obtain⟨u',r',q⟩:=hl j y v' e1 e2 e3
    refine⟨u',r',?_⟩
    rcases q with q | ⟨k,c',e,z'⟩
    ·exact .inl q
    ·refine .inr ⟨k,c',e,z'.sameBut hs ?_⟩
     rintro rfl
     exact hj (rW hN e1 (I.ok.inj _ _ _ e hc▸hi))
  ·by_cases hcc:c'=c
   ·subst hcc;exact⟨_,hc'⟩
   ·obtain⟨w2,z2⟩:=I.cell y c' e
    exact⟨w2,z2.sameBut hs hcc⟩
  ·obtain⟨e,n,ne,nf,d⟩:=I.pin p hp
   refine⟨(hs.2 p.1 ?_).trans e,n,ne,nf,d⟩
   intro q
   rw[q,hoc] at e
   have q':oc=p.2:=Option.some.inj e
   exact d w' (by rw[<-q'];exact hocd)
def sP {M:Model}{A:Around}{E:Value->Shared->Prop}{i:Nat}{x:Str}{v:V}{u:Value}{Q:Unit->Shared->Prop}(I:Inv X pins σ H s)(hN:X.N.Nodup)(hi:X.N[i]? =some x)(hx:Loc X.env.scope x)(r:RelV v u)
  (h:∀s',Inv X pins (σ.set i (some v)) H s'->Q () s') (hf:X.fn x=true\/X.env.scope.names.lookup x=some .local:=by first |exact .inl rfl |exact .inr rfl |assumption):wpAny M A (storeName X.env x u) Q E s:=
 oR I hN hi hx r (λs' I' _=>h s' I') hf
def Inv.call' {s':Shared}{ch:List Addr}(I:Inv X pins σ H s)(ho:s'.os=s.os)(u:Un (hJ X.stack) ch H H' s.heap s'.heap)(hok:i9 X.prog X.w H' s'.heap)(hg:AllBare s'.gens)
  (hch:∀b∈ch,(b∈X.ex\/X.s₀.heap.objs.size<=b)/\b≠X.env.locals/\(∀x c,X.env.cells.lookup x=some c->c≠b)/\∀p∈X.pn ++ pins,p.1≠b):Inv X pins σ H' s':=by
 obtain⟨h',g',d',t',o'⟩:=s'
 have e:o'=s.os:=ho
 subst e
 exact I.call (g':=g') (t':=t') (d':=d') u hok hg hch
end
abbrev XK:=Value->Option Addr->Hp->Prop
abbrev St:=List (Option V)
abbrev VK:=V->Hp->Prop
abbrev TE:=St->Hp->VK->Prop
abbrev TT:=St->Hp->(Bool->Hp->Prop)->Prop
abbrev TA:=St->Hp->(List V->Hp->Prop)->Prop
structure Ends where
 nx:St->Hp->Prop
 rt:VK
 bk:St->Hp->Prop:=λ_ _=>False
 ct:St->Hp->Prop:=λ_ _=>False
abbrev TS:=Ends->St->Hp->Prop
def EP (X:Cx)(pins:List (Addr×Obj))(σ:St)(Q:VK)(u:Value)(s':Shared):Prop:=∃v H',Inv X pins σ H' s'/\RelV v u/\Q v H'
def TP (X:Cx)(pins:List (Addr×Obj))(σ:St)(Q:Bool->Hp->Prop)(b:Bool)(s':Shared):Prop:=∃H',Inv X pins σ H' s'/\Q b H'
def AP (X:Cx)(pins:List (Addr×Obj))(σ:St)(Q:List V->Hp->Prop)(us:List Value)(s':Shared):Prop:=∃vs H',Inv X pins σ H' s'/\Vals vs us/\Q vs H'
def SP (X:Cx)(pins:List (Addr×Obj))(D:Ends)(f:Flow)(s':Shared):Prop:=
 match f with
 | .next=>∃σ' H',Inv X pins σ' H' s'/\D.nx σ' H'
 | .brk=>∃σ' H',Inv X pins σ' H' s'/\D.bk σ' H'
 | .cont=>∃σ' H',Inv X pins σ' H' s'/\D.ct σ' H'
 | .ret u=>∃v σ' H',Inv X pins σ' H' s'/\RelV v u/\D.rt v H'
def PE (X:Cx)(e:Expr)(t:TE):Prop:=
 ∀(pins:List (Addr×Obj)) (s:Shared) (σ:St) (H:Hp) (Q:VK),Inv X pins σ H s->t σ H Q->wpAny (model X.prog X.w) X.A (eval e X.env) (EP X pins σ Q) X.xe s
def PT (X:Cx)(e:Expr)(t:TT):Prop:=
 ∀(pins:List (Addr×Obj)) (s:Shared) (σ:St) (H:Hp) (Q:Bool->Hp->Prop),Inv X pins σ H s->t σ H Q->wpAny (model X.prog X.w) X.A (isTrue e X.env (eval e X.env)) (TP X pins σ Q) X.xe s
def PW (X:Cx)(e:Expr)(t:TT):Prop:=
 ∀(whole:Sem Value) (pins:List (Addr×Obj)) (s:Shared) (σ:St) (H:Hp) (Q:Bool->Hp->Prop),Inv X pins σ H s->t σ H Q->wpAny (model X.prog X.w) X.A (isTrue e X.env whole) (TP X pins σ Q) X.xe s
def PW.pt {X:Cx}{e:Expr}{t:TT}(h:PW X e t):PT X e t:=h _
def PA (X:Cx)(es:List Expr)(t:TA):Prop:=
 ∀(pos:Pos) (pins:List (Addr×Obj)) (s:Shared) (σ:St) (H:Hp) (Q:List V->Hp->Prop),Inv X pins σ H s->t σ H Q->wpAny (model X.prog X.w) X.A (spliced (backTo pos (starEach es X.env))) (AP X pins σ Q) X.xe s
def PS (X:Cx)(st:Stmt)(t:TS):Prop:=
 ∀(pins:List (Addr×Obj)) (s:Shared) (σ:St) (H:Hp) (D:Ends),Inv X pins σ H s->t D σ H->wpAny (model X.prog X.w) X.A (exec st X.env) (SP X pins D) X.xe s
def oA (X:Cx)(st:List Stmt)(t:TS):Prop:=
 ∀(pins:List (Addr×Obj)) (s:Shared) (σ:St) (H:Hp) (D:Ends),Inv X pins σ H s->t D σ H->wpAny (model X.prog X.w) X.A (execs st X.env) (SP X pins D) X.xe s
def cf {α:Type}{t:Sem α}{Q Q':α->Shared->Prop}{M:Model}{A:Around}{E:Value->Shared->Prop}{s:Shared}(h:wpAny M A t Q E s)(hQ:∀a s,Q a s->Q' a s):wpAny M A t Q' E s:=IC h hQ λ_ _ x=>x
section
variable {X:Cx}
def bin {a b:Expr}{ta tb:TE}(ha:PE X a ta)(hb:PE X b tb){pins:List (Addr×Obj)}{s:Shared}{σ:St}{H:Hp}{R:V->V->Hp->Prop}(I:Inv X pins σ H s)(h:ta σ H λx H1=>tb σ H1 λy H2=>R x y H2)
  {α:Type} {Q:α->Shared->Prop} {f:Value->Value->Sem α}
  (hf:∀v u s2 x y H2,Inv X pins σ H2 s2->RelV x v->RelV y u->R x y H2->wpAny (model X.prog X.w) X.A (f v u) Q X.xe s2) :
  wpAny (model X.prog X.w) X.A (eval a X.env) (λv s₁=>wpAny (model X.prog X.w) X.A (eval b X.env) (λu s₂=>wpAny (model X.prog X.w) X.A (f v u) Q X.xe s₂) X.xe s₁) X.xe s:=by
 refine cf (ha pins s σ H _ I h) λv s1 ⟨x,H1,I1,r1,q1⟩=>?_
 refine cf (hb pins s1 σ H1 _ I1 q1) λu s2 ⟨y,H2,I2,r2,q2⟩=>?_
 exact hf v u s2 x y H2 I2 r1 r2 q2
def Ak (i:Nat):TE:=λσ H Q=>∃v,σ[i]? =some (some v)/\Q v H
def tC (v:V):TE:=λ_ H Q=>Q v H
def jo {i:Nat}{x:Str}{pos:Pos}(hN:X.N[i]? =some x)(hv:zJ X.env.scope x)(hd:(x == ("__debug__":Str))=false:=by decide)(hcd:(x == ("__classdict__":Str))=false:=by decide):PE X (.Name x pos) (Ak i):=by
 intro pins s σ H Q I h
 obtain⟨v,e,h⟩:=h
 obtain⟨m,hn,hl⟩:=I.loc
 obtain⟨u,r,l⟩:=hl i x v hN e hv
 have fin:EP X pins σ Q u s:=⟨v,H,I,r,h⟩
 rcases l with⟨hk,hm⟩ | ⟨hk,c,hc,hcell⟩
 ·exact wpAny_Name (wpAny_loadName_local I.ok.kind hk hn hm fin) hd
 ·rcases hk with hk |hk
  ·exact wpAny_Name (wpAny_loadName_cell I.ok.kind hk hc hcell fin) hd
  ·exact wpAny_Name (wpAny_loadName_free I.ok.kind hk hc hcell fin hcd) hd
def qU {i j pos}:PE X (.Constant (.int i) j pos) (tC (.int i)):=λ_ _ _ H _ I h=>wpAny_Constant_int ⟨.int i,H,I.tok _,⟨_,rfl⟩,h⟩
def vG {b j pos}:PE X (.Constant (.bool b) j pos) (tC (.bl b)):=λ_ _ _ H _ I h=>Constant_bool ⟨.bl b,H,I,rfl,h⟩
def CF {x j pos}:PE X (.Constant (.str x) j pos) (tC (.str x)):=λ_ _ _ H _ I h=>Calls.Constant_str ⟨.str x,H,I.tok _,⟨_,rfl⟩,h⟩
def Gl (X:Cx)(x:Str):Prop:=X.env.kindOf x=some .globalImplicit
def qR {E:Value->Shared->Prop}{pins:List (Addr×Obj)}{s:Shared}{σ:St}{H:Hp}{x:Str}{u:Value}{pos:Pos}{Q:Value->Shared->Prop}(I:Inv X pins σ H s)(hg:Gl X x)(hm:X.mg x=some u)(h:Q u s)
  (hd:(x == ("__debug__":Str))=false:=by decide):wpAny (model X.prog X.w) X.A (eval (.Name x pos) X.env) Q E s:=
 Calls.Name_function_global I.ok.kind hg (Calls.loadGlobal_global (by rw[I.ok.glob];exact I.mod.glob.keeps I.bk) hm h) hd
def mX {E:Value->Shared->Prop}{pins:List (Addr×Obj)}{s:Shared}{σ:St}{H:Hp}{x:Str}{u:Value}{pos:Pos}{Q:Value->Shared->Prop}(I:Inv X pins σ H s)(hg:Gl X x)(hm:X.mg x=none)(hv:bootBuiltins x=some u)(h:Q u s)
  (hn:x≠"__name__":=by decide) (hd:(x == ("__debug__":Str))=false:=by decide):wpAny (model X.prog X.w) X.A (eval (.Name x pos) X.env) Q E s:=by
 obtain⟨mb,h1,h2⟩:=I.mod.blt
 exact Calls.Name_function_global I.ok.kind hg (Calls.loadGlobal_builtin (by rw[I.ok.glob];exact I.mod.glob.keeps I.bk) hm (by rw[I.ok.blt];exact h1.keeps I.bk) ((h2 x hn).trans hv) h) hd
def Az {x:Str}{v:V}{u:Value}{pos:Pos}(hg:Gl X x)(hm:X.mg x=some u)(r:RelV v u)(hd:(x == ("__debug__":Str))=false:=by decide):PE X (.Name x pos) (tC v):=
 λ_ _ _ H _ I h=>qR I hg hm ⟨v,H,I,r,h⟩ hd
def Bw {x:Str}{v:V}{u:Value}{pos:Pos}(hg:Gl X x)(hm:X.mg x=none)(hv:bootBuiltins x=some u)(r:RelV v u)(hn:x≠"__name__":=by decide)(hd:(x == ("__debug__":Str))=false:=by decide):PE X (.Name x pos) (tC v):=
 λ_ _ _ H _ I h=>mX I hg hm hv ⟨v,H,I,r,h⟩ hn hd
variable {a b:Expr}{ta tb:TE}{pos:Pos}
def PC (X:Cx)(op:CmpOp)(a b:Expr)(t:TE):Prop:=
 ∀(pins:List (Addr×Obj)) (s:Shared) (σ:St) (H:Hp) (Q:VK),Inv X pins σ H s->t σ H Q->
  wpAny (model X.prog X.w) X.A (eval a X.env) (λv s₁=>wpAny (model X.prog X.w) X.A (eval b X.env) (λu s₂=>wpAny (model X.prog X.w) X.A (compareOp op v u) (EP X pins σ Q) X.xe s₂) X.xe s₁) X.xe s
def yA (b:Expr){op:CmpOp}(h:op≠.In)(h2:op≠.NotIn):behindInMarks op b=false:=by
 have e1:(op == CmpOp.In)=false:=by cases op <;> first |rfl |exact absurd rfl h
 have e2:(op == CmpOp.NotIn)=false:=by cases op <;> first |rfl |exact absurd rfl h2
 cases b <;> simp[behindInMarks,e1,e2]
def tB (t:TE):TT:=λσ H Q=>t σ H λx H1=>∃c,x=.bl c/\Q c H1
def FF {op:CmpOp}{t:TE}(h:PC X op a b t)(h1:behindInMarks op b=false:=by first |exact yA _ (by decide) (by decide) |rfl):PT X (.Compare a [op] [b] pos) (tB t):=by
 intro pins s σ H Q I hw
 refine wpAny_isTrue_Compare1 (cf (h pins s σ H _ I hw) λv s1 h1=>cf h1 λu s2 h2=>cf h2 λc s3 ⟨x,H1,I1,r1,q1⟩=>?_) h1
 obtain⟨d,rfl,q⟩:=q1
 cases r1
 exact Iz ⟨H1,I1,q⟩
def tZ {e:Expr}{t:TE}(h:PE X e t)(he:∀whole,isTrue e X.env whole=(do let v <-whole;standAt e.pos;holding [v] (truthy v)):=by intro _;rfl):PT X e (tB t):=by
 intro pins s σ H Q I hw
 refine isTrue_plain (cf (h pins s σ H _ I hw) λv s1 ⟨x,H1,I1,r1,q1⟩=>?_) (he _)
 obtain⟨d,rfl,q⟩:=q1
 cases r1
 exact Iz ⟨H1,I1,q⟩
variable {tA tB':TT}{rest:List Expr}
def FJ (t u:TT):TT:=λσ H Q=>t σ H λc H1=>if c=true then u σ H1 Q else Q false H1
def GI (t u:TT):TT:=λσ H Q=>t σ H λc H1=>if c=true then Q true H1 else u σ H1 Q
def FE (t:TT):TT:=λσ H Q=>t σ H λc H1=>Q (!c) H1
theorem vh (ha:PT X a tA):PW X (.BoolOp .And [a] pos) tA:=by
 intro wh pins s σ H Q I h
 refine isTrue_and (cf (ha pins s σ H Q I h) λc s1 e=>?_)
 cases c with
 |true=>exact isTrue_and_nil e
 |false=>exact e
theorem CA (ha:PT X a tA):PW X (.BoolOp .Or [a] pos) tA:=by
 intro wh pins s σ H Q I h
 refine isTrue_or (cf (ha pins s σ H Q I h) λc s1 e=>?_)
 cases c with
 |false=>exact isTrue_or_nil e
 |true=>exact e
theorem zg (ha:PT X a tA)(hb:PW X (.BoolOp .And (b :: rest) pos) tB'):PW X (.BoolOp .And (a :: b :: rest) pos) (FJ tA tB'):=by
 intro wh pins s σ H Q I h
 refine isTrue_and (cf (ha pins s σ H _ I h) λc s1 ⟨H1,I1,q1⟩=>?_)
 cases c with
 |true=>exact hb wh pins s1 σ H1 Q I1 q1
 |false=>exact⟨H1,I1,q1⟩
theorem Et (ha:PT X a tA)(hb:PW X (.BoolOp .Or (b :: rest) pos) tB'):PW X (.BoolOp .Or (a :: b :: rest) pos) (GI tA tB'):=by
 intro wh pins s σ H Q I h
 refine isTrue_or (cf (ha pins s σ H _ I h) λc s1 ⟨H1,I1,q1⟩=>?_)
 cases c with
 |true=>exact⟨H1,I1,q1⟩
 |false=>exact hb wh pins s1 σ H1 Q I1 q1
def Du (ha:PT X a tA):PT X (.UnaryOp .Not a pos) (FE tA):=by
 intro pins s σ H Q I h
 exact isTrue_not (ha pins s σ H (λc H1=>Q (!c) H1) I h)
def D7 (ta tb:TE):TE:=λσ H Q=>ta σ H λx H1=>∃c,x=.bl c/\if c=true then tb σ H1 Q else Q (.bl false) H1
def D4 (ta:TE):TE:=λσ H Q=>ta σ H λx H1=>∃c,x=.bl c/\Q (.bl (!c)) H1
def Dv {op}{t:TE}(h:PE X a t):PE X (.BoolOp op [a] pos) t:=λpins s σ H Q I hw=>BoolOp_one (h pins s σ H Q I hw)
theorem Ds (ha:PE X a ta)(hb:PE X (.BoolOp .And (b :: rest) pos) tb):PE X (.BoolOp .And (a :: b :: rest) pos) (D7 ta tb):=by
 intro pins s σ H Q I h
 refine BoolOp_and (cf (ha pins s σ H _ I h) λv s1 ⟨x,H1,I1,r1,q1⟩=>?_)
 obtain⟨c,rfl,q1⟩:=q1
 cases r1
 refine Iz ?_
 cases c with
 |true=>exact hb pins s1 σ H1 Q I1 q1
 |false=>exact⟨.bl false,H1,I1,rfl,q1⟩
def Cy (ha:PE X a ta):PE X (.UnaryOp .Not a pos) (D4 ta):=by
 intro pins s σ H Q I h
 refine UnaryOp_ (cf (ha pins s σ H _ I h) λv s1 ⟨x,H1,I1,r1,q1⟩=>?_)
 obtain⟨c,rfl,q1⟩:=q1
 cases r1
 exact not_of (Iz ⟨.bl (!c),H1,I1,rfl,q1⟩)
end
def fB (K:Frag)(H:Hp)(a:Addr)(xs:List V):Prop:=
 Rd H a (.lst xs)\/
  ∃(o:Obj) (its:Array Value) (n:Nat),K.lookup a=some o/\o.cls=.type "list"/\o.dict=none/\o.data=.seq its n/\its.size<=sizeLine/\Vals xs its.toList
def dH (K:Frag)(H:Hp)(a:Addr)(xs:List V):Prop:=
 Rd H a (.tup xs)\/
  ∃(o:Obj) (its:Array Value) (n:Nat),K.lookup a=some o/\o.cls=.type "tuple"/\o.data=.seq its n/\its.size<=sizeLine/\Vals xs its.toList/\o.dict=none
def Fd:Value->Option V
 | .none=>some .non
 | .bool b=>some (.bl b)
 | .int i _=>some (.int i)
 | .str x _=>some (.str x)
 | .bytes b _=>some (.byt b)
 | .float b _=>some (.flt b)
 | .ref a=>some (.ref a)
 | .type n=>some (.ty n)
 |_=>none
theorem RelV.abs {x:V}{u:Value}(r:RelV x u):Fd u=some x:=by
 cases x with
 |non=>cases r;rfl
 |bl _=>cases r;rfl
 |int _=>obtain⟨t,rfl⟩:=r;rfl
 |str _=>obtain⟨t,rfl⟩:=r;rfl
 |byt _=>obtain⟨t,rfl⟩:=r;rfl
 |flt _=>obtain⟨t,rfl⟩:=r;rfl
 |ref _=>cases r;rfl
 |ty _=>cases r;rfl
def RelV.inj {x y:V}{u:Value}(r:RelV x u)(q:RelV y u):x=y:=Option.some.inj (r.abs.symm.trans q.abs)
theorem Vals.inj:∀{xs ys:List V} {us:List Value},Vals xs us->Vals ys us->xs=ys
 |_,_,_,.nil,.nil=>rfl
 |_,_,_,.cons r t,.cons r' t'=>by rw[r.inj r',Vals.inj t t']
section
variable {X:Cx}{pins:List (Addr×Obj)}{σ:St}{H:Hp}{s:Shared}{a:Addr}{xs ys:List V}
def Inv.list (I:Inv X pins σ H s)(h:fB X.K H a xs):∃its:List Value,Vals xs its/\PlainL s.heap a its.toArray/\xs.length<=sizeLine:=by
 rcases h with h | ⟨o,its,n,hk,hc,hd,hs,hz,r⟩
 ·obtain⟨z,its,n,r,e⟩:=h.ok I.hok
  exact⟨its,r,⟨_,n,e,rfl,rfl,rfl⟩,z⟩
 ·refine⟨its.toList,r,⟨o,n,I.kIn a o hk,hc,hd,by simpa using hs⟩,?_⟩
  have e:=r.length
  simp only[JA] at e
  omega
def Inv.tuple (I:Inv X pins σ H s)(h:dH X.K H a xs):∃its:List Value,Vals xs its/\IsTup s.heap a its.toArray/\xs.length<=sizeLine:=by
 rcases h with h | ⟨o,its,n,hk,hc,hs,hz,r,_⟩
 ·obtain⟨z,its,r,p⟩:=h.ok I.hok
  exact⟨its,r,p.isTup,z⟩
 ·refine⟨its.toList,r,⟨o,I.kIn a o hk,hc,n,by simpa using hs⟩,?_⟩
  have e:=r.length
  simp only[JA] at e
  omega
def Inv.list_inj (I:Inv X pins σ H s)(h:fB X.K H a xs)(h':fB X.K H a ys):xs=ys:=by
 obtain⟨its,r,⟨o,n,e,_,_,d⟩,_⟩:=I.list h
 obtain⟨its',r',⟨o',n',e',_,_,d'⟩,_⟩:=I.list h'
 rw[e] at e';cases e'
 rw[d] at d'
 injection d' with d1 _
 have:its=its':=by simpa using congrArg Array.toList d1
 subst this
 exact r.inj r'
def Inv.tuple_inj (I:Inv X pins σ H s)(h:dH X.K H a xs)(h':dH X.K H a ys):xs=ys:=by
 obtain⟨its,r,⟨o,e,_,n,d⟩,_⟩:=I.tuple h
 obtain⟨its',r',⟨o',e',_,n',d'⟩,_⟩:=I.tuple h'
 rw[e] at e';cases e'
 rw[d] at d'
 injection d' with d1 _
 have:its=its':=by simpa using congrArg Array.toList d1
 subst this
 exact r.inj r'
end
abbrev Cx.wish (X:Cx)(E:Value->Shared->Prop):Cx:={X with xe:=E}
abbrev Cx.nox (X:Cx):Cx:=X.wish λ_ _=>False
def Cx.Ok.wish {X:Cx}(ok:X.Ok)(E:Value->Shared->Prop):(X.wish E).Ok:=
 ⟨ok.mod,ok.kind,ok.glob,ok.blt,ok.above,ok.inj,ok.has,ok.cab,ok.hd,ok.frames,ok.stk,ok.exf,ok.bs,ok.bsz,ok.noex,ok.exfs,ok.funs,ok.frf⟩
def Cx.Ok.unwish {X:Cx}{E:Value->Shared->Prop}(ok:(X.wish E).Ok):X.Ok:=
 ⟨ok.mod,ok.kind,ok.glob,ok.blt,ok.above,ok.inj,ok.has,ok.cab,ok.hd,ok.frames,ok.stk,ok.exf,ok.bs,ok.bsz,ok.noex,ok.exfs,ok.funs,ok.frf⟩
section
variable {X:Cx}{pins:List (Addr×Obj)}{σ:St}{H:Hp}{s:Shared}{E:Value->Shared->Prop}
def Inv.wish (I:Inv X pins σ H s)(E:Value->Shared->Prop):Inv (X.wish E) pins σ H s:=⟨I.ok.wish E,I.os,I.bare,I.base,I.loc,I.cell,I.free,I.freeC,I.pin,I.hok,I.len⟩
def Inv.unwish (I:Inv (X.wish E) pins σ H s):Inv X pins σ H s:=⟨I.ok.unwish,I.os,I.bare,I.base,I.loc,I.cell,I.free,I.freeC,I.pin,I.hok,I.len⟩
theorem SP.unwish {D:Ends}{f:Flow}{s':Shared}(h:SP (X.wish E) pins D f s'):SP X pins D f s':=by
 cases f with
 |next=>obtain⟨σ',H',I,q⟩:=h;exact⟨σ',H',I.unwish,q⟩
 |brk=>obtain⟨σ',H',I,q⟩:=h;exact⟨σ',H',I.unwish,q⟩
 |cont=>obtain⟨σ',H',I,q⟩:=h;exact⟨σ',H',I.unwish,q⟩
 |ret u=>obtain⟨v,σ',H',I,r,q⟩:=h;exact⟨v,σ',H',I.unwish,r,q⟩
def oA.nox {st:List Stmt}{t:TS}(h:oA X.nox st t):oA X st t:=λpins s σ H D I hw=>
 IC (h pins s σ H D (I.wish _) hw) (λ_ _ q=>q.unwish) λ_ _ z=>False.elim z
end
section
variable {X:Cx}{st:Stmt}{rest:List Stmt}{t u:TS}{e:Expr}{te:TE}{pos:Pos}
def DX:TS:=λD σ H=>D.nx σ H
def FQ (t u:TS):TS:=λD σ H=>t {D with nx:=u D} σ H
def vC:oA X [] DX:=λ_ _ σ H _ I h=>wpAny_execs_nil ⟨σ,H,I,h⟩
theorem fX (h1:PS X st t)(h2:oA X rest u):oA X (st :: rest) (FQ t u):=by
 intro pins s σ H D I h
 refine wpAny_execs_cons (cf (h1 pins s σ H {D with nx:=u D} I h) λf s1 q=>?_)
 cases f with
 |next=>
  obtain⟨σ',H',I',q⟩:=q
  exact h2 pins s1 σ' H' D I' q
 |ret v=>exact q
 |brk=>exact q
 |cont=>exact q
theorem gK (h1:PS X st t):oA X [st] t:=by
 intro pins s σ H D I h
 refine wpAny_execs_cons (cf (h1 pins s σ H D I h) λf s1 q=>?_)
 cases f with
 |next=>exact wpAny_execs_nil q
 |ret v=>exact q
 |brk=>exact q
 |cont=>exact q
def Inv.quiet {pins:List (Addr×Obj)}{σ:St}{H:Hp}{s:Shared}(I:Inv X pins σ H s):interactive X.env=false:=by simp[interactive,I.ok.kind]
def EJ (te:TE):TS:=λD σ H=>te σ H λ_ H1=>D.nx σ H1
def qf (he:PE X e te)(hs:swapsWith e none pos.line X.env=pure false:=by rfl):PS X (.Expr e pos) (EJ te):=by
 intro pins s σ H D I h
 exact wpAny_Expr_any (cf (he pins s σ H _ I h) λv s1 ⟨x,H1,I1,r1,q1⟩=>⟨σ,H1,I1,q1⟩) I.quiet hs
def FC (te:TE):TS:=λD σ H=>te σ H D.rt
def lJ (he:PE X e te):PS X (.Return (some e) pos) (FC te):=by
 intro pins s σ H D I h
 exact wpAny_Return_some (cf (he pins s σ H _ I h) λv s1 ⟨x,H1,I1,r1,q1⟩=>⟨x,σ,H1,I1,r1,q1⟩)
def Fu (c:TT)(t u:TS):TS:=λD σ H=>c σ H λb H1=>if b=true then t D σ H1 else u D σ H1
theorem BK {c:Expr}{a b:List Stmt}{tc:TT}(hc:PT X c tc)(ha:oA X a t)(hb:oA X b u):PS X (.If c a b pos) (Fu tc t u):=by
 intro pins s σ H D I h
 refine wpAny_If (cf (hc pins s σ H _ I h) λd s1 ⟨H1,I1,q1⟩=>?_)
 cases d with
 |true=>exact ha pins s1 σ H1 D I1 q1
 |false=>exact hb pins s1 σ H1 D I1 q1
end
abbrev TG:=V->St->Hp->(St->Hp->Prop)->Prop
abbrev CC:=List V->St->Hp->(St->Hp->Prop)->Prop
def PG (X:Cx)(target:Expr)(t:TG):Prop:=
 ∀(pins:List (Addr×Obj)) (s:Shared) (σ:St) (H:Hp) (v:V) (u:Value) (Q:St->Hp->Prop),Inv X pins σ H s->RelV v u->t v σ H Q->
  wpAny (model X.prog X.w) X.A (assign target X.env u) (λ_ s'=>∃σ' H',Inv X pins σ' H' s'/\Q σ' H') X.xe s
def E2 (X:Cx)(ts:List Expr)(t:CC):Prop:=
 ∀(pins:List (Addr×Obj)) (s:Shared) (σ:St) (H:Hp) (vs:List V) (us:List Value) (Q:St->Hp->Prop),Inv X pins σ H s->Vals vs us->t vs σ H Q->
  wpAny (model X.prog X.w) X.A (assignInOrder ((assignEach ts X.env).map (·.2)) us) (λ_ s'=>∃σ' H',Inv X pins σ' H' s'/\Q σ' H') X.xe s
abbrev Cn:=V->V->V->Hp->(Hp->Prop)->Prop
def p7 (X:Cx)(t:Cn):Prop:=
 ∀(pins:List (Addr×Obj)) (s:Shared) (σ:St) (H:Hp) (o i v:V) (ov iv u:Value) (Q:Hp->Prop),Inv X pins σ H s->RelV o ov->RelV i iv->RelV v u->t o i v H Q->
  wpAny (model X.prog X.w) X.A (setItem ov iv u) (λ_ s'=>∃H',Inv X pins σ H' s'/\Q H') X.xe s
section
variable {X:Cx}{pos:Pos}
def jS (i:Nat):TG:=λv σ H Q=>Q (σ.set i (some v)) H
def cn {i:Nat}{x:Str}(hN:X.N.Nodup)(hi:X.N[i]? =some x)(hx:Loc X.env.scope x)(hf:X.fn x=true\/X.env.scope.names.lookup x=some .local:=by first |exact .inl rfl |exact .inr rfl |assumption):PG X (.Name x pos) (jS i):=by
 intro pins s σ H v u Q I r h
 exact wpAny_assign_Name (sP I hN hi hx r (λs' I'=>⟨_,H,I',h⟩) hf)
def AZ:CC:=λvs σ H Q=>vs= []/\Q σ H
def mS (t:TG)(u:CC):CC:=λvs σ H Q=>∃v r,vs=v :: r/\t v σ H λσ' H'=>u r σ' H' Q
def ky:E2 X [] AZ:=by
 intro pins s σ H vs us Q I r h
 obtain⟨e,h⟩:=h
 subst e
 cases r
 exact assignInOrder_nil ⟨σ,H,I,h⟩
theorem cO {e:Expr}{es:List Expr}{t:TG}{u:CC}(h1:PG X e t)(h2:E2 X es u)
  (hs:(assignEach (e :: es) X.env).map (·.2)=assign e X.env :: (assignEach es X.env).map (·.2):=by rfl):E2 X (e :: es) (mS t u):=by
 intro pins s σ H vs us Q I r h
 obtain⟨v,vr,e1,h⟩:=h
 subst e1
 cases r with
 |cons r rr=>
  rw[hs]
  refine assignInOrder_cons (cf (h1 pins s σ H _ _ _ I r h) λ_ s1 ⟨σ1,H1,I1,q1⟩=>?_)
  exact h2 pins s1 σ1 H1 _ _ Q I1 rr q1
def Au (K:Frag)(n:Nat)(t:CC):TG:=λv σ H Q=>∃a xs,v=.ref a/\dH K H a xs/\xs.length=n/\t xs σ H Q
def nG {es:List Expr}{k:Nat}{t:CC}{n:Nat}(hc:X.calm=true)(h:E2 X es t)
  (hn:(assignEach es X.env).length=n:=by rfl) (hst:(assignEach es X.env).findIdx? (·.1)=none:=by rfl):PG X (.Tuple es k pos) (Au X.K n t):=by
 intro pins s σ H v u Q I r hw
 obtain⟨a,xs,e1,hq,hl,hw⟩:=hw
 subst e1
 cases r
 obtain⟨its,rv,ht,hz⟩:=I.tuple hq
 refine assign_Tuple_tuple (I.ok.hd hc) ht (by simp[hn,<-hl,rv.length]) hst λh' hx=>?_
 have I1:Inv X pins σ H {s with heap:=h'}:=I.kept (t':=s.toks) λb o e=>hx b o (HA (G9 e)) e
 exact h pins _ σ H xs _ Q I1 (by simpa using rv) hw
def FK (to ti:TE)(t:Cn):TG:=λv σ H Q=>to σ H λo H1=>ti σ H1 λi H2=>t o i v H2 λH3=>Q σ H3
def tS {o i:Expr}{to ti:TE}{t:Cn}(ho:PE X o to)(hi:PE X i ti)(hs:p7 X t)
  (ha:∀v,assign (.Subscript o i pos) X.env v=(do
   let ov <-holding [v] (eval o X.env)
   let iv <-holding [v,ov] (eval i X.env)
   standAt pos
   holding [v,ov,iv] (setItem ov iv v)
   release [v,ov,iv] []):=by intro _;rfl):PG X (.Subscript o i pos) (FK to ti t):=by
 intro pins s σ H v u Q I r h
 rw[ha]
 refine GS (Im (cf (ho pins s σ H _ I h) λov s1 ⟨x,H1,I1,r1,q1⟩=>?_))
 refine GS (Im (cf (hi pins s1 σ H1 _ I1 q1) λiv s2 ⟨y,H2,I2,r2,q2⟩=>?_))
 refine GS (wpAny_standAt (GS (Im (cf (hs pins s2 σ H2 x y v ov iv u _ I2 r1 r2 r q2) λ_ s3 ⟨H3,I3,q3⟩=>?_))))
 exact wpAny_release ⟨σ,H3,I3,q3⟩
def EK (te:TE)(g:TG):TS:=λD σ H=>te σ H λx H1=>g x σ H1 D.nx
def mO {tg e:Expr}{te:TE}{g:TG}(he:PE X e te)(hg:PG X tg g)(hs:swapsWithSole [tg] e pos.line X.env=pure false:=by rfl)(hw:swappedStores [tg] e X.env=pure none:=by rfl)
  (h1:(assignEach [tg] X.env).map (·.2)= [assign tg X.env]:=by rfl):PS X (.Assign [tg] e pos) (EK te g):=by
 intro pins s σ H D I h
 refine wpAny_Assign_stores (cf (he pins s σ H _ I h) λv s1 ⟨x,H1,I1,r1,q1⟩=>?_) hs hw
 rw[h1]
 exact cf (hg pins s1 σ H1 x v _ I1 r1 q1) λ_ s2 q=>q
def qt {i:Nat}{x:Str}{e:Expr}{te:TE}{pos':Pos}(hN:X.N.Nodup)(hi:X.N[i]? =some x)(hx:Loc X.env.scope x)(he:PE X e te)(hs:swapsWith e (some (.Name x pos')) pos.line X.env=pure false:=by rfl)(hf:X.fn x=true\/X.env.scope.names.lookup x=some .local:=by first |exact .inl rfl |exact .inr rfl |assumption) :
  PS X (.Assign [.Name x pos'] e pos) (EK te (jS i)):=by
 intro pins s σ H D I h
 refine wpAny_Assign_Name (cf (he pins s σ H _ I h) λv s1 ⟨y,H1,I1,r1,q1⟩=>?_) hs
 exact sP I1 hN hi hx r1 (λs2 I2=>⟨_,H1,I2,q1⟩) hf
end
section
variable {X:Cx}{pos:Pos}
def C8 (c:TT)(tb:TS):TS:=λD σ H=>∃W:Nat->St->Hp->Prop,(∃m,W m σ H)/\∀m σ H,W m σ H->
 c σ H λb H1=>if b=true then ∃N:St->Hp->Prop,(∀σ' H',N σ' H'->∃m',m' < m/\W m' σ' H')/\tb {D with nx:=N,ct:=N,bk:=D.nx} σ H1 else D.nx σ H1
theorem zX {c:Expr}{body:List Stmt}{tc:TT}{tb:TS}(hp:PassesOwn (model X.prog X.w) X.A X.env X.xe)(hc:PT X c tc)(hb:oA X body tb):PS X (.While c body [] pos) (C8 tc tb):=by
 intro pins s σ H D I h
 obtain⟨W,⟨m0,w0⟩,turn⟩:=h
 refine wpAny_While (codeAny_whileLoop (λn s'=>∃σ' H',Inv X pins σ' H' s'/\W n σ' H') ?_ m0 ⟨σ,H,I,w0⟩)
 rintro n s1 ⟨σ1,H1,I1,w1⟩
 refine IU hp (cf (hc pins s1 σ1 H1 _ I1 (turn n σ1 H1 w1)) λb s2 ⟨H2,I2,q2⟩=>?_)
 cases b with
 |true=>
  obtain⟨N,hN,q2⟩:=q2
  rw[GW rfl]
  refine IU hp (cf (hb pins s2 σ1 H2 _ I2 q2) λf s3 q3=>?_)
  cases f with
  |next=>
   obtain⟨σ3,H3,I3,n3⟩:=q3
   obtain⟨m',hm,w3⟩:=hN σ3 H3 n3
   exact⟨m',hm,σ3,H3,I3,w3⟩
  |cont=>
   obtain⟨σ3,H3,I3,n3⟩:=q3
   obtain⟨m',hm,w3⟩:=hN σ3 H3 n3
   exact⟨m',hm,σ3,H3,I3,w3⟩
  |brk=>exact q3
  |ret v=>exact q3
 |false=>
  rw[G8 Ht]
  exact wpAny_execs_nil ⟨σ1,H2,I2,q2⟩
end
structure It where
 go:Nat->Hp->Prop
 yld:Nat->Hp->V->Hp->Prop
 stop:Nat->Hp->Prop
def mi (X:Cx)(pins:List (Addr×Obj))(H:Hp)(b:Addr):Prop:=
 H b=none/\b≠X.env.locals/\b∉X.fs/\(b∈X.ex\/X.s₀.heap.objs.size<=b)/\(∀x c,X.env.cells.lookup x=some c->c≠b)/\∀p∈X.pn ++ pins,p.1≠b
def Inv.fpOk {X:Cx}{pins:List (Addr×Obj)}{σ:St}{H H':Hp}{s:Shared}{b:Addr}(I:Inv X pins σ H s)(hb:s.heap.objs.size<=b)(hn:H' b=none):mi X pins H' b:=by
 refine⟨hn,Nat.ne_of_gt (Hw I.lt hb),I.nofs hb,.inr (Ie I.sz hb),λx c e z=>?_,λp hp z=>?_⟩
 ·obtain⟨v,q⟩:=I.cell x c e
  exact absurd (Hw q.lt (by rw[z];exact hb)) (HG _)
 ·exact absurd (Hw (G9 (I.pin p hp).1) (by rw[z];exact hb)) (HG _)
structure Turn (P:Program)(w:World)(K:Frag)(tg:Expr)(J:It)(fp:List Addr)(it:Addr)(tn:Nat->Heap->Prop):Prop where
 mem:it∈fp
 obj:∀i h,tn i h->∀b∈fp,∃o,h.get? b=some o/\∀v,o.data≠.cell v
 keep:∀i h h',tn i h->(∀b∈fp,∀o,h.get? b=some o->h'.get? b=some o)->tn i h'
 item:∀(X:Cx),X.prog=P->X.w=w->X.K=K->X.calm=true->∀(i:Nat) (pins:List (Addr×Obj)) (s:Shared) (σ:St) (H:Hp) (E:Value->Shared->Prop),Inv X pins σ H s->(∀b∈fp,mi X pins H b)->tn i s.heap->J.go i H->
  wpAny (model P w) X.A (pyNext (.ref it)) (λr s1=>∃u,r=some u/\
   wpAny (model P w) X.A (letOwnedTupleGo tg (.ref it) u) (λ_ s2=>∃x H',Inv X pins σ H' s2/\RelV x u/\J.yld i H x H'/\tn (i + 1) s2.heap/\∀b∈fp,H' b=none) E s1) E s
 done:∀(X:Cx),X.prog=P->X.w=w->X.K=K->X.calm=true->∀(i:Nat) (pins:List (Addr×Obj)) (s:Shared) (σ:St) (H:Hp) (E:Value->Shared->Prop),Inv X pins σ H s->(∀b∈fp,mi X pins H b)->tn i s.heap->J.stop i H->
  wpAny (model P w) X.A (pyNext (.ref it)) (λr s1=>r=none/\Inv X pins σ H s1) E s
 self:∀(A:Around) (i:Nat) (s:Shared) (Q:Value->Shared->Prop) (E:Value->Shared->Prop),tn i s.heap->Q (.ref it) s->wpAny (model P w) A (pyIter (.ref it)) Q E s
abbrev TI:=St->Hp->(It->Hp->Prop)->Prop
def GF (X:Cx)(pins:List (Addr×Obj))(σ:St)(tg:Expr)(R:It->Hp->Prop)(itv:Value)(s2:Shared):Prop:=
 ∃(it:Addr) (fp:List Addr) (tn:Nat->Heap->Prop) (J:It) (H':Hp),itv=.ref it/\Inv X pins σ H' s2/\Turn X.prog X.w X.K tg J fp it tn/\tn 0 s2.heap/\(∀b∈fp,mi X pins H' b)/\R J H'
def PI (X:Cx)(tg iter:Expr)(wi:TI):Prop:=
 ∀(pins:List (Addr×Obj)) (s:Shared) (σ:St) (H:Hp) (R:It->Hp->Prop),Inv X pins σ H s->wi σ H R->
  wpAny (model X.prog X.w) X.A (eval iter X.env) (λv s1=>wpAny (model X.prog X.w) X.A (pyIter v) (GF X pins σ tg R) X.xe s1) X.xe s
def yz {M:Model}{A:Around}{E:Value->Shared->Prop}{s:Shared}{tg:Expr}{it:Addr}{u:Value}{o:Obj}{n:String}{vs:Array Value}{Q:Unit->Shared->Prop}(ho:s.heap.get? it=some o)(hc:o.cls=.type n)(hd:o.data=.fields vs)
  (hn: ["enumerate","zip","dict_itemiterator","dict_reverseitemiterator","odict_iterator","itertools.zip_longest","itertools.pairwise"].contains n=false) (hQ:Q () s):wpAny M A (letOwnedTupleGo tg (.ref it) u) Q E s:=by
 unfold letOwnedTupleGo
 cases tg <;> first
  |exact GX hQ
  | (cases u <;> first
    |exact GX hQ
    | (refine GS (wpAny_load ho ?_)
       rw[hc,hd]
       show wpAny M A (if (["enumerate","zip","dict_itemiterator","dict_reverseitemiterator","odict_iterator","itertools.zip_longest","itertools.pairwise"].contains n && vs[0]? == some (rawInt _))=true then _ else _) Q E s
       rw[G8 (by intro h;rw[hn,Bool.false_and] at h;cases h)]
       exact GX hQ))
def wc (K:Frag)(a:Addr):It:=
 ⟨λi H=>∃xs x,fB K H a xs/\xs[i]? =some x,λi H x H'=>H'=H/\∀xs,fB K H a xs->xs[i]? =some x,λi H=>∃xs,fB K H a xs/\xs.length<=i⟩
def B5 (K:Frag)(a:Addr):It:=
 ⟨λi H=>∃xs x,dH K H a xs/\xs[i]? =some x,λi H x H'=>H'=H/\∀xs,dH K H a xs->xs[i]? =some x,λi H=>∃xs,dH K H a xs/\xs.length<=i⟩
def wZ (lo:Int)(n:Nat):It:=⟨λi _=>i < n,λi H x H'=>H'=H/\x=.int (lo + i),λi _=>n<=i⟩
def lr {P:Program}{w:World}{K:Frag}{tg:Expr}(a it:Addr):Turn P w K tg (wc K a) [it] it (λi h=>h.IsListIter it a i) where
 mem:=by simp
 obj:=λi h st b hb=>by
  have e:b=it:=by simpa using hb
  subst e
  obtain⟨o,e,c,d⟩:=st
  exact⟨o,e,λv z=>by rw[d] at z;cases z⟩
 keep:=λi h h' st k=>st.at λo e=>k it (by simp) o e
 item:=by
  intro X hP hw hK hc i pins s σ H E I hf st hg
  subst hP hw hK
  obtain⟨xs,x,hq,hx⟩:=hg
  obtain⟨its,rv,p,hz⟩:=I.list hq
  obtain⟨u,hu,ru⟩:=rv.get hx
  obtain⟨f0,f1,f2,f3,f4,f5⟩:=hf it (by simp)
  refine wpAny_pyNext_list_item st p.isList (x:=u) (by simpa using hu) λh' st' sb=>?_
  have I1:Inv X pins σ H {s with heap:=h'}:=I.turned (t':=s.toks) (λb o hb e=>(sb.2 b hb).trans e) f0 f1 f3 f4 f5
  obtain⟨o,e,c,d⟩:=id st'
  exact⟨u,rfl,yz (s:={s with heap:=h'}) e c d (by decide) ⟨x,H,I1,ru,⟨rfl,λys hy=>by rw[I.list_inj hy hq];exact hx⟩,st',λb hb=>(hf b hb).1⟩⟩
 done:=by
  intro X hP hw hK hc i pins s σ H E I hf st hg
  subst hP hw hK
  obtain⟨xs,hq,hx⟩:=hg
  obtain⟨its,rv,p,hz⟩:=I.list hq
  obtain⟨f0,f1,f2,f3,f4,f5⟩:=hf it (by simp)
  have hl:=rv.length
  exact wpAny_pyNext_list_end (I.ok.hd hc) st p.isList (by simp;omega) λh' eb=>⟨rfl,I.turned (t':=s.toks) (λb o hb e=>eb b o hb e) f0 f1 f3 f4 f5⟩
 self:=λ_ _ _ _ _ st h=>wpAny_pyIter_listiter st h
def mT {P:Program}{w:World}{K:Frag}{tg:Expr}(a it:Addr):Turn P w K tg (B5 K a) [it] it (λi h=>h.IsTupleIter it a i) where
 mem:=by simp
 obj:=λi h st b hb=>by
  have e:b=it:=by simpa using hb
  subst e
  obtain⟨o,e,c,d⟩:=st
  exact⟨o,e,λv z=>by rw[d] at z;cases z⟩
 keep:=λi h h' st k=>st.at λo e=>k it (by simp) o e
 item:=by
  intro X hP hw hK hc i pins s σ H E I hf st hg
  subst hP hw hK
  obtain⟨xs,x,hq,hx⟩:=hg
  obtain⟨its,rv,p,hz⟩:=I.tuple hq
  obtain⟨u,hu,ru⟩:=rv.get hx
  obtain⟨f0,f1,f2,f3,f4,f5⟩:=hf it (by simp)
  refine wpAny_pyNext_tuple_item st (show s.heap.IsTuple a its.toArray from p) (x:=u) (by simpa using hu) λh' st' sb=>?_
  have I1:Inv X pins σ H {s with heap:=h'}:=I.turned (t':=s.toks) (λb o hb e=>(sb.2 b hb).trans e) f0 f1 f3 f4 f5
  obtain⟨o,e,c,d⟩:=id st'
  exact⟨u,rfl,yz (s:={s with heap:=h'}) e c d (by decide) ⟨x,H,I1,ru,⟨rfl,λys hy=>by rw[I.tuple_inj hy hq];exact hx⟩,st',λb hb=>(hf b hb).1⟩⟩
 done:=by
  intro X hP hw hK hc i pins s σ H E I hf st hg
  subst hP hw hK
  obtain⟨xs,hq,hx⟩:=hg
  obtain⟨its,rv,p,hz⟩:=I.tuple hq
  obtain⟨f0,f1,f2,f3,f4,f5⟩:=hf it (by simp)
  have hl:=rv.length
  exact wpAny_pyNext_tuple_end (I.ok.hd hc) st (show s.heap.IsTuple a its.toArray from p) (by simp;omega) λh' eb=>⟨rfl,I.turned (t':=s.toks) (λb o hb e=>eb b o hb e) f0 f1 f3 f4 f5⟩
 self:=λ_ _ _ _ _ st h=>wpAny_pyIter_tupleiter st h
def uD {P:Program}{w:World}{K:Frag}{tg:Expr}(it:Addr)(lo:Int)(n:Nat):Turn P w K tg (wZ lo n) [it] it (λi h=>IsRangeIter h it (lo + (i:Nat) * 1) ((n:Int) - (i:Nat)) 1) where
 mem:=by simp
 obj:=λi h st b hb=>by
  have e:b=it:=by simpa using hb
  subst e
  exact⟨_,st,λv z=>by
   have z':Data.fields _=Data.cell v:=z
   cases z'⟩
 keep:=λi h h' st k=>k it (by simp) _ st
 item:=by
  intro X hP hw hK hc i pins s σ H E I hf st hg
  subst hP hw hK
  obtain⟨f0,f1,f2,f3,f4,f5⟩:=hf it (by simp)
  have W:=Walks.range (prog:=X.prog) (w:=X.w) (I.ok.hd hc) it lo 1 n
  refine W.item i s _ _ hg st λv h' tk hv st' kk=>?_
  obtain⟨t,rfl⟩:=hv
  have I1:Inv X pins σ H {s with heap:=h',toks:=tk}:=I.turned (λb o hb e=>kk b o (by simpa using hb) e) f0 f1 f3 f4 f5
  refine⟨_,rfl,yz (s:={s with heap:=h',toks:=tk}) (n:="range_iterator") st' rfl rfl (by decide) ⟨.int (lo + i),H,I1,⟨t,?_⟩,⟨rfl,rfl⟩,st',λb hb=>(hf b hb).1⟩⟩
  rw[Int.mul_one]
 done:=by
  intro X hP hw hK hc i pins s σ H E I hf st hg
  subst hP hw hK
  obtain⟨f0,f1,f2,f3,f4,f5⟩:=hf it (by simp)
  exact wpAny_pyNext_range_end (I.ok.hd hc) st (by have:n<=i:=hg;omega) λh' eb=>⟨rfl,I.turned (t':=s.toks) (λb o hb e=>eb b o hb e) f0 f1 f3 f4 f5⟩
 self:=λ_ _ _ _ _ st h=>wpAny_pyIter_rangeiter st h
section
variable {X:Cx}{tg:Expr}
def DW (K:Frag)(tl:TE):TI:=λσ H R=>tl σ H λx H1=>∃a,x=.ref a/\(∃xs,fB K H1 a xs)/\R (wc K a) H1
def ve {l:Expr}{tl:TE}(hl:PE X l tl):PI X tg l (DW X.K tl):=by
 intro pins s σ H R I h
 refine cf (hl pins s σ H _ I h) λv s1 ⟨x,H1,I1,r1,q1⟩=>?_
 obtain⟨a,e,⟨xs,hq⟩,q⟩:=q1
 subst e
 cases r1
 obtain⟨its,rv,p,hz⟩:=I1.list hq
 refine I0 p.isList ?_
 refine⟨s1.heap.objs.size,[s1.heap.objs.size],_,_,H1,rfl,I1.kept (t':=s1.toks) λb o e=>GV _ e,lr a _,⟨_,Hf _ rfl,rfl,rfl⟩,λb hb=>?_,q⟩
 have e:b=s1.heap.objs.size:=by simpa using hb
 subst e
 exact I1.fpOk (GZ _) (I1.hok.fresh (GZ _))
def rA {pins:List (Addr×Obj)}{σ:St}{H:Hp}{s:Shared}{R:It->Hp->Prop}{E:Value->Shared->Prop}{lo hi:Int}{t u v:Tok}{tk:Nat}(I:Inv X pins σ H s)(h1: -(2 ^ 62)<=lo)(h2:lo < 2 ^ 62)(h3: -(2 ^ 62)<=hi)(h4:hi < 2 ^ 62)
  (q:R (wZ lo (hi - lo).toNat) H):wpAny (model X.prog X.w) X.A (pyIter (.ref s.heap.objs.size)) (GF X pins σ tg R) E {s with heap:=s.heap.push {cls:=.type "range",data:=.fields #[.int lo t,.int hi u,.int 1 v]},toks:=tk}:=by
 refine wpAny_pyIter_range (IsRange.new ..) (small_one h1 h2 h3 h4) ?_
 have I1:Inv X pins σ H {s with heap:=s.heap.push {cls:=.type "range",data:=.fields #[.int lo t,.int hi u,.int 1 v]},toks:=tk}:=I.kept λb o e=>GV _ e
 refine⟨(s.heap.push {cls:=.type "range",data:=.fields #[.int lo t,.int hi u,.int 1 v]}).objs.size,[(s.heap.push {cls:=.type "range",data:=.fields #[.int lo t,.int hi u,.int 1 v]}).objs.size],_,_,H,rfl,
  I1.kept (t':=tk) λb o e=>GV _ e,uD _ lo (hi - lo).toNat,?_,λb hb=>?_,q⟩
 ·have e1:lo + ((0:Nat):Int) * 1=lo:=by simp
  have e2:(((hi - lo).toNat:Nat):Int) - ((0:Nat):Int)=Builtin.Range.rangeSize lo hi 1:=by rw[rangeSize_one];split <;> omega
  show IsRangeIter _ _ (lo + ((0:Nat):Int) * 1) ((((hi - lo).toNat:Nat):Int) - ((0:Nat):Int)) 1
  rw[e1,e2]
  exact Hf _ rfl
 ·have e:b=(s.heap.push {cls:=.type "range",data:=.fields #[.int lo t,.int hi u,.int 1 v]}).objs.size:=by simpa using hb
  subst e
  exact I1.fpOk (GZ _) (I1.hok.fresh (GZ _))
def Em (ta:TA):TI:=λσ H R=>ta σ H λvs H1=>∃j:Int,vs= [.int j]/\ -(2 ^ 62)<=j/\j < 2 ^ 62/\R (wZ 0 j.toNat) H1
def EB (ta:TA):TI:=λσ H R=>ta σ H λvs H1=>∃i j:Int,vs= [.int i,.int j]/\(-(2 ^ 62)<=i/\i < 2 ^ 62/\ -(2 ^ 62)<=j/\j < 2 ^ 62)/\R (wZ i (j - i).toNat) H1
theorem jz {a:Expr}{ta:TA}{p pos:Pos}(hg:Gl X "range")(hm:X.mg "range"=none)(ha:PA X [a] ta)(hs:starEach [a] X.env= [(false,eval a X.env)]:=by rfl):PI X tg (.Call (.Name "range" p) [a] [] pos) (Em ta):=by
 intro pins s σ H R I h
 refine Call_ (mX I hg hm boot_range (Js (cf (ha pos pins s σ H _ I h) λus s1 ⟨vs,H1,I1,r1,q1⟩=>?_) hs rfl))
 obtain⟨j,e,q1,q2,q⟩:=q1
 subst e
 cases r1 with
 |cons r rr=>
  cases rr
  obtain⟨t,rfl⟩:=r
  exact call_range_1 (rA I1 (by omega) (by omega) q1 q2 (by simpa using q))
theorem wU {a b:Expr}{ta:TA}{p pos:Pos}(hg:Gl X "range")(hm:X.mg "range"=none)(ha:PA X [a,b] ta)(hs:starEach [a,b] X.env= [(false,eval a X.env),(false,eval b X.env)]:=by rfl)(hs2:starEach [b] X.env= [(false,eval b X.env)]:=by rfl) :
  PI X tg (.Call (.Name "range" p) [a,b] [] pos) (EB ta):=by
 intro pins s σ H R I h
 refine Call_ (mX I hg hm boot_range (Js (cf (ha pos pins s σ H _ I h) λus s1 ⟨vs,H1,I1,r1,q1⟩=>?_) (by rw[hs,hs2]) (by rw[hs2];rfl)))
 obtain⟨i,j,e,⟨q1,q2,q3,q4⟩,q⟩:=q1
 subst e
 cases r1 with
 |cons r rr=>
  cases rr with
  |cons r' rr=>
   cases rr
   obtain⟨t,rfl⟩:=r
   obtain⟨t',rfl⟩:=r'
   exact call_range_2 (rA I1 q1 q2 q3 q4 q)
def Gh (wi:TI)(g:TG)(tb:TS):TS:=λD σ H=>wi σ H λJ H1=>∃W:Nat->Nat->St->Hp->Prop,(∃m,W 0 m σ H1)/\∀i m σ H,W i m σ H->
 (J.stop i H/\D.nx σ H)\/(J.go i H/\∃N:St->Hp->Prop,(∀σ' H',N σ' H'->∃m',m' < m/\W (i + 1) m' σ' H')/\∀x H',J.yld i H x H'->g x σ H' λσ2 H2=>tb {D with nx:=N,ct:=N,bk:=D.nx} σ2 H2)
def nh (fp:List Addr)(h:Heap):List (Addr×Obj):=fp.filterMap λb=>(h.get? b).map λo=>(b,o)
def iJ {fp:List Addr}{h:Heap}{b:Addr}{o:Obj}(hb:b∈fp)(e:h.get? b=some o):(b,o)∈nh fp h:=ID.mpr ⟨b,hb,by rw[e];rfl⟩
theorem wm {fp:List Addr}{h:Heap}{p:Addr×Obj}(hp:p∈nh fp h):p.1∈fp/\h.get? p.1=some p.2:=by
 obtain⟨b,hb,e⟩:=ID.mp hp
 cases q:h.get? b with
 |none=>rw[q] at e;cases e
 |some o=>
  rw[q] at e
  have e':(b,o)=p:=Option.some.inj e
  subst e'
  exact⟨hb,q⟩
def Inv.pinned {pins:List (Addr×Obj)}{σ:St}{H:Hp}{s:Shared}{fp:List Addr}(I:Inv X pins σ H s)(hf:∀b∈fp,mi X pins H b)(ho:∀b∈fp,∃o,s.heap.get? b=some o/\∀v,o.data≠.cell v):Inv X (pins ++ nh fp s.heap) σ H s:=
 I.pins_of λp hp=>(Hu.mp hp).elim (λz=>I.pin p (HC _ z)) λz=>by
  obtain⟨hb,e⟩:=wm z
  obtain⟨f0,f1,f2,_⟩:=hf p.1 hb
  obtain⟨o,e',d⟩:=ho p.1 hb
  rw[e] at e';cases e'
  exact⟨e,f0,f1,f2,d⟩
def Inv.unpinned {pins pl:List (Addr×Obj)}{σ:St}{H:Hp}{s:Shared}(I:Inv X (pins ++ pl) σ H s):Inv X pins σ H s:=I.pins_of λp hp=>I.pin p (HC _ (IF _ hp))
def qE {iter:Expr}{body:List Stmt}{wi:TI}{g:TG}{tb:TS}{pos:Pos}(hp:PassesOwn (model X.prog X.w) X.A X.env X.xe)(hc:X.calm=true)(hi:PI X tg iter wi)(hg:PG X tg g)(hb:oA X body tb)
  (hs:∀x,foldedSetIterable iter X.env x=pure x:=by intro _;rfl):PS X (.For tg iter body [] pos) (Gh wi g tb):=by
 intro pins s σ H D I h
 refine wpAny_For (cf (hi pins s σ H _ I h) λv s1 h1=>cf h1 λitv s2 h2=>?_) hs
 obtain⟨it,fp,tn,J,H2,e,I2,T,st2,f2,W,⟨m0,w0⟩,turn⟩:=h2
 subst e
 have stat:∀{H':Hp},(∀b∈fp,H' b=none)->∀b∈fp,mi X pins H' b:=λhn b hb=>⟨hn b hb,(f2 b hb).2⟩
 refine codeAny_forLoop_any (λn s'=>∃i σ' H',Inv X pins σ' H' s'/\tn i s'.heap/\(∀b∈fp,H' b=none)/\W i n σ' H') ?_ m0 ⟨0,σ,H2,I2,st2,λb hb=>(f2 b hb).1,w0⟩
 rintro n s3 ⟨i,σ3,H3,I3,st3,fr3,w3⟩
 rcases turn i n σ3 H3 w3 with⟨stop,qn⟩ | ⟨go,N,hN,step⟩
 ·refine IU hp (cf (T.done X rfl rfl rfl hc i pins s3 σ3 H3 X.xe I3 (stat fr3) st3 stop) λr s4 ⟨hr,I4⟩=>?_)
  subst hr
  exact wpAny_execs_nil ⟨σ3,H3,I4,qn⟩
 ·refine IU hp (cf (T.item X rfl rfl rfl hc i pins s3 σ3 H3 X.xe I3 (stat fr3) st3 go) λr s4 ⟨u,hr,h4⟩=>?_)
  subst hr
  refine IU hp (cf h4 λ_ s5 ⟨x,H5,I5,r5,y5,st5,fr5⟩=>?_)
  have I5':=I5.pinned (stat fr5) (T.obj _ _ st5)
  refine IU hp (cf (hg _ s5 σ3 H5 x u _ I5' r5 (step x H5 y5)) λ_ s6 ⟨σ6,H6,I6,q6⟩=>?_)
  refine IU hp (cf (hb _ s6 σ6 H6 _ I6 q6) λf s7 q7=>?_)
  have again:∀{σ7:St} {H7:Hp},Inv X (pins ++ nh fp s5.heap) σ7 H7 s7->N σ7 H7->∃m,m < n/\∃i σ' H',Inv X pins σ' H' s7/\tn i s7.heap/\(∀b∈fp,H' b=none)/\W i m σ' H':=λ{σ7 H7} I7 n7=>by
   obtain⟨m',hm,w7⟩:=hN σ7 H7 n7
   refine⟨m',hm,i + 1,σ7,H7,I7.unpinned,T.keep _ _ _ st5 λb hb o e=>(I7.pin (b,o) (HC _ (HC _ (iJ hb e)))).1,λb hb=>?_,w7⟩
   obtain⟨o,e,d⟩:=T.obj _ _ st5 b hb
   exact (I7.pin (b,o) (HC _ (HC _ (iJ hb e)))).2.1
  cases f with
  |next=>obtain⟨σ7,H7,I7,n7⟩:=q7;exact again I7 n7
  |cont=>obtain⟨σ7,H7,I7,n7⟩:=q7;exact again I7 n7
  |brk=>obtain⟨σ7,H7,I7,q7⟩:=q7;exact⟨σ7,H7,I7.unpinned,q7⟩
  |ret v=>obtain⟨x7,σ7,H7,I7,r7,q7⟩:=q7;exact⟨x7,σ7,H7,I7.unpinned,r7,q7⟩
end
def rB {K:Frag}{a:Addr}{xs:List V}{g:TG}{tb:TS}{D:Ends}{σ:St}{H:Hp}(Pv:Nat->St->Hp->Prop)(h0:Pv 0 σ H)(hl:∀i σ H,i<=xs.length->Pv i σ H->fB K H a xs)
  (hs:∀i x σ H,xs[i]? =some x->Pv i σ H->g x σ H λσ2 H2=>tb {D with nx:=Pv (i + 1),ct:=Pv (i + 1),bk:=D.nx} σ2 H2) (hd:∀σ H,Pv xs.length σ H->D.nx σ H) :
  ∃W:Nat->Nat->St->Hp->Prop,(∃m,W 0 m σ H)/\∀i m σ H,W i m σ H->
   ((wc K a).stop i H/\D.nx σ H)\/((wc K a).go i H/\∃N:St->Hp->Prop,(∀σ' H',N σ' H'->∃m',m' < m/\W (i + 1) m' σ' H')/\∀x H',(wc K a).yld i H x H'->g x σ H' λσ2 H2=>tb {D with nx:=N,ct:=N,bk:=D.nx} σ2 H2):=by
 refine⟨λi m σ H=>m=xs.length - i/\i<=xs.length/\Pv i σ H,⟨xs.length,by simp,HK _,h0⟩,?_⟩
 rintro i m σ H ⟨rfl,hi,p⟩
 have q:=hl i σ H hi p
 by_cases hlt:i < xs.length
 ·refine .inr ⟨⟨xs,xs[i],q,by simp[hlt]⟩,Pv (i + 1),λσ' H' p'=>⟨xs.length - (i + 1),by omega,rfl,hlt,p'⟩,λx H' y=>?_⟩
  obtain⟨e,y⟩:=y
  subst e
  exact hs i x σ _ (y xs q) p
 ·have e:i=xs.length:=by omega
  subst e
  exact .inl ⟨⟨xs,q,GZ _⟩,hd σ H p⟩
def Bs {K:Frag}{a:Addr}{xs:List V}{g:TG}{tb:TS}{D:Ends}{σ:St}{H:Hp}(Pv:Nat->St->Hp->Prop)(h0:Pv 0 σ H)(hl:∀i σ H,i<=xs.length->Pv i σ H->dH K H a xs)
  (hs:∀i x σ H,xs[i]? =some x->Pv i σ H->g x σ H λσ2 H2=>tb {D with nx:=Pv (i + 1),ct:=Pv (i + 1),bk:=D.nx} σ2 H2) (hd:∀σ H,Pv xs.length σ H->D.nx σ H) :
  ∃W:Nat->Nat->St->Hp->Prop,(∃m,W 0 m σ H)/\∀i m σ H,W i m σ H->
   ((B5 K a).stop i H/\D.nx σ H)\/((B5 K a).go i H/\∃N:St->Hp->Prop,(∀σ' H',N σ' H'->∃m',m' < m/\W (i + 1) m' σ' H')/\∀x H',(B5 K a).yld i H x H'->g x σ H' λσ2 H2=>tb {D with nx:=N,ct:=N,bk:=D.nx} σ2 H2):=by
 refine⟨λi m σ H=>m=xs.length - i/\i<=xs.length/\Pv i σ H,⟨xs.length,by simp,HK _,h0⟩,?_⟩
 rintro i m σ H ⟨rfl,hi,p⟩
 have q:=hl i σ H hi p
 by_cases hlt:i < xs.length
 ·refine .inr ⟨⟨xs,xs[i],q,by simp[hlt]⟩,Pv (i + 1),λσ' H' p'=>⟨xs.length - (i + 1),by omega,rfl,hlt,p'⟩,λx H' y=>?_⟩
  obtain⟨e,y⟩:=y
  subst e
  exact hs i x σ _ (y xs q) p
 ·have e:i=xs.length:=by omega
  subst e
  exact .inl ⟨⟨xs,q,GZ _⟩,hd σ H p⟩
def wa {lo:Int}{n:Nat}{g:TG}{tb:TS}{D:Ends}{σ:St}{H:Hp}(Pv:Nat->St->Hp->Prop)(h0:Pv 0 σ H)
  (hs:∀i σ H,i < n->Pv i σ H->g (.int (lo + i)) σ H λσ2 H2=>tb {D with nx:=Pv (i + 1),ct:=Pv (i + 1),bk:=D.nx} σ2 H2) (hd:∀σ H,Pv n σ H->D.nx σ H) :
  ∃W:Nat->Nat->St->Hp->Prop,(∃m,W 0 m σ H)/\∀i m σ H,W i m σ H->
   ((wZ lo n).stop i H/\D.nx σ H)\/((wZ lo n).go i H/\∃N:St->Hp->Prop,(∀σ' H',N σ' H'->∃m',m' < m/\W (i + 1) m' σ' H')/\∀x H',(wZ lo n).yld i H x H'->g x σ H' λσ2 H2=>tb {D with nx:=N,ct:=N,bk:=D.nx} σ2 H2):=by
 refine⟨λi m σ H=>m=n - i/\i<=n/\Pv i σ H,⟨n,by simp,HK _,h0⟩,?_⟩
 rintro i m σ H ⟨rfl,hi,p⟩
 by_cases hlt:i < n
 ·refine .inr ⟨hlt,Pv (i + 1),λσ' H' p'=>⟨n - (i + 1),by omega,rfl,hlt,p'⟩,λx H' y=>?_⟩
  obtain⟨e,y⟩:=y
  subst e y
  exact hs i σ _ hlt p
 ·have e:i=n:=by omega
  subst e
  exact .inl ⟨GZ _,hd σ H p⟩
abbrev R2:=V->V->Hp->VK->Prop
def kX (X:Cx)(f:Value->Value->Sem Value)(r:R2):Prop:=
 ∀(pins:List (Addr×Obj)) (s:Shared) (σ:St) (H:Hp) (x y:V) (v u:Value) (Q:VK),Inv X pins σ H s->RelV x v->RelV y u->r x y H Q->
  wpAny (model X.prog X.w) X.A (f v u) (EP X pins σ Q) X.xe s
def EX (X:Cx)(f:Value->Sem Value)(r:V->Hp->VK->Prop):Prop:=
 ∀(pins:List (Addr×Obj)) (s:Shared) (σ:St) (H:Hp) (x:V) (v:Value) (Q:VK),Inv X pins σ H s->RelV x v->r x H Q->
  wpAny (model X.prog X.w) X.A (f v) (EP X pins σ Q) X.xe s
def cw (X:Cx)(f:Value)(r:List V->Hp->VK->Prop):Prop:=
 ∀(pins:List (Addr×Obj)) (s:Shared) (σ:St) (H:Hp) (xs:List V) (us:List Value) (Q:VK),Inv X pins σ H s->Vals xs us->r xs H Q->
  wpAny (model X.prog X.w) X.A (call f us) (EP X pins σ Q) X.xe s
def FO (X:Cx)(r:V->Hp->(Bool->Hp->Prop)->Prop):Prop:=
 ∀(pins:List (Addr×Obj)) (s:Shared) (σ:St) (H:Hp) (x:V) (v:Value) (Q:Bool->Hp->Prop),Inv X pins σ H s->RelV x v->r x H Q->
  wpAny (model X.prog X.w) X.A (truthy v) (TP X pins σ Q) X.xe s
def EW (r:R2)(ta tb:TE):TE:=λσ H Q=>ta σ H λx H1=>tb σ H1 λy H2=>r x y H2 Q
def GN (r:V->Hp->VK->Prop)(ta:TE):TE:=λσ H Q=>ta σ H λx H1=>r x H1 Q
def rI (C:Int->Int->Prop)(g:Int->Int->V):R2:=λx y H Q=>∃i j,x=.int i/\y=.int j/\C i j/\Q (g i j) H
def zS (g:Int->Int->V):R2:=λx y H Q=>∃i j,x=.int i/\y=.int j/\Q (g i j) H
def rU (g:Int->V):V->Hp->VK->Prop:=λx H Q=>∃i,x=.int i/\Q (g i) H
section
variable {X:Cx}{a b c:Expr}{ta tb tc:TE}{pos:Pos}
def Cr (ha:PE X a ta)(hb:PE X b tb){pins:List (Addr×Obj)}{s:Shared}{σ:St}{H:Hp}{R:V->V->Hp->Prop}(I:Inv X pins σ H s)
  (h:ta σ H λx H1=>tb σ H1 λy H2=>R x y H2) {Q:Value->Shared->Prop} {f:Value->Value->Sem Value}
  (hf:∀v u s2 x y H2,Inv X pins σ H2 s2->RelV x v->RelV y u->R x y H2->wpAny (model X.prog X.w) X.A (f v u) Q X.xe s2) :
  wpAny (model X.prog X.w) X.A (eval a X.env) (λv s₁=>wpAny (model X.prog X.w) X.A (eval b X.env) (λu s₂=>wpAny (model X.prog X.w) X.A (f v u) Q X.xe s₂) X.xe s₁) X.xe s:=by
 refine cf (ha pins s σ H _ I h) λv s1 ⟨x,H1,I1,r1,q1⟩=>?_
 refine cf (hb pins s1 σ H1 _ I1 q1) λu s2 ⟨y,H2,I2,r2,q2⟩=>?_
 exact hf v u s2 x y H2 I2 r1 r2 q2
def rf {op:Operator}{r:R2}(ho:kX X (binaryOp op) r)(ha:PE X a ta)(hb:PE X b tb):PE X (.BinOp a op b pos) (EW r ta tb):=by
 intro pins s σ H Q I h
 exact wpAny_BinOp (Cr ha hb I h λv u s2 x y H2 I2 rx ry q=>ho pins s2 σ H2 x y v u Q I2 rx ry q)
def DZ {op:UnaryOp}{r:V->Hp->VK->Prop}(ho:EX X (unaryOp op) r)(ha:PE X a ta):PE X (.UnaryOp op a pos) (GN r ta):=by
 intro pins s σ H Q I h
 exact UnaryOp_ (cf (ha pins s σ H _ I h) λv s1 ⟨x,H1,I1,r1,q1⟩=>ho pins s1 σ H1 x v Q I1 r1 q1)
def Gj {f:Value->Value->Sem Value}{C:Int->Int->Prop}{g:Int->Int->Int}
  (rule:∀(i j:Int) (t u:Tok) (s:Shared) (Q:Value->Shared->Prop) (E:Value->Shared->Prop),C i j->Q (.int (g i j) s.toks) {s with toks:=s.toks + 1}->wpAny (model X.prog X.w) X.A (f (.int i t) (.int j u)) Q E s) :
  kX X f (rI C λi j=>.int (g i j)):=by
 intro pins s σ H x y v u Q I rx ry h
 obtain⟨i,j,rfl,rfl,hc,q⟩:=h
 obtain⟨t,rfl⟩:=rx
 obtain⟨t',rfl⟩:=ry
 exact rule i j t t' s _ _ hc ⟨.int (g i j),H,I.tok _,⟨_,rfl⟩,q⟩
def E7 {f:Value->Value->Sem Value}{g:Int->Int->Int}
  (rule:∀(i j:Int) (t u:Tok) (s:Shared) (Q:Value->Shared->Prop) (E:Value->Shared->Prop),Q (.int (g i j) s.toks) {s with toks:=s.toks + 1}->wpAny (model X.prog X.w) X.A (f (.int i t) (.int j u)) Q E s) :
  kX X f (zS λi j=>.int (g i j)):=by
 intro pins s σ H x y v u Q I rx ry h
 obtain⟨i,j,rfl,rfl,q⟩:=h
 obtain⟨t,rfl⟩:=rx
 obtain⟨t',rfl⟩:=ry
 exact rule i j t t' s _ _ ⟨.int (g i j),H,I.tok _,⟨_,rfl⟩,q⟩
def Cs {f:Value->Value->Sem Value}{g:Int->Int->Bool}
  (rule:∀(i j:Int) (t u:Tok) (s:Shared) (Q:Value->Shared->Prop) (E:Value->Shared->Prop),Q (.bool (g i j)) s->wpAny (model X.prog X.w) X.A (f (.int i t) (.int j u)) Q E s) :
  kX X f (zS λi j=>.bl (g i j)):=by
 intro pins s σ H x y v u Q I rx ry h
 obtain⟨i,j,rfl,rfl,q⟩:=h
 obtain⟨t,rfl⟩:=rx
 obtain⟨t',rfl⟩:=ry
 exact rule i j t t' s _ _ ⟨.bl (g i j),H,I,rfl,q⟩
def Bc (i j:Int):Prop:=0 < j/\j < 1073741824
def zU (i j:Int):Prop:=(-(2 ^ 64) < i/\i < 2 ^ 64)\/(-(2 ^ 64) < j/\j < 2 ^ 64)
def zU.ok {i j:Int}(h:zU i j):IntMulOk i j:=by
 rcases h with⟨h1,h2⟩ | ⟨h1,h2⟩
 ·exact .of_left (intBits_le_64 h1 h2)
 ·exact .of_right (intBits_le_64 h1 h2)
def hG:kX X (binaryOp .Add) (zS λi j=>.int (i + j)):=E7 λ_ _ _ _ _ _ _ q=>add_int q
def gW:kX X (binaryOp .Mult) (rI zU λi j=>.int (i * j)):=Gj λ_ _ _ _ _ _ _ hc q=>mul_int q hc.ok
def kU:kX X (binaryOp .FloorDiv) (rI Bc λi j=>.int (i / j)):=Gj λi j _ _ _ _ _ hc q=>by
 have h1:(0:Int) < j:=hc.1
 have h2:j < 1073741824:=hc.2
 exact floordiv_int (by omega) (by rw[Int.fdiv_eq_ediv_of_nonneg i (by omega)];exact q) (.inl (PyProof.noPylong_small (by omega)))
def j7:kX X (binaryOp .Mod) (rI (λ_ j=>0 < j) λi j=>.int (i % j)):=Gj λi j _ _ _ _ _ hc q=>by
 have h1:(0:Int) < j:=hc
 exact mod_int' (by omega) (by rw[Int.fmod_eq_emod_of_nonneg i (by omega)];exact q)
def GR {f:Value->Sem Value}{g:Int->Int}
  (rule:∀(i:Int) (t:Tok) (s:Shared) (Q:Value->Shared->Prop) (E:Value->Shared->Prop),Q (.int (g i) s.toks) {s with toks:=s.toks + 1}->wpAny (model X.prog X.w) X.A (f (.int i t)) Q E s) :
  EX X f (rU λi=>.int (g i)):=by
 intro pins s σ H x v Q I rx h
 obtain⟨i,rfl,q⟩:=h
 obtain⟨t,rfl⟩:=rx
 exact rule i t s _ _ ⟨.int (g i),H,I.tok _,⟨_,rfl⟩,q⟩
def CL:EX X (unaryOp .USub) (rU λi=>.int (-i)):=GR λ_ _ _ _ _ q=>neg_int q
end
def Fq:V->V->Bool
 | .non,.non=>true | .non,.int _=>true | .int _,.non=>true | .non,.bl _=>true | .bl _,.non=>true | .non,.str _=>true | .str _,.non=>true
 | .int _,.int _=>true | .bl _,.bl _=>true | .str _,.str _=>true | .byt _,.byt _=>true
 | .int _,.str _=>true | .str _,.int _=>true | .bl _,.str _=>true | .str _,.bl _=>true
 |_,_=>false
def GC:R2:=λx y H Q=>Fq x y=true/\Q (.bl (!decide (x=y))) H
def Bo {i j:Int}:decide (V.int i=V.int j)=(i == j):=by
 rw[HZ]
 simp
def Di {i j:Bool}:decide (V.bl i=V.bl j)=(i == j):=by
 rw[HZ]
 simp
def Ba {i j:Str}:decide (V.str i=V.str j)=(i == j):=by
 rw[HZ]
 simp
def Aj {i j:Array UInt8}:decide (V.byt i=V.byt j)=(i.toList == j.toList):=by
 rw[HZ]
 cases i
 cases j
 simp
section
variable {X:Cx}{a b c:Expr}{ta tb tc:TE}{pos:Pos}
def cY {pins:List (Addr×Obj)}{σ:St}{H:Hp}{s:Shared}{Q:VK}{k k':Bool}(I:Inv X pins σ H s)(q:Q (.bl k) H)(e:k=k'):EP X pins σ Q (.bool k') s:=by
 subst e
 exact⟨.bl k,H,I,rfl,q⟩
theorem Er:kX X (compareOp .NotEq) GC:=by
 intro pins s σ H x y v u Q I rx ry h
 obtain⟨hs,q⟩:=h
 cases x with
 |non=>
  cases rx
  cases y with
  |non=>cases ry;exact PySem.EqNone.ne_none_none (cY I q (by simp))
  |bl j=>cases ry;exact PySem.EqNone.ne_none_bool (cY I q (by simp))
  |int j=>obtain⟨t',rfl⟩:=ry;exact PySem.EqNone.ne_none_int (cY I q (by simp))
  |str j=>obtain⟨t',rfl⟩:=ry;exact PySem.EqNone.ne_none_str (cY I q (by simp))
  |_=>exact absurd (show false=true from hs) Ht
 |bl i=>
  cases rx
  cases y with
  |non=>cases ry;exact PySem.EqNone.ne_bool_none (cY I q (by simp))
  |bl j=>cases ry;exact ne_bool (cY I q (congrArg not Di))
  |str j=>obtain⟨t',rfl⟩:=ry;exact PySem.EqMixed.ne_bool_str (cY I q (by simp))
  |_=>exact absurd (show false=true from hs) Ht
 |int i=>
  obtain⟨t,rfl⟩:=rx
  cases y with
  |non=>cases ry;exact PySem.EqNone.ne_int_none (cY I q (by simp))
  |int j=>obtain⟨t',rfl⟩:=ry;exact ne_int (cY I q (congrArg not Bo))
  |str j=>obtain⟨t',rfl⟩:=ry;exact PySem.EqMixed.ne_int_str (cY I q (by simp))
  |_=>exact absurd (show false=true from hs) Ht
 |str i=>
  obtain⟨t,rfl⟩:=rx
  cases y with
  |non=>cases ry;exact PySem.EqNone.ne_str_none (cY I q (by simp))
  |bl j=>cases ry;exact PySem.EqMixed.ne_str_bool (cY I q (by simp))
  |int j=>obtain⟨t',rfl⟩:=ry;exact PySem.EqMixed.ne_str_int (cY I q (by simp))
  |str j=>obtain⟨t',rfl⟩:=ry;exact ne_str (cY I q (congrArg not Ba))
  |_=>exact absurd (show false=true from hs) Ht
 |byt i=>
  obtain⟨t,rfl⟩:=rx
  cases y with
  |byt j=>obtain⟨t',rfl⟩:=ry;exact PySem.W.ne_bytes (cY I q (congrArg not Aj))
  |_=>exact absurd (show false=true from hs) Ht
 |_=>cases y <;> exact absurd (show false=true from hs) Ht
def BV:kX X (compareOp .Lt) (zS λi j=>.bl (decide (i < j))):=Cs λ_ _ _ _ _ _ _ q=>lt_int q
def ya:kX X (compareOp .LtE) (zS λi j=>.bl (decide (i<=j))):=Cs λ_ _ _ _ _ _ _ q=>le_int q
def Ew:kX X (compareOp .Gt) (zS λi j=>.bl (decide (j < i))):=Cs λ_ _ _ _ _ _ _ q=>gt_int q
def bp (b:Expr){op:CmpOp}(h:op≠.In:=by decide)(h2:op≠.NotIn:=by decide):behindInMarks op b=false:=by
 have e1:(op == CmpOp.In)=false:=by cases op <;> first |rfl |exact absurd rfl h
 have e2:(op == CmpOp.NotIn)=false:=by cases op <;> first |rfl |exact absurd rfl h2
 cases b <;> simp[behindInMarks,e1,e2]
def Bz {op:CmpOp}{r:R2}(ho:kX X (compareOp op) r)(ha:PE X a ta)(hb:PE X b tb)(hm:behindInMarks op b=false):PE X (.Compare a [op] [b] pos) (EW r ta tb):=by
 intro pins s σ H Q I h
 exact wpAny_Compare1 (Cr ha hb I h λv u s2 x y H2 I2 rx ry q=>ho pins s2 σ H2 x y v u Q I2 rx ry q) hm
def Eb (t:TE):TT:=λσ H Q=>t σ H λx H'=>∃k,x=.bl k/\Q k H'
def Be {op:CmpOp}{r:R2}(ho:kX X (compareOp op) r)(ha:PE X a ta)(hb:PE X b tb)(hm:behindInMarks op b=false):PT X (.Compare a [op] [b] pos) (Eb (EW r ta tb)):=by
 intro pins s σ H Q I h
 refine wpAny_isTrue_Compare1 (cf (ha pins s σ H _ I h) λv s1 ⟨x,H1,I1,r1,q1⟩=>cf (hb pins s1 σ H1 _ I1 q1) λu s2 ⟨y,H2,I2,r2,q2⟩=>
  cf (ho pins s2 σ H2 x y v u _ I2 r1 r2 q2) λc s3 ⟨z,H3,I3,r3,k,e,q3⟩=>?_) hm
 subst e
 cases r3
 exact Iz ⟨H3,I3,q3⟩
def C9 (r r':R2)(ta tb tc:TE):TE:=λσ H Q=>ta σ H λx H1=>tb σ H1 λy H2=>r x y H2 λz H3=>∃k,z=.bl k/\
 (if k=true then tc σ H3 λw' H4=>r' y w' H4 Q else Q (.bl false) H3)
theorem x8 {op op':CmpOp}{r r':R2}(ho:kX X (compareOp op) r)(ho':kX X (compareOp op') r')(ha:PE X a ta)(hb:PE X b tb)(hc:PE X c tc)
  (hm:lastMarks [op,op'] [b,c]=false:=by with_unfolding_all rfl):PE X (.Compare a [op,op'] [b,c] pos) (C9 r r' ta tb tc):=by
 intro pins s σ H Q I h
 refine Compare_chain (cf (ha pins s σ H _ I h) λv s1 ⟨x,H1,I1,r1,q1⟩=>chain_link (cf (hb pins s1 σ H1 _ I1 q1) λu s2 ⟨y,H2,I2,r2,q2⟩=>
  cf (ho pins s2 σ H2 x y v u _ I2 r1 r2 q2) λd s3 ⟨z,H3,I3,r3,k,e,q3⟩=>?_)) hm
 subst e
 cases r3
 refine Iz ?_
 cases k with
 |false=>exact ite_ff ⟨.bl false,H3,I3,rfl,q3⟩
 |true=>exact ite_tt (chain_last (cf (hc pins s3 σ H3 _ I3 q3) λw' s4 ⟨z',H4,I4,r4,q4⟩=>ho' pins s4 σ H4 y z' u w' Q I4 r2 r4 q4))
def DI (K:Frag)(x:V)(H:Hp)(k:Bool):Prop:=
 match x with
 | .non=>k=false
 | .bl b=>k=b
 | .int i=>k=(i != 0)
 | .str y=>y.length<=sizeLine/\k=((y.length:Int) != 0)
 | .byt y=>y.size<=sizeLine/\k=((y.size:Int) != 0)
 | .ref p=>(∃xs,fB K H p xs/\k= !xs.isEmpty)\/(∃xs,dH K H p xs/\k= !xs.isEmpty)\/∃kvs,H p=some (.dK kvs)/\k= !kvs.isEmpty
 |_=>False
def tx {κ:Type}{kvs:List (κ×V)}{vs:List (κ×Value)}(r:KV kvs vs):(!vs.isEmpty)= !kvs.isEmpty:=by
 cases r <;> rfl
def nK {xs:List V}{its:List Value}(r:Vals xs its):(!its.toArray.isEmpty)= !xs.isEmpty:=by
 cases r <;> simp
def la:(sizeLine:Nat) < 2 ^ 63:=by rw[HB];decide
theorem Dg:FO X (λx H Q=>∃k,DI X.K x H k/\Q k H):=by
 intro pins s σ H x v Q I rx h
 obtain⟨k,e,q⟩:=h
 have hl:=la
 have hs:sizeLine=16777216:=HB
 cases x with
 |non=>
  cases rx
  have e':k=false:=e
  subst e'
  exact truthy_none ⟨H,I,q⟩
 |bl b=>
  cases rx
  have e':k=b:=e
  subst e'
  exact Iz ⟨H,I,q⟩
 |int i=>
  obtain⟨t,rfl⟩:=rx
  have e':k=(i != 0):=e
  subst e'
  exact PySem.P.truthy_int ⟨H,I,q⟩
 |str y=>
  obtain⟨t,rfl⟩:=rx
  obtain⟨hy,e'⟩:y.length<=sizeLine/\k=((y.length:Int) != 0):=e
  subst e'
  exact PySem.P.truthy_str (by omega) ⟨H,I.tok _,q⟩
 |byt y=>
  obtain⟨t,rfl⟩:=rx
  obtain⟨hy,e'⟩:y.size<=sizeLine/\k=((y.size:Int) != 0):=e
  subst e'
  exact PySem.W.truthy_bytes (by omega) ⟨H,I.tok _,q⟩
 |ref p=>
  cases rx
  have e':(∃xs,fB X.K H p xs/\k= !xs.isEmpty)\/(∃xs,dH X.K H p xs/\k= !xs.isEmpty)\/∃kvs,H p=some (.dK kvs)/\k= !kvs.isEmpty:=e
  rcases e' with⟨xs,hx,e'⟩ | ⟨xs,hx,e'⟩ | ⟨kvs,hx,e'⟩
  ·subst e'
   obtain⟨its,r,pl,hz⟩:=I.list hx
   have hlen:=r.length
   exact wpAny_truthy_list pl.isList (by simp only[Hj];omega) ⟨H,I.tok _,by rw[nK r];exact q⟩
  ·subst e'
   obtain⟨its,r,pl,hz⟩:=I.tuple hx
   have hlen:=r.length
   exact truthy_tuple pl (by simp only[Hj];omega) ⟨H,I.tok _,by rw[nK r];exact q⟩
  ·subst e'
   obtain⟨hz,hS,vs,r,m⟩:kvs.length<=sizeLine/\(p == sysModules)=false/\∃vs,KV kvs vs/\s.heap.DictOf (bV X.prog X.w) p vs:=I.hok p _ hx
   have hlen:kvs.length=vs.length:=Paired.length r
   exact wpAny_truthy_dict hS m (by omega) ⟨H,I.tok _,by rw[tx r];exact q⟩
 |_=>exact (show False from e).elim
def yK (ha:PE X a ta)(he:∀whole,isTrue a X.env whole=(do let v <-whole;standAt a.pos;holding [v] (truthy v))) :
  PT X a (λσ H Q=>ta σ H λx H'=>∃k,DI X.K x H' k/\Q k H'):=by
 intro pins s σ H Q I h
 exact isTrue_plain (cf (ha pins s σ H _ I h) λv s1 ⟨x,H1,I1,r1,q1⟩=>Dg pins s1 σ H1 x v Q I1 r1 q1) (he _)
theorem vals1 {x:V}{us:List Value}(r:Vals [x] us):∃u,us= [u]/\RelV x u:=by
 cases r with
 |cons r1 r2=>cases r2;exact⟨_,rfl,r1⟩
theorem vals2 {x y:V}{us:List Value}(r:Vals [x,y] us):∃u w',us= [u,w']/\RelV x u/\RelV y w':=by
 cases r with
 |cons r1 r2=>
  cases r2 with
  |cons r3 r4=>cases r4;exact⟨_,_,rfl,r1,r3⟩
def yx:cw X (.builtin "abs") (λxs H Q=>∃i,xs= [.int i]/\Q (.int (if i < 0 then -i else i)) H):=by
 intro pins s σ H xs us Q I r h
 obtain⟨i,rfl,q⟩:=h
 obtain⟨u,rfl,t,rfl⟩:=vals1 r
 exact call_abs_int λu tk=>⟨.int (if i < 0 then -i else i),H,I.tok _,⟨_,rfl⟩,q⟩
def xg (hc:X.calm=true):cw X (.builtin "max") (λxs H Q=>∃i j,xs= [.int i,.int j]/\Q (.int (if j > i then j else i)) H):=by
 intro pins s σ H xs us Q I r h
 obtain⟨i,j,rfl,q⟩:=h
 obtain⟨u,w',rfl,⟨t,rfl⟩,⟨t',rfl⟩⟩:=vals2 r
 refine max_two_ints (I.ok.hd hc) λh' tk k=>⟨_,H,I.kept k,?_,q⟩
 by_cases hj:j > i
 ·rw[GW hj,GW hj];exact⟨_,rfl⟩
 ·rw[G8 hj,G8 hj];exact⟨_,rfl⟩
def v8 (hc:X.calm=true):cw X (.builtin "min") (λxs H Q=>∃i j,xs= [.int i,.int j]/\Q (.int (if j < i then j else i)) H):=by
 intro pins s σ H xs us Q I r h
 obtain⟨i,j,rfl,q⟩:=h
 obtain⟨u,w',rfl,⟨t,rfl⟩,⟨t',rfl⟩⟩:=vals2 r
 refine min_two_ints (I.ok.hd hc) λh' tk k=>⟨_,H,I.kept k,?_,q⟩
 by_cases hj:j < i
 ·rw[GW hj,GW hj];exact⟨_,rfl⟩
 ·rw[G8 hj,G8 hj];exact⟨_,rfl⟩
def D0 (K:Frag)(x:V)(H:Hp)(n:Nat):Prop:=
 match x with
 | .str y=>y.length<=sizeLine/\n=y.length
 | .byt y=>y.size<=sizeLine/\n=y.size
 | .ref p=>(∃xs,fB K H p xs/\n=xs.length)\/∃xs,dH K H p xs/\n=xs.length
 |_=>False
theorem gk:cw X (.builtin "len") (λxs H Q=>∃x n,xs= [x]/\D0 X.K x H n/\Q (.int n) H):=by
 intro pins s σ H xs us Q I r h
 obtain⟨x,n,rfl,e,q⟩:=h
 obtain⟨u,rfl,rx⟩:=vals1 r
 have hl:=la
 have hs:sizeLine=16777216:=HB
 cases x with
 |str y=>
  obtain⟨t,rfl⟩:=rx
  obtain⟨hy,e'⟩:y.length<=sizeLine/\n=y.length:=e
  subst e'
  exact len_str (by omega) ⟨.int _,H,I.tok _,⟨_,rfl⟩,q⟩
 |byt y=>
  obtain⟨t,rfl⟩:=rx
  obtain⟨hy,e'⟩:y.size<=sizeLine/\n=y.size:=e
  subst e'
  exact PySem.W.len_bytes (by omega) ⟨.int _,H,I.tok _,⟨_,rfl⟩,q⟩
 |ref p=>
  cases rx
  have e':(∃xs,fB X.K H p xs/\n=xs.length)\/∃xs,dH X.K H p xs/\n=xs.length:=e
  rcases e' with⟨xs,hx,e'⟩ | ⟨xs,hx,e'⟩
  ·subst e'
   obtain⟨its,r',pl,hz⟩:=I.list hx
   have hlen:=r'.length
   exact Calls.call_len_list pl.isList (by simp only[Hj];omega) ⟨.int xs.length,H,I.tok _,⟨_,by simp only[Hj];rw[hlen]⟩,q⟩
  ·subst e'
   obtain⟨its,r',pl,hz⟩:=I.tuple hx
   have hlen:=r'.length
   exact len_tuple pl (by simp only[Hj];omega) ⟨.int xs.length,H,I.tok _,⟨_,by simp only[Hj];rw[hlen]⟩,q⟩
 |_=>exact (show False from e).elim
def rX:cw X (.builtin "divmod") (λxs H Q=>∃i j,xs= [.int i,.int j]/\Bc i j/\∀p,H p=none->Q (.ref p) (upd H p (.tup [.int (i / j),.int (i % j)]))):=by
 intro pins s σ H xs us Q I r h
 obtain⟨i,j,rfl,⟨h1,h2⟩,q⟩:=h
 obtain⟨u,w',rfl,⟨t,rfl⟩,⟨t',rfl⟩⟩:=vals2 r
 refine divmod_int (by omega) ?_ (.inl (PyProof.noPylong_small (by omega)))
 rw[Int.fdiv_eq_ediv_of_nonneg i (by omega),Int.fmod_eq_emod_of_nonneg i (by omega)]
 have hn:H s.heap.objs.size=none:=I.hok.fresh (GZ _)
 refine⟨.ref s.heap.objs.size,_,?_,rfl,q _ hn⟩
 refine I.laid (λb o e=>GV _ e) (GZ _) ⟨by simp only[Hr,List.length_nil];rw[HB];decide,[.int (i / j) s.toks,.int (i % j) (s.toks + 1)],.cons ⟨_,rfl⟩ (.cons ⟨_,rfl⟩ .nil),?_⟩
 exact⟨_,Hf s.heap rfl,rfl,0,rfl,rfl⟩
end
structure CQ (h:Heap)(x dx C:Addr)(mA:Str->Option Value):Prop where
 obj:h.get? x=some (PySem.W.instObj C dx)
 ns:h.Ns1 dx mA
 ne:dx≠x
def vZ {h:Heap}{dx:Addr}{mA:Str->Option Value}(n:h.Ns1 dx mA):∃od,h.get? dx=some od/\∀name,PySem.W.lookIn name od=some (mA name):=by
 obtain⟨o,es,ep,ho,hd,hk,_,hm⟩:=n
 refine⟨o,ho,λname=>?_⟩
 have e:=hm name
 unfold nsFind findBy at e
 rw[<-Array.find?_toList] at e
 unfold PySem.W.lookIn
 rw[hd]
 dsimp only
 split
 ·rename_i y q
  rw[q] at e
  exact congrArg some e
 ·rename_i q
  rw[q] at e
  have a:es.toList.any (·.refKey)=false:=by
   rw[List.any_eq_false]
   intro y hy
   obtain⟨z,t,hkey⟩:=hk y (Jb.mp hy)
   simp[DictEntry.refKey,hkey]
  have a':¬es.toList.any (·.refKey)=true:=by rw[a];exact Ht
  rw[G8 a']
  exact congrArg some e
def CQ.look {h:Heap}{x dx C:Addr}{mA:Str->Option Value}(I:CQ h x dx C mA):∃od,PySem.W.InstAt h x (PySem.W.instObj C dx) C (some od)/\∀name,PySem.W.lookIn name od=some (mA name):=
 let ⟨od,ho,hl⟩:=vZ I.ns
 ⟨od,⟨I.obj,rfl,rfl,ho⟩,hl⟩
section
variable {P:Program}{w:World}{H H':Hp}{h h':Heap}{a C dx:Addr}{fs fs':List (Str×V)}
def AQ (hok:i9 P w H h)(e:H a=some (.ins C dx fs)):∃mA,CQ h a dx C mA/\(∀f,tR (fs.lookup f) (mA f))/\PySem.Within mA (fs.map (·.1))/\fs.length<=1000/\H dx=some (.own a):=by
 obtain⟨d,z,ne,ob,mA,n,r,q⟩:=(show bD P w H h a (.ins C dx fs) from hok a _ e)
 exact⟨mA,⟨ob,n,ne⟩,r,q,z,d⟩
end
structure Fe (K:Frag)(C:Addr):Prop where
 pg:PySem.W.plainGet K C Str.empty=true
 hd:PySem.W.hasDictIn K C=true
 po:PySem.W.plainOver K C=true
 sa:PySem.W.findIn K (.ref C) "__setattr__"=some (some (.builtin "object.__setattr__"))
def Fe.get {K:Frag}{C:Addr}(c:Fe K C)(f:Str):PySem.W.plainGet K C f=true:=c.pg
section
variable {X:Cx}{pins:List (Addr×Obj)}{σ:St}{H:Hp}{s:Shared}{A:Around}{E:Value->Shared->Prop}{Q:Value->Shared->Prop}{c:Value}{b:Bool}
inductive l8 (K:Frag)(H:Hp):V->Value->Prop where
 |non:l8 K H .non (.type "NoneType")
 |bl (x:Bool):l8 K H (.bl x) (.type "bool")
 |int (i:Int):l8 K H (.int i) (.type "int")
 |str (x:Str):l8 K H (.str x) (.type "str")
 |flt (x:UInt64):l8 K H (.flt x) (.type "float")
 |lst {a:Addr} {xs:List V} (e:H a=some (.lst xs)):l8 K H (.ref a) (.type "list")
 |a7 {a:Addr} {o:Obj} {xs:List V} (e:H a=some (.a7 o (.lst xs))):l8 K H (.ref a) (.type "list")
 |tup {a:Addr} {xs:List V} (e:H a=some (.tup xs)):l8 K H (.ref a) (.type "tuple")
 |dK {a:Addr} {kvs:List (Key×V)} (e:H a=some (.dK kvs)):l8 K H (.ref a) (.type "dict")
 |dT {a:Addr} {kvs:List (List Key×V)} (e:H a=some (.dT kvs)):l8 K H (.ref a) (.type "dict")
 |ins {a C dx:Addr} {fs:List (Str×V)} (e:H a=some (.ins C dx fs)) (cl:Fe K C) (ha:PySem.W.findIn K (.ref C) "__class__"=some (some (.builtin "object.__class__")))
   (hn:PySem.W.specialIn K (.builtin "object.__class__") "__get__"=some (some (.builtin "getset_descriptor.__get__"))) (htk:PySem.W.takesIn K (.builtin "object.__class__")=some true)
   (hm:PySem.W.mroIn K C (.type "object")=some true):l8 K H (.ref a) (.ref C)
theorem hX {x:V}{u t:Value}(I:Inv X pins σ H s)(rx:RelV x u)(ty:l8 X.K H x t)(e:PySem.W.kitOne X.K t c=some b)(h:∀tk,Q (.bool b) {s with toks:=tk}) :
  wpAny (model X.prog X.w) A (call (.builtin "isinstance") [u,c]) Q E s:=by
 cases ty with
 |non=>cases (show u=Value.none from rx);exact HP PySem.W.kitx_none I.kIn True.intro e (λz=>nomatch z) h
 |bl y=>cases (show u=Value.bool y from rx);exact HP PySem.W.kitx_bool I.kIn True.intro e (λz=>nomatch z) h
 |int i=>obtain⟨t,q⟩:=(show ∃t,u=Value.int i t from rx);cases q;exact HP PySem.W.kitx_int I.kIn True.intro e (λz=>nomatch z) h
 |str y=>obtain⟨t,q⟩:=(show ∃t,u=Value.str y t from rx);cases q;exact HP PySem.W.kitx_str I.kIn True.intro e (λz=>nomatch z) h
 |flt y=>obtain⟨t,q⟩:=(show ∃t,u=Value.float y t from rx);cases q;exact HP PySem.W.kitx_float I.kIn True.intro e (λz=>nomatch z) h
 | @lst a xs ea=>
  cases (show u=Value.ref a from rx)
  obtain⟨_,_,n,_,h1⟩:=(show bD X.prog X.w H s.heap a (.lst xs) from I.hok a _ ea)
  exact HP PySem.W.kitx_list I.kIn ⟨_,h1,rfl⟩ e (λz=>nomatch z) h
 | @a7 a ob xs ea=>
  cases (show u=Value.ref a from rx)
  obtain⟨_,_,_,n,_,h1⟩:=(show bD X.prog X.w H s.heap a (.a7 ob (.lst xs)) from I.hok a _ ea)
  exact HP PySem.W.kitx_list I.kIn ⟨_,h1,rfl⟩ e (λz=>nomatch z) h
 | @tup a xs ea=>
  cases (show u=Value.ref a from rx)
  obtain⟨_,_,_,p⟩:=(show bD X.prog X.w H s.heap a (.tup xs) from I.hok a _ ea)
  obtain⟨o,h1,h2,_⟩:=p
  exact HP PySem.W.kitx_tuple I.kIn ⟨o,h1,h2⟩ e (λz=>nomatch z) h
 | @dK a kvs ea=>
  cases (show u=Value.ref a from rx)
  obtain⟨_,_,vs,_,p⟩:=(show bD X.prog X.w H s.heap a (.dK kvs) from I.hok a _ ea)
  obtain⟨o,es,ep,h1,h2,_⟩:=p
  exact HP PySem.W.kitx_dict I.kIn ⟨o,h1,h2.1⟩ e (λz=>nomatch z) h
 | @dT a kvs ea=>
  cases (show u=Value.ref a from rx)
  obtain⟨_,_,xs,_,o,es,ep,h1,h2,_⟩:=(show bD X.prog X.w H s.heap a (.dT kvs) from I.hok a _ ea)
  exact HP PySem.W.kitx_dict I.kIn ⟨o,h1,h2.1⟩ e (λz=>nomatch z) h
 | @ins a C dx fs ea cl ha hn htk hm=>
  cases (show u=Value.ref a from rx)
  obtain⟨mA,O,_⟩:=AQ I.hok ea
  obtain⟨od,J,_⟩:=O.look
  exact HP (PySem.W.kitx_own (cl.get _) cl.hd ha hn htk hm) I.kIn J e (λz=>nomatch z) h
end
structure dk (k:Nat)(A:Around):Prop where
 hd:A.handled=none
 dp:A.depth + 3 * k + 5 < recursionLimit
 un:A.units + 16 * k + 200 < cLine
 gd:A.guards=some []
def dk.mono {j k:Nat}{A:Around}(r:dk k A)(h:j<=k):dk j A:=⟨r.hd,by have:=r.dp;omega,by have:=r.un;omega,r.gd⟩
def dk.deeper {k:Nat}{A:Around}(r:dk (k + 1) A)(env:Env):dk k (A.deeper env):=
 ⟨r.hd,by have:=r.dp;show A.depth + 1 + 3 * k + 5 < _;omega,by have:=r.un;show A.units + 3 + 16 * k + 200 < _;omega,r.gd⟩
def dk.depth {k:Nat}{A:Around}(r:dk k A):A.depth < recursionLimit:=by have:=r.dp;omega
def dk.units {k:Nat}{A:Around}(r:dk k A):A.units + 64 < cLine:=by have:=r.un;omega
def FL:TA:=λ_ H Q=>Q [] H
def DK (ta:TE)(tr:TA):TA:=λσ H Q=>ta σ H λx H1=>tr σ H1 λxs H2=>Q (x :: xs) H2
section
variable {X:Cx}{e:Expr}{es:List Expr}{te:TE}{t:TA}{pos:Pos}
def bq:PA X [] FL:=λ_ _ _ _ H Q I h=>Calls.spliced_nil ⟨[],H,I,.nil,h⟩
def aK (ha:PE X e te)(hr:PA X es t)(hs:starEach (e :: es) X.env=(false,eval e X.env) :: starEach es X.env:=by rfl):PA X (e :: es) (DK te t):=by
 intro pos pins s σ H Q I h
 rw[hs]
 show wpAny _ _ (spliced ((false,eval e X.env) :: backTo pos (starEach es X.env))) _ _ s
 refine Calls.spliced_cons (cf (ha pins s σ H _ I h) λu s1 ⟨x,H1,I1,r1,q1⟩=>?_)
 exact cf (hr pos pins s1 σ H1 _ I1 q1) λus s2 ⟨xs,H2,I2,r2,q2⟩=>⟨x :: xs,H2,I2,.cons r1 r2,q2⟩
def Fm (t:TA):TE:=λσ H Q=>t σ H λxs H1=>xs.length<=sizeLine/\∀p,H1 p=none->Q (.ref p) (upd H1 p (.tup xs))
def Fl (t:TA):TE:=λσ H Q=>t σ H λxs H1=>xs.length<=sizeLine/\∀p,H1 p=none->Q (.ref p) (upd H1 p (.lst xs))
def tG {x1}(h:PA X es t):PE X (.Tuple es x1 pos) (Fm t):=by
 intro pins s σ H Q I hq
 refine wpAny_Tuple_spliced (cf (h pos pins s σ H _ I hq) λus s1 ⟨xs,H1,I1,r,z,q⟩=>⟨by rw[<-r.length];exact z,?_⟩)
 have hf:H1 s1.heap.objs.size=none:=I1.hok.fresh (GZ _)
 refine⟨.ref s1.heap.objs.size,upd H1 s1.heap.objs.size (.tup xs),I1.laid (t':=s1.toks) (λb u e=>GV _ e) (GZ _) ?_,rfl,q _ hf⟩
 exact⟨z,us,r,ub.new _ _⟩
def ze (h:PA X es t):PE X (.List es pos) (Fl t):=by
 intro pins s σ H Q I hq
 refine wpAny_List_spliced (cf (h pos pins s σ H _ I hq) λus s1 ⟨xs,H1,I1,r,z,q⟩=>⟨by rw[<-r.length];exact z,?_⟩)
 have hf:H1 s1.heap.objs.size=none:=I1.hok.fresh (GZ _)
 refine⟨.ref s1.heap.objs.size,upd H1 s1.heap.objs.size (.lst xs),I1.laid (t':=s1.toks) (λb u e=>GV _ e) (GZ _) ?_,rfl,q _ hf⟩
 exact⟨z,us,0,r,Hf _ rfl⟩
end
abbrev Sp:=List V->Hp->VK->XK->Prop
abbrev wD:=List Env->Hp->Shared->XK->Value->Shared->Prop
structure AF (P:Program)(w:World)(K:Frag)(mg:Str->Option Value)(base:Heap)(A:Around)(outer:List Env)(s:Shared)(H:Hp):Prop where
 frames:A.frames=some outer
 mod:Mod K mg base
 bs:∀b o,base.get? b=some o->s.heap.get? b=some o/\H b=none
 bsz:base.objs.size<=s.heap.objs.size
 funs:s.heap.FunFrames base outer
 frf:∀b∈hJ outer,H b=none
 hok:i9 P w H s.heap
 bare:AllBare s.gens
def CE (outer:List Env)(P:Program)(w:World)(H:Hp)(s:Shared)(Q:VK)(u:Value)(s':Shared):Prop:=
 ∃v H',s'.os=s.os/\AllBare s'.gens/\Un (hJ outer) [] H H' s.heap s'.heap/\i9 P w H' s'.heap/\RelV v u/\Q v H'
def CR (CX:wD)(outer:List Env)(P:Program)(w:World)(H:Hp)(s:Shared)(Q:VK)(E:XK)(r:Result)(s':Shared):Prop:=
 match r with
 | .ok (.ret u)=>CE outer P w H s Q u s'
 | .ok _=>False
 | .error e=>CX outer H s E e s'
structure fo (P:Program)(w:World)(K:Frag)(mg:Str->Option Value)(base:Heap)(CX:wD)(k:Nat)(f:Addr)(fd:FuncData)(ps:List Str)(sp:Sp):Prop where
 len:∀vs H Q E,sp vs H Q E->vs.length=ps.length
 run:∀(A:Around) (outer:List Env) (s:Shared) (H:Hp) (args:Args) (us:List Value) (vs:List V) (Q:VK) (E:XK),dk k A->AF P w K mg base A outer s H->BindsTo s fd args (ps.zip us)->Vals vs us->sp vs H Q E->
  codeAny (model P w) A (.call (.ref f) args) (CR CX outer P w H s Q E) s
def fo.mono {P:Program}{w:World}{K:Frag}{mg:Str->Option Value}{base:Heap}{CX:wD}{j k:Nat}{f:Addr}{fd:FuncData}{ps:List Str}{sp:Sp}(F:fo P w K mg base CX j f fd ps sp)(h:j<=k) :
  fo P w K mg base CX k f fd ps sp:=⟨F.len,λA outer s H args us vs Q E hr=>F.run A outer s H args us vs Q E (hr.mono h)⟩
def fo.imp {P:Program}{w:World}{K:Frag}{mg:Str->Option Value}{base:Heap}{CX:wD}{k:Nat}{f:Addr}{fd:FuncData}{ps:List Str}{sp sp':Sp}(F:fo P w K mg base CX k f fd ps sp)
  (h:∀vs H Q E,sp' vs H Q E->sp vs H Q E):fo P w K mg base CX k f fd ps sp':=
 ⟨λvs H Q E q=>F.len vs H Q E (h _ _ _ _ q),λA outer s H args us vs Q E hr he hb hv hs=>F.run A outer s H args us vs Q E hr he hb hv (h _ _ _ _ hs)⟩
section
variable {X:Cx}{pins:List (Addr×Obj)}{σ:St}{H:Hp}{s s':Shared}
def Inv.env0 (I:Inv X pins σ H s):AF X.prog X.w X.K X.mg X.base X.A X.stack s H:=
 ⟨I.ok.frames,I.ok.mod,I.bs,Ie I.ok.bsz I.sz,I.stack,I.stkFree,I.hok,I.bare⟩
def Inv.after {Q:VK}{u:Value}(I:Inv X pins σ H s)(h:CE X.stack X.prog X.w H s Q u s'):EP X pins σ Q u s':=by
 obtain⟨v,H',os,bare,un,hok,r,q⟩:=h
 obtain⟨hh,g,d,t,os'⟩:=s'
 obtain rfl:os'=s.os:=os
 exact⟨v,H',I.call (h':=hh) (g':=g) (d':=d) (t':=t) (ch:=[]) un hok bare (λb z=>absurd z (by simp)),r,q⟩
end
def Ee (sp:Sp)(dvs:List V)(E:XK)(t:TA):TE:=λσ H Q=>t σ H λvs H1=>sp (vs ++ dvs) H1 Q E
def Binds (K:Frag)(fd:FuncData)(ps:List Str)(ds:List Value):Prop:=
 ∀(s:Shared) (us:List Value),K.In s.heap->(us ++ ds).length=ps.length->BindsTo s fd ⟨us,[]⟩ (ps.zip (us ++ ds))
def Binds.all {K:Frag}{fd:FuncData}{ps:List Str}(h:∀us:List Value,us.length=ps.length->bindArgs fd ⟨us,[]⟩=pure (ps.zip us)):Binds K fd ps []:=λs us _ hl=>by
 rw[IV] at hl ⊢
 exact .of_eq (h us hl)
def Passes (CX:wD)(X:Cx)(E:XK):Prop:=∀(pins:List (Addr×Obj)) (σ:St) (H:Hp) (s:Shared) (e:Value) (s':Shared),Inv X pins σ H s->CX X.stack H s E e s'->X.xe e s'
section
variable {X:Cx}{CX:wD}{k:Nat}{f C:Addr}{fd:FuncData}{ps:List Str}{sp:Sp}{dvs:List V}{ds:List Value}{E:XK}{x m:Str}{p pos apos:Pos}{e o:Expr}{es:List Expr}{ta:TE}{t:TA}
theorem C5 {pins:List (Addr×Obj)}{σ:St}{H:Hp}{s:Shared}{Q:VK}{us:List Value}{vs:List V}(F:fo X.prog X.w X.K X.mg X.base CX k f fd ps sp)(hr:dk k X.A)(hb:Binds X.K fd ps ds)(hd:Vals dvs ds)(hx:Passes CX X E)
  (I:Inv X pins σ H s) (r:Vals vs us) (h:sp (vs ++ dvs) H Q E):wpAny (model X.prog X.w) X.A (call (.ref f) us) (EP X pins σ Q) X.xe s:=by
 have r2:Vals (vs ++ dvs) (us ++ ds):=r.append hd
 have hl:(us ++ ds).length=ps.length:=by rw[<-r2.length];exact F.len _ _ _ _ h
 refine wpAny_call (JB (F.run X.A X.stack s H ⟨us,[]⟩ (us ++ ds) (vs ++ dvs) Q E hr I.env0 (hb s us I.kIn hl) r2 h) λr s' hq=>?_)
 cases r with
 |error e=>exact hx pins σ H s e s' I hq
 |ok fl=>
  cases fl with
  |ret u=>exact I.after hq
  |next=>exact False.elim hq
  |brk=>exact False.elim hq
  |cont=>exact False.elim hq
def kH (F:fo X.prog X.w X.K X.mg X.base CX k f fd ps sp)(hr:dk k X.A)(hg:Gl X x)(hm:X.mg x=some (.ref f))(hk:PySem.W.keepIn X.K (.ref f)=true)(hb:Binds X.K fd ps ds)(hd:Vals dvs ds)(hx:Passes CX X E)
  (ha:PA X (e :: es) t) (hdb:(x == ("__debug__":Str))=false:=by decide) (he:starEach (e :: es) X.env=(false,eval e X.env) :: starEach es X.env:=by rfl) (hpl:(backTo pos (starEach es X.env)).any (·.1)=false:=by rfl) :
  PE X (.Call (.Name x p) (e :: es) [] pos) (Ee sp dvs E t):=by
 intro pins s σ H Q I h
 refine wpAny_Call_Name_kw (qR I hg hm ?_ hdb)
 refine PySem.W.callWith_K (h₀:=X.base) I.ok.mod.kin hk (cf (ha pos pins s σ H _ I h) λus s1 ⟨vs,H1,I1,r,q⟩=>⟨I1.kIn,?_⟩) he hpl
 exact C5 F hr hb hd hx I1 r q
end
structure aH (N P:List Str)(sc:Scope):Prop where
 kind:sc.kind=.function
 co:sc.isCoroutine=false
 gen:sc.isGenerator=false
 nd:N.Nodup
 pre:N.take P.length=P
 par:∀x∈P,sc.names.lookup x=some .local\/sc.names.lookup x=some .cell
 nofree:∀y∈sc.names,y.2≠.free
theorem o6 {kindOf:Str->Option NameKind}{x:Str}:∀{binds:List (Str×Value)} {m:Str->Option Value},(∀v,(x,v)∉binds)->bindL kindOf binds m x=m x
 | [],_,_=>rfl
 | (n,v) :: r,m,h=>by
  unfold bindL
  rw[o6 λw hw=>h w (GY _ hw)]
  split
  ·have:x≠n:=by rintro rfl;exact h v G6
   simp[this]
  ·rfl
theorem oK {kindOf:Str->Option NameKind}{x:Str}:∀{binds:List (Str×Value)} {m:Str->Option Value},(∀v,(x,v)∉binds)->bindC kindOf binds m x=m x
 | [],_,_=>rfl
 | (n,v) :: r,m,h=>by
  unfold bindC
  rw[oK λw hw=>h w (GY _ hw)]
  split
  ·rfl
  ·have:x≠n:=by rintro rfl;exact h v G6
   simp[this]
theorem oS {kindOf:Str->Option NameKind}{x:Str}{v:Value}:∀{P:List Str} {vs:List Value} {i:Nat} {m:Str->Option Value},P.Nodup->P[i]? =some x->vs[i]? =some v->kindOf x=some .local->
  bindL kindOf (P.zip vs) m x=some v
 | [],_,_,_,_,h,_,_=>by simp at h
 |_ :: _,[],_,_,_,_,h,_=>by simp at h
 |p :: P,w :: vs,0,m,nd,h1,h2,hk=>by
  simp at h1 h2;subst h1;subst h2
  show bindL kindOf ((p,w) :: P.zip vs) m p=_
  unfold bindL
  rw[o6 λv hv=>(HJ.mp nd).1 (List.of_mem_zip hv).1,GW hk]
  simp
 |p :: P,w :: vs,i + 1,m,nd,h1,h2,hk=>by
  show bindL kindOf ((p,w) :: P.zip vs) m x=_
  unfold bindL
  exact oS (i:=i) (HJ.mp nd).2 (by simpa using h1) (by simpa using h2) hk
theorem pe {kindOf:Str->Option NameKind}{x:Str}{v:Value}:∀{P:List Str} {vs:List Value} {i:Nat} {m:Str->Option Value},P.Nodup->P[i]? =some x->vs[i]? =some v->kindOf x≠some .local->
  bindC kindOf (P.zip vs) m x=some v
 | [],_,_,_,_,h,_,_=>by simp at h
 |_ :: _,[],_,_,_,_,h,_=>by simp at h
 |p :: P,w :: vs,0,m,nd,h1,h2,hk=>by
  simp at h1 h2;subst h1;subst h2
  show bindC kindOf ((p,w) :: P.zip vs) m p=_
  unfold bindC
  rw[oK λv hv=>(HJ.mp nd).1 (List.of_mem_zip hv).1,G8 hk]
  simp
 |p :: P,w :: vs,i + 1,m,nd,h1,h2,hk=>by
  show bindC kindOf ((p,w) :: P.zip vs) m x=_
  unfold bindC
  exact pe (i:=i) (HJ.mp nd).2 (by simpa using h1) (by simpa using h2) hk
def start (N:List Str)(vs:List V):St:=vs.map some ++ List.replicate (N.length - vs.length) none
def jK (CX:wD)(P:Program)(w:World)(K:Frag)(mg:Str->Option Value)(base:Heap)(N:List Str)(qual:Str)(scope:Scope)(f:Addr)(cd:Value)(A:Around)(outer:List Env)(s:Shared)(H:Hp)(E:XK):Cx where
 prog:=P
 w:=w
 K:=K
 mg:=mg
 base:=base
 A:=A.deeper (envOfC qual scope s.heap.objs.size f cd)
 N:=N
 s₀:=s
 H₀:=H
 env:=envOfC qual scope s.heap.objs.size f cd
 outer:=outer
 stack:=envOfC qual scope s.heap.objs.size f cd :: outer
 ex:=[]
 calm:=true
 fn:=λ_=>true
 pn:=[]
 xe:=λe s'=>wpAny (model P w) (A.deeper (envOfC qual scope s.heap.objs.size f cd)) (leaving (envOfC qual scope s.heap.objs.size f cd) e) (λ_ s''=>CX outer H s E e s'') (λe' s''=>CX outer H s E e' s'') s'
def rq {sc:Scope}{n:Nat}{x:Str}(h:sc.names.lookup x=some .cell):∃c,(cellsFrom n sc.names []).lookup x=some c:=by
 have q:=PySem.W.cellsFrom_some sc.names n [] (.inl h)
 exact Option.isSome_iff_exists.mp q
def xc {CX:wD}{P:Program}{w:World}{K:Frag}{mg:Str->Option Value}{base:Heap}{N ps:List Str}{qual:Str}{scope:Scope}{f:Addr}{cd:Value}{A:Around}{outer:List Env}{s s1:Shared}{H:Hp}{E:XK}{us:List Value}{vs:List V}
  (S:aH N ps scope) (hd:A.handled=none) (e0:AF P w K mg base A outer s H) (hl:vs.length=ps.length) (r:Vals vs us)
  (x:InCallC s s.heap.objs.size (bindL (envOfC qual scope s.heap.objs.size f cd).kindOf (ps.zip us) λ_=>none) (cellsFrom (s.heap.objs.size + 1) scope.names []) (bindC (envOfC qual scope s.heap.objs.size f cd).kindOf (ps.zip us) λ_=>none) s1) :
  Inv (jK CX P w K mg base N qual scope f cd A outer s H E) [] (start N vs) H s1:=by
 have hpl:ps.length<=N.length:=by have:=congrArg List.length S.pre;rw[Ir] at this;omega
 obtain⟨h1,tk,rfl,hk⟩:=x.done
 have noA:∀b:Addr,b∉(jK CX P w K mg base N qual scope f cd A outer s H E).ex:=λb z=>absurd (show b∈([]:List Addr) from z) (by simp)
 refine⟨⟨e0.mod,S.kind,rfl,rfl,GZ _,λy z c h1 h2=>?_,λy hy=>?_,λy c _ h=>?_,λ_=>hd,Around.frames_deeper e0.frames,.inr ⟨rfl,rfl⟩,λb z=>absurd z (noA b),e0.bs,e0.bsz,λb _ _=>noA b,λb z=>absurd z (noA b),e0.funs,e0.frf⟩,
  rfl,e0.bare,Un.kept hk,⟨_,x.toInCall.ns,λi y v h1 h2 h3=>?_⟩,λy c h=>⟨_,x.cell y c h⟩,e0.hok.fresh (GZ _),λy c h=>?_,λp hp=>absurd (show p∈([]:List (Addr×Obj)) from hp) (by simp),e0.hok.kept hk,?_⟩
 ·exact name_of_addr x.apart (IL h1) (IL h2)
 ·have hy:scope.names.lookup y=some .cell\/scope.names.lookup y=some .free:=hy
  rcases hy with hy |hy
  ·exact rq hy
  ·exact absurd rfl (S.nofree _ (IL hy))
 ·exact Nat.le_of_lt (x.above y c (IL h))
 ·have hi:i < vs.length:=by
   unfold start at h2
   by_cases hi:i < vs.length
   ·exact hi
   ·rw[HH (by simpa using hi)] at h2
    rw[Iy] at h2
    split at h2 <;> cases h2
  have ha:vs[i]? =some v:=by
   unfold start at h2
   rw[HL (by simpa using hi),He] at h2
   cases e:vs[i]? with
   |none=>rw[e] at h2;cases h2
   |some a=>rw[e] at h2;cases h2;rfl
  obtain⟨u,hu,rv⟩:=r.get ha
  have hp:ps[i]? =some y:=by
   rw[<-S.pre,List.getElem?_take_of_lt (by omega)];exact h1
  have ndP:ps.Nodup:=by rw[<-S.pre];exact S.nd.sublist (List.take_sublist _ _)
  refine⟨u,rv,?_⟩
  rcases S.par y (Hi hp) with k |k
  ·exact .inl ⟨k,oS ndP hp hu k⟩
  ·obtain⟨c,e⟩:=rq (n:=s.heap.objs.size + 1) k
   refine .inr ⟨.inl k,c,e,?_⟩
   have q:=x.cell y c e
   rw[pe ndP hp hu (by show scope.names.lookup y≠_;rw[k];decide)] at q
   exact q
 ·exact e0.hok.fresh (Nat.le_of_lt (x.above y c (IL h)))
 ·unfold start
  show _=N.length
  rw[HN,Hd,IW]
  omega
theorem BJ {CX:wD}{P:Program}{w:World}{K:Frag}{mg:Str->Option Value}{base:Heap}{k:Nat}{f:Addr}{name qual:Str}{params:Arguments}{body:List Stmt}{scope:Scope}{dV kV doc pm cdv ct oc:Value}{an od:Option Addr}
  {osl:Array (Option Value)} {N ps:List Str} {sp:Sp} (lk:K.lookup f=some ⟨oc,od,.func (PySem.W.fnOf name qual params body scope dV kV doc pm an cdv ct),osl⟩) (hcd:PySem.W.codeIn K cdv qual=true) (S:aH N ps scope)
  (len:∀vs H Q E,sp vs H Q E->vs.length=ps.length)
  (hbody:∀(A:Around) (outer:List Env) (s:Shared) (H:Hp) (vs:List V) (Q:VK) (E:XK),dk k (A.deeper (envOfC qual scope s.heap.objs.size f cdv))->sp vs H Q E->
   ∃t,oA (jK CX P w K mg base N qual scope f cdv A outer s H E) body t/\t {nx:=λ_ H'=>Q .non H',rt:=Q} (start N vs) H) :
  fo P w K mg base CX (k + 1) f (PySem.W.fnOf name qual params body scope dV kV doc pm an cdv ct) ps sp:=by
 refine⟨len,λA outer s H args us vs Q E hr e0 hb r hsp=>?_⟩
 have hl:=len _ _ _ _ hsp
 have KX:K.In s.heap:=e0.mod.kin.keeps λb o e=>(e0.bs b o e).1
 have lim:s.heap.NoLimit:=e0.mod.nolimit.keeps λb o e=>(e0.bs b o e).1
 have hkind:∀y∈ps.zip us,scope.names.lookup y.1=some .local\/(scope.names.lookup y.1=some .cell/\((cellsFrom (s.heap.objs.size + 1) scope.names []).lookup y.1).isSome=true):=λ⟨n,v⟩ hy=>by
  rcases S.par n (List.of_mem_zip hy).1 with q |q
  ·exact .inl q
  ·exact .inr ⟨q,PySem.W.cellsFrom_some _ _ _ (.inl q)⟩
 refine codeAny_call_function hr.depth (KX _ _ lk) rfl S.co S.gen rfl (PySem.W.codeRec_of KX hcd) (hb _ _ _ _ ?_)
 refine wpAny_newFunctionEnv_cells S.kind hkind λenv he s1 x=>?_
 subst he
 refine⟨lim.keeps x.toInCall.keep,codeAny_func ?_⟩
 obtain⟨t,ht,hq⟩:=hbody A outer s H vs Q E (hr.deeper _) hsp
 have I:Inv (jK CX P w K mg base N qual scope f cdv A outer s H E) [] (start N vs) H s1:=xc S hr.hd e0 hl r x
 refine IC (ht [] s1 (start N vs) H _ I hq) (λfl s' hs=>?_) λe s' hs=>hs
 have fin:∀{σ':St} {H':Hp} {v:V} {u:Value},Inv (jK CX P w K mg base N qual scope f cdv A outer s H E) [] σ' H' s'->RelV v u->Q v H'->CE outer P w H s Q u s':=
  λ{σ' H' v u} J rv q=>⟨v,H',J.os,J.bare,J.base,J.hok,rv,q⟩
 cases fl with
 |ret u=>
  obtain⟨v,σ',H',J,rv,q⟩:=hs
  exact fin J rv q
 |next=>
  obtain⟨σ',H',J,q⟩:=hs
  exact fin (v:=V.non) (u:=Value.none) J rfl q
 |brk=>
  obtain⟨_,_,_,q⟩:=hs
  exact False.elim q
 |cont=>
  obtain⟨_,_,_,q⟩:=hs
  exact False.elim q
section
variable {X:Cx}{x:Str}{p pos:Pos}{e:Expr}{es:List Expr}{t:TA}{id T:String}{r:List V->Hp->VK->Prop}
def GA (r:List V->Hp->VK->Prop)(t:TA):TE:=λσ H Q=>t σ H λvs H1=>r vs H1 Q
def jc (hc:cw X (.builtin id) r)(hg:Gl X x)(hm:X.mg x=none)(hv:bootBuiltins x=some (.builtin id))(ha:PA X (e :: es) t)(hn:x≠"__name__":=by decide)(hdb:(x == ("__debug__":Str))=false:=by decide)
  (he:starEach (e :: es) X.env=(false,eval e X.env) :: starEach es X.env:=by rfl) (hpl:(backTo pos (starEach es X.env)).any (·.1)=false:=by rfl):PE X (.Call (.Name x p) (e :: es) [] pos) (GA r t):=by
 intro pins s σ H Q I h
 refine wpAny_Call_Name_kw (mX I hg hm hv ?_ hn hdb)
 exact PyProof.Rows.callWith_builtin1 (cf (ha pos pins s σ H _ I h) λus s1 ⟨vs,H1,I1,r1,q1⟩=>hc pins s1 σ H1 vs us Q I1 r1 q1) he hpl
def hW (hc:cw X (.type T) r)(hg:Gl X x)(hm:X.mg x=none)(hv:bootBuiltins x=some (.type T))(ha:PA X (e :: es) t)(hn:x≠"__name__":=by decide)(hdb:(x == ("__debug__":Str))=false:=by decide)
  (he:starEach (e :: es) X.env=(false,eval e X.env) :: starEach es X.env:=by rfl) (hpl:(backTo pos (starEach es X.env)).any (·.1)=false:=by rfl):PE X (.Call (.Name x p) (e :: es) [] pos) (GA r t):=by
 intro pins s σ H Q I h
 refine wpAny_Call_Name_kw (mX I hg hm hv ?_ hn hdb)
 exact Js (cf (ha pos pins s σ H _ I h) λus s1 ⟨vs,H1,I1,r1,q1⟩=>hc pins s1 σ H1 vs us Q I1 r1 q1) he hpl
end
end L2
namespace HT
open PySem PyProof.Rows
section
open PySem.SeqAt
open PySem.AutoSeq1 (wpAny_loadPart')
open PySem.MeetsSeq PySem.MeetsSeq2 PySem.MeetsSeq3
end
section
variable {prog:Program}{w:World}{A:Around}{E:Value->Shared->Prop}{s:Shared}
def o7 (n d:Nat):Option Int->Nat
 |none=>d
 |some v=>if v < 0 then (v + (n:Int)).toNat else min v.toNat n
def yT (n d:Nat):o7 n d none=d:=rfl
def AE (n d k:Nat):o7 n d (some (k:Int))=min k n:=by
 show (if (k:Int) < 0 then ((k:Int) + (n:Int)).toNat else min (k:Int).toNat n)=min k n
 rw[G8 (by omega),HV]
end
end HT
namespace L2
open PySem PySem.Spec PyProof.Rows
abbrev TO:=St->Hp->(Option Int->Hp->Prop)->Prop
def PO (X:Cx)(e:Option Expr)(t:TO):Prop:=
 ∀(pins:List (Addr×Obj)) (s:Shared) (σ:St) (H:Hp) (Q:Option Int->Hp->Prop),Inv X pins σ H s->t σ H Q->
  wpAny (model X.prog X.w) X.A (evalPart e X.env) (λu s'=>∃o H',Inv X pins σ H' s'/\IsPart u o/\Q o H') X.xe s
def AU:TO:=λ_ H Q=>Q none H
def DE (t:TE):TO:=λσ H Q=>t σ H λx H1=>∃i,x=.int i/\Q (some i) H1
section
variable {X:Cx}{e:Expr}{te:TE}{lo hi:Option Expr}{tl th:TO}{pos p2:Pos}
def A7:PO X none AU:=by
 intro pins s σ H Q I h
 rw[evalPart_none]
 exact GX ⟨none,H,I,.none,h⟩
def AH (h:PE X e te):PO X (some e) (DE te):=by
 intro pins s σ H Q I hw
 rw[evalPart_some]
 refine cf (h pins s σ H _ I hw) λu s1 ⟨x,H1,I1,r1,q1⟩=>?_
 obtain⟨i,rfl,q⟩:=q1
 obtain⟨t,rfl⟩:=r1
 exact⟨some i,H1,I1,.int i t,q⟩
def Gx (X:Cx)(r:V->Option Int->Option Int->Hp->VK->Prop):Prop:=
 ∀(pins:List (Addr×Obj)) (s:Shared) (σ:St) (H:Hp) (x:V) (v vl vu:Value) (lo hi:Option Int) (sl:Addr) (Q:VK),Inv X pins σ H s->RelV x v->s.heap.IsSliceOf sl vl vu .none->IsPart vl lo->IsPart vu hi->r x lo hi H Q->
  ∃T id,typeLookup (.type T) "__getitem__"=pure (some (.builtin id))/\s.TypeIs v T/\wpAny (model X.prog X.w) X.A (getItem v (.ref sl)) (EP X pins σ Q) X.xe s
def GP (r:V->Option Int->Option Int->Hp->VK->Prop)(te:TE)(tl th:TO):TE:=λσ H Q=>te σ H λx H1=>tl σ H1 λl H2=>th σ H2 λu H3=>r x l u H3 Q
def xX {r:V->Option Int->Option Int->Hp->VK->Prop}(hr:Gx X r)(he:PE X e te)(hl:PO X lo tl)(hu:PO X hi th):PE X (.Subscript e (.Slice lo hi none p2) pos) (GP r te tl th):=by
 intro pins s σ H Q I h
 refine Subscript_ (cf (he pins s σ H _ I h) λv s1 ⟨x,H1,I1,r1,q1⟩=>?_)
 refine wpAny_Slice (cf (hl pins s1 σ H1 _ I1 q1) λvl s2 ⟨l,H2,I2,pl,q2⟩=>cf (hu pins s2 σ H2 _ I2 q2) λvu s3 ⟨u,H3,I3,pu,q3⟩=>?_)
 rw[evalPart_none]
 refine GX ?_
 have I4:Inv X pins σ H3 {s3 with heap:=s3.heap.push {cls:=.type "slice",data:=.fields #[vl,vu,.none]}}:=I3.kept (t':=s3.toks) λb ob q=>GV _ q
 obtain⟨T,id,hT,ht,hg⟩:=hr pins {s3 with heap:=s3.heap.push {cls:=.type "slice",data:=.fields #[vl,vu,.none]}} σ H3 x v vl vu l u s3.heap.objs.size Q I4 r1 (Heap.IsSliceOf.new ..) pl pu q3
 show wpAny (model X.prog X.w) X.A (subscriptTail e (.Slice lo hi none p2) v (.ref s3.heap.objs.size)) (EP X pins σ Q) X.xe {s3 with heap:=s3.heap.push {cls:=.type "slice",data:=.fields #[vl,vu,.none]}}
 exact tail_any (ops:=[.ref s3.heap.objs.size,v]) ht hT hg (by with_unfolding_all rfl)
def tL (xs:List V)(lo hi:Option Int):List V:=(xs.drop (HT.o7 xs.length 0 lo)).take (HT.o7 xs.length xs.length hi - HT.o7 xs.length 0 lo)
def rF (xs:List V)(lo hi:Option Int):(tL xs lo hi).length<=xs.length:=by
 unfold tL
 rw[Ir,List.length_drop]
 omega
end
def xC (n:Nat)(i:Int):Option Nat:=if 0<=i then (if i < n then some i.toNat else none) else if -(n:Int)<=i then some (i + n).toNat else none
def j9 {α:Type}(xs:List α)(i:Int):Option α:=(xC xs.length i).bind λj=>xs[j]?
def vF {n:Nat}{i:Int}{j:Nat}(h:xC n i=some j):seqIndex? i n=some j/\j < n/\ -(n:Int)<=i/\i < n:=by
 unfold xC at h
 by_cases h0:0<=i
 ·rw[GW h0] at h
  by_cases h1:i < n
  ·rw[GW h1] at h
   have e:i.toNat=j:=Option.some.inj h
   exact⟨by rw[seqIndex_of h0 h1,e],by omega,by omega,h1⟩
  ·rw[G8 h1] at h;cases h
 ·rw[G8 h0] at h
  by_cases h1: -(n:Int)<=i
  ·rw[GW h1] at h
   have e:(i + n).toNat=j:=Option.some.inj h
   exact⟨by rw[seqIndex_neg (by omega) h1,e],by omega,h1,by omega⟩
  ·rw[G8 h1] at h;cases h
theorem qI {α:Type}{xs:List α}{i:Int}{v:α}(h:j9 xs i=some v):∃j,seqIndex? i xs.length=some j/\xs[j]? =some v/\j < xs.length/\ -(xs.length:Int)<=i/\i < xs.length:=by
 unfold j9 at h
 cases e:xC xs.length i with
 |none=>rw[e] at h;cases h
 |some j=>
  rw[e] at h
  obtain⟨h1,h2,h3,h4⟩:=vF e
  exact⟨j,h1,h,h2,h3,h4⟩
def qQ {α:Type}{xs:List α}{j:Nat}{v:α}(h:xs[j]? =some v):j9 xs (j:Int)=some v:=by
 have hj:j < xs.length:=(Hs.mp h).1
 have e:xC xs.length (j:Int)=some j:=by
  unfold xC
  rw[GW (by omega),GW (by omega)];simp
 unfold j9;rw[e];exact h
def vf (b:Expr):Prop:=∀o i,subscripted b false o i=operate [o,i] (getItem o i)
def yr (X:Cx)(r:R2):Prop:=
 ∀(value slice:Expr) (pins:List (Addr×Obj)) (s:Shared) (σ:St) (H:Hp) (x y:V) (v u:Value) (Q:VK),Inv X pins σ H s->RelV x v->RelV y u->r x y H Q->
  subscripted slice false v u=operate [v,u] (getItem v u)->wpAny (model X.prog X.w) X.A (subscriptTail value slice v u) (EP X pins σ Q) X.xe s
def GH (X:Cx)(id:String)(r:V->List V->Hp->VK->Prop):Prop:=
 ∀(pins:List (Addr×Obj)) (s:Shared) (σ:St) (H:Hp) (x:V) (xs:List V) (v:Value) (us:List Value) (Q:VK),Inv X pins σ H s->RelV x v->Vals xs us->r x xs H Q->
  wpAny (model X.prog X.w) X.A (call (.builtin id) (v :: us)) (EP X pins σ Q) X.xe s
section
variable {X:Cx}{a b:Expr}{ta tb:TE}{pos:Pos}
def yr.or {r r':R2}(h:yr X r)(h':yr X r'):yr X (λx y H Q=>r x y H Q\/r' x y H Q):=by
 intro value slice pins s σ H x y v u Q I rx ry q hs
 rcases q with q |q
 ·exact h value slice pins s σ H x y v u Q I rx ry q hs
 ·exact h' value slice pins s σ H x y v u Q I rx ry q hs
def jT {r:R2}(hr:yr X r)(ha:PE X a ta)(hb:PE X b tb)(hs:vf b):PE X (.Subscript a b pos) (EW r ta tb):=by
 intro pins s σ H Q I h
 exact Subscript_ (Cr ha hb I h λv u s2 x y H2 I2 rx ry q=>hr a b pins s2 σ H2 x y v u Q I2 rx ry q (hs _ _))
def Cm (K:Frag):R2:=λx y H Q=>∃p xs i v,x=.ref p/\y=.int i/\fB K H p xs/\j9 xs i=some v/\Q v H
def D3 (K:Frag):R2:=λx y H Q=>∃p xs i v,x=.ref p/\y=.int i/\dH K H p xs/\j9 xs i=some v/\Q v H
def DU:R2:=λx y H Q=>∃z i c,x=.str z/\y=.int i/\z.length<=sizeLine/\j9 z.cps.toList i=some c/\Q (.str ⟨#[c]⟩) H
def fF:yr X (Cm X.K):=by
 intro value slice pins s σ H x y v u Q I rx ry h hs
 obtain⟨p,xs,i,z,rfl,rfl,hq,he,q⟩:=h
 cases rx
 obtain⟨t,rfl⟩:=ry
 obtain⟨its,r,pl,hz⟩:=I.list hq
 obtain⟨j,h1,h2,h3,h4,h5⟩:=qI he
 obtain⟨w,ew,rw'⟩:=r.get h2
 have hl:=r.length
 have hn:=la
 have fin:EP X pins σ Q w s:=⟨z,H,I,rw',q⟩
 by_cases h0:0<=i
 ·have hj:i.toNat=j:=by
   rw[seqIndex_of h0 h5] at h1
   exact Option.some.inj h1
  exact item_listR pl.isList h0 (by omega) (by rw[hj];simpa using ew) fin hs
 ·have hj:(i + (its.toArray.size:Int)).toNat=j:=by
   rw[seqIndex_neg (by omega) h4] at h1
   rw[Hj,<-hl]
   exact Option.some.inj h1
  exact subscriptTail_builtinR (x:=w) pl.isList.typeIs slot_list_getitem.lookup
   (wpAny_getItem_list_neg (Q:=λr s'=>r=w/\EP X pins σ Q r s') pl.isList (by omega) (by rw[Hj] <;> omega) (by omega) (by rw[hj];simpa using ew) ⟨rfl,fin⟩) hs
def B9:yr X (D3 X.K):=by
 intro value slice pins s σ H x y v u Q I rx ry h hs
 obtain⟨p,xs,i,z,rfl,rfl,hq,he,q⟩:=h
 cases rx
 obtain⟨t,rfl⟩:=ry
 obtain⟨its,r,pl,hz⟩:=I.tuple hq
 obtain⟨j,h1,h2,h3,h4,h5⟩:=qI he
 obtain⟨w,ew,rw'⟩:=r.get h2
 have hl:=r.length
 have hn:=la
 have fin:EP X pins σ Q w s:=⟨z,H,I,rw',q⟩
 exact subscriptTail_builtinR (x:=w) pl.typeIs slot_tuple_getitem.lookup
  (getItem_tuple (j:=j) (Q:=λr s'=>r=w/\EP X pins σ Q r s') pl (by omega) (by omega) (by rw[Hj,<-hl];exact h1) (by simpa using ew) ⟨rfl,fin⟩) hs
def Cd:yr X DU:=by
 intro value slice pins s σ H x y v u Q I rx ry h hs
 obtain⟨z,i,c,rfl,rfl,hz,he,q⟩:=h
 obtain⟨t,rfl⟩:=rx
 obtain⟨t',rfl⟩:=ry
 obtain⟨j,h1,h2,h3,h4,h5⟩:=qI he
 have hl:z.cps.toList.length=z.length:=by simp[Str.length]
 rw[hl] at h1 h4 h5
 have hn:=la
 exact tail_any (typeIs_str s z t) slot_str_getitem.lookup (getItem_str (c:=c) (by
  have e1:decide (i < -(2 ^ 63:Int))=false:=Hh (by omega)
  have e2:decide (i>=2 ^ 63)=false:=Hh (by omega)
  rw[e1,e2,Bool.or_false]) (by rw[h1];simpa using h2) ⟨.str ⟨#[c]⟩,H,I.tok _,⟨_,rfl⟩,q⟩) hs
def Gn (K:Frag):R2:=λx y H Q=>Cm K x y H Q\/D3 K x y H Q\/DU x y H Q
def bt:yr X (Gn X.K):=fF.or (B9.or Cd)
def uE (its:List Value)(n j:Nat)(u:Value):Obj.mapSeq (·.setIfInBounds j u) {cls:=.type "list",data:=.seq its.toArray n}={cls:=.type "list",data:=.seq (its.set j u).toArray n}:=by
 simp[Obj.mapSeq]
def Inv.lst {pins:List (Addr×Obj)}{σ:St}{H:Hp}{s:Shared}{p:Addr}{xs:List V}(I:Inv X pins σ H s)(h:H p=some (.lst xs)) :
  ∃(its:List Value) (n:Nat),Vals xs its/\s.heap.get? p=some {cls:=.type "list",data:=.seq its.toArray n}/\xs.length<=sizeLine:=by
 obtain⟨z,its,n,r,e⟩:=I.hok p _ h
 exact⟨its,n,r,e,z⟩
def Inv.lstUpd {pins:List (Addr×Obj)}{σ:St}{H:Hp}{s:Shared}{p:Addr}{xs ys:List V}{its its':List Value}{n n':Nat}{f:Obj->Obj}(I:Inv X pins σ H s)(h:H p=some (.lst xs))
  (ho:s.heap.get? p=some {cls:=.type "list",data:=.seq its.toArray n}) (hf:f {cls:=.type "list",data:=.seq its.toArray n}={cls:=.type "list",data:=.seq its'.toArray n'}) (r:Vals ys its') (hz:ys.length<=sizeLine) (t:Nat) :
  Inv X pins σ (upd H p (.lst ys)) {s with heap:=s.heap.update p f,toks:=t}:=by
 have e:(s.heap.update p f).get? p=some {cls:=.type "list",data:=.seq its'.toArray n'}:=by
  rw[HQ f ho (by rw[hf] <;> rfl),hf]
 refine I.write (x:=p) (e:=p) (by rw[h];trivial) (.inl rfl) (λb u hb q=>(HY _ _ (Ne.symm hb)).trans q) ⟨_,e⟩ ?_
 exact⟨hz,its',n',r,e⟩
def Ek:V->V->V->Hp->(Hp->Prop)->Prop:=λo i v H Q=>∃p xs k j,o=.ref p/\i=.int k/\H p=some (.lst xs)/\xC xs.length k=some j/\Q (upd H p (.lst (xs.set j v)))
def set_list:p7 X Ek:=by
 intro pins s σ H o i v ov iv u Q I ro ri rv h
 obtain⟨p,xs,k,j,rfl,rfl,hp,hj,q⟩:=h
 cases ro
 obtain⟨t,rfl⟩:=ri
 obtain⟨its,n,r,ho,hz⟩:=I.lst hp
 obtain⟨h1,h2,h3,h4⟩:=vF hj
 have hl:=r.length
 have hn:=la
 have I':Inv X pins σ (upd H p (.lst (xs.set j v))) {s with heap:=s.heap.update p (Obj.mapSeq (·.setIfInBounds j u))}:=
  I.lstUpd hp ho (uE its n j u) (r.set rv j) (by rw[IX];exact hz) s.toks
 by_cases h0:0<=k
 ·have hk:k.toNat=j:=by
   rw[seqIndex_of h0 h4] at h1
   exact Option.some.inj h1
  exact PySem.W.ki_setAt ho h0 (by omega) (by rw[Hj,<-hl];exact h4) (by rw[hk];exact⟨_,I',q⟩)
 ·have hk:(k + (its.toArray.size:Int)).toNat=j:=by
   rw[seqIndex_neg (by omega) h3] at h1
   rw[Hj,<-hl]
   exact Option.some.inj h1
  exact PySem.W.ki_setBack ho (by omega) (by rw[Hj,<-hl];exact h3) (by omega) (by rw[hk];exact⟨_,I',q⟩)
def pM (lo hi:Option Int)(n:Nat):(sliceBounds lo hi none n).1=((HT.o7 n 0 lo:Nat):Int)/\(sliceBounds lo hi none n).2.1=((HT.o7 n n hi:Nat):Int)/\(sliceBounds lo hi none n).2.2=1:=by
 refine⟨?_,?_,rfl⟩
 ·cases lo with
  |none=>simp[sliceBounds,HT.o7]
  |some i=>
   simp only[sliceBounds,HT.o7,Option.getD_none,show (1:Int) > 0 by decide,Ic]
   by_cases h:i < 0
   ·simp only[h,Ic] <;> omega
   ·simp only[h,HI] <;> omega
 ·cases hi with
  |none=>simp[sliceBounds,HT.o7]
  |some i=>
   simp only[sliceBounds,HT.o7,Option.getD_none,show (1:Int) > 0 by decide,Ic]
   by_cases h:i < 0
   ·simp only[h,Ic] <;> omega
   ·simp only[h,HI] <;> omega
def ox (its:List Value)(lo hi:Option Int):slicePick its.toArray lo hi none=((its.drop (HT.o7 its.length 0 lo)).take (HT.o7 its.length its.length hi - HT.o7 its.length 0 lo)).toArray:=by
 obtain⟨h1,h2,h3⟩:=pM lo hi its.toArray.size
 unfold slicePick
 rw[h1,h2,h3]
 simp only[sliceRange_one,pick_run,Hj] <;> rfl
def Fb (K:Frag):V->Option Int->Option Int->Hp->VK->Prop:=λx lo hi H Q=>∃a xs,x=.ref a/\fB K H a xs/\∀p,H p=none->Q (.ref p) (upd H p (.lst (tL xs lo hi)))
def Af:Gx X (Fb X.K):=by
 intro pins s σ H x v vl vu lo hi sl Q I rx hs pl pu h
 obtain⟨a,xs,rfl,hx,q⟩:=h
 cases rx
 obtain⟨its,r,ht,hz⟩:=I.list hx
 have hlen:=r.length
 refine⟨"list",_,slot_list_getitem.lookup,ht.isList.typeIs,?_⟩
 refine wpAny_getItem_list_slice ht.isList hs pl pu .none (by simp) ?_ (by rw[Hj] <;> omega)
 rw[ox,<-hlen]
 refine⟨.ref s.heap.objs.size,_,I.laid (t':=s.toks) (o:=.lst (tL xs lo hi)) (λb ob q=>GV _ q) (GZ _) ?_,rfl,q _ (I.hok.fresh (GZ _))⟩
 exact⟨Ie (rF xs lo hi) hz,_,0,(r.drop (HT.o7 xs.length 0 lo)).take (HT.o7 xs.length xs.length hi - HT.o7 xs.length 0 lo),Hf _ rfl⟩
def qL:cw X (.type "list") (λxs H Q=>∃p ys,xs= [.ref p]/\(fB X.K H p ys\/dH X.K H p ys)/\∀l,H l=none->Q (.ref l) (upd H l (.lst ys))):=by
 intro pins s σ H xs us Q I r h
 obtain⟨p,ys,rfl,hq,q⟩:=h
 obtain⟨u,rfl,rx⟩:=vals1 r
 cases rx
 have fin:∀(its:List Value),Vals ys its->ys.length<=sizeLine->∀(h':Heap) (c':Nat),(∀b o',s.heap.get? b=some o'->h'.get? b=some o')->
   h'.get? s.heap.objs.size=some {cls:=.type "list",dict:=none,data:=.seq its.toArray c',slots:=#[]}->EP X pins σ Q (.ref s.heap.objs.size) {s with heap:=h'}:=λits r' hz h' c' kp e=>
  ⟨.ref s.heap.objs.size,_,I.laid (t':=s.toks) kp (GZ _) (show bD X.prog X.w _ h' _ (.lst ys) from⟨hz,its,c',r',e⟩),rfl,q _ (I.hok.fresh (GZ _))⟩
 rcases hq with hq |hq
 ·obtain⟨its,r',pl,hz⟩:=I.list hq
  have hlen:=r'.length
  obtain⟨o,ho,hc,n,hd⟩:=pl.isList
  exact call_list_seq p (.inl rfl) ho hc hd (λh' c' kp e=>fin its r' hz h' c' kp e) (by simp only[Hj] <;> omega)
 ·obtain⟨its,r',pl,hz⟩:=I.tuple hq
  have hlen:=r'.length
  obtain⟨o,ho,hc,n,hd⟩:=pl
  exact call_list_seq p (.inr rfl) ho hc hd (λh' c' kp e=>fin its r' hz h' c' kp e) (by simp only[Hj] <;> omega)
def cP:cw X (.type "tuple") (λxs H Q=>∃p ys,xs= [.ref p]/\((fB X.K H p ys/\∀l,H l=none->Q (.ref l) (upd H l (.tup ys)))\/(dH X.K H p ys/\Q (.ref p) H))):=by
 intro pins s σ H xs us Q I r h
 obtain⟨p,ys,rfl,h⟩:=h
 obtain⟨u,rfl,rx⟩:=vals1 r
 cases rx
 rcases h with⟨hq,q⟩ | ⟨hq,q⟩
 ·obtain⟨its,r',pl,hz⟩:=I.list hq
  have hlen:=r'.length
  refine call_tuple_list pl.isList (λh' kp=>?_) (by simp only[Hj] <;> omega)
  have I1:Inv X pins σ H {s with heap:=h'}:=I.kept (t':=s.toks) kp
  have I2:Inv X pins σ (upd H h'.objs.size (.tup ys)) {s with heap:=h'.push {cls:=.type "tuple",data:=.seq its.toArray}}:=
   I1.laid (t':=s.toks) (λb o e=>GV _ e) (GZ _) (show bD X.prog X.w _ _ _ (.tup ys) from⟨hz,its,r',ub.new _ _⟩)
  exact⟨.ref h'.objs.size,_,I2,rfl,q _ (I1.hok.fresh (GZ _))⟩
 ·obtain⟨its,r',pl,hz⟩:=I.tuple hq
  exact call_tuple_same pl ⟨.ref p,H,I,rfl,q⟩
def GG (K:Frag)(T:String)(x:V)(H:Hp):Prop:=match x with
 | .str _=>T="str"
 | .int _=>T="int"
 | .ref p=>(T="list"/\∃xs,fB K H p xs)\/(T="tuple"/\∃o,K.lookup p=some o/\o.cls=.type "tuple"/\o.dict=none)\/
   (T="dict"/\((∃kvs,H p=some (.dK kvs))\/∃kvs,H p=some (.dT kvs)))\/(T="set"/\∃S n,H p=some (.set S n))
 |_=>False
theorem Dt {pins:List (Addr×Obj)}{σ:St}{H:Hp}{s:Shared}{T:String}{x:V}{v:Value}(I:Inv X pins σ H s)(r:RelV x v)(ty:GG X.K T x H) :
  s.TypeIs v T/\∀a,v=.ref a->∃ob,s.heap.get? a=some ob/\ob.dict=none:=by
 cases x with
 |str z=>
  obtain⟨t,rfl⟩:=r
  cases (show T="str" from ty)
  exact⟨typeIs_str s z t,λ_ e=>nomatch e⟩
 |int i=>
  obtain⟨t,rfl⟩:=r
  cases (show T="int" from ty)
  exact⟨typeIs_int s i t,λ_ e=>nomatch e⟩
 |ref p=>
  cases r
  rcases ty with⟨rfl,xs,hq⟩ | ⟨rfl,o,hk,hc,hd⟩ | ⟨rfl,hk⟩ | ⟨rfl,S,n,hk⟩
  ·obtain⟨its,_,pl,_⟩:=I.list hq
   refine⟨pl.isList.typeIs,λa e=>?_⟩
   cases e
   obtain⟨o,n,e,c,hd,_⟩:=pl
   exact⟨o,e,hd⟩
  ·refine⟨⟨o,I.kIn p o hk,hc⟩,λa e=>?_⟩
   cases e
   exact⟨o,I.kIn _ o hk,hd⟩
  ·have z:∃o,s.heap.get? p=some o/\o.ExactDict:=by
    rcases hk with⟨kvs,hk⟩ | ⟨kvs,hk⟩
    ·obtain⟨_,_,_,_,o,_,_,e,ex,_⟩:=I.hok p _ hk
     exact⟨o,e,ex⟩
    ·obtain⟨_,_,_,_,o,_,_,e,ex,_⟩:=I.hok p _ hk
     exact⟨o,e,ex⟩
   obtain⟨o,e,ex⟩:=z
   refine⟨⟨o,e,ex.1⟩,λa e2=>?_⟩
   cases e2
   exact⟨o,e,ex.2.1⟩
  ·obtain⟨o,_,_,_,e,ex,_⟩:=I.hok p _ hk
   refine⟨⟨o,e,ex.1⟩,λa e2=>?_⟩
   cases e2
   exact⟨o,e,ex.2.1⟩
 |_=>exact False.elim ty
def GJ (K:Frag)(T:String)(r:V->List V->Hp->VK->Prop)(to:TE)(t:TA):TE:=λσ H Q=>to σ H λx H1=>GG K T x H1/\t σ H1 λxs H2=>r x xs H2 Q
variable {o e:Expr}{es:List Expr}{to:TE}{t:TA}{name:Str}{apos cpos:Pos}{T id:String}{r:V->List V->Hp->VK->Prop}
def yU (pa:PlainAttrs T)(slot:Slot T name id)(hty:typeOf (.builtin id)=pure (.type "method_descriptor"))(hm:GH X id r)(ho:PE X o to)(ha:PA X (e :: es) t)
  (hbase:attributeBase o name X.env (eval o X.env)=eval o X.env:=by rfl)
  (hfew:((backTo cpos (starEach (e :: es) X.env)).all (λx=> !x.1) && (backToKw cpos (keywordEach [] X.env)).all (λx=>x.1.isSome)
   && decide ((e :: es).length + ([]:List Keyword).length + (if ([]:List Keyword).isEmpty then 0 else 1) < 30))=true:=by rfl)
  (hline:(apos.endLine == cpos.line)=true:=by rfl) (hs:starEach (e :: es) X.env=(false,eval e X.env) :: starEach es X.env:=by rfl) (hplain:(backTo cpos (starEach es X.env)).any (·.1)=false:=by rfl) :
  PE X (.Call (.Attribute o name apos) (e :: es) [] cpos) (GJ X.K T r to t):=by
 intro pins s σ H Q I h
 refine wpAny_Call_method_late hbase hfew hline rfl (cf (ho pins s σ H _ I h) λv s1 ⟨x,H1,I1,r1,ty,q1⟩=>?_)
 obtain⟨h1,h2⟩:=Dt I1 r1 ty
 refine⟨T,id,pa,slot,hty,h1,h2,?_⟩
 have hA:=ha cpos pins s1 σ H1 _ I1 q1
 rw[hs] at hA ⊢
 refine Calls.callWith_builtin (by show (false || (backTo cpos (starEach es X.env)).any (·.1))=false;rw[hplain] <;> rfl) (Calls.evalArgs_plain ?_)
 exact cf hA λus s2 ⟨vs,H2,I2,r2,q2⟩=>hm pins s2 σ H2 x vs v us Q I2 r1 r2 q2
end
def EN (X:Cx)(id:String)(r:V->List V->Hp->VK->Prop):Prop:=
 ∀(pins:List (Addr×Obj)) (s:Shared) (σ:St) (H:Hp) (x:V) (xs:List V) (v:Value) (us:List Value) (Q:VK),Inv X pins σ H s->RelV x v->Vals xs us->r x xs H Q->
  wpAny (model X.prog X.w) X.A (call (.builtin id) (v :: us)) (EP X pins σ Q) X.xe s
theorem Vals.one:∀{x:V} {us:List Value},Vals [x] us->∃u,us= [u]/\RelV x u
 |_,_,.cons r .nil=>⟨_,rfl,r⟩
theorem Vals.eraseIdx:∀{xs:List V} {us:List Value} (i:Nat),Vals xs us->Vals (xs.eraseIdx i) (us.eraseIdx i)
 |_,_,_,.nil=>.nil
 |_,_,0,.cons _ t=>t
 |_,_,i + 1,.cons r t=>.cons r (Vals.eraseIdx i t)
theorem Vals.rep {xs:List V}{us:List Value}(h:Vals xs us):∀k:Nat,Vals (List.replicate k xs).flatten (List.replicate k us).flatten
 | 0=>.nil
 |k + 1=>by
  rw[Jj,Jj,JF,JF]
  exact Vals.append h (Vals.rep h k)
theorem oE {α:Type}:∀(l:List α) (i:Nat),(l.eraseIdx i).length<=l.length
 | [],_=>GZ _
 |_ :: _,0=>Nat.le_succ _
 |_ :: r,i + 1=>Nat.succ_le_succ (oE r i)
theorem foldl_rep (its:List Value):∀(k:Nat) (acc:List Value),
  List.foldl (λx1 x2=>x1 ++ x2) acc.toArray (List.replicate k its.toArray)=(acc ++ (List.replicate k its).flatten).toArray
 | 0,acc=>by simp
 |k + 1,acc=>by
  have e:acc.toArray ++ its.toArray=(acc ++ its).toArray:=by simp
  have e2:(acc ++ its) ++ (List.replicate k its).flatten=acc ++ (List.replicate (k + 1) its).flatten:=by
   rw[Jj,JF,IA]
  rw[<-e2,<-foldl_rep its k (acc ++ its),<-e,Jj,IY]
section
variable {X:Cx}{pins:List (Addr×Obj)}{σ:St}{H:Hp}{s:Shared}{l b:Addr}{xs ys zs:List V}
def Inv.lset {its its':List Value}{n:Nat}{f:Array Value->Array Value}{t':Nat}(I:Inv X pins σ H s)(hH:H l=some (.lst xs))
  (e:s.heap.get? l=some {cls:=.type "list",data:=.seq its.toArray n}) (hf:f its.toArray=its'.toArray) (hv:Vals ys its') (hz:ys.length<=sizeLine) :
  Inv X pins σ (upd H l (.lst ys)) {s with heap:=s.heap.update l (Obj.mapSeq f),toks:=t'}:=by
 have q:=PySem.IsL.update e f
 rw[hf] at q
 refine I.write (x:=l) (e:=l) (by rw[hH];exact trivial) (.inl rfl) (λb' u hb hu=>(HY s.heap (Obj.mapSeq f) (Ne.symm hb)).trans hu) ⟨_,q⟩ ?_
 exact⟨hz,its',_,hv,q⟩
def Inv.lnew {its:List Value}{t':Nat}(I:Inv X pins σ H s)(hv:Vals ys its)(hz:ys.length<=sizeLine) :
  Inv X pins σ (upd H s.heap.objs.size (.lst ys)) {s with heap:=s.heap.push {cls:=.type "list",data:=.seq its.toArray},toks:=t'}:=
 I.laid (λ_ _ q=>GV _ q) (GZ _) ⟨hz,its,0,hv,Hf _ rfl⟩
def Inv.fresh (I:Inv X pins σ H s):H s.heap.objs.size=none:=I.hok.fresh (GZ _)
def Inv.lstM (I:Inv X pins σ H s)(hH:H l=some (.lst xs)):xs.length<=sizeLine/\∃(its:List Value) (n:Nat),Vals xs its/\xs.length=its.length/\s.heap.get? l=some {cls:=.type "list",data:=.seq its.toArray n}:=by
 obtain⟨z,its,n,r,e⟩:=I.hok l _ hH
 exact⟨z,its,n,r,r.length,e⟩
def zN {n:Nat}(h:n<=sizeLine):Builtin.List.listTooLong n=false:=by
 unfold Builtin.List.listTooLong
 exact Hh (by omega)
end
section
variable {X:Cx}
def By:V->List V->Hp->VK->Prop:=λx vs H Q=>∃l xs y,x=.ref l/\vs= [y]/\H l=some (.lst xs)/\xs.length < sizeLine/\Q .non (upd H l (.lst (xs ++ [y])))
def lL:EN X "list.append" By:=by
 intro pins s σ H x vs v us Q I rx rv h
 obtain⟨l,xs,y,rfl,rfl,hH,hz,q⟩:=h
 cases rx
 obtain⟨u,rfl,ru⟩:=rv.one
 obtain⟨z,its,n,r,hl,e⟩:=I.lstM hH
 refine call_meets F.slot_list_append ⟨_,e,rfl⟩ F.entry_list_append (F.args_list_append_2 _ _) (PySem.list_append l its.toArray n u (by rw[Hj];omega)) ⟨e,?_⟩
 refine⟨.non,_,I.lset (its':=its ++ [u]) hH e (by simp) (r.append (.cons ru .nil)) ?_,rfl,q⟩
 rw[HN,List.length_singleton]
 omega
def DA:V->List V->Hp->VK->Prop:=λx vs H Q=>∃l xs i k y,x=.ref l/\vs= [.int i]/\H l=some (.lst xs)/\ -(2 ^ 63)<=i/\i < 2 ^ 63/\seqIndex? i xs.length=some k/\xs[k]? =some y/\Q y (upd H l (.lst (xs.eraseIdx k)))
def zD:EN X "list.pop" DA:=by
 intro pins s σ H x vs v us Q I rx rv h
 obtain⟨l,xs,i,k,y,rfl,rfl,hH,h1,h2,hk,hy,q⟩:=h
 cases rx
 obtain⟨u,rfl,ru⟩:=rv.one
 obtain⟨t,rfl⟩:=ru
 obtain⟨z,its,n,r,hl,e⟩:=I.lstM hH
 obtain⟨w,hw,rw'⟩:=r.get hy
 refine call_meets F.slot_list_pop ⟨_,e,rfl⟩ F.entry_list_pop (F.args_list_pop_2 _ _)
  (MeetsSeq.list_pop_at l its.toArray n i t k w (fitsIndex_both h1 h2) (by rw[Hj,<-hl];exact hk) (by rw[<-IE];exact hw) (by rw[Hj];omega)) ⟨e,?_⟩
 refine⟨y,_,I.lset (its':=its.eraseIdx k) hH e ?_ (r.eraseIdx k) ?_,rw',q⟩
 ·show its.toArray.eraseIdxIfInBounds k=(its.eraseIdx k).toArray
  rw[List.eraseIdxIfInBounds_toArray]
 ·have:=oE xs k
  omega
def Fc:R2:=λx y H Q=>∃l k xs,x=.ref l/\y=.int k/\H l=some (.lst xs)/\ -(2 ^ 63)<=k/\k < 2 ^ 63/\xs.length * k.toNat<=sizeLine/\
 ∀p,H p=none->Q (.ref p) (upd H p (.lst (List.replicate k.toNat xs).flatten))
theorem len_rep {α:Type}(xs:List α)(k:Nat):(List.replicate k xs).flatten.length=k * xs.length:=by
 induction k with
 |zero=>simp
 |succ k ih=>rw[Jj,JF,HN,ih,Nat.succ_mul,Nat.add_comm]
def CG:kX X (binaryOp .Mult) Fc:=by
 intro pins s σ H x y v u Q I rx ry h
 obtain⟨l,k,xs,rfl,rfl,hH,h1,h2,hz,q⟩:=h
 cases rx
 obtain⟨t,rfl⟩:=ry
 obtain⟨z,its,n,r,hl,e⟩:=I.lstM hH
 have hlen:its.toArray.size * k.toNat<=sizeLine:=by rw[Hj,<-hl];exact hz
 have hcap:¬its.toArray.size * k.toNat > (2 ^ 63 - 1) / 8:=by
  have:(sizeLine:Nat)<=(2 ^ 63 - 1) / 8:=by decide
  omega
 have hfit:¬(!Builtin.List.listFitsIndex k)=true:=by
  rw[fitsIndex_both h1 h2]
  exact Ht
 have hlong:¬Builtin.List.listTooLong (its.toArray.size * k.toNat)=true:=by
  rw[zN hlen]
  exact Ht
 have hnew:List.foldl (λx1 x2=>x1 ++ x2) #[] (List.replicate (if its.toArray.isEmpty=true then 0 else k.toNat) its.toArray)=(List.replicate k.toNat its).flatten.toArray:=by
  have f0:∀m:Nat,List.foldl (λx1 x2=>x1 ++ x2) #[] (List.replicate m its.toArray)=(List.replicate m its).flatten.toArray:=λm=>by
   have:=foldl_rep its m []
   rw[nil_append] at this
   exact this
  rw[f0]
  cases its with
  |nil=>simp
  |cons a r'=>rw[G8 (by simp)]
 refine wpAny_binaryOp_repeat_ref (T:="list") (U:="int") (by decide) ⟨_,e,rfl⟩ (λs'=>typeIs_int s' k t) noFill_list_mul F.fills_int_mul F.slot_int_rmul repeat_list F.slot_int_index.lookup
  (call_meets F.slot_int_rmul (typeIs_int s k t) F.entry_int_rmul (F.args_int_rmul_2 _ _) (int___rmul___int_list k t l its.toArray n)
   ⟨e,rfl,⟨_,e,rfl⟩,call_meets F.slot_list_mul ⟨_,e,rfl⟩ F.entry_list_mul (F.args_list_mul_2 _ _) (AutoListH.list___mul___list_int_3 l its.toArray n k t hfit hcap hlong) ⟨e,?_⟩⟩)
 rw[hnew]
 exact⟨.ref _,_,I.lnew (t':=s.toks) (r.rep k.toNat) (by rw[len_rep,Nat.mul_comm];exact hz),rfl,q _ I.fresh⟩
end
end L2
namespace Att
open PySem PySem.W PySem.Calls PyProof.Rows
theorem l6 {P:Params}{h:Heap}:∀(ns:List Int) (vs:List Value),WellAll P h vs (ns.map WData.int)->IntsAre vs ns:=by
 intro ns
 induction ns with
 |nil=>
  intro vs w
  rw[List.map_nil] at w
  cases w
  exact .nil
 |cons n ns ih=>
  intro vs w
  rw[Hx] at w
  cases w with
  |cons a b=>
   cases a
   exact .cons _ _ (ih _ b)
theorem wH {l:OpenLaw}{n:Nat}(hn:l.most=some n){P:Params}{h:Heap}{args:List WData}{vals:List Value}
  (hpre:l.row.toRowW.claim.pre args=true) (hwl:WellAll P h vals args) :
  ∃a vs ns,vals= [Value.ref a]/\args= [WData.list (ns.map WData.int)]/\h.get? a=some {cls:=.type "list",data:=.seq vs.toArray}/\IntsAre vs ns/\ns.length<=n:=by
 have hsh:WShape.hasAll [] args [.list .int]=true:=(pre_splitW hpre).1
 have hc:l.pre.holds [] {args:=args}=true:=(pre_splitW hpre).2
 obtain⟨d,r,rfl,h1,h2⟩:=hasAllW_cons hsh
 obtain rfl:=hasAllW_nil h2
 obtain⟨xs,rfl,h3⟩:=hasW_list h1
 obtain⟨ns,rfl⟩:=items_int h3
 have hlen:ns.length<=n:=by
  unfold OpenLaw.pre at hc
  have h4:(WTm.not (.lt (.lit (.int (n:Int))) (.len (.arg 0)))).holds [] {args:=[.list (ns.map .int)]}=true:=by
   have h4:=(holds_andW hc).1
   rw[hn] at h4
   exact h4
  have h5:=condW_of h4 (w_not (w_lt w_lit (w_len_list (w_arg rfl))))
  rw[Hd] at h5
  refine Nat.le_of_not_lt λq=>?_
  have q':(n:Int) < ((ns.length:Nat):Int):=by omega
  first
   | (rw[Hb q'] at h5;exact absurd h5 (by decide))
   | (simp at h5;omega)
 cases hwl with
 |cons w1 w2=>
  cases w2
  cases w1 with
  |list ho hall=>exact⟨_,_,ns,rfl,rfl,ho,l6 ns _ hall,hlen⟩
def wK (l:OpenLaw)(args:List WData):l.row.toRowW.claim.post args (.bool true) args=true:=
 postW_of (r:=l.row.toRowW) (X:=(true == true))
  (show WShape.has [] (.bool true) .bool=true by first |rfl |decide |simp[WShape.has,WShape.arms,WShape.armsAll])
  (show (WTm.eq .res (.lit (.bool true))).value [] {args:=args,res:=some (.bool true),after:=args}=some (.bool (true == true)) from w_eq_bool (w_res rfl) w_lit) rfl
def se {l:OpenLaw}{n:Nat}{q:Program}{loose:List Str}{XP:(Str->Option Value)->Heap->Prop}{YP:World->Heap->Prop}{d:DefRec}
  (hn:l.most=some n) (hdf:d.params.defaults= [])
  (call:∀(w:World) (s₀ s₁:Shared) (mg mb:Str->Option Value) (fa:Addr) (o:Obj) (pm cd doc:Value) (a:Addr) (vs:List Value) (ns:List Int),
   Ground q loose [] XP w s₀ mg mb s₁.heap->YP w s₁.heap->
   s₁.heap.get? fa=some o->o.data=.func (docDef d.name d.params d.body d.scope pm cd doc)->s₁.heap.CodeRec cd d.name->mg d.name=some (.ref fa)->
   s₁.heap.get? a=some {cls:=.type "list",data:=.seq vs.toArray}->IntsAre vs ns->ns.length<=n->s₁.gens=#[]->
   codeAny (model l.prog w) callerA (.call (.ref fa) ⟨[.ref a],[]⟩) (λr s'=>r=.ok (.ret (.bool true))/\OldK s₁.heap s'.heap/\s'.os=s₁.os/\AllBare s'.gens) s₁) :
  WalkO q loose XP YP l.row.toRowW d [] (λf vs=>PySem.call f vs):=by
 intro w s₀ s₁ mg mb G Y fa o pm cd doc dV kV ho hd hcd hD hmg hg args vals as hpre hlay hrd hwl hlo
 obtain rfl:dV=.none:=Dflts.none hD hdf
 obtain rfl:kV=.none:=Dflts.noKw hD
 obtain⟨a,vs,ns,rfl,rfl,hobj,hints,hlen⟩:=wH hn hpre hwl
 refine enter_call (JB (call w s₀ s₁ mg mb fa o pm cd doc a vs ns G Y ho (fd_plain hd) hcd hmg hobj hints hlen hg) λr s' hq=>?_)
 obtain⟨rfl,h2,h3,h4⟩:=hq
 exact⟨.inl ⟨.bool true,.bool true,[],rfl,λ_=>rfl,.bool true,wK l _,λ_=>⟨List.Pairwise.nil,λ_ hm=>(nomatch hm)⟩⟩,h2,h3,h4⟩
end Att
namespace L2
open PySem PySem.Spec PyProof.Rows
theorem oN:∀{vs:List Value} {ns:List Int},IntsAre vs ns->Vals (ns.map V.int) vs
 |_,_,.nil=>.nil
 |_,_,.cons n t h=>.cons ⟨t,rfl⟩ (oN h)
def Dw (H:Hp):Prop:=∀b,H b=none\/∃o xs,H b=some (.a7 o (.lst xs))
theorem yO {P:Program}{w:World}{K:Frag}{mg mb:Str->Option Value}{CX:wD}{k:Nat}{fa a:Addr}{fd:FuncData}{x:Str}{sp:Sp}{s₁:Shared}{vs:List Value}{ns:List Int}
  (KX:K.In s₁.heap) (hns:s₁.heap.Ns mainGlobals mg) (hb:s₁.heap.Ns builtinsNs mb) (hbb:∀x:Str,x≠"__name__"->mb x=bootBuiltins x) (hlim:s₁.heap.NoLimit) (hsys:∃mm,s₁.heap.Ns sysModules mm) (hg:s₁.gens=#[])
  (ha:s₁.heap.get? a=some {cls:=.type "list",data:=.seq vs.toArray}) (hi:IntsAre vs ns) (hl:ns.length<=sizeLine) (hr:dk k callerA)
  (F:∀base:Heap,K.In base->base.Ns mainGlobals mg->fo P w K mg base CX k fa fd [x] sp) (hbind:∀(s:Shared) (u:Value),BindsTo s fd ⟨[u],[]⟩ [(x,u)])
  (hsp:∀H:Hp,Dw H->fB K H a (ns.map V.int)->sp [.ref a] H (λv _=>v=.bl true) λ_ _ _=>False)
  (hCX:∀H e s',CX [] H s₁ (λ_ _ _=>False) e s'->False) :
  codeAny (model P w) callerA (.call (.ref fa) ⟨[.ref a],[]⟩) (λr s'=>r=.ok (.ret (.bool true))/\OldK s₁.heap s'.heap/\s'.os=s₁.os/\AllBare s'.gens) s₁:=by
 have rv:=oN hi
 have lenV:=hi.length
 have core:∀H:Hp,Dw H->fB K H a (ns.map V.int)->i9 P w H s₁.heap->(∀b,H b≠none->b=a)->(H a≠none->K.lookup a=none)->
   codeAny (model P w) callerA (.call (.ref fa) ⟨[.ref a],[]⟩) (λr s'=>r=.ok (.ret (.bool true))/\OldK s₁.heap s'.heap/\s'.os=s₁.os/\AllBare s'.gens) s₁:=by
  intro H hO hS hok hA hK
  have base_of:∀{b:Addr} {o:Obj},s₁.heap.get? b=some o->H b=none->(pJ s₁.heap H).get? b=some o:=λe n=>yD e n
  have noA:∀{b:Addr} {o:Obj} {es:Array DictEntry} {ep:Nat},s₁.heap.get? b=some o->o.data=.dict es ep->H b=none:=λ{b o es ep} e d=>by
   cases q:H b with
   |none=>rfl
   |some u=>
    have e':b=a:=hA b (by rw[q];simp)
    subst e'
    rw[ha] at e;cases e
    have d':Data.seq vs.toArray _=Data.dict es ep:=d
    cases d'
  have nsK:∀{b:Addr} {m:Str->Option Value},s₁.heap.Ns b m->(pJ s₁.heap H).Ns b m:=λ{b m} ⟨o,es,ep,e,d,r⟩=>⟨o,es,ep,base_of e (noA e d),d,r⟩
  have hKb:K.In (pJ s₁.heap H):=λb o e=>base_of (KX b o e) (by
   cases q:H b with
   |none=>rfl
   |some u=>
    have e':b=a:=hA b (by rw[q];simp)
    subst e'
    rw[hK (by rw[q];simp)] at e;cases e)
  have hM:Mod K mg (pJ s₁.heap H):=⟨hKb,nsK hns,⟨mb,nsK hb,hbb⟩,let ⟨mc,h1,h2⟩:=hlim;⟨mc,nsK h1,h2⟩,let ⟨mm,h1⟩:=hsys;⟨mm,nsK h1⟩⟩
  have e0:AF P w K mg (pJ s₁.heap H) callerA [] s₁ H:=⟨rfl,hM,λb o e=>Aa e,Nat.le_of_eq (wQ _ _),trivial,λb hb=>absurd (show b∈([]:List Addr) from hb) (by simp),hok,.of_eq hg⟩
  refine JB ((F _ hKb (nsK hns)).run callerA [] s₁ H ⟨[.ref a],[]⟩ [.ref a] [.ref a] _ _ hr e0 (hbind s₁ (.ref a)) (.cons rfl .nil) (hsp H hO hS)) λr s' h=>?_
  cases r with
  |error e=>exact (hCX H e s' h).elim
  |ok fl=>
   cases fl with
   |next=>exact False.elim h
   |brk=>exact False.elim h
   |cont=>exact False.elim h
   |ret u=>
    obtain⟨v,H',os,bare,un,hok',r',q⟩:=h
    have q':v=.bl true:=q
    subst q'
    obtain rfl:u=Value.bool true:=r'
    refine⟨rfl,OldK.of_keep λb o e=>?_,os,bare⟩
    cases q:H b with
    |none=>exact un.keep b o e q (by intro z;exact absurd (show b∈([]:List Addr) from z) (by simp)) (by simp)
    |some u=>
     rcases hO b with z | ⟨ob,xs,z⟩
     ·rw[q] at z;cases z
     ·have z2:=un.frzs b ob _ z
      obtain⟨e1,_⟩:=hok b _ z
      obtain⟨e2,_⟩:=hok' b _ z2
      rw[e] at e1;cases e1
      exact e2
 cases hk:K.lookup a with
 |some o=>
  have e:=KX a o hk
  rw[ha] at e
  cases e
  refine core (λ_=>none) (λ_=>.inl rfl) (.inr ⟨_,vs.toArray,_,hk,rfl,rfl,rfl,by rw[Hj,lenV];exact hl,by simpa using rv⟩) (λb u z=>by have z':(none:Option HO)=some u:=z;cases z') (λb z=>absurd rfl z) λz=>absurd rfl z
 |none=>
  refine core (λb=>if b=a then some (.a7 {cls:=.type "list",data:=.seq vs.toArray} (.lst (ns.map V.int))) else none) (λb=>?_) (.inl (.inr ⟨{cls:=.type "list",data:=.seq vs.toArray},GW rfl⟩)) (λb u z=>?_) (λb z=>?_) λ_=>hk
  ·by_cases hb:b=a
   ·exact .inr ⟨_,_,GW hb⟩
   ·exact .inl (G8 hb)
  ·by_cases hb:b=a
   ·have z':=(GW hb).symm.trans z
    cases z'
    subst hb
    exact⟨ha,by rw[Hd];exact hl,vs,_,rv,ha⟩
   ·have z':=(G8 hb).symm.trans z
    cases z'
  ·by_cases hb:b=a
   ·exact hb
   ·exact absurd (G8 hb) z
def Am {l:PySem.W.OpenLaw}{n k:Nat}{q:Program}{loose:List Str}{XP:(Str->Option Value)->Heap->Prop}{YP:World->Heap->Prop}{d:DefRec}{K:Params->Frag}{CX:World->wD}{sp:World->Sp}{x:Str}
  (hn:l.most=some n) (hn2:n<=sizeLine) (hdf:d.params.defaults= []) (hi:PyProof.Rows.importsNone q=true) (hr:dk k callerA)
  (hY:∀(w:World) (h:Heap),YP w h->(K w.params).In h)
  (F:∀(w:World) (mg:Str->Option Value) (fa:Addr) (h:Heap),(K w.params).In h->h.Ns mainGlobals mg->mg d.name=some (.ref fa)->
   ∃fd:FuncData,(∀(s:Shared) (u:Value),BindsTo s fd ⟨[u],[]⟩ [(x,u)])/\
    ∀base:Heap,(K w.params).In base->base.Ns mainGlobals mg->fo l.prog w (K w.params) mg base (CX w) k fa fd [x] (sp w))
  (hsp:∀(w:World) (H:Hp) (a:Addr) (ns:List Int),ns.length<=n->Dw H->fB (K w.params) H a (ns.map V.int)->sp w [.ref a] H (λv _=>v=.bl true) λ_ _ _=>False)
  (hCX:∀(w:World) (H:Hp) (s:Shared) (e:Value) (s':Shared),CX w [] H s (λ_ _ _=>False) e s'->False) :
  PySem.W.WalkO q loose XP YP l.row.toRowW d [] (λf vs=>PySem.call f vs):=by
 refine Att.se hn hdf λw s₀ s₁ mg mb fa o pm cd doc a vs ns G Y ho hd hcd hmg hobj hints hlen hg=>?_
 have KX:=hY w _ Y
 obtain⟨fd,hb,hF⟩:=F w mg fa _ KX G.T.g hmg
 exact yO KX G.T.g G.T.b G.T.builtins G.T.nolimit (let ⟨mm,h1,_⟩:=(G.T.seer hi).mods;⟨mm,h1⟩) hg hobj hints (Ie hlen hn2) hr hF hb (λH hO hS=>hsp w H a ns hlen hO hS) λH e s'=>hCX w H s₁ e s'
def gH (s:Stmt):Arguments:=match s with
 | .FunctionDef _ a _ _ _ _ _ _ _ _=>a
 |_=>{posonlyargs:=[],args:=[],vararg:=none,kwonlyargs:=[],kw_defaults:=[],kwarg:=none,defaults:=[]}
def cq (s:Stmt):List Stmt:=match s with
 | .FunctionDef _ _ b _ _ _ _ _ _ _=>b
 |_=>[]
def ar (s:Stmt):Scope:=match s with
 | .FunctionDef _ _ _ _ _ _ sc _ _ _=>sc
 |_=>{kind:=.function,names:=[],isGenerator:=false,isCoroutine:=false}
abbrev Dx:wD:=λ_ _ _ _ _ _=>False
abbrev E0:XK:=λ_ _ _=>False
def Ep {X:Cx}:Passes Dx X E0:=λ_ _ _ _ _ _ _ h=>h.elim
structure z0 (K:Frag)(x qual:Str)(st:Stmt)(f:Addr)(fd:FuncData):Prop where
 ex:∃(oc:Value) (od:Option Addr) (kV doc pm:Value) (an:Option Addr) (cdv ct:Value) (osl:Array (Option Value)),
  fd=PySem.W.fnOf x qual (gH st) (cq st) (ar st) .none kV doc pm an cdv ct/\K.lookup f=some ⟨oc,od,.func fd,osl⟩/\PySem.W.codeIn K cdv qual=true
 kp:PySem.W.keepIn K (.ref f)=true
section
variable {P:Program}{w:World}{K:Frag}{mg:Str->Option Value}{base:Heap}
def z0.ok {x qual:Str}{st:Stmt}{f:Addr}{fd:FuncData}{N ps:List Str}{k:Nat}{sp:Sp}(F:z0 K x qual st f fd)(S:aH N ps (ar st))(len:∀vs H Q E,sp vs H Q E->vs.length=ps.length)
  (hbody:∀(cdv:Value) (A:Around) (outer:List Env) (s:Shared) (H:Hp) (vs:List V) (Q:VK) (E:XK),dk k (A.deeper (envOfC qual (ar st) s.heap.objs.size f cdv))->sp vs H Q E->
   ∃t,oA (jK Dx P w K mg base N qual (ar st) f cdv A outer s H E).nox (cq st) t/\t {nx:=λ_ H'=>Q .non H',rt:=Q} (start N vs) H):fo P w K mg base Dx (k + 1) f fd ps sp:=by
 obtain⟨oc,od,kV,doc,pm,an,cdv,ct,osl,rfl,lk,hcd⟩:=F.ex
 refine BJ lk hcd S len λA outer s H vs Q E hr hsp=>?_
 obtain⟨t,h,q⟩:=hbody cdv A outer s H vs Q E hr hsp
 exact⟨t,h.nox,q⟩
def z0.binds {x qual:Str}{st:Stmt}{f:Addr}{fd:FuncData}{ps:List Str}(F:z0 K x qual st f fd)
  (h:∀(kV doc pm:Value) (an:Option Addr) (cdv ct:Value) (us:List Value),us.length=ps.length->bindArgs (PySem.W.fnOf x qual (gH st) (cq st) (ar st) .none kV doc pm an cdv ct) ⟨us,[]⟩=pure (ps.zip us)):Binds K fd ps []:=by
 obtain⟨oc,od,kV,doc,pm,an,cdv,ct,osl,rfl,lk,hcd⟩:=F.ex
 exact .all (h kV doc pm an cdv ct)
def uy {x qual:Str}{st:Stmt}{f:Addr}{oc:Value}{od an:Option Addr}{osl:Array (Option Value)}{kV doc pm cdv ct:Value}(l:K.lookup f=some ⟨oc,od,.func (PySem.W.fnOf x qual (gH st) (cq st) (ar st) .none kV doc pm an cdv ct),osl⟩)
  (c:PySem.W.codeIn K cdv qual=true) (k:PySem.W.keepIn K (.ref f)=true):z0 K x qual st f (PySem.W.fnOf x qual (gH st) (cq st) (ar st) .none kV doc pm an cdv ct):=⟨⟨oc,od,kV,doc,pm,an,cdv,ct,osl,rfl,l,c⟩,k⟩
end
section
variable {X:Cx}
def pv (i:Nat){x:Str}{pos:Pos}(hN:X.N[i]? =some x:=by rfl)(hv:zJ X.env.scope x:=by first |exact Or.inl rfl |exact Or.inr (Or.inl rfl) |exact Or.inr (Or.inr rfl))(hd:(x == ("__debug__":Str))=false:=by decide)
  (hcd:(x == ("__classdict__":Str))=false:=by decide):PE X (.Name x pos) (Ak i):=jo hN hv hd hcd
end
def rl {A B:Prop}(h:B):if false=true then A else B:=by
 rw[G8 Ht]
 exact h
def rH {A B:Prop}(h:A):if true=true then A else B:=by
 rw[GW rfl]
 exact h
def ah (H H':Hp):Prop:=∀b o,H b=some o->H' b=some o
def ah.refl (H:Hp):ah H H:=λ_ _ h=>h
def ah.trans {H H1 H2:Hp}(a:ah H H1)(b:ah H1 H2):ah H H2:=λc o h=>b c o (a c o h)
theorem ah.free {H H':Hp}(e:ah H H'){l:Addr}(h:H' l=Option.none):H l=Option.none:=by
 cases q:H l with
 |none=>rfl
 |some o=>
  rw[e l o q] at h
  cases h
def ah.seq {K:Frag}{H H':Hp}{a:Addr}{xs:List V}(e:ah H H')(h:fB K H a xs):fB K H' a xs:=by
 rcases h with (h | ⟨o,h⟩) |h
 ·exact .inl (.inl (e _ _ h))
 ·exact .inl (.inr ⟨o,e _ _ h⟩)
 ·exact .inr h
end L2
end
namespace L2.ST
open PySem PySem.SetTable
abbrev iy (xs:Array Nat):Prop:=xs.toList.Pairwise (· < ·)
def gG {xs:Array Nat}(h:iy xs){i k d:Nat}(hik:i < k)(hk:k < xs.size):xs.getD i d < xs.getD k d:=by
 have hi:i < xs.size:=Nat.lt_trans hik hk
 have:=Jc.mp h i k (by simpa using hi) (by simpa using hk) hik
 simpa[Array.getD,hi,hk] using this
theorem xW {xs:Array Nat}{j:Nat}(h:iy xs):∀(fuel lo hi:Nat),lo<=hi->hi<=xs.size->hi - lo<=fuel->
  (∀i,i < lo->xs.getD i j < j)->(∀i,hi<=i->i < xs.size->j<=xs.getD i j)->
  below.go xs j fuel lo hi<=xs.size/\(∀i,i < below.go xs j fuel lo hi->xs.getD i j < j)/\(∀i,below.go xs j fuel lo hi<=i->i < xs.size->j<=xs.getD i j):=by
 intro fuel
 induction fuel with
 |zero=>
  intro lo hi h1 h2 h3 h4 h5
  have:lo=hi:=by omega
  subst this
  exact⟨h2,h4,h5⟩
 |succ fuel ih=>
  intro lo hi h1 h2 h3 h4 h5
  unfold below.go
  by_cases hlt:lo < hi
  ·rw[GW hlt]
   dsimp only
   by_cases hm:xs.getD ((lo + hi) / 2) j < j
   ·rw[GW hm]
    refine ih _ _ (by omega) h2 (by omega) (λi hi'=>?_) h5
    by_cases e:i=(lo + hi) / 2
    ·rw[e];exact hm
    ·exact Nat.lt_trans (gG h (show i < (lo + hi) / 2 by omega) (by omega)) hm
   ·rw[G8 hm]
    refine ih _ _ (by omega) (by omega) (by omega) h4 (λi hi' hs=>?_)
    by_cases e:i=(lo + hi) / 2
    ·rw[e];omega
    ·have:=gG (d:=j) h (show (lo + hi) / 2 < i by omega) hs
     omega
  ·rw[G8 hlt]
   have:lo=hi:=by omega
   subst this
   exact⟨h2,h4,h5⟩
def c6 {xs:Array Nat}(h:iy xs)(j:Nat) :
  below xs j<=xs.size/\(∀i,i < below xs j->xs.getD i j < j)/\(∀i,below xs j<=i->i < xs.size->j<=xs.getD i j):=
 xW h xs.size 0 xs.size (HK _) (GZ _) (by omega) (λi hi=>by omega) (λi h1 h2=>by omega)
def wM {xs:Array Nat}(h:iy xs){i j:Nat}(hi:xs[i]? =some j):below xs j=i:=by
 obtain⟨b1,b2,b3⟩:=c6 h j
 have hs:i < xs.size:=(HS.mp hi).1
 have hv:xs.getD i j=j:=by rw[HE,hi];rfl
 rcases JG i (below xs j) with c |c |c
 ·have:=b2 i c;omega
 ·exact c.symm
 ·have hb:below xs j < xs.size:=by omega
  have q:=b3 (below xs j) (GZ _) hb
  have:=gG (d:=j) h c hs
  omega
def vO (j:Nat):has #[] j=false:=by
 unfold has
 simp
def o5 {t:SetTable}(h:iy t.place){i j:Nat}(hi:t.place[i]? =some j):t.slot j=.live i:=by
 unfold slot
 dsimp only
 rw[wM h hi,GW (by simp[hi])]
def um {t:SetTable}(hd:t.dummies=#[]){j:Nat}(hj:j∉t.place):t.slot j=.empty:=by
 unfold slot
 dsimp only
 have:¬(t.place[below t.place j]? == some j)=true:=by
  intro e
  have e':t.place[below t.place j]? =some j:=by simpa using e
  obtain⟨h1,h2⟩:=HS.mp e'
  exact hj (Array.mem_iff_getElem.mpr ⟨_,h1,h2⟩)
 rw[G8 this,hd,vO]
 rfl
def td (mask:Nat)(p:Probe):Probe:=
 if p.more > 0 then {p with j:=p.j + 1,more:=p.more - 1} else
 {p with j:=(leap mask p.i p.perturb).1,more:=runEnd mask (leap mask p.i p.perturb).1 - (leap mask p.i p.perturb).1,i:=(leap mask p.i p.perturb).1,perturb:=(leap mask p.i p.perturb).2}
def wG (mask i perturb:Nat):Probe:={j:=i,more:=runEnd mask i - i,i,perturb,dummy:=none}
def st (mask:Nat)(h:Int):Probe:=wG mask (bits h % (mask + 1)) (bits h)
def zH (t:SetTable)(p:Probe):t.advance p=td t.mask p:=rfl
def B3 (t:SetTable)(h:Int):t.probeStart h=st t.mask h:=rfl
def dR (mask:Nat):Nat->Probe->Probe
 | 0,p=>p
 |n + 1,p=>dR mask n (td mask p)
theorem jg (mask:Nat):∀(n m:Nat) (p:Probe),dR mask (n + m) p=dR mask m (dR mask n p)
 | 0,m,p=>by rw[HW];rfl
 |n + 1,m,p=>by rw[Nat.add_right_comm];exact jg mask n m (td mask p)
def xR {mask:Nat}{p:Probe}(h:p.dummy=none):(td mask p).dummy=none:=by
 unfold td;split <;> exact h
def hV {mask i:Nat}(h:i<=mask):i<=runEnd mask i/\runEnd mask i<=mask/\runEnd mask i - i<=9:=by
 unfold runEnd;split <;> omega
def In (mask:Nat)(p:Probe):Prop:=p.j + p.more<=mask/\p.more<=9
def Dj {mask i q:Nat}(h:i<=mask):In mask (wG mask i q):=by
 have:=hV h
 unfold In wG;dsimp only;omega
def kf (mask i q:Nat):(leap mask i q).1<=mask:=by
 unfold leap;exact Nat.lt_succ_iff.mp (Nat.mod_lt _ (Nat.succ_pos _))
def Df {mask:Nat}{p:Probe}(h:In mask p):In mask (td mask p):=by
 unfold td
 by_cases hm:p.more > 0
 ·rw[GW hm];unfold In at *;dsimp only;omega
 ·rw[G8 hm]
  have:=hV (kf mask p.i p.perturb)
  unfold In;dsimp only;omega
theorem vN {mask:Nat}:∀(n:Nat) {p:Probe},In mask p->In mask (dR mask n p)
 | 0,_,h=>h
 |n + 1,_,h=>vN n (Df h)
def Es (mask:Nat)(h:Int):In mask (st mask h):=Dj (Nat.lt_succ_iff.mp (Nat.mod_lt _ (Nat.succ_pos _)))
theorem rn (mask:Nat):∀(k:Nat) (p:Probe),p.more=k->dR mask (k + 1) p={p with j:=(leap mask p.i p.perturb).1,more:=runEnd mask (leap mask p.i p.perturb).1 - (leap mask p.i p.perturb).1,i:=(leap mask p.i p.perturb).1,perturb:=(leap mask p.i p.perturb).2}
 | 0,p,h=>by
  show td mask p=_
  unfold td
  rw[G8 (by omega)]
 |k + 1,p,h=>by
  have e:td mask p={p with j:=p.j + 1,more:=p.more - 1}:=by unfold td;rw[GW (by omega)]
  show dR mask (k + 1) (td mask p)=_
  rw[e,rn mask k _ (by dsimp only;omega)]
def lG (mask i q:Nat):dR mask (runEnd mask i - i + 1) (wG mask i q)=wG mask (leap mask i q).1 (leap mask i q).2:=by
 exact rn mask _ (wG mask i q) rfl
theorem iH (mask i q:Nat):∀(k:Nat),k<=runEnd mask i - i->(dR mask k (wG mask i q))={wG mask i q with j:=i + k,more:=runEnd mask i - i - k}
 | 0,_=>rfl
 |k + 1,h=>by
  rw[jg mask k 1,iH mask i q k (by omega)]
  show td mask _=_
  unfold td
  rw[GW (by dsimp only;omega)]
  simp only[Probe.mk.injEq]
  refine⟨by omega,by omega,?_⟩
  trivial
def eY (mask:Nat):Nat->Nat×Nat->Nat×Nat
 | 0,x=>x
 |k + 1,x=>eY mask k (leap mask x.1 x.2)
theorem lY (mask:Nat):∀(k i q:Nat),i<=mask->∃n,n<=10 * k/\dR mask n (wG mask i q)=wG mask (eY mask k (i,q)).1 (eY mask k (i,q)).2
 | 0,i,q,_=>⟨0,GZ _,rfl⟩
 |k + 1,i,q,h=>by
  obtain⟨n,hn,e⟩:=lY mask k (leap mask i q).1 (leap mask i q).2 (kf _ _ _)
  have:=hV h
  refine⟨(runEnd mask i - i + 1) + n,by omega,?_⟩
  rw[jg,lG,e]
  rfl
theorem oG (mask:Nat):∀(a b:Nat) (x:Nat×Nat),eY mask (a + b) x=eY mask b (eY mask a x)
 | 0,b,x=>by rw[HW];rfl
 |a + 1,b,x=>by rw[Nat.add_right_comm];exact oG mask a b (leap mask x.1 x.2)
theorem rO (mask:Nat):∀(k:Nat) (x:Nat×Nat),x.1<=mask->(eY mask k x).1<=mask
 | 0,_,h=>h
 |k + 1,x,_=>rO mask k _ (kf mask x.1 x.2)
theorem jR (mask:Nat):∀(k:Nat) (x:Nat×Nat),(eY mask k x).2=x.2 / 32 ^ k
 | 0,x=>by simp[eY]
 |k + 1,x=>by
  show (eY mask k (leap mask x.1 x.2)).2=_
  rw[jR mask k,Nat.pow_succ,Nat.mul_comm,<-Nat.div_div_eq_div_mul]
  rfl
def nx (mask i:Nat):Nat:=(i * 5 + 1) % (mask + 1)
def xF (mask:Nat):Nat->Nat->Nat
 | 0,i=>i
 |k + 1,i=>xF mask k (nx mask i)
theorem mw (mask:Nat):∀(a b i:Nat),xF mask (a + b) i=xF mask b (xF mask a i)
 | 0,b,i=>by rw[HW];rfl
 |a + 1,b,i=>by rw[Nat.add_right_comm];exact mw mask a b (nx mask i)
theorem nC (mask:Nat):∀(k i:Nat),eY mask k (i,0)=(xF mask k i,0)
 | 0,_=>rfl
 |k + 1,i=>by
  show eY mask k (leap mask i 0)=_
  have:leap mask i 0=(nx mask i,0):=by simp[leap,nx]
  rw[this,nC mask k]
  rfl
def yB (mask:Nat):Prop:=mask=7\/mask=31\/mask=127
def DV (mask:Nat)(hm:yB mask):xF mask (mask + 1) 0=0/\∀j,j<=mask->∃k,k<=mask/\xF mask k 0=j:=by
 have h7:∀j:Nat,j < 8->∃k,k < 8/\xF 7 k 0=j:=by decide +kernel
 have h31:∀j:Nat,j < 32->∃k,k < 32/\xF 31 k 0=j:=by decide +kernel
 have h127:∀j:Nat,j < 128->∃k,k < 128/\xF 127 k 0=j:=by decide +kernel
 rcases hm with rfl |rfl |rfl
 ·exact⟨by decide +kernel,λj hj=>let ⟨k,a,b⟩:=h7 j (by omega);⟨k,by omega,b⟩⟩
 ·exact⟨by decide +kernel,λj hj=>let ⟨k,a,b⟩:=h31 j (by omega);⟨k,by omega,b⟩⟩
 ·exact⟨by decide +kernel,λj hj=>let ⟨k,a,b⟩:=h127 j (by omega);⟨k,by omega,b⟩⟩
def DY {mask:Nat}(hm:yB mask){i j:Nat}(hi:i<=mask)(hj:j<=mask):∃k,k<=mask/\xF mask k i=j:=by
 obtain⟨z,o⟩:=DV mask hm
 obtain⟨a,ha,ea⟩:=o i hi
 obtain⟨b,hb,eb⟩:=o j hj
 have back:xF mask (mask + 1 - a) i=0:=by
  rw[<-ea,<-mw,show a + (mask + 1 - a)=mask + 1 by omega];exact z
 by_cases hab:a<=b
 ·refine⟨b - a,by omega,?_⟩
  rw[<-ea,<-mw,show a + (b - a)=b by omega];exact eb
 ·refine⟨mask + 1 - a + b,by omega,?_⟩
  rw[mw,back];exact eb
def nk {mask:Nat}(hm:yB mask){i q j:Nat}(hi:i<=mask)(hq:q < 2 ^ 64)(hj:j<=mask):∃k,k<=mask + 13/\(eY mask k (i,q)).1=j:=by
 have hz:(eY mask 13 (i,q)).2=0:=by
  rw[jR]
  exact Nat.div_eq_of_lt (Hw hq (by decide))
 obtain⟨k,hk,e⟩:=DY hm (rO mask 13 (i,q) hi) hj
 refine⟨13 + k,by omega,?_⟩
 rw[oG]
 have:eY mask 13 (i,q)=((eY mask 13 (i,q)).1,0):=Prod.ext rfl hz
 rw[this,nC]
 exact e
def vM (h:Int):bits h < 2 ^ 64:=by
 unfold bits
 have:=Int.emod_lt_of_pos h (show (0:Int) < 2 ^ 64 by decide)
 have:=Int.emod_nonneg h (show (2 ^ 64:Int)≠0 by decide)
 omega
def zw {mask:Nat}(hm:yB mask)(h:Int){j:Nat}(hj:j<=mask):∃n,n < 10 * turns mask/\(dR mask n (st mask h)).j=j:=by
 have hi:bits h % (mask + 1)<=mask:=Nat.lt_succ_iff.mp (Nat.mod_lt _ (Nat.succ_pos _))
 obtain⟨k,hk,e⟩:=nk hm hi (vM h) hj
 obtain⟨n,hn,q⟩:=lY mask k (bits h % (mask + 1)) (bits h) hi
 refine⟨n,by unfold turns;omega,?_⟩
 show (dR mask n (wG mask _ _)).j=j
 rw[q];exact e
theorem y0 {t:SetTable}{hashAt:Nat->Int}{h:Int}:∀(n fuel:Nat) (p:Probe),n < fuel->p.dummy=none->
  (∀m,m < n->∃i,t.slot (dR t.mask m p).j=.live i/\hashAt i≠h)->t.slot (dR t.mask n p).j=.empty->
  probe.go t hashAt h fuel p=some (.empty (dR t.mask n p).j none):=by
 intro n
 induction n with
 |zero=>
  intro fuel p hf hd _ he
  obtain⟨f,rfl⟩:∃f,fuel=f + 1:=⟨fuel - 1,by omega⟩
  unfold probe.go
  have he':t.slot p.j=.empty:=he
  rw[he',hd]
  rfl
 |succ n ih=>
  intro fuel p hf hd hl he
  obtain⟨f,rfl⟩:∃f,fuel=f + 1:=⟨fuel - 1,by omega⟩
  unfold probe.go
  obtain⟨i,e,ne⟩:=hl 0 (by omega)
  have e':t.slot p.j=.live i:=e
  rw[e']
  dsimp only
  rw[G8 (by simpa using ne),zH]
  exact ih f (td t.mask p) (by omega) (xR hd) (λm hm=>hl (m + 1) (by omega)) he
theorem zh {t:SetTable}{hashAt:Nat->Int}{h:Int}:∀(n fuel:Nat) (p:Probe),n < fuel->
  (∀m,m<=n->∃i,t.slot (dR t.mask m p).j=.live i)->(∃i,t.slot (dR t.mask n p).j=.live i/\hashAt i=h)->
  ∃j i next,probe.go t hashAt h fuel p=some (.candidate j i next)/\t.slot j=.live i/\hashAt i=h:=by
 intro n
 induction n with
 |zero=>
  intro fuel p hf _ he
  obtain⟨f,rfl⟩:∃f,fuel=f + 1:=⟨fuel - 1,by omega⟩
  obtain⟨i,e,eh⟩:=he
  have e':t.slot p.j=.live i:=e
  unfold probe.go
  rw[e']
  dsimp only
  rw[GW (by simpa using eh)]
  exact⟨p.j,i,_,rfl,e',eh⟩
 |succ n ih=>
  intro fuel p hf hl he
  obtain⟨f,rfl⟩:∃f,fuel=f + 1:=⟨fuel - 1,by omega⟩
  obtain⟨i,e⟩:=hl 0 (by omega)
  have e':t.slot p.j=.live i:=e
  unfold probe.go
  rw[e']
  dsimp only
  by_cases hh:hashAt i=h
  ·rw[GW (by simpa using hh)]
   exact⟨p.j,i,_,rfl,e',hh⟩
  ·rw[G8 (by simpa using hh),zH]
   exact ih f (td t.mask p) (by omega) (λm hm=>hl (m + 1) (by omega)) he
def Reach (mask:Nat)(L:Nat->Prop)(h:Int)(j:Nat):Prop:=∃n,n < 10 * turns mask/\(dR mask n (st mask h)).j=j/\∀m,m < n->L (dR mask m (st mask h)).j
def Reach.mono {mask:Nat}{L L':Nat->Prop}{h:Int}{j:Nat}(r:Reach mask L h j)(k:∀x,L x->L' x):Reach mask L' h j:=
 let ⟨n,a,b,c⟩:=r;⟨n,a,b,λm hm=>k _ (c m hm)⟩
structure Tab (t:SetTable)(hs:List Int):Prop where
 mask:yB t.mask
 dum:t.dummies=#[]
 rise:iy t.place
 le:∀j,j∈t.place->j<=t.mask
 size:t.place.size=hs.length
 load:t.place.size * 5 < t.mask * 3
 reach:∀(i j:Nat) (h:Int),t.place[i]? =some j->hs[i]? =some h->Reach t.mask (· ∈t.place) h j
 plain:t.plain=true
theorem bF {α:Type}[DecidableEq α]:∀{l m:List α},l.Nodup->(∀x,x∈l->x∈m)->l.length<=m.length
 | [],_,_,_=>HK _
 |a :: l,m,hn,hs=>by
  have ha:=hs a (G6 ..)
  have hl:=HJ.mp hn
  have:=bF (l:=l) (m:=m.erase a) hl.2 λx hx=>by
   refine (List.mem_erase_of_ne ?_).mpr (hs x (GY _ hx))
   rintro rfl;exact hl.1 hx
  rw[JC ha] at this
  have:0 < m.length:=List.length_pos_of_mem ha
  simp only[Hr];omega
def tV {mask:Nat}{xs:Array Nat}(hl:xs.size<=mask):∃j,j<=mask/\j∉xs:=by
 refine Classical.byContradiction λhc=>?_
 have all:∀j,j∈List.range (mask + 1)->j∈xs.toList:=λj hj=>by
  have:=Hn.mp hj
  refine Classical.byContradiction λhn=>hc ⟨j,by omega,λz=>hn (by simpa using z)⟩
 have:=bF IP all
 simp at this
 omega
theorem qr {P:Nat->Prop}(h:∃n,P n):∃n,P n/\∀m,m < n->¬P m:=by
 obtain⟨n,hn⟩:=h
 induction n using Nat.strongRecOn with
 |_ n ih=>
  by_cases hc:∃m,m < n/\P m
  ·obtain⟨m,hm,hp⟩:=hc
   exact ih m hm hp
  ·exact⟨n,hn,λm hm hp=>hc ⟨m,hm,hp⟩⟩
section
variable {t:SetTable}{hs:List Int}
def Tab.load' (T:Tab t hs):t.place.size<=t.mask:=by have:=T.load;omega
def Tab.slotL (T:Tab t hs){j:Nat}(hj:j∈t.place):∃i,t.slot j=.live i/\t.place[i]? =some j:=by
 obtain⟨i,hi,e⟩:=Array.mem_iff_getElem.mp hj
 have q:t.place[i]? =some j:=by rw[Hv hi,e]
 exact⟨i,o5 T.rise q,q⟩
def Tab.slotE (T:Tab t hs){j:Nat}(hj:j∉t.place):t.slot j=.empty:=um T.dum hj
def Tab.first (T:Tab t hs)(h:Int):∃n,n < 10 * turns t.mask/\(dR t.mask n (st t.mask h)).j∉t.place/\∀m,m < n->(dR t.mask m (st t.mask h)).j∈t.place:=by
 obtain⟨j,hj,hn⟩:=tV T.load'
 obtain⟨n,h1,h2⟩:=zw T.mask h hj
 obtain⟨k,hk,hlt⟩:=qr (P:=λn=>(dR t.mask n (st t.mask h)).j∉t.place) ⟨n,by rw[h2];exact hn⟩
 refine⟨k,?_,hk,λm hm=>Classical.byContradiction λz=>hlt m hm z⟩
 rcases Ig n k with c |c
 ·exact absurd (show (dR t.mask n (st t.mask h)).j∉t.place by rw[h2];exact hn) (hlt n c)
 ·omega
def Tab.absent (T:Tab t hs){hashAt:Nat->Int}(ha:∀i,i < hs.length->some (hashAt i)=hs[i]?){h:Int}(hn:h∉hs) :
  ∃j,t.probe hashAt h (t.probeStart h)=some (.empty j none)/\j∉t.place/\j<=t.mask/\Reach t.mask (· ∈t.place) h j:=by
 obtain⟨n,h1,h2,h3⟩:=T.first h
 refine⟨(dR t.mask n (st t.mask h)).j,?_,h2,?_,⟨n,h1,rfl,h3⟩⟩
 ·unfold probe
  rw[B3]
  refine y0 n _ _ h1 rfl (λm hm=>?_) (T.slotE h2)
  obtain⟨i,e,q⟩:=T.slotL (h3 m hm)
  refine⟨i,e,λz=>hn ?_⟩
  have hi:i < hs.length:=by rw[<-T.size];exact (HS.mp q).1
  have:=ha i hi
  rw[z] at this
  exact Hi this.symm
 ·have:=vN n (Es t.mask h)
  unfold In at this;omega
def Tab.present (T:Tab t hs){hashAt:Nat->Int}(ha:∀i,i < hs.length->some (hashAt i)=hs[i]?){h:Int}(hm:h∈hs) :
  ∃j i next,t.probe hashAt h (t.probeStart h)=some (.candidate j i next)/\t.slot j=.live i/\i < hs.length/\hs[i]? =some h:=by
 obtain⟨i,hi,e⟩:=Hz.mp hm
 have hi':hs[i]? =some h:=by rw[GU hi,e]
 have hp:i < t.place.size:=by rw[T.size];exact hi
 obtain⟨n,h1,h2,h3⟩:=T.reach i t.place[i] h (Hv hp) hi'
 have hj:(dR t.mask n (st t.mask h)).j∈t.place:=by rw[h2];exact JH hp
 obtain⟨j',i',nx,g1,g2,g3⟩:=zh (t:=t) (hashAt:=hashAt) (h:=h) n (10 * turns t.mask) (st t.mask h) h1 (λm hm=>by
   rcases Ig m n with c |c
   ·obtain⟨i,e,_⟩:=T.slotL (h3 m c);exact⟨i,e⟩
   ·have:m=n:=by omega
    subst this
    obtain⟨i,e,_⟩:=T.slotL hj;exact⟨i,e⟩)
  ⟨i,by rw[h2];exact o5 T.rise (Hv hp),by
   have:=ha i hi
   rw[hi'] at this
   exact Option.some.inj this⟩
 have hi2:i' < t.place.size:=by
  unfold slot at g2
  dsimp only at g2
  split at g2
  ·rename_i c
   have c':t.place[below t.place j']? =some j':=by simpa using c
   cases g2
   exact (HS.mp c').1
  ·split at g2 <;> cases g2
 refine⟨j',i',nx,by unfold probe;rw[B3];exact g1,g2,by rw[<-T.size];exact hi2,?_⟩
 have:=ha i' (by rw[<-T.size];exact hi2)
 rw[g3] at this
 exact this.symm
end
def bE {α:Type}(xs:Array α)(p:Nat)(x:α)(_:p<=xs.size):(insertAt xs p x).toList=xs.toList.take p ++ x :: xs.toList.drop p:=by
 unfold insertAt
 simp[Array.toList_extract,List.extract_eq_take_drop]
 rw[IS (by simp)]
def oX (t:SetTable)(j:Nat)(hd:t.dummies=#[]):(t.put j).1={t with place:=insertAt t.place (below t.place j) j}/\(t.put j).2=below t.place j:=by
 unfold put
 dsimp only
 rw[hd,vO]
 exact⟨by simp,rfl⟩
section
variable {t:SetTable}{hs:List Int}
def kE {α:Type}{xs:Array α}{p:Nat}{x y:α}(hp:p<=xs.size):y∈insertAt xs p x↔y∈xs\/y=x:=by
 rw[<-Jb,bE xs p x hp,Hu,G7,<-Jb]
 have:y∈xs.toList↔y∈xs.toList.take p\/y∈xs.toList.drop p:=by
  conv=>lhs;rw[<-List.take_append_drop p xs.toList]
  exact Hu
 rw[this]
 constructor
 ·rintro (a |a |a)
  ·exact .inl (.inl a)
  ·exact .inr a
  ·exact .inl (.inr a)
 ·rintro ((a |a) |a)
  ·exact .inl a
  ·exact .inr (.inr a)
  ·exact .inr (.inl a)
def n5 {xs:Array Nat}(h:iy xs){j:Nat}(hj:j∉xs):iy (insertAt xs (below xs j) j):=by
 obtain⟨b1,b2,b3⟩:=c6 h j
 unfold iy
 rw[bE _ _ _ b1]
 have hl:∀y,y∈xs.toList.take (below xs j)->y < j:=λy hy=>by
  obtain⟨i,hi,e⟩:=Hz.mp hy
  have hi1:i < below xs j:=by simp at hi;omega
  have hi2:i < xs.size:=by omega
  have:=b2 i hi1
  rw[HE,Hv hi2] at this
  simp at e this
  omega
 have hr:∀y,y∈xs.toList.drop (below xs j)->j < y:=λy hy=>by
  obtain⟨i,hi,e⟩:=Hz.mp hy
  have hi2:below xs j + i < xs.size:=by simp at hi;omega
  have:=b3 (below xs j + i) (by omega) hi2
  rw[HE,Hv hi2] at this
  simp at e this
  rcases Ig j y with c |c
  ·exact c
  ·have:j=y:=by omega
   exact absurd (by rw[this,<-e];exact JH _) hj
 refine List.pairwise_append.mpr ⟨List.Pairwise.sublist (List.take_sublist ..) h,List.pairwise_cons.mpr ⟨λy hy=>hr y hy,List.Pairwise.sublist (List.drop_sublist ..) h⟩,λa ha b hb=>?_⟩
 rcases G7.mp hb with rfl |hb
 ·exact hl a ha
 ·exact Nat.lt_trans (hl a ha) (hr b hb)
def rQ {α:Type}(l:List α)(p:Nat)(x:α)(hp:p<=l.length)(i:Nat):(l.take p ++ x :: l.drop p)[i]? =if i < p then l[i]? else if i=p then some x else l[i - 1]?:=by
 rcases JG i p with c |c |c
 ·rw[GW c,HL (by simp;omega),List.getElem?_take_of_lt c]
 ·subst c
  rw[G8 (HG _),GW rfl,HH (by simp;omega),Ir,Nat.min_eq_left hp,Nat.sub_self]
  rfl
 ·rw[G8 (by omega),G8 (by omega),HH (by simp;omega),Ir,Nat.min_eq_left hp]
  obtain⟨k,rfl⟩:∃k,i=p + 1 + k:=⟨i - (p + 1),by omega⟩
  rw[show p + 1 + k - p=k + 1 by omega,List.getElem?_cons_succ,List.getElem?_drop]
  congr 1
  omega
def Tab.put (T:Tab t hs){j:Nat}{h:Int}(hj:j∉t.place)(hm:j<=t.mask)(r:Reach t.mask (· ∈t.place) h j)(hf:(t.place.size + 1) * 5 < t.mask * 3) :
  Tab (t.put j).1 (hs.take (t.put j).2 ++ h :: hs.drop (t.put j).2)/\(t.put j).2<=hs.length:=by
 obtain⟨e1,e2⟩:=oX t j T.dum
 obtain⟨b1,b2,b3⟩:=c6 T.rise j
 have hsz:(insertAt t.place (below t.place j) j).size=t.place.size + 1:=by
  rw[<-JA,bE _ _ _ b1]
  simp;omega
 have hl:below t.place j<=hs.length:=by rw[<-T.size];exact b1
 rw[e1,e2]
 refine⟨⟨T.mask,T.dum,n5 T.rise hj,λy hy=>?_,?_,?_,λi y g hy hg=>?_,T.plain⟩,hl⟩
 ·rcases (kE b1).mp hy with z |z
  ·exact T.le y z
  ·rw[z];exact hm
 ·show (insertAt t.place _ j).size=_
  rw[hsz,T.size];simp;omega
 ·show (insertAt t.place _ j).size * 5 < t.mask * 3
  rw[hsz];exact hf
 ·show Reach t.mask (· ∈insertAt t.place (below t.place j) j) g y
  have hy':(t.place.toList.take (below t.place j) ++ j :: t.place.toList.drop (below t.place j))[i]? =some y:=by
   rw[<-bE _ _ _ b1,IE];exact hy
  rw[rQ _ _ _ (by simpa using b1)] at hy'
  rw[rQ _ _ _ hl] at hg
  have old:∀{g y},Reach t.mask (· ∈t.place) g y->Reach t.mask (· ∈insertAt t.place (below t.place j) j) g y:=λr=>r.mono λx hx=>(kE b1).mpr (.inl hx)
  split at hy'
  ·rename_i c
   rw[GW c] at hg
   exact old (T.reach i y g (by simpa using hy') hg)
  ·rename_i c
   rw[G8 c] at hg
   split at hy'
   ·rename_i c2
    rw[GW c2] at hg
    cases hg;cases hy'
    exact old r
   ·rename_i c2
    rw[G8 c2] at hg
    exact old (T.reach (i - 1) y g (by simpa using hy') hg)
end
abbrev own (o:Array (Option Nat))(j:Nat):Option Nat:=o.getD j none
theorem xi {mask:Nat}{o:Array (Option Nat)}(hsz:o.size=mask + 1):∀(fuel i q:Nat) (j:Nat),i<=mask->layClean.free mask o fuel i q=some j->
  ∃n,n < 10 * fuel/\(dR mask n (wG mask i q)).j=j/\(∀m,m < n->(own o (dR mask m (wG mask i q)).j).isSome=true)/\own o j=none/\j<=mask:=by
 intro fuel
 induction fuel with
 |zero=>intro i q j _ h;unfold layClean.free at h;cases h
 |succ fuel ih=>
  intro i q j hi h
  unfold layClean.free at h
  have hr:=hV hi
  have ind:∀k,k<=runEnd mask i - i->o.getD (i + k) (some 0)=own o (i + k):=λk hk=>by
   have:i + k < o.size:=by omega
   simp[own,Array.getD,this]
  cases hf:(List.range (runEnd mask i + 1 - i)).find? λk=>(o.getD (i + k) (some 0)).isNone with
  |some k=>
   rw[hf] at h
   dsimp only at h
   have hk:=List.find?_eq_some_iff_getElem.mp hf
   obtain⟨hn,ix,hix,eix,hbef⟩:=hk
   have ek:ix=k:=by simpa using eix
   subst ek
   have hix':ix < runEnd mask i + 1 - i:=by simpa using hix
   cases h
   refine⟨ix,by omega,?_,λm hm=>?_,?_,by omega⟩
   ·rw[iH mask i q ix (by omega)]
   ·rw[iH mask i q m (by omega)]
    have:=hbef m hm
    simp only[List.getElem_range] at this
    rw[ind m (by omega)] at this
    dsimp only
    cases e:own o (i + m) with
    |none=>rw[e] at this;simp at this
    |some _=>rfl
   ·rw[ind ix (by omega)] at hn
    cases e:own o (i + ix) with
    |none=>rfl
    |some _=>rw[e] at hn;simp at hn
  |none=>
   rw[hf] at h
   dsimp only at h
   obtain⟨n,h1,h2,h3,h4,h5⟩:=ih _ _ j (kf mask i q) h
   have hnone:=List.find?_eq_none.mp hf
   refine⟨(runEnd mask i - i + 1) + n,by omega,?_,λm hm=>?_,h4,h5⟩
   ·rw[jg,lG];exact h2
   ·rcases Ig m (runEnd mask i - i + 1) with c |c
    ·rw[iH mask i q m (by omega)]
     have:=hnone m (Hn.mpr (by omega))
     rw[ind m (by omega)] at this
     dsimp only
     cases e:own o (i + m) with
     |none=>rw[e] at this;simp at this
     |some _=>rfl
    ·obtain⟨k,rfl⟩:∃k,m=(runEnd mask i - i + 1) + k:=⟨m - (runEnd mask i - i + 1),by omega⟩
     rw[jg,lG]
     exact h3 k (by omega)
theorem wV {mask:Nat}{o:Array (Option Nat)}(hsz:o.size=mask + 1):∀(fuel i q k:Nat),i<=mask->k < fuel->own o (eY mask k (i,q)).1=none->∃j,layClean.free mask o fuel i q=some j:=by
 intro fuel
 induction fuel with
 |zero=>intro i q k _ hk;omega
 |succ fuel ih=>
  intro i q k hi hk hn
  unfold layClean.free
  cases hf:(List.range (runEnd mask i + 1 - i)).find? λk=>(o.getD (i + k) (some 0)).isNone with
  |some k=>exact⟨_,rfl⟩
  |none=>
   dsimp only
   cases k with
   |zero=>
    have hr:=hV hi
    have:=List.find?_eq_none.mp hf 0 (Hn.mpr (by omega))
    have e:own o i=none:=hn
    have hi2:i < o.size:=by omega
    simp[own,Array.getD,hi2] at e this
    rw[e] at this;simp at this
   |succ k=>exact ih _ _ k (kf mask i q) (by omega) hn
structure Lay (mask:Nat)(o:Array (Option Nat))(hs:List Int):Prop where
 size:o.size=mask + 1
 all:∀k h,hs[k]? =some h->∃j,own o j=some k/\Reach mask (λx=>(own o x).isSome=true) h j
 one:∀j j' k,own o j=some k->own o j'=some k->j=j'
 le:∀j k,own o j=some k->j<=mask/\k < hs.length
def kC {o:Array (Option Nat)}{j x k:Nat}(hj:j < o.size):own (o.setIfInBounds j (some k)) x=if x=j then some k else own o x:=by
 unfold own
 rw[HE,HE,Array.getElem?_setIfInBounds]
 by_cases e:x=j
 ·subst e;simp[hj]
 ·rw[G8 e,G8 (λz=>e z.symm)]
def x9 {mask:Nat}(hm:yB mask){o:Array (Option Nat)}{hs:List Int}(L:Lay mask o hs)(h:Int)(hl:hs.length<=mask) :
  ∃j,layClean.free mask o (turns mask) (bits h % (mask + 1)) (bits h)=some j/\Lay mask (o.setIfInBounds j (some hs.length)) (hs ++ [h]):=by
 have hi:bits h % (mask + 1)<=mask:=Nat.lt_succ_iff.mp (Nat.mod_lt _ (Nat.succ_pos _))
 have hfree:∃j,j<=mask/\own o j=none:=by
  refine Classical.byContradiction λhc=>?_
  have hall:∀j,j<=mask->∃k,own o j=some k:=λj hj=>by
   cases e:own o j with
   |none=>exact absurd ⟨j,hj,e⟩ hc
   |some k=>exact⟨k,rfl⟩
  have nd:((List.range (mask + 1)).map λj=>(own o j).getD 0).Nodup:=by
   refine HM.mpr ?_
   refine Ij ?_ IP
   intro a b ha hb hab e
   obtain⟨ka,ea⟩:=hall a (by have:=Hn.mp ha;omega)
   obtain⟨kb,eb⟩:=hall b (by have:=Hn.mp hb;omega)
   rw[ea,eb] at e
   simp at e
   subst e
   exact hab (L.one a b ka ea eb)
  have:=bF (m:=List.range hs.length) nd λx hx=>by
   obtain⟨j,hj,rfl⟩:=Ha.mp hx
   obtain⟨k,e⟩:=hall j (by have:=Hn.mp hj;omega)
   rw[e]
   exact Hn.mpr (L.le j k e).2
  simp at this
  omega
 obtain⟨j0,hj0,hn0⟩:=hfree
 obtain⟨k,hk,ek⟩:=nk hm hi (vM h) hj0
 obtain⟨j,hj⟩:=wV L.size (turns mask) _ (bits h) k hi (by unfold turns;omega) (by rw[ek];exact hn0)
 refine⟨j,hj,?_⟩
 obtain⟨n,h1,h2,h3,h4,h5⟩:=xi L.size _ _ _ _ hi hj
 have hjs:j < o.size:=by rw[L.size];omega
 have grow:∀x,(own o x).isSome=true->(own (o.setIfInBounds j (some hs.length)) x).isSome=true:=λx hx=>by
  rw[kC hjs];split
  ·rfl
  ·exact hx
 refine⟨by rw[Array.size_setIfInBounds];exact L.size,λk g hg=>?_,λa b c ea eb=>?_,λa c ea=>?_⟩
 ·rcases Ig k hs.length with c |c
  ·rw[HL c] at hg
   obtain⟨x,ex,rx⟩:=L.all k g hg
   refine⟨x,?_,rx.mono grow⟩
   rw[kC hjs,G8 (λz=>?_)]
   ·exact ex
   ·subst z;rw[ex] at h4;cases h4
  ·rw[HH c] at hg
   have:k=hs.length:=by
    have:=(Hs.mp hg).1
    simp at this;omega
   subst this
   simp at hg
   subst hg
   exact⟨j,by rw[kC hjs,GW rfl],n,h1,h2,λm hm=>grow _ (h3 m hm)⟩
 ·rw[kC hjs] at ea eb
  split at ea
  ·cases ea
   split at eb
   ·omega
   ·have:=(L.le _ _ eb).2;omega
  ·split at eb
   ·cases eb
    have:=(L.le _ _ ea).2;omega
   ·exact L.one _ _ _ ea eb
 ·rw[kC hjs] at ea
  rw[HN]
  split at ea
  ·cases ea;simp;omega
  ·have:=L.le _ _ ea;simp;omega
theorem vJ {mask:Nat}(hm:yB mask):∀(rest hs:List Int) (o:Array (Option Nat)),Lay mask o hs->hs.length + rest.length<=mask->
  ∃o',rest.foldl (init:=some (o,hs.length)) (λacc h=>do
   let (owner,k) <-acc
   let j <-layClean.free mask owner (turns mask) (bits h % (mask + 1)) (bits h)
   pure (owner.setIfInBounds j (some k),k + 1))=some (o',hs.length + rest.length)/\Lay mask o' (hs ++ rest)
 | [],hs,o,L,_=>⟨o,rfl,by rw[IV];exact L⟩
 |h :: rest,hs,o,L,hl=>by
  simp only[Hr] at hl
  obtain⟨j,e,L'⟩:=x9 hm L h (by omega)
  obtain⟨o',e',L2⟩:=vJ hm rest (hs ++ [h]) _ L' (by simp;omega)
  refine⟨o',?_,by rw[IA] at L2;exact L2⟩
  rw[IY]
  simp only[Option.bind_eq_bind,Option.bind_some,e,Option.pure_def]
  have el:(hs ++ [h]).length=hs.length + 1:=by simp
  rw[el] at e'
  simp only[Option.bind_eq_bind,Option.pure_def] at e'
  rw[e']
  simp;omega
def vI (n j:Nat):own (Array.replicate n none) j=none:=by
 unfold own
 rw[HE,Array.getElem?_replicate]
 split <;> rfl
def A1 (mask:Nat):Lay mask (Array.replicate (mask + 1) none) []:=
 ⟨by simp,λk h e=>by simp at e,λj j' k e _=>by (rw[vI] at e;cases e),λj k e=>by (rw[vI] at e;cases e)⟩
def xy {mask:Nat}(hm:yB mask)(hs:Array Int)(hl:hs.size * 5 < mask * 3)(finger moves:Nat)(led:Bool) :
  ∃t order,laid mask finger moves led true hs=some (t,order)/\t.led=led/\t.mask=mask/\order.toList.Nodup/\(∀k,k∈order.toList↔k < hs.size)/\
   Tab t (order.toList.map λk=>hs.toList.getD k 0):=by
 obtain⟨o,e,L⟩:=vJ hm hs.toList [] _ (A1 mask) (by simp;omega)
 simp only[nil_append] at L
 have ec:layClean mask hs=some o:=by
  unfold layClean
  rw[<-Array.foldl_toList]
  simp only[List.length_nil] at e
  rw[e];rfl
 have hlive:∀j k,(j,k)∈((List.range (mask + 1)).filterMap λj=>(o.getD j none).map (j, ·))↔own o j=some k:=λj k=>by
  rw[ID]
  constructor
  ·rintro⟨x,_,q⟩
   cases ex:o.getD x none with
   |none=>rw[ex] at q;cases q
   |some y=>rw[ex] at q;simp at q;rw[<-q.1,<-q.2];exact ex
  ·intro q
   refine⟨j,Hn.mpr (by have:=(L.le j k q).1;omega),?_⟩
   have:o.getD j none=some k:=q
   rw[this];rfl
 have hpw:((List.range (mask + 1)).filterMap λj=>(o.getD j none).map (j, ·)).Pairwise (λa b=>a.1 < b.1):=by
  refine List.pairwise_filterMap.mpr ?_
  refine List.Pairwise.imp ?_ List.pairwise_lt_range
  intro a b hab x hx y hy
  cases ea:o.getD a none with
  |none=>rw[ea] at hx;cases hx
  |some u=>
   cases eb:o.getD b none with
   |none=>rw[eb] at hy;cases hy
   |some v=>
    rw[ea] at hx;rw[eb] at hy
    simp at hx hy
    rw[<-hx,<-hy];exact hab
 generalize hlv:((List.range (mask + 1)).filterMap λj=>(o.getD j none).map (j, ·))=live at hlive hpw
 refine⟨{mask,place:=(live.map (·.1)).toArray,dummies:=#[],finger,led,moves,plain:=true},(live.map (·.2)).toArray,?_,rfl,rfl,?_,λk=>?_,?_⟩
 ·unfold laid
  rw[ec]
  simp only[Option.bind_eq_bind,Option.bind_some,Option.pure_def,hlv]
 ·have:(live.map (·.2)).Nodup:=by
   refine HM.mpr (Ij ?_ hpw)
   intro a b ha hb hab ee
   have h1:=(hlive a.1 a.2).mp ha
   have h2:=(hlive b.1 b.2).mp hb
   rw[ee] at h1
   have:=L.one _ _ _ h1 h2
   omega
  simpa using this
 ·rw[Ha]
  constructor
  ·rintro⟨x,hx,rfl⟩
   have:=(L.le x.1 x.2 ((hlive x.1 x.2).mp hx)).2
   simpa using this
  ·intro hk
   have hk':k < hs.toList.length:=by simpa using hk
   obtain⟨j,ej,_⟩:=L.all k _ (GU hk')
   exact⟨(j,k),(hlive j k).mpr ej,rfl⟩
 ·have hord:live.length=hs.size:=by
   have a1:(live.map (·.2)).Nodup:=by
    refine HM.mpr (Ij ?_ hpw)
    intro a b ha hb hab ee
    have h1:=(hlive a.1 a.2).mp ha
    have h2:=(hlive b.1 b.2).mp hb
    rw[ee] at h1
    have:=L.one _ _ _ h1 h2
    omega
   have b1:=bF (m:=List.range hs.size) a1 λx hx=>by
    obtain⟨y,hy,rfl⟩:=Ha.mp hx
    have:=(L.le y.1 y.2 ((hlive y.1 y.2).mp hy)).2
    exact Hn.mpr (by simpa using this)
   have b2:=bF (l:=List.range hs.size) (m:=live.map (·.2)) IP λx hx=>by
    have hk':x < hs.toList.length:=by simpa using Hn.mp hx
    obtain⟨j,ej,_⟩:=L.all x _ (GU hk')
    exact Ha.mpr ⟨(j,x),(hlive j x).mpr ej,rfl⟩
   simp at b1 b2
   omega
  refine⟨hm,rfl,?_,λj hj=>?_,?_,?_,λi j h hi hh=>?_,rfl⟩
  ·show (live.map (·.1)).toArray.toList.Pairwise _
   rw[IB]
   exact HM.mpr hpw
  ·have:j∈live.map (·.1):=by simpa using hj
   obtain⟨x,hx,rfl⟩:=Ha.mp this
   exact (L.le x.1 x.2 ((hlive x.1 x.2).mp hx)).1
  ·simp
  ·show (live.map (·.1)).toArray.size * 5 < mask * 3
   simp[hord];exact hl
  ·have hi':(live.map (·.1))[i]? =some j:=by simpa using hi
   have hh':((live.map (·.2)).map λk=>hs.toList.getD k 0)[i]? =some h:=by simpa using hh
   rw[He] at hi'
   rw[He,He] at hh'
   cases ex:live[i]? with
   |none=>rw[ex] at hi';cases hi'
   |some x=>
    rw[ex] at hi' hh'
    simp at hi' hh'
    have hxl:=(hlive x.1 x.2).mp (Hi ex)
    have hk:=(L.le _ _ hxl).2
    have hk2:x.2 < hs.size:=by simpa using hk
    obtain⟨j2,ej2,r⟩:=L.all x.2 h (by
     rw[GU hk]
     simp[hk2] at hh'
     simpa using hh')
    have:j2=j:=by rw[<-hi'];exact L.one _ _ _ ej2 hxl
    subst this
    refine r.mono λy hy=>?_
    show y∈(live.map (·.1)).toArray
    cases ey:own o y with
    |none=>rw[ey] at hy;cases hy
    |some k=>
     have:y∈live.map (·.1):=Ha.mpr ⟨(y,k),(hlive y k).mpr ey,rfl⟩
     simpa using this
abbrev Pr:=Int×Int
def hp (p:Pr):Int:=reduceHash (Builtin.Tuple.tupleHashOf [hashInt p.1,hashInt p.2])
def Sm (p:Pr):Prop:=(0<=p.1/\p.1 < 8)/\(0<=p.2/\p.2 < 8)
def lj:List Pr:=(List.range 64).map λk=>(((k / 8:Nat):Int),((k % 8:Nat):Int))
def gr {p:Pr}(h:Sm p):p∈lj:=by
 unfold lj
 obtain⟨⟨a,b⟩,c,d⟩:=h
 refine Ha.mpr ⟨p.1.toNat * 8 + p.2.toNat,Hn.mpr (by omega),?_⟩
 refine Prod.ext ?_ ?_ <;> dsimp only <;> omega
def zx:(lj.map hp).Nodup:=by decide +kernel
theorem kh {α β:Type}{f:α->β}:∀{l:List α},(l.map f).Nodup->∀a b,a∈l->b∈l->f a=f b->a=b
 | [],_,_,_,h,_,_=>by cases h
 |x :: l,hn,a,b,ha,hb,e=>by
  have hn':=HJ.mp hn
  rcases G7.mp ha with ea |ha
  ·rcases G7.mp hb with eb |hb
   ·rw[ea,eb]
   ·exact absurd (Ha.mpr ⟨b,hb,by rw[<-e,ea]⟩) hn'.1
  ·rcases G7.mp hb with eb |hb
   ·exact absurd (Ha.mpr ⟨a,ha,by rw[e,eb]⟩) hn'.1
   ·exact kh hn'.2 a b ha hb e
def CS {p q:Pr}(hp1:Sm p)(hq:Sm q)(e:hp p=hp q):p=q:=kh zx p q (gr hp1) (gr hq) e
def tP {l:List Pr}(hn:l.Nodup)(h:∀p,p∈l->Sm p):l.length<=64:=by
 have:=bF (m:=lj) hn λx hx=>gr (h x hx)
 simpa[lj] using this
section
variable {prog:Program}{w:World}{A:Around}{E:Value->Shared->Prop}{s:Shared}
abbrev bw (prog:Program)(w:World)(h:Heap)(p:Pr)(a:Addr):Prop:=IsTupleKey (intKind prog w) h [p.1,p.2] a
def bw.inj {h:Heap}{p q:Pr}{a:Addr}(x:bw prog w h p a)(y:bw prog w h q a):p=q:=by
 have:=IsTupleKey.inj x y
 simp at this
 exact Prod.ext this.1 this.2
structure p7 (f:Pr->Int)(prog:Program)(w:World)(led:Bool)(h:Heap)(S:Addr)(ps:List (Addr×Pr)):Prop where
 ex:∃o ep t,h.get? S=some o/\o.ExactSet/\o.data=.set (ps.map λq=>(f q.2,Value.ref q.1)).toArray ep t/\Tab t (ps.map λq=>f q.2)/\t.led=led
 at':∀q,q∈ps->bw prog w h q.2 q.1/\Sm q.2
 nd:(ps.map (·.2)).Nodup
def nV {t:SetTable}{hs:List Int}(T:Tab t hs){n:Nat}(e:n=hs.length):t.fits n=true:=by
 unfold SetTable.fits SetTable.fill
 have:=T.load'
 simp[T.size,T.dum,e]
 rw[T.size] at this;exact this
def zz (a:Addr)(wanted:Nat):setRelay a wanted=(do
  let (es,_,t) <-setState a
  if SetTable.sizeAbove wanted > sizeLine then unsupported "set:memory"
  let (es,t) <-(do
   let some (t,order):=t.relaid (es.map (·.1)) wanted |unsupported "internal:set-table-without-room"
   let es':=order.filterMap (es[·]?)
   if es'.size != es.size then unsupported "internal:set-table-lost-an-element"
   pure (es',t))
  storeSet a es t):=rfl
def wj (a:Addr)(x:Value)(h:Int)(fuel:Nat):setSearchFrom a x h true (fuel + 1) none=(do
  let (es,_,t) <-setState a
  if t.gaveWay then unsupported "set:on-a-table-that-gave-way"
  let some met:=t.probe (λi=>(es[i]?.map (·.1)).getD 0) h (t.probeStart h) |unsupported "internal:set-table-without-an-empty-slot"
  match met with
  | .empty j dummy=>
   match dummy with
   |none=>return .free j false
   |some d=>
    if true && t.slot d != .dummy then rule "set.search.the-dummy-was-taken";return <-setSearchFrom a x h true fuel none
    return .free d true
  | .candidate j i next=>
   if !t.led then
    if <-searchCouldBeSeen x ((es.filter (·.1 == h)).toList.map (·.2)) then unsupported "set:the-search-would-show-the-table"
   let some (_,y):=es[i]? |unsupported "internal:set-entry"
   let equal <-holding [y] (eqBool y x)
   let (es',_,t') <-setState a
   if true && equal then return .there none
   let some same:=t'.sameMemory t.moves t.mask |unsupported "set.changed-during-lookup:is-the-new-block-at-the-old-address"
   let still <-match (if same then t'.slot j else .empty) with
    | .live i'=>match es'[i']? with
     |some (_,y')=>do pure (if <-isSame y' y then some i' else none)
     |none=>pure none
    |_=>pure none
   match still with
   |none=>rule "set.search.anew";setSearchFrom a x h true fuel none
   |some i'=>if equal then return .there (some i') else setSearchFrom a x h true fuel (some next)):=rfl
theorem sI (n:Nat){v:Value}(h:carriedByValue v=true):ofAClassStatement n v=pure false:=by
 cases v with
 |ref a=>simp[carriedByValue] at h
 |_=>first |rfl | (unfold ofAClassStatement;rfl)
def tm (n:Nat){v:Value}{k:Int}(h:(intKind prog w).is k v=true):hashByValue n v=pure true:=by
 obtain⟨t,rfl⟩:=II h
 cases n <;> rfl
def km {p:Pr}{a:Addr}{Q:Bool->Shared->Prop}(hk:bw prog w s.heap p a)(h:Q false s):wpAny (model prog w) A (ofAClassStatement 8 (.ref a)) Q E s:=by
 have hT:=hk.typeIs
 obtain⟨o,items,n,ho,hc,hd,hi⟩:=hk
 unfold ofAClassStatement
 refine GS (wpAny_typeOf hT ?_)
 dsimp only
 rw[GW (by decide)]
 refine GS (GX ?_)
 simp only[Jk,Hg,HI]
 refine GS (wpAny_seqItems ho hd ?_)
 dsimp only
 refine GS ?_
 rw[<-Array.forIn_toList]
 refine wpAny_forIn_list _ (λrest r s'=>r.1=none/\s'=s/\∀v∈rest,carriedByValue v=true) _ ?_ ?_ _ _ ⟨rfl,rfl,hi.byValue⟩
 ·rintro v rest r s' ⟨hr,rfl,hall⟩
  rw[sI _ (hall v G6)]
  refine GS (GX ?_)
  simp only[Hg,HI]
  exact GX ⟨rfl,rfl,λu hu'=>hall u (GY _ hu')⟩
 ·rintro⟨r1,r2⟩ s' ⟨hr,rfl,_⟩
  simp only at hr
  subst hr
  exact GX h
def sJ {p:Pr}{a:Addr}{Q:Bool->Shared->Prop}(hk:bw prog w s.heap p a)(h:Q true s):wpAny (model prog w) A (hashByValue 8 (.ref a)) Q E s:=by
 have hT:=hk.typeIs
 obtain⟨o,items,n,ho,hc,hd,hi⟩:=hk
 unfold hashByValue
 refine GS (wpAny_specialOf hT F.slot_tuple_hash.lookup ?_)
 dsimp only
 refine GS (wpAny_seqItems ho hd ?_)
 simp only[Option.getD_some]
 refine GS ?_
 rw[<-Array.forIn_toList]
 refine wpAny_forIn_list _ (λrest r s'=>r.1=none/\s'=s/\∀v∈rest,∃k,(intKind prog w).is k v=true) _ ?_ ?_ _ _ ⟨rfl,rfl,λv hv=>?_⟩
 ·rintro v rest r s' ⟨hr,rfl,hall⟩
  obtain⟨k,hk⟩:=hall v G6
  rw[tm _ hk]
  refine GS (GX ?_)
  simp only[Jk,Hg,HI]
  exact GX ⟨rfl,rfl,λu hu'=>hall u (GY _ hu')⟩
 ·rintro⟨r1,r2⟩ s' ⟨hr,rfl,_⟩
  simp only at hr
  subst hr
  exact GX h
 ·generalize items.toList=l at *
  cases hi with
  |cons h1 hi=>
   cases hi with
   |cons h2 hi=>
    cases hi
    rcases G7.mp hv with rfl |hv
    ·exact⟨_,h1⟩
    ·rcases G7.mp hv with rfl |hv
     ·exact⟨_,h2⟩
     ·cases hv
def t5 {p:Pr}{a:Addr}(hk:bw prog w s.heap p a):∀(l:List Value) {Q:Bool->Shared->Prop},(∀v∈l,∃q b,v=.ref b/\bw prog w s.heap q b)->Q false s->wpAny (model prog w) A (searchCouldBeSeen (.ref a) l) Q E s:=by
 intro l Q hl h
 unfold searchCouldBeSeen
 refine GS ?_
 refine wpAny_forIn_list _ (λrest r s'=>r.1=none/\s'=s/\∀v∈rest,∃q b,v=.ref b/\bw prog w s.heap q b) _ ?_ ?_ _ _ ⟨rfl,rfl,hl⟩
 ·rintro v rest r s' ⟨hr,rfl,hall⟩
  obtain⟨q,b,rfl,hb⟩:=hall v G6
  have hrest:=λu hu'=>hall u (GY _ hu')
  dsimp only
  split
  ·exact GX ⟨rfl,rfl,hrest⟩
  ·refine GS (wpAny_eqIsQuiet_tuple hk ?_)
   simp only[Jk,Hg,HI]
   refine GS (wpAny_eqIsQuiet_tuple hb ?_)
   simp only[Jk,Hg,HI]
   refine GS (km hk ?_)
   simp only[Hg,HI]
   refine GS (km hb ?_)
   simp only[Hg,HI]
   exact GX ⟨rfl,rfl,hrest⟩
 ·rintro⟨r1,r2⟩ s' ⟨hr,rfl,_⟩
  simp only at hr
  subst hr
  exact GX h
end
section
variable {prog:Program}{w:World}{A:Around}{E:Value->Shared->Prop}{s:Shared}
def sf (t:SetTable)(hs:Array Int)(wanted:Nat)(hp:t.plain=true):t.relaid hs wanted=laid (sizeAbove wanted - 1) t.finger (t.movedTo (sizeAbove wanted - 1)) t.led true hs:=by
 unfold relaid;rw[hp]
def BZ:sizeAbove (grown 5)=32/\sizeAbove (grown 19)=128:=by decide +kernel
theorem filterMap_get {α:Type}(es:Array α):∀(order:List Nat),(∀k,k∈order->k < es.size)->∃l:List α,order.filterMap (λi=>es[i]?)=l/\l.length=order.length/\(∀(i k:Nat),order[i]? =some k->l[i]? =es[k]?)/\∀x,x∈l->∃k,k∈order/\es[k]? =some x
 | [],_=>⟨[],rfl,rfl,λi k h=>by simp at h,λx hx=>by cases hx⟩
 |k :: r,h=>by
  obtain⟨l,e1,e2,e3,e4⟩:=filterMap_get es r λx hx=>h x (GY _ hx)
  have hk:=h k (G6 ..)
  refine⟨es[k] :: l,by rw[Jz,Hv hk,e1],by simp[e2],λi x hi=>?_,λx hx=>?_⟩
  ·cases i with
   |zero=>simp at hi;subst hi;simp[hk]
   |succ i=>simp at hi;simpa using e3 i x hi
  ·rcases G7.mp hx with rfl |hx
   ·exact⟨k,G6 ..,by simp[hk]⟩
   ·obtain⟨y,hy,q⟩:=e4 x hx
    exact⟨y,GY _ hy,q⟩
abbrev dm (f:Pr->Int)(q:Addr×Pr):Int×Value:=(f q.2,Value.ref q.1)
def qh (f:Pr->Int){mask:Nat}(hm:yB mask){ps:List (Addr×Pr)}(hl:ps.length * 5 < mask * 3)(finger moves:Nat)(led:Bool) :
  ∃(t:SetTable) (order:Array Nat) (ps':List (Addr×Pr)),laid mask finger moves led true ((ps.map (dm f)).toArray.map (·.1))=some (t,order)/\order.filterMap (λi=>(ps.map (dm f)).toArray[i]?)=(ps'.map (dm f)).toArray/\ps'.length=ps.length/\
   (∀q,q∈ps'↔q∈ps)/\Tab t (ps'.map λq=>f q.2)/\t.led=led:=by
 obtain⟨t,order,e,el,em,nd,mem,T⟩:=xy hm ((ps.map (dm f)).toArray.map (·.1)) (by simpa using hl) finger moves led
 have hsz:((ps.map (dm f)).toArray.map (·.1)).size=ps.length:=by simp
 obtain⟨ps',f1,f2,f3,f4⟩:=filterMap_get ps.toArray order.toList λk hk=>by
  have:=(mem k).mp hk;rw[hsz] at this;simpa using this
 have hlen:order.toList.length=ps.length:=by
  have a1:=bF (m:=List.range ps.length) nd λx hx=>Hn.mpr (by have:=(mem x).mp hx;rwa [hsz] at this)
  have a2:=bF (l:=List.range ps.length) (m:=order.toList) IP λx hx=>(mem x).mpr (by rw[hsz];exact Hn.mp hx)
  simp at a1 a2 ⊢;omega
 refine⟨t,order,ps',e,?_,by omega,λq=>⟨λhq=>?_,λhq=>?_⟩,?_,el⟩
 ·apply Array.toList_inj.mp
  rw[Array.toList_filterMap,<-f1]
  simp only[IB]
  rw[List.map_filterMap]
  congr 1
  funext i
  simp
 ·obtain⟨k,_,q2⟩:=f4 q hq
  rw[List.getElem?_toArray] at q2
  exact Hi q2
 ·obtain⟨k,hk,q2⟩:=Hz.mp hq
  have hko:k∈order.toList:=(mem k).mpr (by rw[hsz];exact hk)
  obtain⟨i,hi,e2⟩:=Hz.mp hko
  have:=f3 i k (by rw[GU hi,e2])
  rw[List.getElem?_toArray,GU hk,q2] at this
  exact Hi this
 ·have:(order.toList.map λk=>((ps.map (dm f)).toArray.map (·.1)).toList.getD k 0)=ps'.map λq=>f q.2:=by
   apply JI
   intro i
   rw[He,He]
   cases hi:order.toList[i]? with
   |none=>
    have:ps'[i]? =none:=List.getElem?_eq_none_iff.mpr (by rw[f2];exact List.getElem?_eq_none_iff.mp hi)
    rw[this];rfl
   |some k=>
    have hk:k < ps.length:=by have:=(mem k).mp (Hi hi);rwa [hsz] at this
    have:=f3 i k hi
    rw[List.getElem?_toArray,GU hk] at this
    rw[this]
    simp[hk]
  rw[<-this];exact T
theorem lZ:∀{l m:List Int},m.Nodup->(∀x,x∈m->x∈l)->l.length<=m.length->l.Nodup
 | [],_,_,_,_=>Jp
 |a :: l,m,hn,hs,hl=>by
  by_cases ha:a∈m
  ·have hnot:a∉l:=λz=>by
    have:=bF (m:=l) hn λx hx=>by
     rcases G7.mp (hs x hx) with e |e
     ·rw[e];exact z
     ·exact e
    simp only[Hr] at hl;omega
   refine HJ.mpr ⟨hnot,lZ (m:=m.erase a) (hn.erase a) (λx hx=>?_) ?_⟩
   ·have:=(hn.mem_erase_iff).mp hx
    rcases G7.mp (hs x this.2) with e |e
    ·exact absurd e this.1
    ·exact e
   ·rw[JC ha];simp only[Hr] at hl;omega
  ·have:=bF (m:=l) hn λx hx=>by
    rcases G7.mp (hs x hx) with e |e
    ·exact absurd (e▸hx) ha
    ·exact e
   simp only[Hr] at hl;omega
def qA (a:Addr)(es:Array (Int×Value)):byScan (.ref a) es=false:=by unfold byScan Value.scannable;simp
def ua {t:SetTable}(h:yB t.mask):t.gaveWay=false:=by
 unfold SetTable.gaveWay
 rcases h with e |e |e <;> rw[e] <;> decide
def p7.add {f:Pr->Int}(hinj:∀p q,Sm p->Sm q->f p=f q->p=q){led:Bool}{S a:Addr}{ps:List (Addr×Pr)}{p:Pr}{Q:Bool->Shared->Prop}(P:p7 f prog w led s.heap S ps)(hk:bw prog w s.heap p a)(hs:Sm p)(hu:A.units < cLine)
  (h:∀(b:Bool) (h':Heap) (ps':List (Addr×Pr)),Heap.SameBut S s.heap h'->p7 f prog w led h' S ps'->(∀q,q∈ps'->q∈ps\/q=(a,p))->(∀q,q∈ps->q∈ps')->(∃q,q∈ps'/\q.2=p)->Q b {s with heap:=h'}) :
  wpAny (model prog w) A (setAddHashed S (.ref a) (f p)) Q E s:=by
 obtain⟨o,ep,t,ho,hex,hd,T,hled⟩:=P.ex
 have hfit:t.fits (ps.map (dm f)).toArray.size=true:=nV T (by simp)
 have ha:∀i,i < (ps.map λq=>f q.2).length->some ((((ps.map (dm f)).toArray)[i]?.map (·.1)).getD 0)=(ps.map λq=>f q.2)[i]?:=λi hi=>by
  have hi':i < ps.length:=by simpa using hi
  simp[hi']
 unfold setAddHashed
 refine Im ?_
 unfold setAddHashedIn
 refine GS (HX ho hd hfit ?_)
 dsimp only
 rw[qA]
 simp only[Hg,HI]
 unfold setSearch
 rw[wj]
 refine GS (GS (HX ho hd hfit ?_))
 dsimp only
 rw[ua T.mask]
 simp only[Hg,HI]
 by_cases hm:f p∈ps.map λq=>f q.2
 ·
  obtain⟨j,i,nx,e1,e2,e3,e4⟩:=T.present ha hm
  rw[e1]
  dsimp only
  have hi:i < ps.length:=by simpa using e3
  have e5:f (ps[i].2)=f p:=by
   rw[He,GU hi] at e4
   simpa using e4
  have hq:=P.at' ps[i] (Iu hi)
  have e6:ps[i].2=p:=hinj _ _ hq.2 hs e5
  have hget:((ps.map (dm f)).toArray)[i]? =some (f ps[i].2,.ref ps[i].1):=by simp[hi]
  have rest:wpAny (model prog w) A (do
    let some (_,y):=((ps.map (dm f)).toArray)[i]? |unsupported "internal:set-entry"
    let equal <-holding [y] (eqBool y (.ref a))
    let (es',_,t') <-setState S
    if true && equal then return SetFound.there none
    let some same:=t'.sameMemory t.moves t.mask |unsupported "set.changed-during-lookup:is-the-new-block-at-the-old-address"
    let still <-match (if same then t'.slot j else .empty) with
     | .live i'=>match es'[i']? with
      |some (_,y')=>do pure (if <-isSame y' y then some i' else none)
      |none=>pure none
     |_=>pure none
    match still with
    |none=>rule "set.search.anew";setSearchFrom S (.ref a) (f p) true 99999 none
    |some i'=>if equal then return .there (some i') else setSearchFrom S (.ref a) (f p) true 99999 (some nx))
    (λr s'=>s'=s/\r=.there none) E s:=by
   rw[hget]
   dsimp only
   refine GS (Im (wpAny_eqBool_tuple hu hq.1 hk ?_))
   rw[Hb (by rw[e6])]
   refine GS (HX ho hd hfit ?_)
   dsimp only
   simp only[Jw,Ic]
   exact GX ⟨rfl,rfl⟩
  have fin:∀r s',s'=s/\r=SetFound.there none->wpAny (model prog w) A (match r with
    | .free slot wasDummy=>(do
     let (es,_,t) <-setState S
     let (t,p'):=t.put slot
     let byValue <-if t.plain then hashByValue 8 (.ref a) else pure true
     let t:=if byValue then t else {t with plain:=false}
     storeSet S (SetTable.insertAt es p' (f p,.ref a)) t
     if !wasDummy && t.tooFull then setRelay S (SetTable.grown (es.size + 1))
     return true)
    |_=>pure false) Q E s':=by
   rintro r s' ⟨rfl,rfl⟩
   exact GX (h false s'.heap ps (Heap.SameBut.refl ..) P (λq hq=>.inl hq) (λq hq=>hq) ⟨ps[i],Iu hi,e6⟩)
  cases hl:led with
  |true=>
   rw[hled,hl]
   simp only[Jk,Hg,HI]
   exact IC rest (λr s' hr=>fin r s' hr) λ_ _ x=>x
  |false=>
   rw[hled,hl]
   simp only[Bool.not_false,Ic]
   refine GS (t5 hk _ (λv hv=>?_) ?_)
   ·obtain⟨x,hx,rfl⟩:=Ha.mp hv
    have hx':x∈(ps.map (dm f)).toArray:=(Array.mem_filter.mp (Jb.mp hx)).1
    have hx2:x∈ps.map (dm f):=by simpa using hx'
    obtain⟨q,hq,rfl⟩:=Ha.mp hx2
    exact⟨q.2,q.1,rfl,(P.at' q hq).1⟩
   ·simp only[Hg,HI]
    exact IC rest (λr s' hr=>fin r s' hr) λ_ _ x=>x
 ·
  obtain⟨j,e1,e2,e3,e4⟩:=T.absent ha hm
  rw[e1]
  dsimp only
  refine GX ?_
  dsimp only
  refine GS (HX ho hd hfit ?_)
  dsimp only
  obtain⟨q1,q2⟩:=oX t j T.dum
  have hpl:(t.put j).1.plain=true:=by rw[q1];exact T.plain
  rw[hpl]
  simp only[Ic]
  refine GS (sJ hk ?_)
  simp only[Ic]
  have hb:(t.put j).2<=ps.length:=by
   rw[q2]
   have:=(c6 T.rise j).1
   rw[T.size] at this;simpa using this
  have hins:insertAt (ps.map (dm f)).toArray (t.put j).2 (f p,Value.ref a)=((ps.take (t.put j).2 ++ (a,p) :: ps.drop (t.put j).2).map (dm f)).toArray:=by
   apply Array.toList_inj.mp
   rw[bE _ _ _ (by simpa using hb)]
   simp[List.map_take,List.map_drop]
  rw[hins]
  generalize hps':ps.take (t.put j).2 ++ (a,p) :: ps.drop (t.put j).2=ps1
  have mem1:∀q,q∈ps1↔q∈ps\/q=(a,p):=λq=>by
   rw[<-hps',Hu,G7]
   conv=>rhs;rw[<-List.take_append_drop (t.put j).2 ps,Hu]
   constructor
   ·rintro (z |z |z)
    ·exact .inl (.inl z)
    ·exact .inr z
    ·exact .inl (.inr z)
   ·rintro ((z |z) |z)
    ·exact .inl z
    ·exact .inr (.inr z)
    ·exact .inr (.inl z)
  have len1:ps1.length=ps.length + 1:=by rw[<-hps'];simp;omega
  have nd1:(ps1.map (·.2)).Nodup:=by
   have hnot:p∉ps.map (·.2):=λz=>by
    obtain⟨q,hq,e⟩:=Ha.mp z
    exact hm (Ha.mpr ⟨q,hq,by rw[e]⟩)
   have perm:(ps1.map (·.2)).Perm (p :: ps.map (·.2)):=by
    rw[<-hps']
    have:(ps.take (t.put j).2 ++ (a,p) :: ps.drop (t.put j).2).Perm ((a,p) :: ps):=by
     refine List.perm_middle.trans ?_
     rw[List.take_append_drop]
    exact this.map (·.2)
   exact perm.nodup_iff.mpr (HJ.mpr ⟨hnot,P.nd⟩)
  have ne:∀b q,bw prog w s.heap q b->b≠S:=λb q ⟨o',_,_,ho',_,hd',_⟩ e=>by
   subst e
   rw[ho] at ho';cases ho'
   rw[hd] at hd';cases hd'
  have at1:∀{h':Heap},Heap.SameBut S s.heap h'->∀q,q∈ps1->bw prog w h' q.2 q.1/\Sm q.2:=λ{h'} hsb q hq=>by
   have key:∀{b:Addr} {q:Pr},bw prog w s.heap q b->bw prog w h' q b:=λ{b q} hb=>by
    have hne:=ne b q hb
    obtain⟨o',i',n',ho',r'⟩:=hb
    exact⟨o',i',n',(hsb.2 b hne).trans ho',r'⟩
   rcases (mem1 q).mp hq with z |z
   ·exact⟨key (P.at' q z).1,(P.at' q z).2⟩
   ·subst z;exact⟨key hk,hs⟩
  have hlen64:ps1.length<=64:=by
   have:=tP nd1 λx hx=>by
    obtain⟨q,hq,rfl⟩:=Ha.mp hx
    exact (at1 (Heap.SameBut.refl ..) q hq).2
   simpa using this
  have hsize:((ps1.map (dm f)).toArray).size<=sizeLine:=by rw[HB];simp;omega
  refine GS (wpAny_storeSet_of ho hd ?_ hsize)
  have ho1:(s.heap.update S (Obj.putSet (ps1.map (dm f)).toArray (t.put j).1)).get? S=some {o with data:=.set (ps1.map (dm f)).toArray (ep + 1) (t.put j).1}:=by
   have:=HQ (Obj.putSet (ps1.map (dm f)).toArray (t.put j).1) ho (by rw[putSet_of _ _ hd];rfl)
   rw[putSet_of _ _ hd] at this;exact this
  have sb1:=Heap.SameBut.update s.heap S (Obj.putSet (ps1.map (dm f)).toArray (t.put j).1)
  have hex1:({o with data:=.set (ps1.map (dm f)).toArray (ep + 1) (t.put j).1}:Obj).ExactSet:=hex
  have psz:(t.put j).1.place.size=ps.length + 1:=by
   rw[q1]
   show (insertAt t.place (below t.place j) j).size=_
   rw[<-JA,bE _ _ _ (c6 T.rise j).1]
   have:=T.size
   simp at this ⊢
   have:=(c6 T.rise j).1
   omega
  have dum1:(t.put j).1.dummies=#[]:=by rw[q1];exact T.dum
  have mask1:(t.put j).1.mask=t.mask:=by rw[q1]
  have tsz:t.place.size=ps.length:=by simpa using T.size
  simp only[Bool.not_false,Bool.true_and]
  cases htf:(t.put j).1.tooFull with
  |false=>
   simp only[Hg,HI]
   have hload:(t.place.size + 1) * 5 < t.mask * 3:=by
    unfold SetTable.tooFull SetTable.fill at htf
    rw[psz,dum1,mask1] at htf
    simp at htf
    rw[tsz];exact htf
   obtain⟨T1,_⟩:=T.put e2 e3 e4 hload
   refine GS (GX (GX (h true _ ps1 sb1 ⟨⟨_,ep + 1,_,ho1,hex1,rfl,?_,?_⟩,at1 sb1,nd1⟩ (λq hq=>(mem1 q).mp hq) (λq hq=>(mem1 q).mpr (.inl hq)) ⟨(a,p),(mem1 _).mpr (.inr rfl),rfl⟩)))
   ·rw[<-hps']
    simpa[List.map_take,List.map_drop] using T1
   ·rw[q1];exact hled
  |true=>
   simp only[Ic]
   have hfull:t.mask * 3<=(ps.length + 1) * 5:=by
    unfold SetTable.tooFull SetTable.fill at htf
    rw[psz,dum1,mask1] at htf
    simpa using htf
   have hload:=T.load
   rw[tsz] at hload
   have hcase:∃mask',yB mask'/\sizeAbove (grown (ps.length + 1)) - 1=mask'/\sizeAbove (grown (ps.length + 1))<=sizeLine/\(ps.length + 1) * 5 < mask' * 3:=by
    rcases T.mask with e |e |e
    ·have:ps.length + 1=5:=by rw[e] at hfull hload;omega
     rw[this,BZ.1]
     exact⟨31,.inr (.inl rfl),rfl,by rw[HB];decide,by decide⟩
    ·have:ps.length + 1=19:=by rw[e] at hfull hload;omega
     rw[this,BZ.2]
     exact⟨127,.inr (.inr rfl),rfl,by rw[HB];decide,by decide⟩
    ·rw[e] at hfull;omega
   obtain⟨mask',hm3,em,hline,hl2⟩:=hcase
   have hes:(ps.map (dm f)).toArray.size + 1=ps.length + 1:=by simp
   rw[hes,zz]
   have hfit1:(t.put j).1.fits ((ps1.map (dm f)).toArray).size=true:=by
    unfold SetTable.fits SetTable.fill
    have hpl2:ps.length + 1<=t.mask:=by
     rcases T.mask with e |e |e <;> rw[e] at hload ⊢ <;> omega
    rw[psz,dum1,mask1]
    simp[len1,hpl2]
   refine GS (GS (HX ho1 rfl hfit1 ?_))
   dsimp only
   rw[G8 (by omega)]
   rw[sf _ _ _ hpl,em]
   obtain⟨t2,order,ps2,g1,g2,g3,g4,g5,g6⟩:=qh f hm3 (ps:=ps1) (by rw[len1];exact hl2) (t.put j).1.finger ((t.put j).1.movedTo mask') (t.put j).1.led
   rw[g1]
   simp only[bind_pure_comp,pure_bind]
   rw[g2]
   have hne:((ps2.map (dm f)).toArray.size != (ps1.map (dm f)).toArray.size)=false:=by simp[g3]
   rw[hne]
   simp only[Hg,HI]
   have hsize2:((ps2.map (dm f)).toArray).size<=sizeLine:=by rw[HB];simp;omega
   refine GS (GX ?_)
   refine wpAny_storeSet_of ho1 rfl ?_ hsize2
   have ho2:((s.heap.update S (Obj.putSet (ps1.map (dm f)).toArray (t.put j).1)).update S (Obj.putSet (ps2.map (dm f)).toArray t2)).get? S=some {o with data:=.set (ps2.map (dm f)).toArray (ep + 1 + 1) t2}:=by
    have:=HQ (Obj.putSet (ps2.map (dm f)).toArray t2) ho1 (by rw[putSet_of (ep:=ep + 1) _ _ rfl];rfl)
    rw[putSet_of (ep:=ep + 1) _ _ rfl] at this;exact this
   have sb2:=sb1.trans (Heap.SameBut.update _ S (Obj.putSet (ps2.map (dm f)).toArray t2))
   have nd2:(ps2.map (·.2)).Nodup:=by
    have hmem:∀q,q∈ps2.map (·.2)↔q∈ps1.map (·.2):=λq=>by
     rw[Ha,Ha]
     exact⟨λ⟨x,hx,e⟩=>⟨x,(g4 x).mp hx,e⟩,λ⟨x,hx,e⟩=>⟨x,(g4 x).mpr hx,e⟩⟩
    have hnd:(ps2.map λq=>f q.2).Nodup:=by
     refine lZ (m:=ps1.map λq=>f q.2) ?_ (λx hx=>?_) (by simp[g3])
     ·have:(ps1.map λq=>f q.2)=(ps1.map (·.2)).map f:=by simp
      rw[this]
      refine HM.mpr (Ij ?_ nd1)
      intro x y hx hy hxy e
      obtain⟨q,hq,rfl⟩:=Ha.mp hx
      obtain⟨r,hr,rfl⟩:=Ha.mp hy
      exact hxy (hinj _ _ (at1 sb1 q hq).2 (at1 sb1 r hr).2 e)
     ·obtain⟨q,hq,rfl⟩:=Ha.mp hx
      exact Ha.mpr ⟨q,(g4 q).mpr hq,rfl⟩
    have:(ps2.map λq=>f q.2)=(ps2.map (·.2)).map f:=by simp
    rw[this] at hnd
    exact (HM.mp hnd).imp λhxy e=>hxy (by rw[e])
   refine GX (h true _ ps2 sb2 ⟨⟨_,ep + 1 + 1,t2,ho2,hex,rfl,g5,?_⟩,λq hq=>at1 sb2 q ((g4 q).mp hq),nd2⟩ (λq hq=>(mem1 q).mp ((g4 q).mp hq)) (λq hq=>(g4 q).mpr ((mem1 q).mpr (.inl hq))) ⟨(a,p),(g4 _).mpr ((mem1 _).mpr (.inr rfl)),rfl⟩)
   rw[g6,q1];exact hled
end
def iX (w:World):Bool:= !(w.params.followText "set-order")
def xE (prog:Program)(w:World)(p:Pr):Int:=tupleKeyHash (intKind prog w) [p.1,p.2]
def As (prog:Program)(w:World):∀p q,Sm p->Sm q->xE prog w p=xE prog w q->p=q:=λp q h1 h2 e=>CS h1 h2 e
section
variable {prog:Program}{w:World}{A:Around}{E:Value->Shared->Prop}{s:Shared}{R:Result->Shared->Prop}{I:Addr}{fp wr:List Addr}{n:Nat}{P:Nat->Value->Prop}{St:Nat->Heap->Prop}
def cB (prog:Program)(w:World)(h:Heap)(vs:List Value)(ps:List Pr):Prop:=vs.length=ps.length/\∀(i:Nat) (v:Value) (p:Pr),vs[i]? =some v->ps[i]? =some p->∃a,v=.ref a/\bw prog w h p a/\Sm p
abbrev my (prog:Program)(w:World)(h:Heap)(S:Addr)(vs:List Value)(ps:List Pr)(k:Nat):Prop:=∃qs:List (Addr×Pr),p7 (xE prog w) prog w (iX w) h S qs/\
 (∀q,q∈qs->Value.ref q.1∈vs.take k/\q.2∈ps.take k)/\∀p,p∈ps.take k->p∈qs.map (·.2)
theorem kg (W:Walks prog w A.in1 I fp wr n P St)(S:Addr)(hSf:S∉fp){vs:List Value}{ps:List Pr}(hn:vs.length=n)(hP:∀i v,P i v->vs[i]? =some v)(hu:A.in1.units < cLine)(h₀:Heap)
  (hps:cB prog w h₀ vs ps) (hwr:∀b o,b∈S :: wr->h₀.get? b=some o->False):∀(k i:Nat) (s:Shared),n - i=k->i<=n->St i s.heap->(∀b o,h₀.get? b=some o->s.heap.get? b=some o)->my prog w s.heap S vs ps i->
   (∀h' tk,(∀b o,b∉S :: wr->s.heap.get? b=some o->h'.get? b=some o)->my prog w h' S vs ps n->R (.ok (.ret .none)) {s with heap:=h',toks:=tk})->
   codeAny (model prog w) A (.builtin "set.update.loop" ⟨[.ref S,.ref I],[]⟩) R s:=by
 have nw:S∉wr:=λh=>hSf (W.sub _ h)
 intro k
 induction k with
 |zero=>
  intro i s hk hi hst hk0 hF hR
  obtain rfl:i=n:=by omega
  refine IG PyProof.Rows.F.entry_set_update_loop ?_
  rw[Iw IT _]
  show wpAny _ A.in1 (pyNext (.ref I) >>= λr=>_) _ _ s
  refine GS (W.done s _ _ hst λh' tk hm=>?_)
  show wpAny _ A.in1 (ret Value.none) _ _ _
  refine GX (hR h' tk (λb o hb e=>hm b o (λz=>hb (GY _ z)) e) ?_)
  obtain⟨qs,Q1,Q2,Q3⟩:=hF
  obtain⟨o,ep,t,ho,r⟩:=Q1.ex
  refine⟨qs,⟨⟨o,ep,t,hm S o nw ho,r⟩,λq hq=>⟨?_,(Q1.at' q hq).2⟩,Q1.nd⟩,Q2,Q3⟩
  obtain⟨m,hm1,hm2⟩:=Hz.mp (Jd (Q2 q hq).1)
  have hm1':m < ps.length:=by rw[<-hps.1];exact hm1
  obtain⟨a,ea,ha,_⟩:=hps.2 m vs[m] ps[m] (GU hm1) (GU hm1')
  rw[hm2] at ea
  cases ea
  obtain⟨o',it',n',ho',r'⟩:=(Q1.at' q hq).1
  obtain⟨o2,it2,n2,ho2,r2⟩:=ha
  have:o'=o2:=Option.some.inj (ho'.symm.trans (hk0 _ _ ho2))
  subst this
  exact⟨o',it',n',hm _ _ (λz=>hwr _ _ (GY _ z) ho2) ho',r'⟩
 |succ k ih=>
  intro i s hk hi hst hk0 hF hR
  have hlt:i < n:=by omega
  refine IG PyProof.Rows.F.entry_set_update_loop ?_
  rw[Iw IT _]
  show wpAny _ A.in1 (pyNext (.ref I) >>= λr=>_) _ _ s
  refine GS (W.item i s _ _ hlt hst λv h1 tk1 hv hst1 hm=>?_)
  have hvi:=hP i v hv
  have hip:i < ps.length:=by rw[<-hps.1,hn];exact hlt
  obtain⟨a,rfl,ha,hsm⟩:=hps.2 i v ps[i] hvi (GU hip)
  have k1:∀b o,h₀.get? b=some o->h1.get? b=some o:=λb o e=>hm b o (λz=>hwr b o (GY _ z) e) (hk0 b o e)
  obtain⟨qs,Q1,Q2,Q3⟩:=hF
  have old:∀{q:Addr×Pr} {h:Heap},q∈qs->(∀b o,h₀.get? b=some o->h.get? b=some o)->bw prog w h q.2 q.1:=λ{q h} hq kk=>by
   obtain⟨m,hm1,hm2⟩:=Hz.mp (Jd (Q2 q hq).1)
   have hm1':m < ps.length:=by rw[<-hps.1];exact hm1
   obtain⟨a,ea,ha,_⟩:=hps.2 m vs[m] ps[m] (GU hm1) (GU hm1')
   rw[hm2] at ea
   cases ea
   obtain⟨o',it',n',ho',r'⟩:=(Q1.at' q hq).1
   obtain⟨o2,it2,n2,ho2,r2⟩:=ha
   have:o'=o2:=Option.some.inj (ho'.symm.trans (hk0 _ _ ho2))
   subst this
   exact⟨o',it',n',kk _ _ ho2,r'⟩
  have P1:p7 (xE prog w) prog w (iX w) h1 S qs:=by
   obtain⟨o,ep,t,ho,r⟩:=Q1.ex
   exact⟨⟨o,ep,t,hm S o nw ho,r⟩,λq hq=>⟨old hq k1,(Q1.at' q hq).2⟩,Q1.nd⟩
  have ha1:bw prog w h1 ps[i] a:=by
   obtain⟨o',it',n',ho',r'⟩:=ha
   exact⟨o',it',n',k1 _ _ ho',r'⟩
  show wpAny _ A.in1 (holding [Value.ref a] (setAdd S (.ref a)) >>= λ_=>_) _ _ _
  refine GS (Im ?_)
  unfold setAdd
  refine Im (GS (wpAny_pyHash_tuple hu ha1 ?_))
  refine p7.add (As prog w) (s:={s with heap:=h1,toks:=tk1 + ([ps[i].1,ps[i].2].length + 1)}) P1 ha1 hsm hu λb h2 qs' sb P2 m1 m2 m3=>?_
  have sbS:∀b o,h₀.get? b=some o->h2.get? b=some o:=λb o e=>(sb.2 b (λz=>hwr b o (by rw[z];exact G6) e)).trans (k1 b o e)
  refine GX ⟨Jx IT _,ih (i + 1) _ (by omega) hlt (W.frame _ _ _ hst1 λb hb o e=>?_) sbS ⟨qs',P2,λq hq=>?_,λp hp=>?_⟩ λh' tk hm' F'=>?_⟩
  ·rw[sb.2 b λz=>hSf (by rw[<-z];exact hb)];exact e
  ·have htk:∀{α:Type} {l:List α} {x:α},x∈l.take i->x∈l.take (i + 1):=λ{α l x} hx=>by
    rw[Ja];exact IF _ hx
   rcases m1 q hq with z |z
   ·exact⟨htk (Q2 q z).1,htk (Q2 q z).2⟩
   ·subst z
    refine⟨?_,?_⟩
    ·rw[Ja,hvi];exact HC _ (by simp)
    ·rw[Ja,GU hip];exact HC _ (by simp)
  ·rw[Ja,GU hip] at hp
   rcases Hu.mp hp with z |z
   ·obtain⟨q,hq,rfl⟩:=Ha.mp (Q3 p z)
    exact Ha.mpr ⟨q,m2 q hq,rfl⟩
   ·have:p=ps[i]:=by simpa using z
    obtain⟨q,hq,e⟩:=m3
    exact Ha.mpr ⟨q,hq,by rw[e,this]⟩
  ·refine hR h' tk (λb o hb e=>hm' b o hb ?_) F'
   show h2.get? b=some o
   rw[sb.2 b λz=>hb (by rw[z];exact G6)]
   exact hm b o (λz=>hb (GY _ z)) e
def ra (a:Value){Q1:Value->Shared->Prop}
  (h:Q1 (.ref s.heap.objs.size) {s with heap:=s.heap.push {cls:=.type "set",dict:=none,data:=.set #[] 0 (.fresh 0 0 (iX w))}}) :
  codeAny (model prog w) A (.call (.builtin "set.__new__") ⟨[.type "set",a],[]⟩) (wants Q1 E) s:=by
 refine codeAny_of_tree ?_
 show wpAny _ A.in1 (do (checkBuiltinCall "set.__new__" ⟨[.type "set",a],[]⟩);again (.builtin "set.__new__" ⟨[.type "set",a],[]⟩)) _ _ s
 refine GS (wpAny_of_eq (F.newCall_set_1 a) (GX ⟨Jx F.plain_set_new _,IG F.entry_set_new ?_⟩))
 rw[Iw F.plain_set_new _]
 (unfold Builtin.«set.__new__» Builtin.Frozenset.newClass)
 have hsub0:=sub_set_self
 obtain⟨hp0,g0,d0,tk0,os0⟩:=s
 dsimp only
 wp_walk
 (refine Jt (GX ?_))
 dsimp only
 simp only[newObj]
 (refine GS (wpAny_alloc (GX ?_)))
 exact GX h
def xk (led:Bool):Tab (.fresh 0 0 led) []:=
 ⟨.inl rfl,rfl,List.Pairwise.nil,λj h=>(by cases (Jb.mpr h)),rfl,(by show (0:Nat) * 5 < 7 * 3;decide),λi j h e=>(by simp[SetTable.fresh] at e),rfl⟩
structure Src (prog:Program)(w:World)(h:Heap)(l:Addr)(vs:List Value)(T:String)(itO:Obj)(St:Addr->Nat->Heap->Prop):Prop where
 ty:∃o,h.get? l=some o/\o.cls=.type T
 ns:isSubtype (.type T) (.type "set")=pure false
 nf:isSubtype (.type T) (.type "frozenset")=pure false
 nd:(Value.type T == Value.type "dict")=false
 it:∀(A:Around) (s1:Shared) (Q:Value->Shared->Prop) (E:Value->Shared->Prop),(∀b o,h.get? b=some o->s1.heap.get? b=some o)->Q (.ref s1.heap.objs.size) {s1 with heap:=s1.heap.push itO}->wpAny (model prog w) A (pyIter (.ref l)) Q E s1
 st:∀(h1:Heap),(∀b o,h.get? b=some o->h1.get? b=some o)->St h1.objs.size 0 (h1.push itO)
 wk:∀(A:Around) (I:Addr),A.handled=none->l≠I->Walks prog w A I [I,l] [I] vs.length (λi v=>vs[i]? =some v) (St I)
def Src.list {h:Heap}{l:Addr}{vs:List Value}(hl:h.IsList l vs.toArray):Src prog w h l vs "list" {cls:=.type "list_iterator",data:=.fields #[.ref l,.int 0 0]} (λI i h'=>h'.IsListIter I l i/\h'.IsList l vs.toArray):=by
 obtain⟨o,ho,hc,n,hd⟩:=id hl
 refine⟨⟨o,ho,hc⟩,F.sub_list_set,F.sub_list_frozenset,by decide,λA s1 Q E k hQ=>I0 ⟨o,k _ _ ho,hc,n,hd⟩ hQ,λh1 k=>⟨⟨_,Hf _ rfl,rfl,rfl⟩,⟨o,GV _ (k _ _ ho),hc,n,hd⟩⟩,λA I hh hne=>?_⟩
 have:=Walks.list (prog:=prog) (w:=w) hh I l hne vs.toArray
 simpa using this
def sub_tuple_set:isSubtype (.type "tuple") (.type "set")=pure false:=by rw[IQ];kernel_rfl
def sub_tuple_frozenset:isSubtype (.type "tuple") (.type "frozenset")=pure false:=by rw[IQ];kernel_rfl
def Src.tuple {h:Heap}{l:Addr}{vs:List Value}(hl:h.IsTuple l vs.toArray):Src prog w h l vs "tuple" {cls:=.type "tuple_iterator",data:=.fields #[.ref l,.int 0 0]} (λI i h'=>h'.IsTupleIter I l i/\h'.IsTuple l vs.toArray):=by
 obtain⟨o,ho,hc,n,hd⟩:=id hl
 refine⟨⟨o,ho,hc⟩,sub_tuple_set,sub_tuple_frozenset,by decide,λA s1 Q E k hQ=>wpAny_pyIter_tuple ⟨o,k _ _ ho,hc,n,hd⟩ hQ,λh1 k=>⟨⟨_,Hf _ rfl,rfl,rfl⟩,⟨o,GV _ (k _ _ ho),hc,n,hd⟩⟩,λA I hh hne=>?_⟩
 have:=Walks.tuple (prog:=prog) (w:=w) hh I l hne vs.toArray
 simpa using this
set_option maxHeartbeats 3200000 in
theorem nU {l:Addr}{vs:List Value}{ps:List Pr}{T:String}{itO:Obj}{St:Addr->Nat->Heap->Prop}{Q:Value->Shared->Prop}(X:Src prog w s.heap l vs T itO St)(hh:A.handled=none)(hu:A.units + 64 < cLine)(hps:cB prog w s.heap vs ps)
  (h:∀(h':Heap) (tk:Nat),my prog w h' s.heap.objs.size vs ps vs.length->(∀b o,s.heap.get? b=some o->h'.get? b=some o)->Q (.ref s.heap.objs.size) {s with heap:=h',toks:=tk}) :
  wpAny (model prog w) A (call (.type "set") [.ref l]) Q E s:=by
 obtain⟨c0,tl0,hmro0⟩:=Jg.mro
 have hmade0:=Jg.made
 have hsub0:=Jg.sub
 refine wpAny_call (codeAny_of_tree ?_)
 show wpAny _ _ (callAny (.type "set") ⟨[.ref l],[]⟩) _ _ _
 refine GX ⟨Code.quiet_builtin _ (by decide +kernel),IG F.entry_type_call ?_⟩
 (rw[Around.under_plain (weight_type_call_type "set" [.ref l] []) rfl])
 have g1:=Jg.notType
 have g2:=Jg.canCreate
 have g3:=F.typeCall_set_1 (.ref l)
 repeat (any_goals (first |assumption |wp_step))
 refine JB (ra (.ref l) (E:=E) (Q1:=λobj s1=>obj=.ref s.heap.objs.size/\s1={s with heap:=s.heap.push {cls:=.type "set",dict:=none,data:=.set #[] 0 (.fresh 0 0 (iX w))}}) ⟨rfl,rfl⟩) λr s1 hr=>?_
 cases r with
 |error e=>exact hr
 |ok fl=>
  cases fl with
  |ret obj=>
   obtain⟨rfl,rfl⟩:=hr
   generalize hO:({cls:=.type "set",dict:=none,data:=.set #[] 0 (.fresh 0 0 (iX w))}:Obj)=O
   have hS0:(s.heap.push O).get? s.heap.objs.size=some O:=Hf _ (by rw[<-hO];rfl)
   have hT0:Shared.TypeIs {s with heap:=s.heap.push O} (.ref s.heap.objs.size) "set":=⟨_,hS0,by rw[<-hO]⟩
   have g4:=Jg.init.lookup
   have g5:=Jg.init.bind (.ref s.heap.objs.size)
   repeat (any_goals (first |assumption |wp_step))
   refine JB (codeAny_call_builtin (R:=wants (λr s2=>r=.none/\∃h' tk,s2={s with heap:=h',toks:=tk}/\my prog w h' s.heap.objs.size vs ps vs.length/\(∀b o,s.heap.get? b=some o->h'.get? b=some o)) E)
    Jg.init.plain F.entry_set_init (check_set_init_1 hT0 ?_)) λr2 s2 hr2=>?_
   ·obtain⟨ol,hol,hcl⟩:=X.ty
    have hol':(s.heap.push O).get? l=some ol:=GV _ hol
    have e1:=X.ns
    have e2:=X.nf
    have e3:=X.nd
    have hTl:Shared.TypeIs {s with heap:=s.heap.push O} (.ref l) T:=⟨ol,hol',hcl⟩
    have hdat:O.data=.set #[] 0 (.fresh 0 0 (iX w)):=by rw[<-hO]
    (unfold Builtin.«set.__init__» noKeywords Builtin.Frozenset.updateFrom)
    subst hO
    obtain⟨oc,od,odt,osl⟩:=ol
    simp only at hcl
    subst hcl
    (generalize hPI0:pyIter=PI0)
    wp_walk
    subst hPI0
    have kp:∀b o,s.heap.get? b=some o->(s.heap.push {cls:=.type "set",dict:=none,data:=.set #[] 0 (.fresh 0 0 (iX w))}).get? b=some o:=λb o e=>GV _ e
    refine X.it _ _ _ _ kp ?_
    refine GS (wpAny_runValue ?_)
    have hlS:l < s.heap.objs.size:=G9 hol
    have hh3:A.in1.in1.in1.handled=none:=by simp[hh]
    have hneI:l≠(s.heap.push {cls:=.type "set",dict:=none,data:=.set #[] 0 (.fresh 0 0 (iX w))}).objs.size:=by
     rw[Je];exact HA (Nat.lt_succ_of_lt hlS)
    have hSf:s.heap.objs.size∉ [(s.heap.push {cls:=.type "set",dict:=none,data:=.set #[] 0 (.fresh 0 0 (iX w))}).objs.size,l]:=by
     rw[Je]
     intro z
     rcases G7.mp z with e |z
     ·exact absurd e (HA (Nat.lt_succ_self _))
     ·exact absurd (HF.mp z) (Nat.ne_of_gt hlS)
    refine kg (X.wk _ _ hh3 hneI) s.heap.objs.size hSf rfl (λi v e=>e) (by simp;omega) s.heap hps (λb o hb e=>?_) (vs.length - 0) 0 _ (by omega) (HK _) (X.st _ kp) (λb o e=>GV _ (kp b o e)) ?_ ?_
    ·have hlt:=G9 e
     rw[Je] at hb
     rcases G7.mp hb with z |z
     ·exact absurd hlt (by rw[z];exact HG _)
     ·rw[HF.mp z] at hlt
      exact absurd hlt (Nat.not_lt.mpr (Nat.le_succ _))
    ·refine⟨[],⟨⟨_,0,_,GV _ hS0,⟨rfl,rfl,rfl⟩,rfl,xk _,rfl⟩,λq hq=>(by cases hq),Jp⟩,λq hq=>(by cases hq),λp hp=>(by simp at hp)⟩
    ·intro h' tk hm F'
     show wpAny _ _ _ _ _ _
     refine GX ?_
     show wpAny _ _ (ret Value.none) _ _ _
     refine GX ⟨rfl,h',tk,rfl,F',λb o e=>hm b o (λz=>?_) (GV _ (kp b o e))⟩
     have hlt:=G9 e
     rw[Je] at z
     rcases G7.mp z with z |z
     ·exact absurd hlt (by rw[z];exact HG _)
     ·rw[HF.mp z] at hlt
      exact absurd hlt (Nat.not_lt.mpr (Nat.le_succ _))
   ·cases r2 with
    |error e=>exact hr2
    |ok fl2=>
     cases fl2 with
     |ret r=>
      obtain⟨rfl,h',tk,rfl,hF,hk⟩:=hr2
      repeat (any_goals (first |assumption |wp_step))
      exact h _ _ hF hk
     |_=>exact hr2.elim
  |_=>exact hr.elim
end
end L2.ST
namespace L2.SO
open PySem PySem.W PyProof.Rows
def i8 {α:Type}(lt:Nat->Nat->Bool):KasT α->α
 | .ret a=>a
 | .ask i j k=>i8 lt (k (lt i j))
theorem dU {α β:Type}(lt:Nat->Nat->Bool)(f:α->KasT β):∀t:KasT α,i8 lt (t.bind f)=i8 lt (f (i8 lt t))
 | .ret _=>rfl
 | .ask i j k=>dU lt f (k (lt i j))
def qW {α:Type}(n:Nat)(lt:Nat->Nat->Bool):KasT α->Prop
 | .ret _=>True
 | .ask i j k=>i < n/\j < n/\qW n lt (k (lt i j))
theorem gq {α β:Type}{n:Nat}{lt:Nat->Nat->Bool}{f:α->KasT β}:∀{t:KasT α},qW n lt t->qW n lt (f (i8 lt t))->qW n lt (t.bind f)
 | .ret _,_,h=>h
 | .ask i j k,h,h'=>⟨h.1,h.2.1,gq h.2.2 h'⟩
section
variable {n:Nat}{key:Nat->Int}
abbrev lX (key:Nat->Int)(i j:Nat):Bool:=decide (key i < key j)
abbrev Kp (key:Nat->Int)(p:Array Nat)(k:Nat):Int:=key (p.getD k 0)
structure Pm (n:Nat)(p:Array Nat):Prop where
 sz:p.size=n
 nd:p.toList.Nodup
 lt:∀x,x∈p->x < n
def Pm.at {p:Array Nat}(P:Pm n p){k:Nat}(hk:k < n):p.getD k 0 < n:=by
 have h:k < p.size:=by rw[P.sz];exact hk
 simp only[Array.getD,h,dif_pos]
 exact P.lt _ (JH h)
def Pm.ne {p:Array Nat}(P:Pm n p){i k:Nat}(hi:i < n)(hk:k < n)(hne:i≠k):p.getD i 0≠p.getD k 0:=by
 have h1:i < p.toList.length:=by simpa using (by rw[P.sz];exact hi:i < p.size)
 have h2:k < p.toList.length:=by simpa using (by rw[P.sz];exact hk:k < p.size)
 have h1':i < p.size:=by rw[P.sz];exact hi
 have h2':k < p.size:=by rw[P.sz];exact hk
 have a1:p.getD i 0=p.toList[i]:=by simp[Array.getD,h1']
 have a2:p.getD k 0=p.toList[k]:=by simp[Array.getD,h2']
 rw[a1,a2]
 have q:=Jc.mp P.nd
 rcases Ig i k with c |c
 ·exact q i k h1 h2 c
 ·exact (q k i h2 h1 (by omega)).symm
def Pm.perm {p q:Array Nat}(P:Pm n p)(h:q.Perm p):Pm n q:=by
 have h':=Array.perm_iff_toList_perm.mp h
 exact⟨by rw[h.size_eq];exact P.sz,h'.nodup_iff.mpr P.nd,λx hx=>P.lt x (by simpa using h'.mem_iff.mp (by simpa using hx))⟩
def rZ (n:Nat):Pm n (List.toArray (List.range n)):=⟨by simp,by simpa using IP,λx hx=>by simpa using hx⟩
def Inj (n:Nat)(key:Nat->Int):Prop:=∀i j,i < n->j < n->key i=key j->i=j
def Pm.tri {p:Array Nat}(P:Pm n p)(hi:Inj n key){i k:Nat}(h1:i < n)(h2:k < n)(hne:i≠k):Kp key p i < Kp key p k\/Kp key p k < Kp key p i:=by
 have:Kp key p i≠Kp key p k:=λe=>P.ne h1 h2 hne (hi _ _ (P.at h1) (P.at h2) e)
 omega
def Up (key:Nat->Int)(p:Array Nat)(m:Nat):Prop:=∀i j,i < j->j < m->Kp key p i < Kp key p j
def Dn (key:Nat->Int)(p:Array Nat)(m:Nat):Prop:=∀i j,i < j->j < m->Kp key p j < Kp key p i
def Up.snoc {p:Array Nat}{m:Nat}(U:Up key p m)(h1:1<=m)(h:Kp key p (m - 1) < Kp key p m):Up key p (m + 1):=λi j hij hj=>by
 rcases Ig j m with c |c
 ·exact U i j hij c
 ·have:j=m:=by omega
  subst this
  rcases Ig i (j - 1) with d |d
  ·exact Int.lt_trans (U i (j - 1) d (by omega)) h
  ·have:i=j - 1:=by omega
   rw[this];exact h
def Dn.snoc {p:Array Nat}{m:Nat}(U:Dn key p m)(h1:1<=m)(h:Kp key p m < Kp key p (m - 1)):Dn key p (m + 1):=λi j hij hj=>by
 rcases Ig j m with c |c
 ·exact U i j hij c
 ·have:j=m:=by omega
  subst this
  rcases Ig i (j - 1) with d |d
  ·exact Int.lt_trans h (U i (j - 1) d (by omega))
  ·have:i=j - 1:=by omega
   rw[this];exact h
theorem nP {p:Array Nat}(P:Pm n p)(hi:Inj n key):∀(f m:Nat),1<=m->m + f<=n->Up key p m->
  ∃r,(i8 (lX key) (kas_asc p f m)=r/\qW n (lX key) (kas_asc p f m))/\m<=r/\r<=m + f/\Up key p r/\(r < m + f->Kp key p r < Kp key p (r - 1))
 | 0,m,_,_,U=>⟨m,⟨rfl,trivial⟩,GZ _,GZ _,U,λh=>absurd h (HG _)⟩
 |f + 1,m,h1,hn,U=>by
  have b1:p.getD m 0 < n:=P.at (by omega)
  have b2:p.getD (m - 1) 0 < n:=P.at (by omega)
  unfold kas_asc i8 qW
  by_cases c:Kp key p m < Kp key p (m - 1)
  ·rw[show lX key (p.getD m 0) (p.getD (m - 1) 0)=true from Hb c]
   simp only[Ic]
   exact⟨m,⟨rfl,b1,b2,trivial⟩,GZ _,by omega,U,λ_=>c⟩
  ·rw[show lX key (p.getD m 0) (p.getD (m - 1) 0)=false from Hh c]
   simp only[Hg,HI]
   have up:Kp key p (m - 1) < Kp key p m:=(P.tri hi (by omega) (by omega) (by omega)).resolve_right c
   obtain⟨r,⟨e,o⟩,a,b,u,d⟩:=nP P hi f (m + 1) (by omega) (by omega) (U.snoc h1 up)
   exact⟨r,⟨e,b1,b2,o⟩,by omega,by omega,u,λh=>d (by omega)⟩
theorem oQ {p:Array Nat}(P:Pm n p)(hi:Inj n key):∀(f m:Nat),1<=m->m + f<=n->Dn key p m->
  ∃r,(i8 (lX key) (kas_desc f p m 0)=(p,r,0)/\qW n (lX key) (kas_desc f p m 0))/\m<=r/\r<=m + f/\Dn key p r
 | 0,m,_,_,U=>⟨m,⟨rfl,trivial⟩,GZ _,GZ _,U⟩
 |f + 1,m,h1,hn,U=>by
  have b1:p.getD m 0 < n:=P.at (by omega)
  have b2:p.getD (m - 1) 0 < n:=P.at (by omega)
  unfold kas_desc i8 qW
  by_cases c:Kp key p m < Kp key p (m - 1)
  ·rw[show lX key (p.getD m 0) (p.getD (m - 1) 0)=true from Hb c]
   simp only[Ic,HG,gt_iff_lt,HI]
   obtain⟨r,⟨e,o⟩,a,b,u⟩:=oQ P hi f (m + 1) (by omega) (by omega) (U.snoc h1 c)
   exact⟨r,⟨e,b1,b2,o⟩,by omega,by omega,u⟩
  ·rw[show lX key (p.getD m 0) (p.getD (m - 1) 0)=false from Hh c]
   simp only[Hg,HI]
   unfold i8 qW
   have up:Kp key p (m - 1) < Kp key p m:=(P.tri hi (by omega) (by omega) (by omega)).resolve_right c
   rw[show lX key (p.getD (m - 1) 0) (p.getD m 0)=true from Hb up]
   simp only[Ic]
   exact⟨m,⟨rfl,b1,b2,b2,b1,trivial⟩,GZ _,by omega,U⟩
def yk {p:Array Nat}{j k:Nat}(hj:j<=p.size)(hk:k < j):(kas_rev p 0 j).getD k 0=p.getD (j - 1 - k) 0:=by
 unfold kas_rev
 rw[HE,getElem?_mirror_all hj k,GW ⟨HK _,hk⟩,HE]
 congr 2
 omega
def CT {p:Array Nat}{m:Nat}(hm:m<=p.size)(D:Dn key p m):Up key (kas_rev p 0 m) m:=λi j hij hj=>by
 unfold Kp
 rw[yk hm (by omega),yk hm hj]
 exact D (m - 1 - j) (m - 1 - i) (by omega) (by omega)
def Pm.rev {p:Array Nat}(P:Pm n p)(j:Nat):Pm n (kas_rev p 0 j):=P.perm (mirror_perm ..)
def tv {p:Array Nat}(P:Pm n p)(hi:Inj n key)(h1:1<=n) :
  ∃m q,(i8 (lX key) (kas_count n p)=(m,q)/\qW n (lX key) (kas_count n p))/\Pm n q/\1<=m/\m<=n/\Up key q m:=by
 obtain⟨r,⟨e,o⟩,a,b,u,d⟩:=nP P hi (n - 1) 1 (GZ _) (by omega) (λi j hij hj=>by omega)
 have rest:∃m q,(i8 (lX key) (if (r == n)=true then KasT.ret (r,p) else if r > 1 then .ask (p.getD 0 0) (p.getD (r - 1) 0) λc=>if c=true then .ret (r,p) else kas_descPart r n (kas_rev p 0 r) else kas_descPart r n p)=(m,q)/\
   qW n (lX key) (if (r == n)=true then KasT.ret (r,p) else if r > 1 then .ask (p.getD 0 0) (p.getD (r - 1) 0) λc=>if c=true then .ret (r,p) else kas_descPart r n (kas_rev p 0 r) else kas_descPart r n p))/\Pm n q/\1<=m/\m<=n/\Up key q m:=by
  by_cases c:(r == n)=true
  ·rw[GW c]
   exact⟨r,p,⟨rfl,trivial⟩,P,a,by omega,u⟩
  ·rw[G8 c]
   have hrn:r≠n:=by simpa using c
   have dd:=d (by omega)
   by_cases c2:r > 1
   ·rw[GW c2]
    unfold i8 qW
    rw[show lX key (p.getD 0 0) (p.getD (r - 1) 0)=true from Hb (u 0 (r - 1) (by omega) (by omega))]
    simp only[Ic]
    exact⟨r,p,⟨rfl,P.at (by omega),P.at (by omega),trivial⟩,P,a,by omega,u⟩
   ·rw[G8 c2]
    have hr1:r=1:=by omega
    subst hr1
    unfold kas_descPart
    rw[dU]
    have D2:Dn key p 2:=λi j hij hj=>by
     have e1:i=0:=by omega
     have e2:j=1:=by omega
     rw[e1,e2];exact dd
    obtain⟨x,⟨e2,o2⟩,a2,b2,u2⟩:=oQ P hi (n - 2) 2 (by omega) (by omega) D2
    obtain⟨y,⟨e3,o3⟩,a3,b3,u3,_⟩:=nP (P.rev x) hi (n - x) x (by omega) (by omega) (CT (by rw[P.sz];omega) u2)
    rw[show n - (1 + 1)=n - 2 from rfl,show (1 + 1:Nat)=2 from rfl]
    have t3:qW n (lX key) (kas_tail3 x n p):=by
     unfold kas_tail3
     exact gq o3 trivial
    refine⟨y,kas_rev p 0 x,⟨?_,gq o2 ?_⟩,P.rev x,by omega,by omega,u3⟩
    ·rw[e2]
     simp only[HG,gt_iff_lt,HI]
     unfold kas_tail3
     rw[dU,e3]
     rfl
    ·rw[e2]
     simp only[HG,gt_iff_lt,HI]
     exact t3
 obtain⟨m,q,⟨f1,f2⟩,f3⟩:=rest
 refine⟨m,q,⟨?_,?_⟩,f3⟩
 ·unfold kas_count
  rw[dU,e]
  exact f1
 ·unfold kas_count
  refine gq o ?_
  rw[e]
  exact f2
theorem place_spec {p:Array Nat}{k:Nat}(P:Pm n p)(hi:Inj n key)(hk:k < n)(U:Up key p k):∀(f l r:Nat),l<=r->r<=k->r - l<=f->(∀i,i < l->Kp key p i < Kp key p k)->(∀i,r<=i->i < k->Kp key p k < Kp key p i)->
  ∃x,(i8 (lX key) (kas_place p k f l r)=x/\qW n (lX key) (kas_place p k f l r))/\x<=k/\(∀i,i < x->Kp key p i < Kp key p k)/\(∀i,x<=i->i < k->Kp key p k < Kp key p i)
 | 0,l,r,h1,h2,h3,a,b=>⟨l,⟨rfl,trivial⟩,by omega,a,λi hi=>b i (by omega)⟩
 |f + 1,l,r,h1,h2,h3,a,b=>by
  unfold kas_place
  by_cases c:l>=r
  ·rw[GW c]
   exact⟨l,⟨rfl,trivial⟩,by omega,a,λi hi=>b i (by omega)⟩
  ·rw[G8 c]
   have b1:p.getD k 0 < n:=P.at hk
   have b2:p.getD ((l + r) / 2) 0 < n:=P.at (by omega)
   unfold i8 qW
   by_cases d:Kp key p k < Kp key p ((l + r) / 2)
   ·rw[show lX key (p.getD k 0) (p.getD ((l + r) / 2) 0)=true from Hb d]
    simp only[Ic]
    have side:∀i,(l + r) / 2<=i->i < k->Kp key p k < Kp key p i:=λi h1 h2=>by
     rcases Ig ((l + r) / 2) i with z |z
     ·exact Int.lt_trans d (U _ _ z h2)
     ·have:i=(l + r) / 2:=by omega
      rw[this];exact d
    obtain⟨x,⟨e1,e2⟩,e3⟩:=place_spec P hi hk U f l ((l + r) / 2) (by omega) (by omega) (by omega) a side
    exact⟨x,⟨e1,b1,b2,e2⟩,e3⟩
   ·rw[show lX key (p.getD k 0) (p.getD ((l + r) / 2) 0)=false from Hh d]
    simp only[Hg,HI]
    have d':Kp key p ((l + r) / 2) < Kp key p k:=(P.tri hi (by omega) hk (by omega)).resolve_right d
    have side:∀i,i < (l + r) / 2 + 1->Kp key p i < Kp key p k:=λi h=>by
     rcases Ig i ((l + r) / 2) with z |z
     ·exact Int.lt_trans (U _ _ z (by omega)) d'
     ·have:i=(l + r) / 2:=by omega
      rw[this];exact d'
    obtain⟨x,⟨e1,e2⟩,e3⟩:=place_spec P hi hk U f ((l + r) / 2 + 1) r (by omega) h2 (by omega) side b
    exact⟨x,⟨e1,b1,b2,e2⟩,e3⟩
def zb {p:Array Nat}{k l j:Nat}(hk:k < p.size)(hl:l<=k):(bubble p k (k - l)).getD j 0=if j=l then p.getD k 0 else if l < j/\j<=k then p.getD (j - 1) 0 else p.getD j 0:=by
 rw[HE,getElem?_bubble hk (k - l) (by omega) j,show k - (k - l)=l by omega]
 simp only[HE]
 split
 ·rfl
 ·split <;> rfl
theorem sN (hi:Inj n key):∀(f k:Nat) (p:Array Nat),Pm n p->1<=k->k + f=n->Up key p k->∃q,(i8 (lX key) (kas_bin f p k)=q/\qW n (lX key) (kas_bin f p k))/\Pm n q/\Up key q n
 | 0,k,p,P,_,e,U=>⟨p,⟨rfl,trivial⟩,P,by rw[<-e];exact U⟩
 |f + 1,k,p,P,h1,e,U=>by
  have hk:k < n:=by omega
  obtain⟨l,⟨el,ol⟩,hl,a,b⟩:=place_spec P hi hk U k 0 k (HK _) (GZ _) (by omega) (λi h=>by omega) (λi h h'=>by omega)
  have side:Up key (bubble p k (k - l)) (k + 1):=λi j hij hj=>by
   have hks:k < p.size:=by rw[P.sz];exact hk
   unfold Kp
   rw[zb hks hl,zb hks hl]
   by_cases i1:i=l
   ·rw[GW i1,G8 (by omega)]
    by_cases j2:l < j/\j<=k
    ·rw[GW j2];exact b _ (by omega) (by omega)
    ·omega
   ·rw[G8 i1]
    by_cases i2:l < i/\i<=k
    ·rw[GW i2,G8 (by omega),GW (by omega)]
     exact U _ _ (by omega) (by omega)
    ·rw[G8 i2]
     by_cases j1:j=l
     ·rw[GW j1];exact a _ (by omega)
     ·rw[G8 j1]
      by_cases j2:l < j/\j<=k
      ·rw[GW j2]
       rcases Ig i (j - 1) with z |z
       ·exact U _ _ z (by omega)
       ·omega
      ·rw[G8 j2];exact U _ _ hij (by omega)
  obtain⟨q,⟨q1,q2⟩,q3⟩:=sN hi f (k + 1) (bubble p k (k - l)) (P.perm (bubble_perm ..)) (by omega) (by omega) side
  refine⟨q,⟨?_,?_⟩,q3⟩
  ·unfold kas_bin;rw[dU,el];exact q1
  ·unfold kas_bin;refine gq ol ?_;rw[el];exact q2
def vX (hi:Inj n key)(h2:2<=n):∃q,(i8 (lX key) (kas_sort n)=q/\qW n (lX key) (kas_sort n))/\Pm n q/\Up key q n:=by
 obtain⟨m,q,⟨e,o⟩,P,a,b,u⟩:=tv (rZ n) hi (by omega)
 by_cases c:m < n
 ·obtain⟨q',⟨e1,o1⟩,r⟩:=sN hi (n - m) m q P a (by omega) u
  refine⟨q',⟨?_,?_⟩,r⟩
  ·unfold kas_sort;rw[dU,e];dsimp only;rw[GW c,Nat.max_eq_left a];exact e1
  ·unfold kas_sort;refine gq o ?_;rw[e];dsimp only;rw[GW c,Nat.max_eq_left a];exact o1
 ·refine⟨q,⟨?_,?_⟩,P,λi j hij hj=>u i j hij (by omega)⟩
  ·unfold kas_sort;rw[dU,e];dsimp only;rw[G8 c];rfl
  ·unfold kas_sort;refine gq o ?_;rw[e];dsimp only;rw[G8 c];trivial
theorem wp_run {α:Type}{n:Nat}{lt:Nat->Nat->Bool}{cmp:Nat->Nat->(Bool->Shared->Prop)->Shared->Prop}{Q:α->Shared->Prop}{s:Shared} :
  ∀(t:KasT α),(∀i j C,i < n->j < n->C (lt i j) s->cmp i j C s)->qW n lt t->Q (i8 lt t) s->t.kasWp cmp Q s
 | .ret a,_,_,h=>h
 | .ask i j k,hc,ho,h=>hc i j _ ho.1 ho.2.1 (wp_run (k (lt i j)) hc ho.2.2 h)
end
end L2.SO
namespace L2.ST
open PySem PySem.SetTable PySem.W PyProof.Rows
def code (p:Pr):Int:=p.1 * 8 + p.2
def vd {p q:Pr}(h1:Sm p)(h2:Sm q):code p < code q↔p.1 < q.1\/(p.1=q.1/\p.2 < q.2):=by
 unfold code Sm at *;omega
def code_inj {p q:Pr}(h1:Sm p)(h2:Sm q)(e:code p=code q):p=q:=by
 unfold code Sm at *
 refine Prod.ext ?_ ?_ <;> omega
section
variable {prog:Program}{w:World}{A:Around}{E:Value->Shared->Prop}{s:Shared}
abbrev nZ (ps:List Pr)(i:Nat):Int:=code (ps.getD i (0,0))
def y1 {ps:List Pr}(nd:ps.Nodup)(hs:∀p,p∈ps->Sm p):L2.SO.Inj ps.length (nZ ps):=λi j hi hj e=>by
 have a1:ps.getD i (0,0)=ps[i]:=by simp[hi]
 have a2:ps.getD j (0,0)=ps[j]:=by simp[hj]
 unfold nZ at e
 rw[a1,a2] at e
 have e':=code_inj (hs _ (Iu hi)) (hs _ (Iu hj)) e
 have q:=Jc.mp nd
 rcases JG i j with c |c |c
 ·exact absurd e' (q i j hi hj c)
 ·exact c
 ·exact absurd e'.symm (q j i hj hi c)
theorem A9 {a b:Addr}{p q:Pr}{Q:Bool->Shared->Prop}(ha:bw prog w s.heap p a)(hb:bw prog w s.heap q b)(hp:Sm p)(hq:Sm q)(h:Q (decide (code p < code q)) s) :
  wpAny (model prog w) A (keyLt' (tuples' true) (.ref a) (.ref b)) Q E s:=by
 obtain⟨oa,ia,na,hoa,hca,hda,hia⟩:=ha
 obtain⟨ob,ib,nb,hob,hcb,hdb,hib⟩:=hb
 obtain⟨l1,rfl⟩:∃l,ia=List.toArray l:=⟨ia.toList,by simp⟩
 obtain⟨l2,rfl⟩:∃l,ib=List.toArray l:=⟨ib.toList,by simp⟩
 simp only[IB] at hia hib
 cases hia with
 | @cons _ v1 _ _ h1 hia=>
  cases hia with
  | @cons _ v2 _ _ h2 hia=>
   cases hia
   cases hib with
   | @cons _ u1 _ _ g1 hib=>
    cases hib with
    | @cons _ u2 _ _ g2 hib=>
     cases hib
     obtain⟨t1,rfl⟩:=II h1
     obtain⟨t2,rfl⟩:=II h2
     obtain⟨t3,rfl⟩:=II g1
     obtain⟨t4,rfl⟩:=II g2
     refine kat_lt hoa hda hob hdb ?_
     have hc:=vd hp hq
     refine kat_cons (wpAny_eqBool_int ?_)
     by_cases e1:p.1=q.1
     ·rw[show (p.1 == q.1)=true by simpa using e1]
      refine kat_yes (kat_cons (wpAny_eqBool_int ?_))
      by_cases e2:p.2=q.2
      ·rw[show (p.2 == q.2)=true by simpa using e2]
       refine kat_yes (kat_nil ?_)
       have:decide (code p < code q)=false:=Hh (by rw[hc];omega)
       rw[this] at h
       simpa using h
      ·rw[show (p.2 == q.2)=false by simpa using e2]
       refine kat_no ?_
       show wpAny _ _ (oneLt' false _ _) _ _ _
       refine kat_one _ _ (lt_int ?_)
       have:decide (code p < code q)=decide (p.2 < q.2):=by
        by_cases z:p.2 < q.2
        ·rw[Hb z];exact Hb (hc.mpr (.inr ⟨e1,z⟩))
        ·rw[Hh z];exact Hh (by rw[hc];omega)
       rw[this] at h;exact h
     ·rw[show (p.1 == q.1)=false by simpa using e1]
      refine kat_no ?_
      show wpAny _ _ (oneLt' true _ _) _ _ _
      refine oneLt_int ?_
      have:decide (code p < code q)=decide (p.1 < q.1):=by
       by_cases z:p.1 < q.1
       ·rw[Hb z];exact Hb (hc.mpr (.inl z))
       ·rw[Hh z];exact Hh (by rw[hc];omega)
      rw[this] at h;exact h
theorem uM:∀{vs:List Value} {ps:List Pr},cB prog w s.heap vs ps->∃fs,KatTups s.heap vs fs/\fs.length=vs.length/\∀v∈fs,∃(i:Int) (t:Tok),v=.int i t
 | [],ps,_=>⟨[],KatTups.nil,rfl,λv hv=>by cases hv⟩
 |v :: vs,[],h=>by have:=h.1;simp at this
 |v :: vs,p :: ps,h=>by
  obtain⟨a,rfl,⟨o,items,n,ho,hc,hd,hi⟩,_⟩:=h.2 0 v p rfl rfl
  obtain⟨fs,k,e,f⟩:=uM (vs:=vs) (ps:=ps) ⟨by simpa using h.1,λi v p h1 h2=>h.2 (i + 1) v p (by simpa using h1) (by simpa using h2)⟩
  obtain⟨l1,rfl⟩:∃l,items=List.toArray l:=⟨items.toList,by simp⟩
  simp only[IB] at hi
  cases hi with
  | @cons _ v1 _ _ h1 hi=>
   obtain⟨t1,rfl⟩:=II h1
   exact⟨_ :: fs,KatTups.cons ho hc hd rfl k,by simp[e],λv hv=>by
    rcases G7.mp hv with z |z
    ·exact⟨_,_,z⟩
    ·exact f v z⟩
def sD {a:Addr}{vs:List Value}{ps:List Pr}{n:Nat}{P:PySem.Fin->Shared->Prop}(ho:s.heap.get? a=some (seqObj "list" vs.toArray n))(hps:cB prog w s.heap vs ps)(nd:ps.Nodup)(h64:vs.length < 64)
  (h:∀(h':Heap) (c:Nat) (ix:Array Nat),L2.SO.Pm vs.length ix->L2.SO.Up (nZ ps) ix vs.length->(∀b o,b≠a->s.heap.get? b=some o->h'.get? b=some o)->
   h'.get? a=some (seqObj "list" (ix.toList.map λi=>vs.getD i Value.none).toArray c)->P (.done (.ret .none)) {s with heap:=h'}) :
  wpAny (model prog w) A (Builtin.«list.sort» ⟨[.ref a],[]⟩) P E s:=by
 have ha:a < s.heap.objs.size:=G9 ho
 obtain⟨e1,ho1⟩:∃e1,(s.heap.update a (Obj.mapSeq λ_=>(#[]:Array Value))).get? a=some (seqObj "list" #[] e1):=⟨_,get?_update_seq ho λ_=>#[]⟩
 generalize hH1:(s.heap.update a (Obj.mapSeq λ_=>(#[]:Array Value)))=H1 at ho1
 have sb1:Heap.SameBut a s.heap H1:=by rw[<-hH1];exact Heap.SameBut.update ..
 have kp2:∀b o,H1.get? b=some o->((H1.push (seqObj "tuple" vs.toArray 0)).push (seqObj "list" #[] 0)).get? b=some o:=λb o e=>GV _ (GV _ e)
 generalize hH2:((H1.push (seqObj "tuple" vs.toArray 0)).push (seqObj "list" #[] 0))=H2 at kp2
 have kp:∀b o,b≠a->s.heap.get? b=some o->H2.get? b=some o:=λb o hb e=>kp2 b o ((sb1.2 b hb).trans e)
 have ho2:=kp2 _ _ ho1
 have hps2:cB prog w H2 vs ps:=⟨hps.1,λi v p h1 h2=>by
  obtain⟨b,e,⟨o,it,m,hb,hc,hd,r⟩,hs⟩:=hps.2 i v p h1 h2
  refine⟨b,e,⟨o,it,m,kp b o (λz=>?_) hb,hc,hd,r⟩,hs⟩
  subst z
  rw[ho] at hb;cases hb
  exact absurd hc (by simp[seqObj])⟩
 have hz:vs.length<=sizeLine:=by rw[HB];omega
 rw[list_sort_plain]
 refine GS (listItems_at ho rfl (GS (listUpdate_at ho rfl ?_ (by simpa using hz) (HK _))))
 rw[hH1]
 refine GS (seqEpoch_at (s:={s with heap:=H1}) ho1 rfl (GS (wpAny_newTuple ?_ (by simpa using hz))))
 refine GS (wpAny_newList ?_ (HK _))
 refine Im ?_
 show wpAny (model prog w) A _ P E {s with heap:=(H1.push (seqObj "tuple" vs.toArray 0)).push (seqObj "list" #[] 0)}
 rw[hH2]
 have fin:∀(ix:Array Nat) (st:SortSt),L2.SO.Pm vs.length ix->L2.SO.Up (nZ ps) ix vs.length->(arrOf st).map (·.2)=List.toArray (ix.toList.map λi=>vs.getD i Value.none)->failedOf st=none->
   wpAny (model prog w) A (do
    let sorted:=(arrOf st).map (·.2)
    let touched:=(<-seqEpoch a) != e1
    Builtin.List.listUpdate (.ref a) λ_=>sorted
    if let some e:=failedOf st then rule "list.sort.comparison-raised";throw e
    if touched then rule "list.sort.modified";raiseError "ValueError" "list modified during sort"
    ret .none) P E {s with heap:=H2}:=λix st P1 U1 hout hf=>by
  dsimp only
  rw[hout]
  have hsz:(List.toArray (ix.toList.map λi=>vs.getD i Value.none)).size=vs.length:=by simp[P1.sz]
  refine GS (seqEpoch_at (s:={s with heap:=H2}) ho2 rfl ?_)
  refine GS (listUpdate_at (s:={s with heap:=H2}) ho2 rfl ?_ (HK _) (Ie (Nat.le_of_eq hsz) (Nat.le_succ_of_le hz)))
  rw[hf]
  simp only[bne_self_eq_false,Hg,HI]
  obtain⟨c2,hc2⟩:∃c2,(H2.update a (Obj.mapSeq λ_=>List.toArray (ix.toList.map λi=>vs.getD i Value.none))).get? a=some (seqObj "list" (List.toArray (ix.toList.map λi=>vs.getD i Value.none)) c2):=⟨_,get?_update_seq ho2 λ_=>List.toArray (ix.toList.map λi=>vs.getD i Value.none)⟩
  exact GX (h _ c2 ix P1 U1 (λb o hb e=>((Heap.SameBut.update H2 a _).2 b hb).trans (kp b o hb e)) hc2)
 by_cases h2:vs.length < 2
 ·have h2':vs.toArray.size < 2:=by simpa using h2
  dsimp only
  rw[GW h2',GW h2']
  refine GS (GX ?_)
  rw[StateT.run_pure]
  refine GS (GX ?_)
  refine fin (List.toArray (List.range vs.length)) (SortSt.mk' general' (vs.toArray.zip vs.toArray) #[] 7 none) (L2.SO.rZ _) (λi j hij hj=>by omega) ?_ rfl
  have:∀{l:List Value},l.length < 2->((l.toArray.zip l.toArray).map (·.2))=List.toArray ((List.range l.length).map λi=>l.getD i Value.none):=λ{l} hl=>by
   match l,hl with
   | [],_=>simp
   | [x],_=>simp
  exact (this h2).trans (by simp)
 ·have h2':¬vs.toArray.size < 2:=by simpa using h2
  dsimp only
  rw[G8 h2',G8 h2']
  obtain⟨fs,kt,fl,ff⟩:=uM (s:={s with heap:=H2}) hps2
  refine GS (kat_kind (s:={s with heap:=H2}) (T:=.type "int") kt (by omega) (λv hv=>?_) (by decide) ?_)
  ·obtain⟨i,t,rfl⟩:=ff v hv
   exact .now
  ·rw[show ((Value.type "int" != Value.type "tuple"):Bool)=true by decide]
   have hinj:L2.SO.Inj vs.length (nZ ps):=by
    rw[hps.1]
    refine y1 nd λp hp=>?_
    obtain⟨i,hi,e⟩:=Hz.mp hp
    have hi':i < vs.length:=by rw[hps.1];exact hi
    obtain⟨_,_,_,hs⟩:=hps.2 i vs[i] p (GU hi') (by rw[GU hi,e])
    exact hs
   obtain⟨ix,⟨er,ok⟩,P1,U1⟩:=L2.SO.vX hinj (by omega)
   refine GS (IC (kat_run (s:={s with heap:=H2}) (κ:=tuples' true) (ks:=vs) (Q:=λst s'=>s'={s with heap:=H2}/\arrOf st=ix.map (kas_item (vs.toArray.zip vs.toArray))/\failedOf st=none)
    (G:=λp s'=>p=ix/\s'={s with heap:=H2}) rfl (by omega) h64 (λp st s' a1 a2 a3 a4=>?_) (L2.SO.wp_run (n:=vs.length) (lt:=L2.SO.lX (nZ ps)) _ (λi j C hi hj hC=>?_) ok ⟨er,rfl⟩)) ?_ λ_ _ x=>x)
   ·obtain⟨rfl,rfl⟩:=a4
    exact⟨rfl,a2,a3⟩
   ·unfold kas_ask
    have hi':i < ps.length:=by rw[<-hps.1];exact hi
    have hj':j < ps.length:=by rw[<-hps.1];exact hj
    obtain⟨b1,eb1,hb1,s1⟩:=hps2.2 i vs[i] ps[i] (GU hi) (GU hi')
    obtain⟨b2,eb2,hb2,s2⟩:=hps2.2 j vs[j] ps[j] (GU hj) (GU hj')
    have e1:vs.getD i Value.none=.ref b1:=by rw[<-eb1];simp[hi]
    have e2:vs.getD j Value.none=.ref b2:=by rw[<-eb2];simp[hj]
    rw[e1,e2]
    refine A9 (s:={s with heap:=H2}) hb1 hb2 s1 s2 ?_
    have:L2.SO.lX (nZ ps) i j=decide (code ps[i] < code ps[j]):=by
     unfold L2.SO.lX nZ;simp[hi',hj']
    rw[<-this];exact hC
   ·rintro⟨⟨⟩,st⟩ s' ⟨rfl,har,hf⟩
    exact fin ix st P1 U1 (kat_snds rfl har) hf
end
def bI:Slot "set_iterator" "__next__" "set_iterator.__next__":=
 Slot.of (owner:="set_iterator") (n:="__next__") (by rw[typeLookup_type,Jq];kernel_rfl) (by decide +kernel) (by decide +kernel) (by decide +kernel) (by first |exact .inl (by decide +kernel) |exact .inr (by decide +kernel)) (by rw[IQ];kernel_rfl)
def ie:entryFor table "set_iterator.__next__"=some Builtin.«set_iterator.__next__»:=entryFor_of_tree (by kernel_rfl)
def i3 (a:Value):argsOk "set_iterator.__next__" ⟨[a],[]⟩:=by unfold argsOk;kernel_rfl
def nr:entryFor table "set.__iter__"=some Builtin.«frozenset.__iter__»:=entryFor_alias (id':="frozenset.__iter__") (by kernel_rfl) rfl (by decide +kernel) (by kernel_rfl)
def i4:Slot "set_iterator" "__iter__" "set_iterator.__iter__":=
 Slot.of (owner:="set_iterator") (n:="__iter__") (by rw[typeLookup_type,Jq];kernel_rfl) (by decide +kernel) (by decide +kernel) (by decide +kernel) (by first |exact .inl (by decide +kernel) |exact .inr (by decide +kernel)) (by rw[IQ];kernel_rfl)
def lx:entryFor table "set_iterator.__iter__"=some Builtin.«dict_keyiterator.__iter__»:=entryFor_alias (id':="dict_keyiterator.__iter__") (by kernel_rfl) rfl (by decide +kernel) (by kernel_rfl)
def mf (a:Value):argsOk "set_iterator.__iter__" ⟨[a],[]⟩:=by unfold argsOk;kernel_rfl
def AS (a:Addr)(slot given ep0:Nat):setNext a slot given ep0=(do
  let (es,epoch,t) <-setState a
  if (<-ask).params.followText "set-order" then
   if epoch != ep0 then unsupported "set_iterator.__next__:elements-changed"
   return ((<-setWalk a)[given]?).map λe=>(e.2,slot)
  if !t.plain && es.size > 1 then unsupported "set_iterator.__next__:the-table-is-plain-no-more"
  let u:Unit <-(show Sem Unit from do if !t.led && !es.isEmpty then unsupported "set:maker-not-led")
  let i:=SetTable.below t.place slot
  return match es[i]?,t.place[i]? with
   |some (_,x),some j=>some (x,j + 1)
   |_,_=>none):=by
 unfold setNext setsByText
 simp only[bind_assoc,pure_bind]
 rfl
def Ao (a:Addr):setWalk a=(do
  let (es,epoch,t) <-setState a
  if (<-ask).params.followText "set-order" then return pickOrder ((<-ask).params.setOrder a epoch) es
  if !t.plain && es.size > 1 then return (<-drawOrder es.size es.toList).toArray
  let u:Unit <-(show Sem Unit from do if !t.led && es.size > 1 then unsupported "set:maker-not-led")
  return es):=by
 unfold setWalk setsByText
 simp only[bind_assoc,pure_bind]
 rfl
def y9 (a:Addr):setDrawn a=(do
  let (es,_,t) <-setState a
  let byText <-(do return (<-ask).params.followText "set-order")
  return !byText && (!t.plain && es.size > 1)):=rfl
theorem gp {α:Type}:∀(l:List α) (i:Nat) (h:i < l.length),(l[i] :: l.eraseIdx i).Perm l
 |a :: l,0,_=>List.Perm.refl _
 |a :: l,i + 1,h=>by
  have hi:i < l.length:=by simpa using h
  show (l[i] :: a :: l.eraseIdx i).Perm (a :: l)
  exact (List.Perm.swap ..).trans ((gp l i hi).cons a)
theorem oI {α:Type}(next:Nat->Nat):∀(fuel k:Nat) (left:List α) (out:Array α),left.length=fuel->(pickOrder.go next fuel k left out).toList.Perm (out.toList ++ left)
 | 0,k,left,out,h=>by
  have:left= []:=List.length_eq_zero_iff.mp h
  subst this
  unfold pickOrder.go
  simp
 |fuel + 1,k,left,out,h=>by
  unfold pickOrder.go
  have hlt:next k % left.length < left.length:=Nat.mod_lt _ (by omega)
  rw[GU hlt]
  dsimp only
  refine (oI next fuel (k + 1) _ _ (by rw[List.length_eraseIdx_of_lt hlt];omega)).trans ?_
  rw[Array.toList_push,IA]
  refine List.Perm.append_left _ ?_
  exact gp left _ hlt
def jl {α:Type}(next:Nat->Nat)(xs:Array α):(pickOrder next xs).toList.Perm xs.toList:=by
 have:=oI next xs.size 0 xs.toList #[] (by simp)
 simpa[pickOrder] using this
section
variable {prog:Program}{w:World}{A:Around}{E:Value->Shared->Prop}{s:Shared}
def told (w:World)(S:Addr)(ep:Nat)(es:Array (Int×Value)):Array (Int×Value):=if w.params.followText "set-order" then pickOrder (w.params.setOrder S ep) es else es
def pd (w:World)(S:Addr)(ep:Nat)(es:Array (Int×Value)):(told w S ep es).toList.Perm es.toList:=by
 unfold told;split
 ·exact jl _ _
 ·exact List.Perm.refl _
abbrev rS (S:Addr)(slot k n ep:Nat):Obj:={cls:=.type "set_iterator",data:=.fields #[.int (slot:Int) 0,.int (k:Int) 0,.ref S,.int (n:Int) 0,.int (ep:Int) 0]}
structure kz (w:World)(S:Addr)(o:Obj)(es:Array (Int×Value))(ep:Nat)(t:SetTable)(I:Addr)(k:Nat)(h:Heap):Prop where
 set:h.get? S=some o
 data:o.data=.set es ep t
 cls:o.cls=.type "set"
 tab:Tab t (es.toList.map (·.1))
 led:t.led=iX w
 it:∃slot,h.get? I=some (rS S slot k es.size ep)/\(iX w=true->slot=if k=0 then 0 else t.place.getD (k - 1) 0 + 1)
def kz.fits {S I:Addr}{o:Obj}{es:Array (Int×Value)}{ep k:Nat}{t:SetTable}{h:Heap}(X:kz w S o es ep t I k h):t.fits es.size=true:=nV X.tab (by simp)
theorem vj {S I:Addr}{o:Obj}{es:Array (Int×Value)}{ep k slot:Nat}{t:SetTable}{Q:Option (Value×Nat)->Shared->Prop}(X:kz w S o es ep t I k s.heap)(hk:k<=es.size)(hs:iX w=true->slot=if k=0 then 0 else t.place.getD (k - 1) 0 + 1)
  (h:∀(r:Option (Value×Nat)),(k < es.size->∃x nx,r=some (x,nx)/\(told w S ep es)[k]?.map (·.2)=some x/\(iX w=true->nx=t.place.getD k 0 + 1))->(k=es.size->r=none)->Q r s) :
  wpAny (model prog w) A (setNext S slot k ep) Q E s:=by
 rw[AS]
 refine GS (HX X.set X.data X.fits ?_)
 dsimp only
 refine GS (Jt ?_)
 dsimp only
 cases hb:w.params.followText "set-order" with
 |true=>
  rw[GW (show (model prog w).w.params.followText "set-order"=true from hb)]
  simp only[bne_self_eq_false,Hg,HI]
  rw[Ao]
  refine GS (GS (HX X.set X.data X.fits ?_))
  dsimp only
  refine GS (Jt ?_)
  dsimp only
  rw[GW (show (model prog w).w.params.followText "set-order"=true from hb)]
  refine GS (Jt (GX (GX ?_)))
  have et:told w S ep es=pickOrder (w.params.setOrder S ep) es:=by unfold told;rw[GW hb]
  have hsz:(pickOrder (w.params.setOrder S ep) es).size=es.size:=by
   have:=(jl (w.params.setOrder S ep) es).length_eq;simpa using this
  refine h _ (λhlt=>?_) (λe=>?_)
  ·have hlt':k < (pickOrder (w.params.setOrder S ep) es).size:=by rw[hsz];exact hlt
   refine⟨(pickOrder (w.params.setOrder S ep) es)[k].2,slot,?_,?_,λz=>?_⟩
   ·show Option.map _ (pickOrder (w.params.setOrder S ep) es)[k]? =_
    rw[Hv hlt'];rfl
   ·rw[et,Hv hlt'];rfl
   ·unfold iX at z;rw[hb] at z;cases z
  ·show Option.map _ (pickOrder (w.params.setOrder S ep) es)[k]? =_
   rw[Jn (by rw[hsz];omega)];rfl
 |false=>
  rw[G8 (show ¬(model prog w).w.params.followText "set-order"=true by intro z;rw[show (model prog w).w.params.followText "set-order"=false from hb] at z;cases z)]
  have hl:iX w=true:=by unfold iX;rw[hb];rfl
  rw[X.tab.plain,X.led,hl]
  simp only[Jk,Bool.false_and,Hg,HI]
  have et:told w S ep es=es:=by unfold told;rw[hb];simp
  have hps:t.place.size=es.size:=by simpa using X.tab.size
  have hbl:below t.place slot=k:=by
   rw[hs hl]
   obtain⟨b1,b2,b3⟩:=c6 X.tab.rise (if k=0 then 0 else t.place.getD (k - 1) 0 + 1)
   by_cases k0:k=0
   ·subst k0
    simp only[Ic] at b1 b2 b3 ⊢
    rcases Nat.eq_zero_or_pos (below t.place 0) with z |z
    ·exact z
    ·have:=b2 0 z;omega
   ·rw[G8 k0] at b1 b2 b3 ⊢
    have hk1:k - 1 < t.place.size:=by omega
    rcases JG (below t.place (t.place.getD (k - 1) 0 + 1)) k with z |z |z
    ·have q:=b3 (k - 1) (by omega) hk1
     have e:t.place.getD (k - 1) (t.place.getD (k - 1) 0 + 1)=t.place.getD (k - 1) 0:=by simp[Array.getD,hk1]
     omega
    ·exact z
    ·have hks:k < t.place.size:=by omega
     have q:=b2 k z
     have e:t.place.getD k (t.place.getD (k - 1) 0 + 1)=t.place.getD k 0:=by simp[Array.getD,hks]
     have:=gG (d:=0) X.tab.rise (show k - 1 < k by omega) hks
     omega
  refine GX ?_
  rw[hbl]
  refine h _ (λhlt=>?_) (λe=>?_)
  ·have hlt2:k < t.place.size:=by omega
   refine⟨es[k].2,t.place[k] + 1,?_,?_,λ_=>?_⟩
   ·rw[Hv hlt,Hv hlt2]
   ·rw[et,Hv hlt];rfl
   ·simp[Array.getD,hlt2]
  ·rw[Jn (by omega)]
def wC {S I:Addr}{o:Obj}{es:Array (Int×Value)}{ep:Nat}{t:SetTable}(hh:A.handled=none)(hne:S≠I) :
  Walks prog w A I [I,S] [I] es.size (λi v=>(told w S ep es)[i]?.map (·.2)=some v) (λi h=>kz w S o es ep t I i h) where
 sub:=λb hb=>G7.mpr (.inl (HF.mp hb))
 frame:=λi h h' X k=>by
  obtain⟨slot,e,r⟩:=X.it
  exact⟨k S (by simp) _ X.set,X.data,X.cls,X.tab,X.led,slot,k I (by simp) _ e,r⟩
 item:=λi s Q E hi X hQ=>by
  obtain⟨slot,e,r⟩:=X.it
  have hT:s.TypeIs (.ref I) "set_iterator":=⟨_,e,rfl⟩
  unfold pyNext
  refine GS (wpAny_attempt (wpAny_callSpecial?_slot (name:=Str.ofString "__next__") hT bI (Ju bI hT ie ?_ (i3 _))))
  unfold Builtin.«set_iterator.__next__»
  refine GS (m:=slotArgs "__next__" 0 _) (GX ?_)
  dsimp only
  unfold fieldsOf
  refine GS (GS (wpAny_load e (GX ?_)))
  dsimp only
  unfold setEntries
  refine GS (GS (HX X.set X.data X.fits (GX ?_)))
  dsimp only
  rw[G8 (by simp)]
  refine GS ?_
  simp only[HV]
  refine vj X (Nat.le_of_lt hi) r λrr h1 _=>?_
  obtain⟨x,nx,rfl,h2,h3⟩:=h1 hi
  dsimp only
  refine GS (Jr e rfl (by simp) ?_)
  have e2:=HQ (Obj.mapFields λvs=>vs.setIfInBounds 0 (rawInt (nx:Int))) e rfl
  refine GS (Jr e2 rfl (by simp) ?_)
  refine GX ⟨x,rfl,GX ?_⟩
  have sb:=(Heap.SameBut.update s.heap I (Obj.mapFields λvs=>vs.setIfInBounds 0 (rawInt (nx:Int)))).trans (Heap.SameBut.update _ I (Obj.mapFields λvs=>vs.setIfInBounds 1 (rawInt ((i:Int) + 1))))
  refine hQ x _ _ h2 ⟨(sb.2 S hne).trans X.set,X.data,X.cls,X.tab,X.led,nx,?_,λz=>?_⟩ λb o hb eb=>(sb.2 b (by simpa using hb)).trans eb
  ·exact HQ (Obj.mapFields λvs=>vs.setIfInBounds 1 (rawInt ((i:Int) + 1))) e2 rfl
  ·rw[G8 (by omega)];exact h3 z
 done:=λs Q E X hQ=>by
  obtain⟨slot,e,r⟩:=X.it
  have hT:s.TypeIs (.ref I) "set_iterator":=⟨_,e,rfl⟩
  unfold pyNext
  refine GS (wpAny_attempt (wpAny_callSpecial?_slot (name:=Str.ofString "__next__") hT bI (Ju bI hT ie ?_ (i3 _))))
  unfold Builtin.«set_iterator.__next__»
  refine GS (m:=slotArgs "__next__" 0 _) (GX ?_)
  dsimp only
  unfold fieldsOf
  refine GS (GS (wpAny_load e (GX ?_)))
  dsimp only
  unfold setEntries
  refine GS (GS (HX X.set X.data X.fits (GX ?_)))
  dsimp only
  rw[G8 (by simp)]
  refine GS ?_
  simp only[HV]
  refine vj X (GZ _) r λrr _ h1=>?_
  rw[h1 rfl]
  dsimp only
  refine GS (Jr e rfl (by simp) ?_)
  (show wpAny _ _ (newExc (.type "StopIteration") [] >>= λx=>raiseNew x) _ _ _)
  refine GS ?_
  simp only[newExc,newTuple]
  (refine GS (IJ ?_ (by size_fits)))
  (refine GS (m:=firstArgMember _ _) (wpAny_of_eq (a:=Value.none) (by first |rfl | (simp only[firstArgMember];rfl)) ?_))
  (refine IJ ?_ (by size_fits))
  simp only[raiseNew]
  refine GS (wpAny_handled ?_)
  (rw[show A.in1.handled=none from hh])
  refine GS (GX (wpAny_throw ?_))
  refine GS (wpAny_isInstance (T:="StopIteration") (b:=true) ⟨_,Hf _ rfl,rfl⟩ isSubtype_stop (GX (hQ _ _ λb o hb eb=>?_)))
  exact GV _ (GV _ (((Heap.SameBut.update ..).2 b (by simpa using hb)).trans eb))
 self:=λi s Q E X hQ=>by
  obtain⟨slot,e,r⟩:=X.it
  have hT:s.TypeIs (.ref I) "set_iterator":=⟨_,e,rfl⟩
  refine wpAny_pyIter_slot hT i4 (Ju i4 hT lx ?_ (mf _))
  show wpAny _ _ (ret (.ref I)) _ _ s
  exact GX ⟨_,rfl,"set_iterator",_,hT,bI.lookup,hQ⟩
def zV {S:Addr}{o:Obj}{es:Array (Int×Value)}{ep:Nat}{t:SetTable}{Q:Value->Shared->Prop}(ho:s.heap.get? S=some o)(hd:o.data=.set es ep t)(hc:o.cls=.type "set")(T:Tab t (es.toList.map (·.1)))(hl:t.led=iX w)
  (h:Q (.ref s.heap.objs.size) {s with heap:=s.heap.push (rS S 0 0 es.size ep)}):wpAny (model prog w) A (pyIter (.ref S)) Q E s:=by
 have hT:s.TypeIs (.ref S) "set":=⟨o,ho,hc⟩
 have hf:t.fits es.size=true:=nV T (by simp)
 refine wpAny_pyIter_slot hT F.slot_set_iter (Ju F.slot_set_iter hT nr ?_ (F.args_set_iter_1 _))
 unfold Builtin.«frozenset.__iter__» Builtin.Frozenset.slot0
 refine GS (GS (m:=slotArgs "__iter__" 0 _) (GX (GX ?_)))
 unfold Builtin.Frozenset.sizeOf setEntries
 refine GS (GS (GS (HX ho hd hf (GX (GX ?_)))))
 rw[y9]
 refine GS (GS (HX ho hd hf ?_))
 dsimp only
 refine GS (GS (Jt (GX (GX ?_))))
 rw[T.plain]
 simp only[Jk,Bool.false_and,Bool.and_false,Hg,HI]
 refine GS (GX ?_)
 unfold setEpoch
 refine GS (GS (HX ho hd hf (GX ?_)))
 refine GS (IJ (GX ⟨_,rfl,"set_iterator",_,⟨_,Hf _ rfl,rfl⟩,bI.lookup,h⟩))
def sv {S:Addr}{o:Obj}{es:Array (Int×Value)}{ep:Nat}{t:SetTable}{Q:List Value->Shared->Prop}(hh:A.handled=none)(ho:s.heap.get? S=some o)(hd:o.data=.set es ep t)(hc:o.cls=.type "set")(T:Tab t (es.toList.map (·.1)))(hl:t.led=iX w)
  (hn:es.size<=64) (h:∀h' tk vs,vs=(told w S ep es).toList.map (·.2)->(∀b o,s.heap.get? b=some o->h'.get? b=some o)->Q vs {s with heap:=h',toks:=tk}):wpAny (model prog w) A (collect (.ref S)) Q E s:=by
 have hz:es.size<=sizeLine:=by rw[HB];omega
 unfold collect
 (refine GS (wpAny_runValue (IG F.entry_proto_collect ?_)))
 (rw[Iw F.plain_proto_collect _])
 show wpAny _ A.in1 (newList [] >>= λl=>again (.builtin "list.__iadd__" ⟨[l,.ref S],[]⟩)) _ _ s
 refine GS (IJ ?_)
 (refine GX ⟨Jx F.plain_list_iadd _,IG F.entry_list_iadd ?_⟩)
 (rw[Iw F.plain_list_iadd _])
 show wpAny _ A.in1 (Builtin.List.listExtendWith (.ref s.heap.objs.size) (.ref S) (.ref s.heap.objs.size)) _ _ {s with heap:=s.heap.push (seqObj "list" #[] 0)}
 generalize hH:s.heap.push (seqObj "list" #[] 0)=H1
 have kp1:∀b o,s.heap.get? b=some o->H1.get? b=some o:=λb o e=>by rw[<-hH];exact GV _ e
 have hD:H1.get? s.heap.objs.size=some (seqObj "list" #[] 0):=by rw[<-hH];exact Hf _ rfl
 have hHs:H1.objs.size=s.heap.objs.size + 1:=by rw[<-hH];exact Je ..
 have hSD:S≠s.heap.objs.size:=HA (G9 ho)
 have hT:Shared.TypeIs {s with heap:=H1} (.ref S) "set":=⟨o,kp1 _ _ ho,hc⟩
 unfold Builtin.List.listExtendWith
 refine GS (wpAny_typeOf hT ?_)
 have h1:Builtin.List.listSameRef (.ref s.heap.objs.size) (.ref S)=false:=by simp[Builtin.List.listSameRef,Ne.symm hSD]
 have h2:(Value.type "set" == Value.type "list")=false:=by decide
 have h3:(Value.type "set" == Value.type "tuple")=false:=by decide
 rw[h1,h2,h3]
 simp only[Bool.or_false,Hg,HI]
 refine GS (zV (s:={s with heap:=H1}) (kp1 _ _ ho) hd hc T hl ?_)
 refine GS (Im ?_)
 unfold Builtin.List.listLengthHint
 have hT2:Shared.TypeIs {s with heap:=H1.push (rS S 0 0 es.size ep)} (.ref S) "set":=⟨o,GV _ (kp1 _ _ ho),hc⟩
 refine GS (wpAny_specialOf hT2 F.slot_set_len.lookup ?_)
 wp_delta
 refine GS (wpAny_isInstance hT2 (b:=true) (by rw[IQ];kernel_rfl) ?_)
 show wpAny _ A.in1 (typeOf (Value.ref S) >>= λ_=>_) _ _ _
 refine GS (wpAny_typeOf hT2 ?_)
 refine GX ?_
 show wpAny _ A.in1 (rule "list.extend.makes-room" >>= λ_=>Builtin.List.listTouch (.ref s.heap.objs.size) >>= λ_=>again (.builtin "list.extend.loop" ⟨[.ref s.heap.objs.size,.ref H1.objs.size,.ref s.heap.objs.size],[]⟩)) _ _ _
 refine GS (wpAny_rule (GS ?_))
 generalize hH2:H1.push (rS S 0 0 es.size ep)=H2
 have kp2:∀b o,H1.get? b=some o->H2.get? b=some o:=λb o e=>by rw[<-hH2];exact GV _ e
 have hI:H2.get? H1.objs.size=some (rS S 0 0 es.size ep):=by rw[<-hH2];exact Hf _ rfl
 have hS0:=kp2 _ _ hD
 show wpAny _ A.in1 (updateSeq s.heap.objs.size (·.push .none) >>= λ_=>updateSeq s.heap.objs.size (·.pop)) _ _ _
 refine GS (wpAny_updateSeq (s:={s with heap:=H2}) hS0 rfl ?_)
 have hS2:=HQ (Obj.mapSeq (·.push Value.none)) hS0 rfl
 refine wpAny_updateSeq (hz:=by seq_fits) hS2 rfl ?_
 have hS3:=HQ (Obj.mapSeq (·.pop)) hS2 rfl
 have oth:∀b o,b≠s.heap.objs.size->H2.get? b=some o->((H2.update s.heap.objs.size (Obj.mapSeq (·.push Value.none))).update s.heap.objs.size (Obj.mapSeq (·.pop))).get? b=some o:=λb o hb e=>
  ((Heap.SameBut.update _ s.heap.objs.size (Obj.mapSeq (·.pop))).2 b hb).trans (((Heap.SameBut.update H2 s.heap.objs.size (Obj.mapSeq (·.push Value.none))).2 b hb).trans e)
 have hIS:S≠H1.objs.size:=by rw[hHs];exact HA (Nat.lt_succ_of_lt (G9 ho))
 have hID:H1.objs.size≠s.heap.objs.size:=by rw[hHs];exact Nat.succ_ne_self _
 have hDf:s.heap.objs.size∉ [H1.objs.size,S]:=λz=>by
  rcases G7.mp z with e |z
  ·exact hID e.symm
  ·exact hSD (HF.mp z).symm
 have X0:kz w S o es ep t H1.objs.size 0 ((H2.update s.heap.objs.size (Obj.mapSeq (·.push Value.none))).update s.heap.objs.size (Obj.mapSeq (·.pop))):=
  ⟨oth _ _ hSD (kp2 _ _ (kp1 _ _ ho)),hd,hc,T,hl,0,oth _ _ hID hI,λ_=>rfl⟩
 refine GX ⟨Jx F.plain_extend_loop _,codeAny_extend_loopS (wC (A:=A.in1) (o:=o) (t:=t) hh hIS).toS hz _ hDf _ es.size 0 _ _ _ rfl (HK _) X0 hS3 (ItemsOf.nil _) λs' acc' c' hm hS' hacc=>?_⟩
 show wpAny _ A (load s.heap.objs.size >>= λ_=>_) _ _ s'
 refine GS (wpAny_load hS' (GX ?_))
 obtain⟨h',g',d',tk',os'⟩:=s'
 have eg:g'=s.gens:=hm.gens
 have ed:d'=s.drawn:=hm.drawn
 have eo:os'=s.os:=hm.os
 subst eg ed eo
 refine h h' tk' acc'.toList ?_ λb ob e=>hm.heap b ob (λhb=>?_) (oth b ob (HA (G9 e)) (kp2 _ _ (kp1 _ _ e)))
 ·have hts:(told w S ep es).size=es.size:=by have:=(pd w S ep es).length_eq;simpa using this
  apply JI
  intro i
  rw[He]
  by_cases hi:i < es.size
  ·have hi1:i < acc'.size:=by rw[hacc.1];exact hi
   have q:=hacc.2 i acc'[i] (Hv hi1)
   rw[IE,IE,Hv hi1]
   exact q.symm
  ·rw[IE,IE,Jn (by rw[hacc.1];omega),Jn (by omega)];rfl
 ·have hlt:=G9 e
  rcases G7.mp hb with z |z
  ·rw[z] at hlt;exact HG _ hlt
  ·rw[HF.mp z,hHs] at hlt;exact absurd hlt (Nat.not_lt.mpr (Nat.le_succ _))
end
end L2.ST
namespace OM
abbrev Pr:=Int×Int
def z6 (p q:Pr):Prop:=p.1 < q.1\/(p.1=q.1/\p.2 < q.2)
def iO (p:Pr):¬z6 p p:=by unfold z6;omega
def xr {p q r:Pr}(a:z6 p q)(b:z6 q r):z6 p r:=by unfold z6 at *;omega
abbrev pC (l:List Pr):Prop:=l.Pairwise z6
theorem dw:∀{l m:List Pr},pC l->pC m->(∀x,x∈l↔x∈m)->l=m
 | [],[],_,_,_=>rfl
 | [],b :: m,_,_,h=>absurd ((h b).mpr (G6 ..)) (by simp)
 |a :: l,[],_,_,h=>absurd ((h a).mp (G6 ..)) (by simp)
 |a :: l,b :: m,hl,hm,h=>by
  have hl':=List.pairwise_cons.mp hl
  have hm':=List.pairwise_cons.mp hm
  have e:a=b:=by
   rcases G7.mp ((h a).mp (G6 ..)) with e |e
   ·exact e
   ·rcases G7.mp ((h b).mpr (G6 ..)) with e' |e'
    ·exact e'.symm
    ·exact absurd (xr (hm'.1 a e) (hl'.1 b e')) (iO _)
  subst e
  congr 1
  refine dw hl'.2 hm'.2 λx=>⟨λhx=>?_,λhx=>?_⟩
  ·rcases G7.mp ((h x).mp (GY _ hx)) with e |e
   ·subst e;exact absurd (hl'.1 x hx) (iO _)
   ·exact e
  ·rcases G7.mp ((h x).mpr (GY _ hx)) with e |e
   ·subst e;exact absurd (hm'.1 x hx) (iO _)
   ·exact e
def fQ {l:List Pr}(h:pC l):l.Nodup:=h.imp λ{a b} hab e=>by subst e;exact iO _ hab
def cy {l:List Pr}(p:Pr->Bool)(h:pC l):pC (l.filter p):=h.sublist List.filter_sublist
def bO (n:Nat):List Pr:=(List.range (n * n)).map λk=>(((k / n:Nat):Int),((k % n:Nat):Int))
def aY {n:Nat}{p:Pr}:p∈bO n↔(0<=p.1/\p.1 < n)/\(0<=p.2/\p.2 < n):=by
 unfold bO
 rw[Ha]
 constructor
 ·rintro⟨k,hk,rfl⟩
  have hk:=Hn.mp hk
  have hn:0 < n:=by
   rcases Nat.eq_zero_or_pos n with e |e
   ·subst e;omega
   ·exact e
  have h1:k / n < n:=Nat.div_lt_of_lt_mul hk
  have h2:k % n < n:=Nat.mod_lt _ hn
  generalize k / n=q at h1
  generalize k % n=r at h2
  exact⟨⟨Int.natCast_nonneg _,by dsimp only;omega⟩,⟨Int.natCast_nonneg _,by dsimp only;omega⟩⟩
 ·rintro⟨⟨a0,a1⟩,⟨b0,b1⟩⟩
  have hn:0 < n:=by omega
  refine⟨p.1.toNat * n + p.2.toNat,Hn.mpr ?_,?_⟩
  ·have h1:p.1.toNat + 1<=n:=by omega
   have h2:p.2.toNat < n:=by omega
   have:=Nat.mul_le_mul_right n h1
   rw[Nat.add_mul] at this
   omega
  ·have h2:p.2.toNat < n:=by omega
   have e1:(p.1.toNat * n + p.2.toNat) / n=p.1.toNat:=by
    rw[Nat.mul_comm,Nat.mul_add_div hn,Nat.div_eq_of_lt h2];rfl
   have e2:(p.1.toNat * n + p.2.toNat) % n=p.2.toNat:=by
    rw[Nat.mul_comm,Nat.mul_add_mod,Nat.mod_eq_of_lt h2]
   rw[e1,e2]
   refine Prod.ext ?_ ?_ <;> dsimp only <;> omega
def eZ (n:Nat):pC (bO n):=by
 unfold bO
 refine HM.mpr (Ij ?_ List.pairwise_lt_range)
 intro a b ha hb hab
 have ha:=Hn.mp ha
 have hb:=Hn.mp hb
 have hn:0 < n:=by
  rcases Nat.eq_zero_or_pos n with e |e
  ·subst e;omega
  ·exact e
 have h1:a / n<=b / n:=Nat.div_le_div_right (Nat.le_of_lt hab)
 have e1:=Nat.div_add_mod a n
 have e2:=Nat.div_add_mod b n
 unfold z6
 dsimp only
 rcases Ig (a / n) (b / n) with c |c
 ·left;omega
 ·right
  have e:a / n=b / n:=by omega
  rw[e] at e1
  omega
open Classical in
noncomputable def bu (n:Nat)(R:Int->Int->Prop):List Pr:=(bO n).filter λp=>decide (R p.1 p.2)
def aM {n:Nat}{R:Int->Int->Prop}{p:Pr}:p∈bu n R↔((0<=p.1/\p.1 < n)/\(0<=p.2/\p.2 < n))/\R p.1 p.2:=by
 unfold bu
 rw[Hk,aY]
 simp
def bX (n:Nat)(R:Int->Int->Prop):pC (bu n R):=cy _ (eZ n)
def uI {n:Nat}{R S:Int->Int->Prop}(h:∀a b:Int,0<=a->a < n->0<=b->b < n->(R a b↔S a b)):bu n R=bu n S:=by
 refine dw (bX n R) (bX n S) λx=>?_
 rw[aM,aM]
 constructor
 ·rintro⟨⟨⟨a,b⟩,c,d⟩,r⟩;exact⟨⟨⟨a,b⟩,c,d⟩,(h _ _ a b c d).mp r⟩
 ·rintro⟨⟨⟨a,b⟩,c,d⟩,r⟩;exact⟨⟨⟨a,b⟩,c,d⟩,(h _ _ a b c d).mpr r⟩
def Wn (n:Nat)(l:List Pr):Prop:=∀p,p∈l->(0<=p.1/\p.1 < n)/\(0<=p.2/\p.2 < n)
abbrev Mem (l:List Pr)(a b:Int):Prop:=(a,b)∈l
def v7 {n:Nat}{l:List Pr}(w:Wn n l)(r:pC l):bu n (Mem l)=l:=by
 refine dw (bX n _) r λx=>?_
 rw[aM]
 exact⟨λh=>h.2,λh=>⟨w x h,h⟩⟩
def mH (n:Nat)(R:Int->Int->Prop):Wn n (bu n R):=λ_ h=>(aM.mp h).1
def yy (n:Nat)(R:Int->Int->Prop):(bu n R).length<=n * n:=by
 unfold bu
 refine Ie (HR ..) ?_
 unfold bO;simp
inductive Tr (R:Int->Int->Prop):Int->Int->Prop
 |one {a b}:R a b->Tr R a b
 |more {a b c}:R a b->Tr R b c->Tr R a c
theorem Tr.trans {R:Int->Int->Prop}{a b c:Int}(h:Tr R a b)(k:Tr R b c):Tr R a c:=by
 induction h with
 |one r=>exact .more r k
 |more r _ ih=>exact .more r (ih k)
theorem Tr.least {R S:Int->Int->Prop}(f:∀a b,R a b->S a b)(t:∀a b c,S a b->S b c->S a c){a b:Int}(h:Tr R a b):S a b:=by
 induction h with
 |one r=>exact f _ _ r
 |more r _ ih=>exact t _ _ _ (f _ _ r) ih
theorem Tr.wn {n:Nat}{l:List Pr}(w:Wn n l){a b:Int}(h:Tr (Mem l) a b):(0<=a/\a < n)/\(0<=b/\b < n):=by
 induction h with
 |one r=>exact w _ r
 |more r _ ih=>exact⟨(w _ r).1,ih.2⟩
structure Ord (n:Nat)(l:List Pr):Prop where
 lo:1<=n
 hi:n<=8
 wn:Wn n l
 ris:pC l
 irr:∀a,(a,a)∉l
 tr:∀a b c,(a,b)∈l->(b,c)∈l->(a,c)∈l
def Ord.tr_mem {n:Nat}{l:List Pr}(O:Ord n l){a b:Int}:Tr (Mem l) a b↔(a,b)∈l:=
 ⟨λh=>h.least (λ_ _ r=>r) λa b c=>O.tr a b c,λh=>.one h⟩
def Ord.closed {n:Nat}{l:List Pr}(O:Ord n l):bu n (Tr (Mem l))=l:=by
 rw[uI (S:=Mem l) λa b _ _ _ _=>O.tr_mem,v7 O.wn O.ris]
def C6 {n:Nat}{l:List Pr}(h1:1<=n)(h8:n<=8)(w:Wn n l)(hr:∀a,¬Tr (Mem l) a a):Ord n (bu n (Tr (Mem l))):=
 ⟨h1,h8,mH n _,bX n _,λa h=>hr a (aM.mp h).2,λa b c h k=>aM.mpr ⟨⟨(aM.mp h).1.1,(aM.mp k).1.2⟩,(aM.mp h).2.trans (aM.mp k).2⟩⟩
theorem nv {l m:List Pr}(hl:l.Nodup)(h:∀x,x∈l->x∈m):l.length<=m.length:=by
 induction l generalizing m with
 |nil=>exact HK _
 |cons a l ih=>
  have ha:=h a (G6 ..)
  have hl':=HJ.mp hl
  have:=ih (m:=m.erase a) hl'.2 λx hx=>by
   refine (List.mem_erase_of_ne ?_).mpr (h x (GY _ hx))
   rintro rfl;exact hl'.1 hx
  rw[JC ha] at this
  have:0 < m.length:=List.length_pos_of_mem ha
  simp only[Hr];omega
def sub_eq {l m:List Pr}(hl:pC l)(hm:pC m)(h:∀x,x∈l->x∈m)(e:l.length=m.length):l=m:=by
 refine dw hl hm λx=>⟨h x,λhx=>Classical.byContradiction λhn=>?_⟩
 have:=nv (l:=x :: l) (m:=m) (HJ.mpr ⟨hn,fQ hl⟩) λy hy=>by
  rcases G7.mp hy with e |e
  ·subst e;exact hx
  ·exact h y e
 simp only[Hr] at this
 omega
def more (l:List Pr):List Pr:=l.flatMap λp=>(l.filter λq=>decide (q.1=p.2)).map λq=>(p.1,q.2)
def nt {l:List Pr}{x:Pr}:x∈more l↔∃b,(x.1,b)∈l/\(b,x.2)∈l:=by
 unfold more
 rw[List.mem_flatMap]
 constructor
 ·rintro⟨p,hp,hx⟩
  obtain⟨q,hq,rfl⟩:=Ha.mp hx
  obtain⟨hq,e⟩:=Hk.mp hq
  have e:q.1=p.2:=by simpa using e
  exact⟨p.2,hp,by rw[<-e];exact hq⟩
 ·rintro⟨b,h1,h2⟩
  exact⟨(x.1,b),h1,Ha.mpr ⟨(b,x.2),Hk.mpr ⟨h2,by simp⟩,rfl⟩⟩
noncomputable def ji (n:Nat)(l:List Pr):List Pr:=bu n (Mem (l ++ more l))
structure BI (n:Nat)(ps l:List Pr):Prop where
 wn:Wn n l
 ris:pC l
 sub:∀x,x∈ps->x∈l
 sup:∀x,x∈l->Tr (Mem ps) x.1 x.2
def xm {n:Nat}{ps:List Pr}(w:Wn n ps):BI n ps (bu n (Mem ps)):=
 ⟨mH n _,bX n _,λx hx=>aM.mpr ⟨w x hx,hx⟩,λ_ hx=>.one (aM.mp hx).2⟩
def zP {n:Nat}{ps l:List Pr}(B:BI n ps l):Wn n (l ++ more l):=λx hx=>by
 rcases Hu.mp hx with h |h
 ·exact B.wn x h
 ·obtain⟨b,h1,h2⟩:=nt.mp h
  exact⟨(B.wn _ h1).1,(B.wn _ h2).2⟩
def sg {n:Nat}{ps l:List Pr}(B:BI n ps l):BI n ps (ji n l)/\∀x,x∈l->x∈ji n l:=by
 have hs:∀x,x∈l->x∈ji n l:=λx hx=>aM.mpr ⟨B.wn x hx,IF _ hx⟩
 refine⟨⟨mH n _,bX n _,λx hx=>hs x (B.sub x hx),λx hx=>?_⟩,hs⟩
 rcases Hu.mp (aM.mp hx).2 with h |h
 ·exact B.sup _ h
 ·obtain⟨b,h1,h2⟩:=nt.mp h
  exact (B.sup _ h1).trans (B.sup _ h2)
def yW {n:Nat}{ps l:List Pr}(B:BI n ps l)(e:(ji n l).length=l.length):ji n l=bu n (Tr (Mem ps)):=by
 obtain⟨B2,hs⟩:=sg B
 have q:l=ji n l:=sub_eq B.ris B2.ris hs e.symm
 refine dw B2.ris (bX n _) λx=>⟨λh=>aM.mpr ⟨B2.wn x h,B2.sup x h⟩,λh=>?_⟩
 rw[<-q]
 have tr:∀a b c:Int,(a,b)∈l->(b,c)∈l->(a,c)∈l:=λa b c h1 h2=>by
  rw[q]
  exact aM.mpr ⟨⟨(B.wn _ h1).1,(B.wn _ h2).2⟩,HC _ (nt.mpr ⟨b,h1,h2⟩)⟩
 exact (aM.mp h).2.least (S:=Mem l) (λa b r=>B.sub _ r) tr
abbrev Tb:=Nat->Nat->Bool
def Tb.set (M:Tb)(a b:Nat):Tb:=λx y=>if x=a/\y=b then true else M x y
def AN (M:Tb)(m:Nat):Prop:=∀k a b,k < m->M a k=true->M k b=true->M a b=true
def Phase (M0 M:Tb)(m:Nat)(D:Nat->Nat->Prop):Prop:=∀a b,M a b=true↔M0 a b=true\/(D a b/\M0 a m=true/\M0 m b=true)
def Phase.start (M:Tb)(m:Nat):Phase M M m λ_ _=>False:=λa b=>by simp
def Phase.row {M0 M:Tb}{m:Nat}{D:Nat->Nat->Prop}(P:Phase M0 M m D)(a:Nat):M a m=true↔M0 a m=true:=by
 rw[P]
 exact⟨λh=>h.elim id λh=>h.2.1,.inl⟩
def Phase.col {M0 M:Tb}{m:Nat}{D:Nat->Nat->Prop}(P:Phase M0 M m D)(b:Nat):M m b=true↔M0 m b=true:=by
 rw[P]
 exact⟨λh=>h.elim id λh=>h.2.2,.inl⟩
def Phase.step {M0 M:Tb}{m:Nat}{D:Nat->Nat->Prop}(P:Phase M0 M m D)(x y:Nat) :
  Phase M0 (if M x m=true/\M m y=true then M.set x y else M) m (λa b=>D a b\/(a=x/\b=y)):=λa b=>by
 have r:=P.row x
 have c:=P.col y
 by_cases h:M x m=true/\M m y=true
 ·rw[GW h]
  unfold Tb.set
  by_cases e:a=x/\b=y
  ·rw[GW e]
   obtain⟨rfl,rfl⟩:=e
   simp only[true_iff]
   exact .inr ⟨.inr (by simp),r.mp h.1,c.mp h.2⟩
  ·rw[G8 e,P]
   constructor
   ·rintro (q | ⟨d,q⟩)
    ·exact .inl q
    ·exact .inr ⟨.inl d,q⟩
   ·rintro (q | ⟨d |d,q⟩)
    ·exact .inl q
    ·exact .inr ⟨d,q⟩
    ·exact absurd d e
 ·rw[G8 h,P]
  constructor
  ·rintro (q | ⟨d,q⟩)
   ·exact .inl q
   ·exact .inr ⟨.inl d,q⟩
  ·rintro (q | ⟨d | ⟨rfl,rfl⟩,q1,q2⟩)
   ·exact .inl q
   ·exact .inr ⟨d,q1,q2⟩
   ·exact absurd ⟨r.mpr q1,c.mpr q2⟩ h
def Phase.done {M0 M:Tb}{m n:Nat}{D:Nat->Nat->Prop}(P:Phase M0 M m D)(hD:∀a b,a < n->b < n->D a b)(hM:∀a b,M0 a b=true->a < n/\b < n)(T:AN M0 m) :
  AN M (m + 1)/\∀a b,M a b=true->a < n/\b < n:=by
 have hM':∀a b,M a b=true->a < n/\b < n:=λa b h=>by
  rcases (P a b).mp h with q | ⟨_,q1,q2⟩
  ·exact hM a b q
  ·exact⟨(hM _ _ q1).1,(hM _ _ q2).2⟩
 have put:∀a b,M0 a m=true->M0 m b=true->M a b=true:=λa b h1 h2=>(P a b).mpr (.inr ⟨hD a b (hM _ _ h1).1 (hM _ _ h2).2,h1,h2⟩)
 refine⟨λk a b hk h1 h2=>?_,hM'⟩
 rcases Ig k m with c |c
 ·rcases (P a k).mp h1 with q1 | ⟨_,q1,q1'⟩
  ·rcases (P k b).mp h2 with q2 | ⟨_,q2,q2'⟩
   ·exact (P a b).mpr (.inl (T k a b c q1 q2))
   ·exact put a b (T k a m c q1 q2) q2'
  ·rcases (P k b).mp h2 with q2 | ⟨_,q2,q2'⟩
   ·exact put a b q1 (T k m b c q1' q2)
   ·exact put a b q1 q2'
 ·have e:k=m:=by omega
  subst e
  exact put a b ((P.row a).mp h1) ((P.col b).mp h2)
structure Tab (n:Nat)(ps:List Pr)(M:Tb):Prop where
 inn:∀a b,M a b=true->a < n/\b < n
 sub:∀a b:Nat,((a:Int),(b:Int))∈ps->M a b=true
 sup:∀a b:Nat,M a b=true->Tr (Mem ps) a b
def Tab.phase {n:Nat}{ps:List Pr}{M0 M:Tb}{m:Nat}{D:Nat->Nat->Prop}(T:Tab n ps M0)(P:Phase M0 M m D):Tab n ps M:=
 ⟨λa b h=>by
  rcases (P a b).mp h with q | ⟨_,q1,q2⟩
  ·exact T.inn a b q
  ·exact⟨(T.inn _ _ q1).1,(T.inn _ _ q2).2⟩,
  λa b h=>(P a b).mpr (.inl (T.sub a b h)),
  λa b h=>by
  rcases (P a b).mp h with q | ⟨_,q1,q2⟩
  ·exact T.sup a b q
  ·exact (T.sup _ _ q1).trans (T.sup _ _ q2)⟩
def Tab.all {n:Nat}{ps:List Pr}{M:Tb}(w:Wn n ps)(T:Tab n ps M)(H:AN M n)(a b:Nat):M a b=true↔Tr (Mem ps) a b:=by
 refine⟨T.sup a b,λh=>?_⟩
 have key:∀{x y:Int},Tr (Mem ps) x y->M x.toNat y.toNat=true:=λ{x y} h=>by
  induction h with
  | @one x y r=>
   have:=w _ r
   refine T.sub _ _ ?_
   have e1:((x.toNat:Nat):Int)=x:=by simp only at this;omega
   have e2:((y.toNat:Nat):Int)=y:=by simp only at this;omega
   rw[e1,e2];exact r
  | @more x y z r _ ih=>
   have:=w _ r
   have e1:((x.toNat:Nat):Int)=x:=by simp only at this;omega
   have e2:((y.toNat:Nat):Int)=y:=by simp only at this;omega
   have q:M x.toNat y.toNat=true:=T.sub _ _ (by rw[e1,e2];exact r)
   exact H y.toNat _ _ (T.inn _ _ q).2 q ih
 have:=key h
 simpa using this
end OM
namespace L2.ST
open PySem PySem.SetTable PySem.W PyProof.Rows
section
variable {prog:Program}{w:World}{A:Around}{E:Value->Shared->Prop}{s:Shared}
def Cv {ps:List Pr}(hs:∀p,p∈ps->Sm p){ix:Array Nat}(P:L2.SO.Pm ps.length ix)(U:L2.SO.Up (nZ ps) ix ps.length):OM.pC (ix.toList.map λi=>ps.getD i (0,0)):=by
 refine HM.mpr (Jc.mpr λi j hi hj hij=>?_)
 have hi':i < ix.size:=by simpa using hi
 have hj':j < ix.size:=by simpa using hj
 have q:=U i j hij (by rw[<-P.sz];exact hj')
 unfold L2.SO.Kp nZ at q
 have ei:ix.getD i 0=ix.toList[i]:=by simp[Array.getD,hi']
 have ej:ix.getD j 0=ix.toList[j]:=by simp[Array.getD,hj']
 rw[ei,ej] at q
 have ai:ix.toList[i] < ps.length:=P.lt _ (by simp)
 have aj:ix.toList[j] < ps.length:=P.lt _ (by simp)
 have bi:Sm (ps.getD ix.toList[i] (0,0)):=by rw[Hy,GU ai];exact hs _ (Iu ai)
 have bj:Sm (ps.getD ix.toList[j] (0,0)):=by rw[Hy,GU aj];exact hs _ (Iu aj)
 exact (vd bi bj).mp q
def CV {n:Nat}{ix:Array Nat}(P:L2.SO.Pm n ix){k:Nat}(hk:k < n):k∈ix.toList:=by
 refine Classical.byContradiction λhn=>?_
 have:=bF (l:=k :: ix.toList) (m:=List.range n) (HJ.mpr ⟨hn,P.nd⟩) λx hx=>by
  rcases G7.mp hx with e |e
  ·rw[e];exact Hn.mpr hk
  ·exact Hn.mpr (P.lt x (by simpa using e))
 simp[P.sz] at this
 omega
theorem EI {h:Heap}{vs:List Value}{ps:List Pr}(hps:cB prog w h vs ps){ix:Array Nat}(P:L2.SO.Pm vs.length ix) :
  cB prog w h (ix.toList.map λi=>vs.getD i Value.none) (ix.toList.map λi=>ps.getD i (0,0)):=by
 refine⟨by simp,λi v p h1 h2=>?_⟩
 rw[He] at h1 h2
 cases e:ix.toList[i]? with
 |none=>rw[e] at h1;cases h1
 |some k=>
  rw[e] at h1 h2
  have hk:k < vs.length:=P.lt k (by simpa using Hi e)
  have hk':k < ps.length:=by rw[<-hps.1];exact hk
  simp[hk,hk'] at h1 h2
  exact hps.2 k v p (by rw[GU hk,h1]) (by rw[GU hk',h2])
def oC {v:Value}{vs:List Value}{ps:List Pr}{Q:Value->Shared->Prop}(hps:cB prog w s.heap vs ps)(nd:ps.Nodup)(h64:vs.length < 64)
  (hcol:∀(Q':List Value->Shared->Prop),(∀h' tk,(∀b o,s.heap.get? b=some o->h'.get? b=some o)->Q' vs {s with heap:=h',toks:=tk})->wpAny (model prog w) A.in1 (collect v) Q' (λe s'=>E e s') s)
  (h:∀(h1 h':Heap) (tk:Nat) (D:Addr) (out:List Value) (qs:List Pr) (c:Nat),(∀b o,s.heap.get? b=some o->h1.get? b=some o)->D=h1.objs.size->(∀b o,h1.get? b=some o->h'.get? b=some o)->h'.get? D=some (seqObj "list" out.toArray c)->cB prog w h' out qs->(∀u,u∈out->u∈vs)->OM.pC qs->(∀p,p∈qs↔p∈ps)->
   Q (.ref D) {s with heap:=h',toks:=tk}):wpAny (model prog w) A (call (.builtin "sorted") [v]) Q E s:=by
 have hsm:∀p,p∈ps->Sm p:=λp hp=>by
  obtain⟨i,hi,e⟩:=Hz.mp hp
  have hi':i < vs.length:=by rw[hps.1];exact hi
  obtain⟨_,_,_,hs⟩:=hps.2 i vs[i] p (GU hi') (by rw[GU hi,e])
  exact hs
 (refine Calls.call_function_entry kind_sorted plain_sorted entry_sorted (args_sorted1 _) ?_)
 unfold Builtin.«sorted»
 refine GS (m:=checkCount "sorted" 1 1 ([v]:List Value).length) (GX ?_)
 refine GS (hcol _ λh1 tk1 k1=>?_)
 have hz:vs.length<=sizeLine:=by rw[HB];omega
 refine GS (wpAny_newList ?_ hz)
 show wpAny _ _ _ _ _ {s with heap:=h1.push (seqObj "list" vs.toArray 0),toks:=tk1}
 have hoL:(h1.push (seqObj "list" vs.toArray 0)).get? h1.objs.size=some (seqObj "list" vs.toArray 0):=Hf _ rfl
 have kp:∀b o,s.heap.get? b=some o->(h1.push (seqObj "list" vs.toArray 0)).get? b=some o:=λb o e=>GV _ (k1 b o e)
 have hp1:cB prog w (h1.push (seqObj "list" vs.toArray 0)) vs ps:=⟨hps.1,λi v p a b=>by
  obtain⟨c,e,⟨o,it,n,ho,r⟩,hs⟩:=hps.2 i v p a b
  exact⟨c,e,⟨o,it,n,kp _ _ ho,r⟩,hs⟩⟩
 have hne:∀b o,s.heap.get? b=some o->b≠h1.objs.size:=λb o e=>HA (G9 (k1 b o e))
 refine GS (Im (Ju slot_list_sort ⟨_,hoL,rfl⟩ entry_list_sort ?_ (args_list_sort _)))
 refine sD (s:={s with heap:=h1.push (seqObj "list" vs.toArray 0),toks:=tk1}) hoL hp1 nd h64 λh' c ix P U hk ho=>?_
 refine⟨_,rfl,GX ⟨_,rfl,?_⟩⟩
 have kk:∀b o,s.heap.get? b=some o->h'.get? b=some o:=λb o e=>hk b o (hne b o e) (kp b o e)
 have P':L2.SO.Pm ps.length ix:=by rw[<-hps.1];exact P
 have k2:∀b o,h1.get? b=some o->h'.get? b=some o:=λb o e=>hk b o (HA (G9 e)) (GV _ e)
 refine h h1 h' tk1 h1.objs.size _ (ix.toList.map λi=>ps.getD i (0,0)) c k1 rfl k2 ho (EI ⟨hps.1,λi v p a b=>?_⟩ P) (λu hu=>?_) (Cv hsm P' (by rw[<-hps.1];exact U)) λp=>⟨λhp=>?_,λhp=>?_⟩
 ·obtain⟨c,e,⟨o,it,n,ho,r⟩,hs⟩:=hps.2 i v p a b
  exact⟨c,e,⟨o,it,n,kk _ _ ho,r⟩,hs⟩
 ·obtain⟨i,hi,rfl⟩:=Ha.mp hu
  have:i < vs.length:=P.lt i (by simpa using hi)
  rw[Hy,GU this]
  exact Iu this
 ·obtain⟨i,hi,rfl⟩:=Ha.mp hp
  have:i < ps.length:=P'.lt i (by simpa using hi)
  rw[Hy,GU this]
  exact Iu this
 ·obtain⟨i,hi,e⟩:=Hz.mp hp
  refine Ha.mpr ⟨i,CV P' hi,?_⟩
  rw[Hy,GU hi,e];rfl
end
end L2.ST
namespace L2
open PySem PySem.Spec PyProof.Rows
abbrev Pr:=Int×Int
abbrev Sm:=L2.ST.Sm
section
variable {X:Cx}{pins:List (Addr×Obj)}{σ:St}{H H':Hp}{s:Shared}
def fU (H H':Hp):Prop:=(∀b xs,H b=some (.tup xs)->H' b=some (.tup xs))/\∀b o u,H b=some (.a7 o u)->H' b=some (.a7 o u)
def fU.trans {H H1 H2:Hp}(a:fU H H1)(b:fU H1 H2):fU H H2:=⟨λc xs h=>b.1 c xs (a.1 c xs h),λc o u h=>b.2 c o u (a.2 c o u h)⟩
def ah.grow {H H':Hp}(e:ah H H'):fU H H':=⟨λb xs h=>e b _ h,λb o u h=>e b _ h⟩
def fU.new {H:Hp}{l:Addr}{o:HO}(h:H l=none):fU H (upd H l o):=⟨λb xs e=>by rw[au (aB e h)];exact e,λb o' u e=>by rw[au (aB e h)];exact e⟩
def ah.new {H:Hp}{l:Addr}{o:HO}(h:H l=none):ah H (upd H l o):=λb u e=>by rw[au (aB e h)];exact e
def dH.grow {K:Frag}{a:Addr}{xs:List V}(h:dH K H a xs)(g:fU H H'):dH K H' a xs:=by
 rcases h with (h | ⟨o,h⟩) |h
 ·exact .inl (.inl (g.1 _ _ h))
 ·exact .inl (.inr ⟨o,g.2 _ _ _ h⟩)
 ·exact .inr h
def fU.list {a:Addr}{ys:List V}{o:HO}(h:H a=some (.lst ys)):fU H (upd H a o):=
 ⟨λb xs e=>by rw[au (uW e h (by intro z;cases z))];exact e,λb o' u e=>by rw[au (uW e h (by intro z;cases z))];exact e⟩
theorem om {α β:Type}{f:α->β}:∀{l:List α} {m:List β},m.Perm (l.map f)->∃l':List α,m=l'.map f/\l'.Perm l:=by
 intro l m h
 generalize hk:l.map f=k at h
 induction h generalizing l with
 |nil=>
  have:l= []:=by simpa using hk
  exact⟨[],rfl,by rw[this]⟩
 | @cons x m1 m2 _ ih=>
  cases l with
  |nil=>cases hk
  |cons a l=>
   simp only[Hx,List.cons.injEq] at hk
   obtain⟨l',e,p⟩:=ih hk.2
   exact⟨a :: l',by rw[Hx,hk.1,e],p.cons a⟩
 |swap x y m1=>
  cases l with
  |nil=>cases hk
  |cons a l=>
   cases l with
   |nil=>simp at hk
   |cons b l=>
    simp only[Hx,List.cons.injEq] at hk
    exact⟨b :: a :: l,by rw[Hx,Hx,hk.1,hk.2.1,hk.2.2],List.Perm.swap ..⟩
 |trans _ _ ih1 ih2=>
  obtain⟨l1,e1,p1⟩:=ih2 hk
  obtain⟨l2,e2,p2⟩:=ih1 e1.symm
  exact⟨l2,e2,p2.trans p1⟩
def aI (K:Frag)(H:Hp):List V->List Pr->Prop:=Paired λv p=>∃a,v=.ref a/\dH K H a [.int p.1,.int p.2]
def aI.grow {K:Frag}{vs:List V}{ps:List Pr}(h:aI K H vs ps)(g:fU H H'):aI K H' vs ps:=Paired.mapP h λv p ⟨a,e,q⟩=>⟨a,e,q.grow g⟩
theorem Paired.getP {α β:Type}{F:α->β->Prop}:∀{l:List α} {m:List β} {i:Nat} {x:α},Paired F l m->l[i]? =some x->∃y,m[i]? =some y/\F x y
 |_,_,_,_,.nil,e=>by simp at e
 |_,_,0,_,.cons r _,e=>by simp at e;subst e;exact⟨_,rfl,r⟩
 |_,_,i + 1,x,.cons _ t,e=>by
  obtain⟨u,h1,h2⟩:=Paired.getP (i:=i) (x:=x) t (by simpa using e)
  exact⟨u,by simpa using h1,h2⟩
theorem Paired.getQ {α β:Type}{F:α->β->Prop}:∀{l:List α} {m:List β} {i:Nat} {y:β},Paired F l m->m[i]? =some y->∃x,l[i]? =some x/\F x y
 |_,_,_,_,.nil,e=>by simp at e
 |_,_,0,_,.cons r _,e=>by simp at e;subst e;exact⟨_,rfl,r⟩
 |_,_,i + 1,x,.cons _ t,e=>by
  obtain⟨u,h1,h2⟩:=Paired.getQ (i:=i) (y:=x) t (by simpa using e)
  exact⟨u,by simpa using h1,h2⟩
theorem p0 (I:Inv X pins σ H s){a:Addr}{p:Pr}(h:dH X.K H a [.int p.1,.int p.2]):L2.ST.bw X.prog X.w s.heap p a:=by
 obtain⟨its,r,⟨o,ho,hc,n,hd⟩,_⟩:=I.tuple h
 cases r with
 |cons r1 r=>
  cases r with
  |cons r2 r=>
   cases r
   obtain⟨t1,rfl⟩:=r1
   obtain⟨t2,rfl⟩:=r2
   exact⟨o,_,n,ho,hc,hd,.cons (intKind_is ..) (.cons (intKind_is ..) .nil)⟩
def pairs_at (I:Inv X pins σ H s){vs:List V}{us:List Value}{ps:List Pr}(hv:Vals vs us)(h:aI X.K H vs ps)(hs:∀p,p∈ps->Sm p):L2.ST.cB X.prog X.w s.heap us ps:=by
 refine⟨by rw[<-hv.length];exact Paired.length h,λi u p e1 e2=>?_⟩
 obtain⟨v,ev,a,rfl,q⟩:=Paired.getQ h e2
 obtain⟨u',eu,ru⟩:=hv.get ev
 rw[e1] at eu;cases eu
 cases ru
 exact⟨a,rfl,p0 I q,hs p (Hi e2)⟩
theorem nA (I:Inv X pins σ H s){vs:List V}{us:List Value}{ps:List Pr}(hv:Vals vs us)(h:aI X.K H vs ps){h':Heap}(k:∀b o,s.heap.get? b=some o->h'.get? b=some o):∀{out:List Value} {qs:List Pr},
  (∀u,u∈out->u∈us)->L2.ST.cB X.prog X.w h' out qs->∃ws,Vals ws out/\aI X.K H ws qs
 | [],[],_,_=>⟨[],.nil,.nil⟩
 | [],_ :: _,_,hp=>by have:=hp.1;simp at this
 |_ :: _,[],_,hp=>by have:=hp.1;simp at this
 |u :: out,q :: qs,hm,hp=>by
  obtain⟨ws,a1,a2⟩:=nA I hv h k (out:=out) (qs:=qs) (λx hx=>hm x (GY _ hx)) ⟨by have:=hp.1;simpa using this,λi v p e1 e2=>hp.2 (i + 1) v p (by simpa using e1) (by simpa using e2)⟩
  obtain⟨i,hi,e⟩:=Hz.mp (hm u (G6 ..))
  have hi':i < vs.length:=by rw[hv.length];exact hi
  obtain⟨u',eu,ru⟩:=hv.get (GU hi')
  rw[GU hi,e] at eu
  cases eu
  obtain⟨p,ep,a,ea,qa⟩:=Paired.getP h (GU hi')
  rw[ea] at ru
  cases ru
  obtain⟨b,eb,hb,_⟩:=hp.2 0 (.ref a) q rfl rfl
  cases eb
  have pa:L2.ST.bw X.prog X.w h' p a:=by
   obtain⟨o,it,n,ho,r⟩:=p0 I qa
   exact⟨o,it,n,k _ _ ho,r⟩
  have:p=q:=L2.ST.bw.inj pa hb
  subst this
  exact⟨.ref a :: ws,.cons rfl a1,.cons ⟨a,rfl,qa⟩ a2⟩
def vL (K:Frag):List V->Hp->VK->Prop:=λxs H Q=>∃a vs ps,xs= [.ref a]/\fB K H a vs/\aI K H vs ps/\(∀p,p∈ps->Sm p)/\ps.Nodup/\ps.length < 64/\
 ∀l ws qs,H l=none->aI K H ws qs->OM.pC qs->(∀p,p∈qs↔p∈ps)->Q (.ref l) (upd H l (.lst ws))
def nN (I:Inv X pins σ H s){vs:List V}{us:List Value}{ps:List Pr}(hv:Vals vs us)(hp:aI X.K H vs ps)(hlen:ps.length < 64){Q:VK}
  (q:∀l ws qs,H l=none->aI X.K H ws qs->OM.pC qs->(∀p,p∈qs↔p∈ps)->Q (.ref l) (upd H l (.lst ws)))
  {h1 h':Heap} {tk:Nat} {D:Addr} {out:List Value} {qs:List Pr} {c:Nat} (k1:∀b o,s.heap.get? b=some o->h1.get? b=some o) (eD:D=h1.objs.size) (k2:∀b o,h1.get? b=some o->h'.get? b=some o)
  (ho:h'.get? D=some (seqObj "list" out.toArray c)) (hpq:L2.ST.cB X.prog X.w h' out qs) (hm:∀u,u∈out->u∈us) (hr:OM.pC qs) (hmem:∀p,p∈qs↔p∈ps):EP X pins σ Q (.ref D) {s with heap:=h',toks:=tk}:=by
 obtain⟨ws,r1,r2⟩:=nA I hv hp (λb o e=>k2 b o (k1 b o e)) hm hpq
 have I1:Inv X pins σ H {s with heap:=h1,toks:=tk}:=I.kept k1
 have hf:H D=none:=by rw[eD];exact I1.hok.fresh (GZ _)
 have hz:ws.length<=sizeLine:=by
  have e1:=r1.length
  have e2:out.length=qs.length:=hpq.1
  have e3:=OM.nv (OM.fQ hr) λx hx=>(hmem x).mp hx
  rw[HB];omega
 have I2:Inv X pins σ (upd H D (.lst ws)) {s with heap:=h',toks:=tk}:=I1.laid (t':=tk) k2 (by rw[eD];exact GZ _) (show bD X.prog X.w _ h' _ (.lst ws) from⟨hz,out,c,r1,ho⟩)
 exact⟨.ref D,_,I2,rfl,q D ws qs hf r2 hr hmem⟩
def lR:cw X (.builtin "sorted") (vL X.K):=by
 intro pins s σ H xs us Q I r h
 obtain⟨a,vs,ps,rfl,hq,hp,hs,nd,hl,q⟩:=h
 obtain⟨u,rfl,rx⟩:=vals1 r
 cases rx
 obtain⟨its,rv,pl,hz⟩:=I.list hq
 have hpa:=pairs_at I rv hp hs
 have h64:its.length < 64:=by rw[hpa.1];exact hl
 refine L2.ST.oC (v:=.ref a) hpa nd h64 (λQ' hQ'=>collect_list pl.isList ?_ (by rw[HB];omega)) λh1 h' tk D out qs c k1 eD k2 ho hpq hm hr hmem=>?_
 ·exact hQ' _ s.toks λb o e=>by
   rw[Heap.get?_update_ne _ _ _ _ (HA (G9 e)),Heap.get?_push_ne _ _ _ (HA (G9 e))];exact e
 ·exact nN I rv hp hl q k1 eD k2 ho hpq hm hr hmem
abbrev vq (qs:List (Addr×Pr)):List V:=qs.map λq=>V.ref q.1
abbrev pq (qs:List (Addr×Pr)):List Pr:=qs.map (·.2)
def BL (prog:Program)(w:World)(S:Addr)(qs:List (Addr×Pr))(h:Heap):Prop:=∃o ep t,h.get? S=some o/\o.ExactSet/\o.data=.set (qs.map λq=>(L2.ST.xE prog w q.2,Value.ref q.1)).toArray ep t/\L2.ST.Tab t (qs.map λq=>L2.ST.xE prog w q.2)/\t.led=L2.ST.iX w
def wR (prog:Program)(w:World)(S:Addr)(qs:List (Addr×Pr)):HO:=.ext (BL prog w S qs)
def Ez (P:Program)(w:World)(K:Frag):List V->Hp->VK->Prop:=λxs H Q=>∃a vs ps,xs= [.ref a]/\(fB K H a vs\/dH K H a vs)/\aI K H vs ps/\(∀p,p∈ps->Sm p)/\
 ∀S qs,H S=none->aI K H (vq qs) (pq qs)->(pq qs).Nodup->(∀p,p∈pq qs↔p∈ps)->Q (.ref S) (upd H S (wR P w S qs))
def zk (hc:X.calm=true)(hu:X.A.units + 64 < cLine):cw X (.type "set") (Ez X.prog X.w X.K):=by
 intro pins s σ H xs us Q I r h
 obtain⟨a,vs,ps,rfl,hq,hp,hs,q⟩:=h
 obtain⟨u,rfl,rx⟩:=vals1 r
 cases rx
 have hh:=I.ok.hd hc
 have core:∀{its:List Value} {T:String} {itO:Obj} {St:Addr->Nat->Heap->Prop},Vals vs its->L2.ST.Src X.prog X.w s.heap a its T itO St->wpAny (model X.prog X.w) X.A (call (.type "set") [.ref a]) (EP X pins σ Q) X.xe s:=λ{its T itO St} rv src=>by
  refine L2.ST.nU src hh hu (pairs_at I rv hp hs) λh' tk F k=>?_
  obtain⟨qs,P1,P2,P3⟩:=F
  have hlen:its.length=vs.length:=rv.length.symm
  have back:∀qv:Addr×Pr,qv∈qs->∃b,b=qv.1/\dH X.K H b [.int qv.2.1,.int qv.2.2]:=λqv hqv=>by
   obtain⟨i,hi,e⟩:=Hz.mp (Jd (P2 qv hqv).1)
   have hi':i < vs.length:=by rw[<-hlen];exact hi
   obtain⟨u',eu,ru⟩:=rv.get (GU hi')
   rw[GU hi,e] at eu
   cases eu
   obtain⟨p,ep,b,eb,qb⟩:=Paired.getP hp (GU hi')
   rw[eb] at ru
   cases ru
   have pa:L2.ST.bw X.prog X.w h' p qv.1:=by
    obtain⟨o,it,n,ho,r⟩:=p0 I qb
    exact⟨o,it,n,k _ _ ho,r⟩
   have:p=qv.2:=L2.ST.bw.inj pa (P1.at' qv hqv).1
   subst this
   exact⟨_,rfl,qb⟩
  have hpv:∀{l:List (Addr×Pr)},(∀x,x∈l->x∈qs)->aI X.K H (vq l) (pq l):=λ{l}=>by
   induction l with
   |nil=>intro _;exact .nil
   |cons y l ih=>
    intro hl
    obtain⟨b,eb,qb⟩:=back y (hl y (G6 ..))
    subst eb
    exact .cons ⟨_,rfl,qb⟩ (ih λx hx=>hl x (GY _ hx))
  have hmem:∀p,p∈pq qs↔p∈ps:=λp=>by
   have hpl:ps.length=its.length:=by rw[hlen];exact (Paired.length hp).symm
   constructor
   ·intro hx
    obtain⟨qv,hqv,rfl⟩:=Ha.mp hx
    exact Jd (P2 qv hqv).2
   ·intro hx
    exact P3 p (by rw[<-hpl,IS (GZ _)];exact hx)
  have hf:H s.heap.objs.size=none:=I.hok.fresh (GZ _)
  obtain⟨o,ep,t,ho,r1⟩:=P1.ex
  have new:bD X.prog X.w (upd H s.heap.objs.size (wR X.prog X.w s.heap.objs.size qs)) h' s.heap.objs.size (wR X.prog X.w s.heap.objs.size qs):=
   ⟨⟨o,ep,t,ho,r1⟩,⟨o,ho⟩,λh1 h2 ⟨o1,ep1,t1,g1,g2⟩ kk=>⟨o1,ep1,t1,kk _ g1,g2⟩⟩
  exact⟨.ref _,_,I.laid (t':=tk) k (GZ _) new,rfl,q _ qs hf (hpv λx hx=>hx) P1.nd hmem⟩
 rcases hq with hq |hq
 ·obtain⟨its,rv,pl,hz⟩:=I.list hq
  exact core rv (L2.ST.Src.list pl.isList)
 ·obtain⟨its,rv,pl,hz⟩:=I.tuple hq
  exact core rv (L2.ST.Src.tuple pl)
def rM (P:Program)(w:World)(K:Frag):List V->Hp->VK->Prop:=λxs H Q=>∃S qs,xs= [.ref S]/\H S=some (wR P w S qs)/\aI K H (vq qs) (pq qs)/\(∀p,p∈pq qs->Sm p)/\(pq qs).Nodup/\qs.length < 64/\
 ∀l ws rs,H l=none->aI K H ws rs->OM.pC rs->(∀p,p∈rs↔p∈pq qs)->Q (.ref l) (upd H l (.lst ws))
def ql (hc:X.calm=true):cw X (.builtin "sorted") (rM X.prog X.w X.K):=by
 intro pins s σ H xs us Q I r h
 obtain⟨S,qs,rfl,hS,hp,hs,nd,hl,q⟩:=h
 obtain⟨u,rfl,rx⟩:=vals1 r
 cases rx
 have hh:=I.ok.hd hc
 obtain⟨⟨o,ep,t,ho,hex,hd,T,hled⟩,_,_⟩:BL X.prog X.w S qs s.heap/\_:=I.hok S _ hS
 have T':L2.ST.Tab t ((qs.map λq=>(L2.ST.xE X.prog X.w q.2,Value.ref q.1)).toArray.toList.map (·.1)):=by
  rw[IB,Ih];exact T
 have htp:=L2.ST.pd X.w S ep (qs.map λq=>(L2.ST.xE X.prog X.w q.2,Value.ref q.1)).toArray
 have hmem:∀x,x∈(L2.ST.told X.w S ep (qs.map λq=>(L2.ST.xE X.prog X.w q.2,Value.ref q.1)).toArray).toList->∃q,q∈qs/\x=(L2.ST.xE X.prog X.w q.2,Value.ref q.1):=λx hx=>by
  have:=htp.mem_iff.mp hx
  simp only[IB] at this
  obtain⟨q,hq,e⟩:=Ha.mp this
  exact⟨q,hq,e.symm⟩
 obtain⟨q2,e2,p2⟩:∃q2:List (Addr×Pr),(L2.ST.told X.w S ep (qs.map λq=>(L2.ST.xE X.prog X.w q.2,Value.ref q.1)).toArray).toList=q2.map (λq=>(L2.ST.xE X.prog X.w q.2,Value.ref q.1))/\q2.Perm qs:=by
  have:=htp
  simp only[IB] at this
  exact om this
 have hp2:aI X.K H (vq q2) (pq q2):=by
  have key:∀{l:List (Addr×Pr)},(∀x,x∈l->x∈qs)->aI X.K H (vq l) (pq l):=λ{l}=>by
   induction l with
   |nil=>intro _;exact .nil
   |cons y l ih=>
    intro hl
    obtain⟨i,hi,e⟩:=Hz.mp (hl y (G6 ..))
    obtain⟨p,ep',a,ea,qa⟩:=Paired.getP (l:=vq qs) (m:=pq qs) (i:=i) (x:=.ref y.1) hp (by simp[hi,e])
    have:p=y.2:=by simp[hi,e] at ep';exact ep'.symm
    subst this
    exact .cons ⟨a,ea,qa⟩ (ih λx hx=>hl x (GY _ hx))
  exact key λx hx=>p2.mem_iff.mp hx
 have hv2:Vals (vq q2) (q2.map λq=>Value.ref q.1):=by
  induction q2 with
  |nil=>exact .nil
  |cons y l ih=>exact .cons rfl (by
    clear ih e2 p2 hp2
    induction l with
    |nil=>exact .nil
    |cons z l ih2=>exact .cons rfl ih2)
 have hm2:∀p,p∈pq q2↔p∈pq qs:=λp=>(p2.map (·.2)).mem_iff
 have hpa:=pairs_at I hv2 hp2 λp hpp=>hs p ((hm2 p).mp hpp)
 have hl2:q2.length < 64:=by rw[p2.length_eq];exact hl
 refine L2.ST.oC (v:=.ref S) hpa ((p2.map (·.2)).nodup_iff.mpr nd) (by simpa using hl2) (λQ' hQ'=>L2.ST.sv (by simpa using hh) ho hd hex.1 T' hled (by simp;omega) λh' tk vs ev k=>?_) λh1 h' tk D out qs' c k1 eD k2 ho' hpq hm hr hmem'=>?_
 ·rw[ev,e2]
  rw[Ih]
  exact hQ' h' tk k
 ·exact nN I hv2 hp2 (by simpa using hl2) (λl ws rs a1 a2 a3 a4=>q l ws rs a1 a2 a3 λp=>(a4 p).trans (hm2 p)) k1 eD k2 ho' hpq hm hr hmem'
end
def lz (cells:List (Str×Addr)):List (Str×NameKind)->List (Str×Addr)->List (Str×Addr)
 | [],cs=>cs
 | (n,k) :: r,cs=>lz cells r (if k == .free then (n,(cells.lookup n).getD 0) :: cs else cs)
def mM {scope:Scope}{env:Env}(h:∀y∈scope.names,y.2=.free->∃c,env.cells.lookup y.1=some c):closureFor scope env=pure (lz env.cells scope.names []):=by
 unfold closureFor
 have key:∀(l:List (Str×NameKind)) (cs:List (Str×Addr)),(∀y∈l,y.2=.free->∃c,env.cells.lookup y.1=some c)->
   (forIn l cs (λ(x:Str×NameKind) (r:List (Str×Addr))=>if (x.2 == NameKind.free)=true then (do let a <-cellOf env x.1;pure (ForInStep.yield ((x.1,a) :: r)):Sem _) else pure (ForInStep.yield r)):Sem (List (Str×Addr)))=pure (lz env.cells l cs):=by
  intro l
  induction l with
  |nil=>intro cs _;rfl
  |cons y l ih=>
   intro cs hy
   obtain⟨n,k⟩:=y
   rw[List.forIn_cons]
   unfold lz
   by_cases hk:(k == NameKind.free)=true
   ·have hk':k=.free:=by simpa using hk
    obtain⟨c,hc⟩:=hy (n,k) (G6 ..) hk'
    have hce:cellOf env n=pure c:=by unfold cellOf;rw[hc]
    simp only[hk,Ic]
    have hc':env.cells.lookup n=some c:=hc
    rw[hce,hc']
    simp only[pure_bind,Option.getD_some]
    exact ih _ λz hz=>hy z (GY _ hz)
   ·simp only[hk,HI,Hg]
    simp only[pure_bind]
    exact ih _ λz hz=>hy z (GY _ hz)
 have:=key scope.names [] h
 simp only[bind_pure_comp] at this ⊢
 first
  |exact this
  | (rw[this];rfl)
  | (simpa using this)
theorem lD {cells:List (Str×Addr)}{x:Str}:∀{l:List (Str×NameKind)} {cs:List (Str×Addr)},((x,NameKind.free)∈l\/cs.lookup x=some ((cells.lookup x).getD 0))->(lz cells l cs).lookup x=some ((cells.lookup x).getD 0)
 | [],cs,h=>by
  rcases h with h |h
  ·cases h
  ·exact h
 | (n,k) :: r,cs,h=>by
  unfold lz
  refine lD ?_
  by_cases hk:(k == NameKind.free)=true
  ·rw[GW hk]
   by_cases hx:x=n
   ·subst hx;right;simp
   ·rcases h with h |h
    ·rcases G7.mp h with e |e
     ·injection e with e1 _;exact absurd e1 hx
     ·exact .inl e
    ·right
     rw[Jv,show (x == n)=false by simpa using hx]
     exact h
  ·rw[G8 hk]
   rcases h with h |h
   ·rcases G7.mp h with e |e
    ·injection e with _ e2;exact absurd (by rw[<-e2];rfl) hk
    ·exact .inl e
   ·exact .inr h
theorem k8 {cells:List (Str×Addr)}{x:Str}{c:Addr}:∀{l:List (Str×NameKind)} {cs:List (Str×Addr)},(lz cells l cs).lookup x=some c->((x,NameKind.free)∈l/\c=(cells.lookup x).getD 0)\/cs.lookup x=some c
 | [],cs,h=>.inr h
 | (n,k) :: r,cs,h=>by
  unfold lz at h
  rcases k8 h with⟨a,b⟩ |a
  ·exact .inl ⟨GY _ a,b⟩
  ·by_cases hk:(k == NameKind.free)=true
   ·rw[GW hk,Jv] at a
    by_cases hx:x=n
    ·subst hx
     simp at a
     have:k=.free:=by simpa using hk
     subst this
     exact .inl ⟨G6 ..,a.symm⟩
    ·rw[show (x == n)=false by simpa using hx] at a
     exact .inr a
   ·rw[G8 hk] at a
    exact .inr a
theorem lU {f:Str->NameKind->NameKind}{x:Str}:∀(l:List (Str×NameKind)),(l.map λy=>(y.1,f y.1 y.2)).lookup x=(l.lookup x).map (f x)
 | []=>rfl
 | (n,k) :: l=>by
  rw[Hx,Jv,Jv]
  by_cases hx:x=n
  ·subst hx;simp
  ·have hb:(x == n)=false:=by simpa using hx
   simp only[hb]
   exact lU l
def mW (scope:Scope)(env:Env)(x:Str):(relabel scope env).names.lookup x=(scope.names.lookup x).map λk=>if (k == .free && env.scope.kind == .function && env.kindOf x == some .cell) then .cell else k:=by
 have e:(relabel scope env).names=scope.names.map λy=>(y.1,if (y.2 == .free && env.scope.kind == .function && env.kindOf y.1 == some .cell) then .cell else y.2):=by
  unfold relabel
  dsimp only
  refine IM λy _=>?_
  obtain⟨n,k⟩:=y
  dsimp only
  split <;> rfl
 rw[e]
 exact lU (f:=λn k=>if (k == .free && env.scope.kind == .function && env.kindOf n == some .cell) then .cell else k) scope.names
def g8 (X:Cx)(NB:List Str)(scope:Scope)(C:Addr)(ex:List Addr)(s3:Shared)(H3:Hp)(pn:List (Addr×Obj)):Cx:=
 {X with N:=NB,s₀:=s3,H₀:=H3,env:=compEnvC scope (lz X.env.cells scope.names []) C X.env,outer:=X.stack,ex:=ex,fn:=λ_=>false,pn:=pn,xe:=λ_ _=>False}
def qO (own:Nat)(ixs:List Nat)(σ:St):St:=List.replicate own none ++ ixs.map λi=>(σ[i]?).join
structure cI (X:Cx)(NB:List Str)(own:Nat)(ixs:List Nat)(scope:Scope):Prop where
 kind:scope.kind=.function
 nocell:∀y∈scope.names,y.2≠.cell
 names:∀y∈scope.names,scope.names.lookup y.1=some y.2
 frees:∀y∈scope.names,y.2=.free->X.env.kindOf y.1=some .cell\/X.env.kindOf y.1=some .free
 nd:NB.Nodup
 len:NB.length=own + ixs.length
 at':∀k,k < ixs.length->NB[own + k]? =X.N[ixs.getD k 0]?/\∀x,NB[own + k]? =some x->(x,NameKind.free)∈scope.names
section
variable {X:Cx}{NB:List Str}{own:Nat}{ixs:List Nat}{scope:Scope}{pins:List (Addr×Obj)}{σ:St}{H:Hp}{s:Shared}
def wb (S:cI X NB own ixs scope)(I:Inv X pins σ H s){fp:List Addr}(hfp:∀b∈fp,mi X pins H b)(hob:∀b∈fp,∃o,s.heap.get? b=some o){h1:Heap}{tk:Nat}
  (hn:h1.Ns s.heap.objs.size (λ_=>none)) (hk:∀b o,s.heap.get? b=some o->h1.get? b=some o) :
  Inv (g8 X NB scope s.heap.objs.size fp s H (X.pn ++ pins)) [] (qO own ixs σ) H {s with heap:=h1,toks:=tk}:=by
 have stk:=I.stack
 have frees:∀{x:Str},(x,NameKind.free)∈scope.names->∃c,X.env.cells.lookup x=some c:=λ{x} hx=>I.ok.has x (S.frees _ hx rfl)
 have clE:∀{x:Str} {c:Addr},(lz X.env.cells scope.names []).lookup x=some c->(x,NameKind.free)∈scope.names/\X.env.cells.lookup x=some c:=λ{x c} h=>by
  rcases k8 h with⟨a,b⟩ |a
  ·obtain⟨c',e⟩:=frees a
   rw[e] at b
   exact⟨a,by rw[e,b];rfl⟩
  ·simp at a
 have kindB:∀x,(g8 X NB scope s.heap.objs.size fp s H (X.pn ++ pins)).env.kindOf x=(scope.names.lookup x).map λk=>if (k == .free && X.env.scope.kind == .function && X.env.kindOf x == some .cell) then .cell else k:=λx=>mW scope X.env x
 have isFree:∀{x:Str},((g8 X NB scope s.heap.objs.size fp s H (X.pn ++ pins)).env.kindOf x=some .cell\/(g8 X NB scope s.heap.objs.size fp s H (X.pn ++ pins)).env.kindOf x=some .free)->(x,NameKind.free)∈scope.names:=λ{x} h=>by
  rw[kindB] at h
  cases e:scope.names.lookup x with
  |none=>rw[e] at h;simp at h
  |some k=>
   have hm:=IL e
   cases k with
   |free=>exact hm
   |cell=>exact absurd rfl (S.nocell _ hm)
   |_=>rw[e] at h;simp at h
 have neN:∀b o,s.heap.get? b=some o->b≠s.heap.objs.size:=λb o e=>HA (G9 e)
 have cellN:∀{x:Str} {c:Addr},X.env.cells.lookup x=some c->c < s.heap.objs.size:=λ{x c} e=>by
  obtain⟨v,o,ho,_⟩:=I.cell x c e
  exact G9 ho
 have ok:(g8 X NB scope s.heap.objs.size fp s H (X.pn ++ pins)).Ok:=by
  refine⟨I.ok.mod,S.kind,I.ok.glob,I.ok.blt,GZ _,λx y c h1 h2=>I.ok.inj x y c (clE h1).2 (clE h2).2,λx hx=>?_,λx c h=>(by cases h),I.ok.hd,I.ok.frames,.inl rfl,λb hb=>?_,I.bs,Ie I.ok.bsz I.sz,λb o e hb=>?_,λb hb hs=>?_,stk,I.stkFree⟩
  ·have hm:=isFree hx
   exact⟨_,lD (.inl hm)⟩
  ·obtain⟨_,f1,f2,f3,f4,f5⟩:=hfp b hb
   refine⟨?_,λx c h z=>f4 x c (clE h).2 z⟩
   obtain⟨o,ho⟩:=hob b hb
   exact neN b o ho
  ·obtain⟨_,f1,f2,f3,f4,f5⟩:=hfp b hb
   rcases f3 with f3 |f3
   ·exact I.ok.noex b o e f3
   ·exact absurd (Hw (G9 e) (Ie I.ok.bsz f3)) (HG _)
  ·obtain⟨_,f1,f2,f3,f4,f5⟩:=hfp b hb
   rcases G7.mp (I.stkSub b hs) with z |z
   ·exact f1 z
   ·exact f2 z
 refine⟨ok,rfl,I.bare,Un.kept hk,⟨_,hn,λi x v h1' h2' h3'=>?_⟩,λx c h=>?_,I.hok.fresh (GZ _),λx c h=>I.freeC x c (clE h).2,λp hp=>?_,I.hok.kept hk,?_⟩
 ·
  have h1':NB[i]? =some x:=h1'
  have hown:own<=i:=by
   refine Classical.byContradiction λhc=>?_
   have hlt:i < own:=Nat.lt_of_not_le hc
   unfold qO at h2'
   rw[HL (by simpa using hlt),Iy,GW hlt] at h2'
   cases h2'
  obtain⟨k,rfl⟩:∃k,i=own + k:=⟨i - own,by omega⟩
  have hk':k < ixs.length:=by
   have:=(Hs.mp h1').1
   rw[S.len] at this;omega
  obtain⟨e1,e2⟩:=S.at' k hk'
  have hm:=e2 x h1'
  unfold qO at h2'
  rw[HH (by simp),IW,Nat.add_sub_cancel_left,He,GU hk'] at h2'
  simp only[Option.map_some,Option.some.injEq] at h2'
  have hix:ixs.getD k 0=ixs[k]:=by simp[hk']
  have hσ:σ[ixs[k]]? =some (some v):=by
   cases e:σ[ixs[k]]? with
   |none=>rw[e] at h2';cases h2'
   |some o=>rw[e] at h2';simp at h2';rw[h2']
  rw[e1,hix] at h1'
  have hkind:=S.frees _ hm rfl
  have hvis:zJ X.env.scope x:=hkind.elim (λz=>.inr (.inl z)) (λz=>.inr (.inr z))
  obtain⟨m,hm',hl⟩:=I.loc
  obtain⟨u,r,look⟩:=hl _ x v h1' hσ hvis
  refine⟨u,r,.inr ⟨?_,?_⟩⟩
  ·rw[kindB]
   have hfr:scope.names.lookup x=some .free:=S.names _ hm
   rw[hfr]
   simp only[Option.map_some]
   split
   ·exact .inl rfl
   ·exact .inr rfl
  ·rcases look with⟨z,_⟩ | ⟨_,c,hc,hcell⟩
   ·rcases hkind with q |q
    ·rw[q] at z;cases z
    ·rw[q] at z;cases z
   ·refine⟨c,?_,?_⟩
    ·have:=lD (cells:=X.env.cells) (cs:=[]) (.inl hm)
     rw[hc] at this
     exact this
    ·obtain⟨o,ho,hd⟩:=hcell
     exact⟨o,hk _ _ ho,hd⟩
 ·obtain⟨v,o,ho,hd⟩:=I.cell x c (clE h).2
  exact⟨v,o,hk _ _ ho,hd⟩
 ·have hp':p∈X.pn ++ pins:=by
   rcases Hu.mp hp with z |z
   ·exact z
   ·cases z
  obtain⟨e,n,ne,nf,d⟩:=I.pin p hp'
  refine⟨hk _ _ e,n,neN _ _ e,λz=>?_,d⟩
  rcases G7.mp (I.stkSub _ z) with q |q
  ·exact ne q
  ·exact nf q
 ·show (qO own ixs σ).length=NB.length
  unfold qO
  rw[S.len];simp
end
abbrev vU (ifs:List Expr)(env:Env):Sem Bool:=forIn ifs true λc r=>if r=true then do let ok <-isTrue c env (eval c env);pure (ForInStep.yield ok) else pure (ForInStep.yield r)
theorem w9 {prog:Program}{w:World}{A:Around}{R:Result->Shared->Prop}{s:Shared}{elt target iter:Expr}{ifs:List Expr}{scope:Scope}{pos:Pos}{it acc:Value}{env:Env}(I:Nat->Shared->Prop)
  (turn:∀n s,I n s->wpAny (model prog w) A (pyNext it) (λr s1=>match r with
   |none=>R (.ok .next) s1
   |some v=>wpAny (model prog w) A (letOwnedTupleGo target it v) (λ_ s1'=>wpAny (model prog w) A (assign target env v) (λ_ s2=>
     wpAny (model prog w) A (vU ifs env) (λok s3=>
      if ok=true then wpAny (model prog w) A (eval elt env) (λx s4=>wpAny (model prog w) A (call (.builtin "list.append") [acc,x]) (λ_ s5=>∃m,m < n/\I m s5) (λ_ _=>False) s4) (λ_ _=>False) s3
      else ∃m,m < n/\I m s3) (λ_ _=>False) s2) (λ_ _=>False) s1') (λ_ _=>False) s1) (λ_ _=>False) s)
  (n:Nat) (h:I n s):codeAny (model prog w) A (.compLoop (.ListComp elt [⟨target,iter,ifs,0⟩] scope pos) 0 it acc env) R s:=by
 refine codeAny_loop rfl I (λn s hI=>?_) n h
 (show wpAny _ A ((compTurn (.ListComp elt [⟨target,iter,ifs,0⟩] scope pos) 0 it acc env).onRaise (λx=>do (noteFrame x env);theTreesLotGoes x)) _ _ s)
 refine wpAny_noted ?_
 rw[compTurn_list]
 refine GS (wpAny_standAt (GS (IC (turn n s hI) (λr s1 h1=>?_) λ_ _ z=>z.elim)))
 cases r with
 |none=>exact GX h1
 |some v=>
  refine GS (IC h1 (λ_ s1' h1'=>?_) λ_ _ z=>z.elim)
  refine GS (IC h1' (λ_ s2 h2=>GS (IC h2 (λok s3 h3=>?_) λ_ _ z=>z.elim)) λ_ _ z=>z.elim)
  cases ok with
  |false=>exact GX ⟨rfl,h3⟩
  |true=>exact GS (GS (IC h3 (λx s4 h4=>GS (IC h4 (λ_ s5 h5=>GX (GX ⟨rfl,h5⟩)) λ_ _ z=>z.elim)) λ_ _ z=>z.elim))
def zo (X:Cx)(ifs:List Expr)(t:TT):Prop:=
 ∀(pins:List (Addr×Obj)) (s:Shared) (σ:St) (H:Hp) (Q:Bool->Hp->Prop),Inv X pins σ H s->t σ H Q->wpAny (model X.prog X.w) X.A (vU ifs X.env) (TP X pins σ Q) X.xe s
def Dz:TT:=λ_ H Q=>Q true H
def pS {X:Cx}:zo X [] Dz:=λpins s σ H Q I h=>GX ⟨H,I,h⟩
def vD {X:Cx}{c:Expr}{t:TT}(h:PT X c t):zo X [c] t:=λpins s σ H Q I q=>wpAny_tests_one (h pins s σ H Q I q)
def uF (own:Nat)(ixs:List Nat)(wi:TI)(g:TG)(tt:TT)(te:TE)(σ:St)(H:Hp)(Q:VK):Prop:=wi σ H λJ H1=>∀D,H1 D=none->∃W:Nat->Nat->St->Hp->Prop,(∃m,W 0 m (qO own ixs σ) (upd H1 D (.lst [])))/\∀i m σ' H',W i m σ' H'->
 (J.stop i H'/\(∃acc,H' D=some (.lst acc))/\Q (.ref D) H')\/
 (J.go i H'/\∃N:St->Hp->Prop,(∀σ2 H2,N σ2 H2->∃m',m' < m/\W (i + 1) m' σ2 H2)/\∀x H2,J.yld i H' x H2->g x σ' H2 λσ3 H3=>tt σ3 H3 λb H4=>
  if b=true then te σ3 H4 λv H5=>∃acc,H5 D=some (.lst acc)/\acc.length < sizeLine/\N σ3 (upd H5 D (.lst (acc ++ [v]))) else N σ3 H4)
section
variable {X:Cx}{NB:List Str}{own:Nat}{ixs:List Nat}{scope:Scope}{elt tg iter:Expr}{ifs:List Expr}{pos:Pos}{wi:TI}{g:TG}{tt:TT}{te:TE}
def o8 (hc:X.calm=true)(S:cI X NB own ixs scope)
  (hg:∀C ex s3 H3 pn,PG (g8 X NB scope C ex s3 H3 pn) tg g) (ht:∀C ex s3 H3 pn,zo (g8 X NB scope C ex s3 H3 pn) ifs tt) (he:∀C ex s3 H3 pn,PE (g8 X NB scope C ex s3 H3 pn) elt te)
  {pins:List (Addr×Obj)} {σ:St} {H1:Hp} {s2:Shared} {it:Addr} {fp:List Addr} {tn:Nat->Heap->Prop} {J:It} {Q:VK} (I2:Inv X pins σ H1 s2) (T:Turn X.prog X.w X.K tg J fp it tn) (st2:tn 0 s2.heap) (f2:∀b∈fp,mi X pins H1 b)
  (hQ:∀D,H1 D=none->∃W:Nat->Nat->St->Hp->Prop,(∃m,W 0 m (qO own ixs σ) (upd H1 D (.lst [])))/\∀i m σ' H',W i m σ' H'->
   (J.stop i H'/\(∃acc,H' D=some (.lst acc))/\Q (.ref D) H')\/
   (J.go i H'/\∃N:St->Hp->Prop,(∀σ2 H2,N σ2 H2->∃m',m' < m/\W (i + 1) m' σ2 H2)/\∀x H2,J.yld i H' x H2->g x σ' H2 λσ3 H3=>tt σ3 H3 λb H4=>
    if b=true then te σ3 H4 λv H5=>∃acc,H5 D=some (.lst acc)/\acc.length < sizeLine/\N σ3 (upd H5 D (.lst (acc ++ [v]))) else N σ3 H4))
  {E:Value->Shared->Prop} {RR:Value->Addr->Result->Shared->Prop}
  (fin:∀D C H' s' m,Inv X pins σ H' s'->Q (.ref D) H'->s'.heap.Ns C m->H' C=none->C≠X.env.locals->(∀x c,X.env.cells.lookup x=some c->c≠C)->X.s₀.heap.objs.size<=C->(∀p∈X.pn ++ pins,p.1≠C)->RR (.ref D) C (.ok .next) s') :
  wpAny (model X.prog X.w) X.A (newList []) (λacc s3=>wpAny (model X.prog X.w) X.A (newFunctionEnv scope X.env.globals (lz X.env.cells scope.names []) [] X.env.qual none .none (some X.env)) (λcenv s4=>
   codeAny (model X.prog X.w) X.A (.compStart (.ListComp elt [⟨tg,iter,ifs,0⟩] scope pos) 0 (.ref it) acc {cenv with scope:=relabel scope X.env}) (RR acc cenv.locals) s4) E s3) E s2:=by
 refine wpAny_newList ?_ (HK _)
 have hD:H1 s2.heap.objs.size=none:=I2.hok.fresh (GZ _)
 obtain⟨W,⟨m0,w0⟩,turn⟩:=hQ s2.heap.objs.size hD
 generalize hs3:({s2 with heap:=s2.heap.push (seqObj "list" ([]:List Value).toArray 0)}:Shared)=s3
 have I3:Inv X pins σ (upd H1 s2.heap.objs.size (.lst [])) s3:=by
  rw[<-hs3]
  exact I2.lnew (ys:=[]) (its:=[]) (t':=s2.toks) .nil (HK _)
 have k3:∀b o,s2.heap.get? b=some o->s3.heap.get? b=some o:=λb o e=>by rw[<-hs3];exact GV _ e
 have sz3:s3.heap.objs.size=s2.heap.objs.size + 1:=by rw[<-hs3];exact Je ..
 have ob2:∀b∈fp,∃o,s2.heap.get? b=some o:=λb hb=>let ⟨o,e,_⟩:=T.obj 0 _ st2 b hb;⟨o,e⟩
 have neD:∀b∈fp,b≠s2.heap.objs.size:=λb hb=>let ⟨o,e⟩:=ob2 b hb;HA (G9 e)
 have f3:∀b∈fp,mi X pins (upd H1 s2.heap.objs.size (.lst [])) b:=λb hb=>by
  obtain⟨a1,a2⟩:=f2 b hb
  exact⟨by rw[au (neD b hb)];exact a1,a2⟩
 have st3:tn 0 s3.heap:=T.keep _ _ _ st2 λb _ o e=>k3 b o e
 refine wpAny_newFunctionEnv S.nocell (λy hy=>by simp at hy) (λh4 hn4 sb4=>?_) S.kind
 have k4:∀b o,s3.heap.get? b=some o->h4.get? b=some o:=λb o e=>sb4.extBut b o (HA (G9 e)) (GV _ e)
 have I4:Inv (g8 X NB scope s3.heap.objs.size fp s3 (upd H1 s2.heap.objs.size (.lst [])) (X.pn ++ pins)) [] (qO own ixs σ) (upd H1 s2.heap.objs.size (.lst [])) {s3 with heap:=h4,toks:=s3.toks + ([]:List (Str×Value)).length}:=
  wb S I3 f3 (λb hb=>let ⟨o,e⟩:=ob2 b hb;⟨o,k3 _ _ e⟩) (by simpa using hn4) k4
 have st4:tn 0 h4:=T.keep _ _ _ st3 λb _ o e=>k4 b o e
 generalize hB:g8 X NB scope s3.heap.objs.size fp s3 (upd H1 s2.heap.objs.size (.lst [])) (X.pn ++ pins)=B at I4
 have hgB:PG B tg g:=by rw[<-hB];exact hg _ _ _ _ _
 have htB:zo B ifs tt:=by rw[<-hB];exact ht _ _ _ _ _
 have heB:PE B elt te:=by rw[<-hB];exact he _ _ _ _ _
 have eP:B.prog=X.prog:=by rw[<-hB];rfl
 have eW:B.w=X.w:=by rw[<-hB];rfl
 have eK:B.K=X.K:=by rw[<-hB];rfl
 have eA:B.A=X.A:=by rw[<-hB];rfl
 have eC:B.calm=true:=by rw[<-hB];exact hc
 have eX:B.xe=λ_ _=>False:=by rw[<-hB];rfl
 have eE:B.env=compEnvC scope (lz X.env.cells scope.names []) s3.heap.objs.size X.env:=by rw[<-hB];rfl
 have ex:B.ex=fp:=by rw[<-hB];rfl
 have eL:B.env.locals=s3.heap.objs.size:=by rw[eE];rfl
 have stat:∀{H':Hp},(∀b∈fp,H' b=none)->∀b∈fp,mi B [] H' b:=λ{H'} hn b hb=>by
  obtain⟨a1,a2,a3,a4,a5,a6⟩:=f3 b hb
  obtain⟨o,eo⟩:=ob2 b hb
  refine⟨hn b hb,?_,λz=>?_,.inl (by rw[ex];exact hb),λx c e z=>?_,λp hp z=>?_⟩
  ·rw[eL];exact HA (G9 (k3 _ _ eo))
  ·have hz:b∈hJ X.stack:=by rw[<-hB] at z;exact z
   rcases G7.mp (I3.stkSub b hz) with q |q
   ·exact a2 q
   ·exact a3 q
  ·rw[eE] at e
   rcases k8 e with⟨m1,m2⟩ |m1
   ·obtain⟨c',e'⟩:=I3.ok.has x (S.frees _ m1 rfl)
    rw[e'] at m2
    exact a5 x c' e' (by rw[<-z,m2];rfl)
   ·simp at m1
  ·have hp':p∈X.pn ++ pins:=by
    rw[<-hB] at hp
    rcases Hu.mp hp with q |q
    ·exact q
    ·cases q
   exact a6 p hp' z
 have back:∀{σ':St} {H':Hp} {s':Shared},Inv B [] σ' H' s'->Inv X pins σ H' s':=λ{σ' H' s'} J'=>by
  have u:=J'.base
  have os:=J'.os
  have bare:=J'.bare
  have hok:=J'.hok
  subst hB
  exact I3.call' (ch:=fp) os u hok bare λb hb=>by
   obtain⟨a1,a2,a3,a4,a5,a6⟩:=f3 b hb
   exact⟨a4,a2,a5,a6⟩
 have loop:∀s5:Shared,s5={s3 with heap:=h4,toks:=s3.toks + ([]:List (Str×Value)).length}->
   codeAny (model X.prog X.w) X.A (.compLoop (.ListComp elt [⟨tg,iter,ifs,0⟩] scope pos) 0 (.ref it) (.ref s2.heap.objs.size) (compEnvC scope (lz X.env.cells scope.names []) s3.heap.objs.size X.env)) (RR (.ref s2.heap.objs.size) s3.heap.objs.size) s5:=by
  rintro s5 rfl
  refine w9 (λn s'=>∃i σ' H',Inv B [] σ' H' s'/\tn i s'.heap/\(∀b∈fp,H' b=none)/\W i n σ' H') ?_ m0 ⟨0,_,_,I4,st4,λb hb=>(f3 b hb).1,w0⟩
  rintro n s6 ⟨i,σ6,H6,I6,st6,fr6,w6⟩
  rcases turn i n σ6 H6 w6 with⟨stop,⟨acc,hacc⟩,qn⟩ | ⟨go,N,hN,step⟩
  ·have:=T.done B eP eW eK eC i [] s6 σ6 H6 (λ_ _=>False) I6 (stat fr6) st6 stop
   rw[eA] at this
   refine cf this λr s7 ⟨hr,I7⟩=>?_
   subst hr
   obtain⟨m7,hn7,_⟩:=I7.loc
   rw[eL] at hn7
   have J7:=back I7
   refine fin _ _ H6 s7 m7 J7 qn hn7 (by rw[<-eL];exact I7.free) (λz=>?_) (λx c e z=>?_) ?_ λp hp z=>?_
   ·have:=I3.lt
    rw[<-z] at this
    exact HG _ this
   ·obtain⟨v,o,ho,_⟩:=I3.cell x c e
    exact absurd (G9 ho) (by rw[z];exact HG _)
   ·exact I3.sz
   ·have:=G9 (I3.pin p hp).1
    rw[z] at this
    exact HG _ this
  ·have hitem:=T.item B eP eW eK eC i [] s6 σ6 H6 (λ_ _=>False) I6 (stat fr6) st6 go
   rw[eA] at hitem
   refine cf hitem λr s7 ⟨u,hr,h7⟩=>?_
   subst hr
   refine cf h7 λ_ s8 ⟨x,H8,I8,r8,y8,st8,fr8⟩=>?_
   have I8':=I8.pinned (stat fr8) (T.obj _ _ st8)
   have ha:=hgB _ s8 σ6 H8 x u _ I8' r8 (step x H8 y8)
   rw[eP,eW,eA,eE,eX] at ha
   refine cf ha λ_ s9 ⟨σ9,H9,I9,q9⟩=>?_
   have hb:=htB _ s9 σ9 H9 _ I9 q9
   rw[eP,eW,eA,eE,eX] at hb
   refine cf hb λok s10 ⟨H10,I10,q10⟩=>?_
   have again:∀{σ7:St} {H7:Hp} {s7:Shared},Inv B ([] ++ nh fp s8.heap) σ7 H7 s7->N σ7 H7->∃m,m < n/\∃i σ' H',Inv B [] σ' H' s7/\tn i s7.heap/\(∀b∈fp,H' b=none)/\W i m σ' H':=λ{σ7 H7 s7} I7 n7=>by
    obtain⟨m',hm,w7⟩:=hN σ7 H7 n7
    refine⟨m',hm,i + 1,σ7,H7,I7.unpinned,T.keep _ _ _ st8 λb hb o e=>(I7.pin (b,o) (HC _ (HC _ (iJ hb e)))).1,λb hb=>?_,w7⟩
    obtain⟨o,e,d⟩:=T.obj _ _ st8 b hb
    exact (I7.pin (b,o) (HC _ (HC _ (iJ hb e)))).2.1
   cases ok with
   |false=>
    simp only[Hg,HI] at q10 ⊢
    exact again I10 q10
   |true=>
    simp only[Ic] at q10 ⊢
    have hv:=heB _ s10 σ9 H10 _ I10 q10
    rw[eP,eW,eA,eE,eX] at hv
    refine cf hv λy s11 ⟨v,H11,I11,r11,acc,hacc,hz,q11⟩=>?_
    have hap:=lL (X:=B) _ s11 σ9 H11 (.ref s2.heap.objs.size) [v] (.ref s2.heap.objs.size) [y] (λz H'=>z=.non/\N σ9 H') I11 rfl (.cons r11 .nil) ⟨_,acc,v,rfl,rfl,hacc,hz,rfl,q11⟩
    rw[eP,eW,eA,eX] at hap
    exact cf hap λ_ s12 ⟨_,H12,I12,_,_,q12⟩=>again I12 q12
 exact codeAny_compStart_list (loop _ rfl) (T.self X.A 0 _ _ _ st4 (loop _ rfl))
def sx (hc:X.calm=true)(S:cI X NB own ixs scope)(hi:PI X tg iter wi)
  (hg:∀C ex s3 H3 pn,PG (g8 X NB scope C ex s3 H3 pn) tg g) (ht:∀C ex s3 H3 pn,zo (g8 X NB scope C ex s3 H3 pn) ifs tt) (he:∀C ex s3 H3 pn,PE (g8 X NB scope C ex s3 H3 pn) elt te)
  (hs:∀x,foldedSetIterable iter X.env x=pure x:=by intro _;rfl) :
  PE X (.ListComp elt [⟨tg,iter,ifs,0⟩] scope pos) (uF own ixs wi g tt te):=by
 intro pins s σ H Q I h
 rw[eval_ListComp]
 refine wpAny_comprehension_free (use:=none) rfl hs (mM λy hy e=>I.ok.has _ (S.frees y hy e)) S.kind (λy hy e=>by rw[S.names y hy,e]) ?_
 refine cf (hi pins s σ H _ I h) λv s1 h1=>cf h1 λitv s2 h2=>?_
 obtain⟨it,fp,tn,J,H2,e,I2,T,st2,f2,q2⟩:=h2
 subst e
 refine o8 hc S hg ht he I2 T st2 f2 q2 (RR:=λacc C=>compPost (model X.prog X.w) X.A X.xe none (EP X pins σ Q) acc C) λD C H' s' m J' q hn hC n1 n2 n3 n4=>?_
 refine⟨m,hn,λh'' sb=>⟨.ref D,H',?_,rfl,q⟩⟩
 exact J'.turned (t':=s'.toks) (it:=C) (λb o hb e=>sb.extBut b o hb e) hC n1 (.inr n3) n2 n4
def yt {i:Nat}{y:Str}{py spos:Pos}(hc:X.calm=true)(S:cI X NB own ixs scope)(hi:PI X tg iter wi)
  (hg:∀C ex s3 H3 pn,PG (g8 X NB scope C ex s3 H3 pn) tg g) (ht:∀C ex s3 H3 pn,zo (g8 X NB scope C ex s3 H3 pn) ifs tt) (he:∀C ex s3 H3 pn,PE (g8 X NB scope C ex s3 H3 pn) elt te)
  (hN:X.N.Nodup) (hy:X.N[i]? =some y) (hl:X.env.scope.names.lookup y=some .local)
  (hsw:swapsWith (.ListComp elt [⟨tg,iter,ifs,0⟩] scope pos) (some (.Name y py)) spos.line X.env=pure true)
  (hs:∀x,foldedSetIterable iter X.env x=pure x:=by intro _;rfl) :
  PS X (.Assign [.Name y py] (.ListComp elt [⟨tg,iter,ifs,0⟩] scope pos) spos) (λD σ H=>uF own ixs wi g tt te σ H λv H'=>D.nx (σ.set i (some v)) H'):=by
 intro pins s σ H D I h
 rw[exec_Assign_Name_used _ _ _ _ hsw]
 refine GS (wpAny_standAt (GS ?_))
 show wpAny _ X.A (comprehension (.ListComp elt [⟨tg,iter,ifs,0⟩] scope pos) scope X.env _ (newList []) false (eval iter X.env) (some (assign (.Name y py) X.env)) >>= λ_=>pure ()) _ _ s
 refine GS (IC (wpAny_comprehension_free (use:=some (assign (.Name y py) X.env)) (Q:=λ_ s'=>SP X pins D .next s') rfl hs (mM λy hy e=>I.ok.has _ (S.frees y hy e)) S.kind (λy hy e=>by rw[S.names y hy,e]) ?_)
  (λ_ s' hq=>GX (GX hq)) λ_ _ e=>e)
 refine cf (hi pins s σ H _ I h) λv s1 h1=>cf h1 λitv s2 h2=>?_
 obtain⟨it,fp,tn,J,H2,e,I2,T,st2,f2,q2⟩:=h2
 subst e
 refine o8 hc S hg ht he I2 T st2 f2 q2 (Q:=λv H'=>D.nx (σ.set i (some v)) H') (RR:=λacc C=>compPost (model X.prog X.w) X.A X.xe (some (assign (.Name y py) X.env)) (λ_ s'=>SP X pins D .next s') acc C) λD' C H' s' m J' q hn hC n1 n2 n3 n4=>?_
 show wpAny _ X.A (assign (.Name y py) X.env (.ref D')) _ _ s'
 refine wpAny_assign_Name (oR J' hN hy (.inl hl) (v:=.ref D') rfl (λs'' I'' ⟨a,sb,ha⟩=>?_) (.inr hl))
 have hCa:C≠a:=by
  rcases ha with z |z
  ·rw[z];exact n1
  ·exact (n2 _ _ z).symm
 refine⟨m,hn.sameBut sb hCa,λh3 sb3=>⟨_,H',?_,q⟩⟩
 exact I''.turned (t':=s''.toks) (it:=C) (λb o hb e=>sb3.extBut b o hb e) hC n1 (.inr n3) n2 n4
end
section
variable {own:Nat}{ixs:List Nat}{g:TG}{tt:TT}{te:TE}{σ:St}{H:Hp}{Q:VK}{K:Frag}{D a:Addr}{xs:List V}
abbrev dB (g:TG)(tt:TT)(te:TE)(D:Addr)(x:V)(σ:St)(H:Hp)(N:St->Hp->Prop):Prop:=g x σ H λσ3 H3=>tt σ3 H3 λb H4=>
  if b=true then te σ3 H4 λv H5=>∃acc,H5 D=some (.lst acc)/\acc.length < sizeLine/\N σ3 (upd H5 D (.lst (acc ++ [v]))) else N σ3 H4
def v3 (Pv:Nat->St->Hp->Prop)(h0:Pv 0 (qO own ixs σ) (upd H D (.lst [])))(hl:∀i σ H,i<=xs.length->Pv i σ H->fB K H a xs)
  (hs:∀i x σ H,xs[i]? =some x->Pv i σ H->dB g tt te D x σ H (Pv (i + 1))) (hd:∀σ H,Pv xs.length σ H->(∃acc,H D=some (.lst acc))/\Q (.ref D) H) :
  ∃W:Nat->Nat->St->Hp->Prop,(∃m,W 0 m (qO own ixs σ) (upd H D (.lst [])))/\∀i m σ' H',W i m σ' H'->
   ((wc K a).stop i H'/\(∃acc,H' D=some (.lst acc))/\Q (.ref D) H')\/
   ((wc K a).go i H'/\∃N:St->Hp->Prop,(∀σ2 H2,N σ2 H2->∃m',m' < m/\W (i + 1) m' σ2 H2)/\∀x H2,(wc K a).yld i H' x H2->dB g tt te D x σ' H2 N):=by
 refine⟨λi m σ H=>m=xs.length - i/\i<=xs.length/\Pv i σ H,⟨xs.length,by simp,HK _,h0⟩,?_⟩
 rintro i m σ H ⟨rfl,hi,p⟩
 have q:=hl i σ H hi p
 by_cases hlt:i < xs.length
 ·refine .inr ⟨⟨xs,xs[i],q,by simp[hlt]⟩,Pv (i + 1),λσ' H' p'=>⟨xs.length - (i + 1),by omega,rfl,hlt,p'⟩,λx H' y=>?_⟩
  obtain⟨e,y⟩:=y
  subst e
  exact hs i x σ _ (y xs q) p
 ·have e:i=xs.length:=by omega
  subst e
  exact .inl ⟨⟨xs,q,GZ _⟩,hd σ H p⟩
def tM {lo:Int}{n:Nat}(Pv:Nat->St->Hp->Prop)(h0:Pv 0 (qO own ixs σ) (upd H D (.lst [])))
  (hs:∀i σ H,i < n->Pv i σ H->dB g tt te D (.int (lo + i)) σ H (Pv (i + 1))) (hd:∀σ H,Pv n σ H->(∃acc,H D=some (.lst acc))/\Q (.ref D) H) :
  ∃W:Nat->Nat->St->Hp->Prop,(∃m,W 0 m (qO own ixs σ) (upd H D (.lst [])))/\∀i m σ' H',W i m σ' H'->
   ((wZ lo n).stop i H'/\(∃acc,H' D=some (.lst acc))/\Q (.ref D) H')\/
   ((wZ lo n).go i H'/\∃N:St->Hp->Prop,(∀σ2 H2,N σ2 H2->∃m',m' < m/\W (i + 1) m' σ2 H2)/\∀x H2,(wZ lo n).yld i H' x H2->dB g tt te D x σ' H2 N):=by
 refine⟨λi m σ H=>m=n - i/\i<=n/\Pv i σ H,⟨n,by simp,HK _,h0⟩,?_⟩
 rintro i m σ H ⟨rfl,hi,p⟩
 by_cases hlt:i < n
 ·refine .inr ⟨hlt,Pv (i + 1),λσ' H' p'=>⟨n - (i + 1),by omega,rfl,hlt,p'⟩,λx H' y=>?_⟩
  obtain⟨e,y⟩:=y
  subst e y
  exact hs i σ _ hlt p
 ·have e:i=n:=by omega
  subst e
  exact .inl ⟨GZ _,hd σ H p⟩
end
mutual
inductive Rep (K:Frag)(H:Hp):V->PyData->Prop
 |non:Rep K H .non .none
 |bl (b:Bool):Rep K H (.bl b) (.bool b)
 |int (i:Int):Rep K H (.int i) (.int i)
 |str (x:Str):Rep K H (.str x) (.str x)
 |tup {a:Addr} {xs:List V} {ds:List PyData}:dH K H a xs->je K H xs ds->Rep K H (.ref a) (.tuple ds)
 |lst {a:Addr} {xs:List V} {ds:List PyData}:fB K H a xs->je K H xs ds->Rep K H (.ref a) (.list ds)
inductive je (K:Frag)(H:Hp):List V->List PyData->Prop
 |nil:je K H [] []
 |cons {x:V} {xs:List V} {d:PyData} {ds:List PyData}:Rep K H x d->je K H xs ds->je K H (x :: xs) (d :: ds)
end
section
variable {X:Cx}{pins:List (Addr×Obj)}{σ:St}{H H':Hp}{s:Shared}
mutual
theorem Rep.reads (I:Inv X pins σ H s):∀{x:V} {d:PyData} {u:Value},Rep X.K H x d->RelV x u->∃as,Reads s.heap u d as
 |_,_,_,.non,r=>by cases r;exact⟨_,.none⟩
 |_,_,_,.bl b,r=>by cases r;exact⟨_,.bool b⟩
 |_,_,_,.int i,r=>by obtain⟨t,rfl⟩:=r;exact⟨_,.int i t⟩
 |_,_,_,.str x,r=>by obtain⟨t,rfl⟩:=r;exact⟨_,.str x t⟩
 |_,_,_,.tup h hs,r=>by
  cases r
  obtain⟨its,rv,⟨o,ho,hc,n,hd⟩,_⟩:=I.tuple h
  obtain⟨as,q⟩:=je.reads I hs rv
  exact⟨_,.tuple ho hc hd (by simpa using q)⟩
 |_,_,_,.lst h hs,r=>by
  cases r
  obtain⟨its,rv,pl,_⟩:=I.list h
  obtain⟨o,ho,hc,n,hd⟩:=pl.isList
  obtain⟨as,q⟩:=je.reads I hs rv
  exact⟨_,.list ho hc hd (by simpa using q)⟩
theorem je.reads (I:Inv X pins σ H s):∀{xs:List V} {ds:List PyData} {us:List Value},je X.K H xs ds->Vals xs us->∃as,ReadsAll s.heap us ds as
 |_,_,_,.nil,r=>by cases r;exact⟨_,.nil⟩
 |_,_,_,.cons h hs,r=>by
  cases r with
  |cons r1 r2=>
   obtain⟨as,q⟩:=Rep.reads I h r1
   obtain⟨bs,q'⟩:=je.reads I hs r2
   exact⟨_,.cons q q'⟩
end
def Dr (K:Frag)(neg:Bool):R2:=λx y H Q=>∃d e,Rep K H x d/\Rep K H y e/\SeqAt.shaped d=true/\SeqAt.shaped e=true/\Q (.bl (if neg then !PyData.eqv d e else PyData.eqv d e)) H
def hE (hu:X.A.units + 64 < cLine):kX X (compareOp .Eq) (Dr X.K false):=by
 intro pins s σ H x y v u Q I rx ry h
 obtain⟨d,e,h1,h2,s1,s2,q⟩:=h
 obtain⟨as,r1⟩:=h1.reads I rx
 obtain⟨bs,r2⟩:=h2.reads I ry
 exact SeqAt.compareEq_shaped r1 r2 s1 s2 hu ⟨.bl _,H,I,rfl,q⟩
def fu (hu:X.A.units + 64 < cLine):kX X (compareOp .NotEq) (Dr X.K true):=by
 intro pins s σ H x y v u Q I rx ry h
 obtain⟨d,e,h1,h2,s1,s2,q⟩:=h
 obtain⟨as,r1⟩:=h1.reads I rx
 obtain⟨bs,r2⟩:=h2.reads I ry
 exact SeqAt.compareNe_shaped r1 r2 s1 s2 hu ⟨.bl _,H,I,rfl,q⟩
def EG (K:Frag)(neg:Bool):R2:=λx y H Q=>∃p xs d ds,y=.ref p/\(fB K H p xs\/dH K H p xs)/\je K H xs ds/\Rep K H x d/\SeqAt.shaped d=true/\(∀e,e∈ds->SeqAt.shaped e=true)/\
 Q (.bl (if neg then !(ds.any λe=>PyData.eqv e d) else ds.any λe=>PyData.eqv e d)) H
theorem je.at' {K:Frag}:∀{xs:List V} {ds:List PyData} {i:Nat} {x:V},je K H xs ds->xs[i]? =some x->∃d,ds[i]? =some d/\Rep K H x d
 |_,_,_,_,.nil,e=>by simp at e
 |_,_,0,_,.cons r _,e=>by simp at e;subst e;exact⟨_,rfl,r⟩
 |_,_,i + 1,x,.cons _ t,e=>by
  obtain⟨u,h1,h2⟩:=je.at' (i:=i) (x:=x) t (by simpa using e)
  exact⟨u,by simpa using h1,h2⟩
open Classical in
theorem qZ (I:Inv X pins σ H s)(d:PyData):∀{xs:List V} {us:List Value} {ds:List PyData},Vals xs us->je X.K H xs ds->(∀e,e∈ds->SeqAt.shaped e=true)->∃f:Value->Bool,us.any f=(ds.any λe=>PyData.eqv e d)/\∀u,u∈us->∃e as,e∈ds/\Reads s.heap u e as/\f u=PyData.eqv e d:=by
 intro xs us ds hv hr hs
 let f:Value->Bool:=λu=>if h:∃e as,SeqAt.shaped e=true/\Reads s.heap u e as then PyData.eqv (Classical.choose h) d else false
 have hf:∀{u:Value} {e:PyData} {as:List Addr},SeqAt.shaped e=true->Reads s.heap u e as->f u=PyData.eqv e d:=λ{u e as} h1 h2=>by
  have hx:∃e as,SeqAt.shaped e=true/\Reads s.heap u e as:=⟨e,as,h1,h2⟩
  show (if h:∃e as,SeqAt.shaped e=true/\Reads s.heap u e as then PyData.eqv (Classical.choose h) d else false)=_
  rw[dif_pos hx]
  obtain⟨bs,q1,q2⟩:=Classical.choose_spec hx
  rw[SeqAt.Reads.unique _ _ _ _ _ (Jo q1) q2 h2]
 refine⟨f,?_,?_⟩
 ·induction hv generalizing ds with
  |nil=>cases hr;rfl
  | @cons x u xs us r1 r2 ih=>
   cases hr with
   | @cons _ _ e es h1 h2=>
    obtain⟨as,q⟩:=h1.reads I r1
    rw[IZ,IZ,hf (hs e (G6 ..)) q,ih h2 λz hz=>hs z (GY _ hz)]
 ·intro u hu
  obtain⟨i,hi,e0⟩:=Hz.mp hu
  have hi':i < xs.length:=by rw[hv.length];exact hi
  obtain⟨u',eu,ru⟩:=hv.get (GU hi')
  rw[GU hi,e0] at eu
  cases eu
  obtain⟨e,ee,re⟩:=je.at' hr (GU hi')
  obtain⟨as,q⟩:=re.reads I ru
  have hm:=Hi ee
  exact⟨e,as,hm,q,hf (hs e hm) q⟩
def BN (K:Frag):List V->Hp->VK->Prop:=λxs H Q=>∃a d,xs= [.ref a]/\Rep K H (.ref a) d/\d.showable=true/\d.hasDict=false/\d.depth<=64/\d.shown.length<=sizeLine/\Q (.str d.shown) H
def oU (hg:X.A.guards=some [])(hu:X.A.units + 100 < cLine):cw X (.builtin "repr") (BN X.K):=by
 intro pins s σ H xs us Q I r h
 obtain⟨a,d,rfl,hd,h1,h2,h3,h4,q⟩:=h
 obtain⟨u,rfl,rx⟩:=vals1 r
 have rx':=rx
 cases rx
 obtain⟨as,rd⟩:=hd.reads I rx'
 exact repr_of_reads' rd h1 (PyData.noDict_hsm h2) hg (by omega) (λb o e=>e) (λh' u tk k=>⟨.str _,H,I.kept (t':=tk) k,⟨u,rfl⟩,q⟩) h4
inductive Ad (K:Frag)(H:Hp):V->String->Prop
 |non:Ad K H .non "NoneType"
 |bl (b:Bool):Ad K H (.bl b) "bool"
 |int (i:Int):Ad K H (.int i) "int"
 |str (x:Str):Ad K H (.str x) "str"
 |tup {a:Addr} {xs:List V}:dH K H a xs->Ad K H (.ref a) "tuple"
 |lst {a:Addr} {xs:List V}:fB K H a xs->Ad K H (.ref a) "list"
 |dic {a:Addr} {kvs:List (Key×V)}:H a=some (.dK kvs)->Ad K H (.ref a) "dict"
def Fp (K:Frag):List V->Hp->VK->Prop:=λxs H Q=>∃x T t b,xs= [x,.ty T]/\Ad K H x t/\PySem.W.kitOne K (.type t) (.type T)=some b/\Q (.bl b) H
theorem zM:cw X (.builtin "isinstance") (Fp X.K):=by
 intro pins s σ H xs us Q I r h
 obtain⟨x,T,t,b,rfl,ty,e,q⟩:=h
 obtain⟨u,c,rfl,rx,rc⟩:=vals2 r
 cases rc
 have fin:∀tk,EP X pins σ Q (.bool b) {s with toks:=tk}:=λtk=>⟨.bl b,H,I.tok tk,rfl,q⟩
 cases ty with
 |non=>exact hX I rx .non e fin
 |bl b=>exact hX I rx (.bl b) e fin
 |int i=>exact hX I rx (.int i) e fin
 |str z=>exact hX I rx (.str z) e fin
 |dic hk=>exact hX I rx (.dK hk) e fin
 |tup hq=>
  cases rx
  obtain⟨its,rv,⟨o,h1,h2,_⟩,_⟩:=I.tuple hq
  exact HP PySem.W.kitx_tuple I.kIn ⟨o,h1,h2⟩ e (λz=>nomatch z) fin
 |lst hq=>
  cases rx
  obtain⟨its,rv,pl,_⟩:=I.list hq
  obtain⟨o,h1,h2,_⟩:=pl.isList
  exact HP PySem.W.kitx_list I.kIn ⟨o,h1,h2⟩ e (λz=>nomatch z) fin
def r6 {A:Around}{its:List Value}{bs:List Bool}(hv:Vals (bs.map V.bl) its):TruthOf X.prog X.w A (λi v=>its[i]? =some v) (λi=>bs.getD i false):=λi v s Q E hi hq=>by
 have hl:=hv.length
 have hi2:i < bs.length:=by
  have:=(Hs.mp hi).1
  rw[<-hl] at this;simpa using this
 obtain⟨u,eu,ru⟩:=hv.get (i:=i) (x:=.bl bs[i]) (by simp[hi2])
 rw[hi] at eu;cases eu
 cases ru
 refine Iz ?_
 have:bs.getD i false=bs[i]:=by simp[hi2]
 rw[<-this];exact hq
theorem range_all (bs:List Bool):(List.range bs.length).all (λi=>bs.getD i false)=bs.all id:=by
 induction bs with
 |nil=>rfl
 |cons b bs ih=>
  rw[Hr,List.range_succ_eq_map,List.all_cons,List.all_map,List.all_cons,<-ih]
  rfl
theorem range_any (bs:List Bool):(List.range bs.length).any (λi=>bs.getD i false)=bs.any id:=by
 induction bs with
 |nil=>rfl
 |cons b bs ih=>
  rw[Hr,List.range_succ_eq_map,IZ,List.any_map,IZ,<-ih]
  rfl
def tT (K:Frag)(f:List Bool->Bool):List V->Hp->VK->Prop:=λxs H Q=>∃a bs,xs= [.ref a]/\fB K H a (bs.map V.bl)/\Q (.bl (f bs)) H
def mZ (hc:X.calm=true){a:Addr}{bs:List Bool}{Q:VK}(I:Inv X pins σ H s)(hq:fB X.K H a (bs.map V.bl)){f:List Bool->Bool}{g:(Nat->Bool)->Nat->Bool}(hfg:g (λi=>bs.getD i false) bs.length=f bs)(q:Q (.bl (f bs)) H) :
  wpAny (model X.prog X.w) X.A.in1 (pyIter (.ref a)) (λit s2=>∃Ii fp wr n P St tr,it=.ref Ii/\Walks X.prog X.w X.A.in1 Ii fp wr n P St/\St 0 s2.heap/\TruthOf X.prog X.w X.A.in1 P tr/\
   ∀h' tk,(∀b o,b∉wr->s2.heap.get? b=some o->h'.get? b=some o)->EP X pins σ Q (.bool (g tr n)) {s2 with heap:=h',toks:=tk}) X.xe s:=by
 obtain⟨its,rv,pl,hz⟩:=I.list hq
 have hh:X.A.in1.handled=none:=I.ok.hd hc
 have hlen:its.length=bs.length:=by rw[<-rv.length];simp
 obtain⟨o,ho,_⟩:=id pl.isList
 refine I0 pl.isList ?_
 have W:=Walks.list (prog:=X.prog) (w:=X.w) hh s.heap.objs.size a (HA (G9 ho)) its.toArray
 refine⟨s.heap.objs.size,_,_,_,_,_,λi=>bs.getD i false,rfl,W,⟨⟨_,Hf _ rfl,rfl,rfl⟩,pl.isList.push _⟩,?_,λh' tk k=>?_⟩
 ·have:=r6 (X:=X) (A:=X.A.in1) rv
  simpa using this
 ·have e:its.toArray.size=bs.length:=by simpa using hlen
  rw[e,hfg]
  have I1:Inv X pins σ H {s with heap:=s.heap.push {cls:=.type "list_iterator",data:=.fields #[.ref a,.int 0 0]}}:=I.kept (t':=s.toks) λb o e=>GV _ e
  have hf:H s.heap.objs.size=none:=I.hok.fresh (GZ _)
  have fp:=I.fpOk (H':=H) (b:=s.heap.objs.size) (GZ _) hf
  refine⟨.bl _,H,I1.turned (it:=s.heap.objs.size) (t':=tk) (λb o hb e=>k b o (by simpa using hb) e) hf fp.2.1 fp.2.2.2.1 fp.2.2.2.2.1 fp.2.2.2.2.2,rfl,q⟩
def xZ (hc:X.calm=true):cw X (.builtin "all") (tT X.K λbs=>bs.all id):=by
 intro pins s σ H xs us Q I r h
 obtain⟨a,bs,rfl,hq,q⟩:=h
 obtain⟨u,rfl,rx⟩:=vals1 r
 cases rx
 exact call_all_walk (mZ hc I hq (f:=λbs=>bs.all id) (g:=λtr n=>(List.range n).all tr) (range_all bs) q)
def yn (hc:X.calm=true):cw X (.builtin "any") (tT X.K λbs=>bs.any id):=by
 intro pins s σ H xs us Q I r h
 obtain⟨a,bs,rfl,hq,q⟩:=h
 obtain⟨u,rfl,rx⟩:=vals1 r
 cases rx
 exact call_any_walk (mZ hc I hq (f:=λbs=>bs.any id) (g:=λtr n=>(List.range n).any tr) (range_any bs) q)
def zZ:cw X (.type "range") (λxs H Q=>∃n:Int,xs= [.int n]/\∀p,H p=none->Q (.ref p) (upd H p (.gz 0 n))):=by
 intro pins s σ H xs us Q I r h
 obtain⟨n,rfl,q⟩:=h
 obtain⟨u,rfl,rx⟩:=vals1 r
 obtain⟨t,rfl⟩:=rx
 refine call_range_1 ⟨.ref s.heap.objs.size,upd H s.heap.objs.size (.gz 0 n),?_,rfl,q _ (I.hok.fresh (GZ _))⟩
 exact I.laid (λb o e=>GV _ e) (GZ _) ⟨_,_,_,Hf _ rfl⟩
def oi (hc:X.calm=true):cw X (.type "list") (λxs H Q=>∃p n,xs= [.ref p]/\H p=some (.gz 0 n)/\0<=n/\n<=1000/\∀l,H l=none->Q (.ref l) (upd H l (.lst ((List.range n.toNat).map λ(i:Nat)=>V.int (i:Int))))):=by
 intro pins s σ H xs us Q I r h
 obtain⟨p,n,rfl,hp,h0,h1,q⟩:=h
 obtain⟨u,rfl,rx⟩:=vals1 r
 cases rx
 obtain⟨t,u,v,hr⟩:∃t u v,s.heap.get? p=some {cls:=.type "range",data:=.fields #[.int 0 t,.int n u,.int 1 v]}:=I.hok p _ hp
 have hsz:Builtin.Range.rangeSize 0 n 1=(n.toNat:Int):=by rw[rangeSize_one];split <;> omega
 refine call_list_range (I.ok.hd hc) hr (small_one (by omega) (by omega) (by omega) (by omega)) hsz (by omega) λh' tk acc c k hS hacc=>?_
 have hv:Vals ((List.range n.toNat).map λ(i:Nat)=>V.int (i:Int)) acc.toList:=by
  have key:∀(m:Nat) (us:List Value) (j:Nat),us.length=m->(∀(i:Nat) (v:Value),us[i]? =some v->∃t,v=Value.int ((j + i:Nat):Int) t)->Vals ((List.range' j m).map λ(i:Nat)=>V.int (i:Int)) us:=by
   intro m
   induction m with
   |zero=>intro us j hl _;cases us with
    |nil=>exact .nil
    |cons a b=>simp at hl
   |succ m ih=>
    intro us j hl hh
    cases us with
    |nil=>simp at hl
    |cons u us=>
     rw[List.range'_succ,Hx]
     refine .cons (by have:=hh 0 u rfl;simp at this;exact this) (ih us (j + 1) (by simpa using hl) λi v hi=>?_)
     obtain⟨t,e⟩:=hh (i + 1) v (by simpa using hi)
     exact⟨t,by rw[e];congr 2;omega⟩
  have:=key n.toNat acc.toList 0 (by simpa using hacc.1) λi v hi=>by
   obtain⟨t,e⟩:=hacc.2 i v (by simpa using hi)
   exact⟨t,by rw[e];simp⟩
  rw[List.range_eq_range'];exact this
 refine⟨.ref s.heap.objs.size,_,I.laid (t':=tk) k (GZ _) (show bD X.prog X.w _ h' _ (.lst _) from⟨by simp;rw[HB];omega,acc.toList,c,hv,by simpa using hS⟩),rfl,q _ (I.hok.fresh (GZ _))⟩
end
def Rc (h:Heap)(e:Addr)(cls:Value)(T:Addr)(fl:Value):Prop:=∃oe vs oT ts,h.get? e=some oe/\oe.cls=cls/\oe.dict=none/\oe.data=.fields vs/\vs[1]? =some (.ref T)/\T≠e/\h.get? T=some oT/\oT.data=.fields ts/\ts[3]? =some fl
abbrev Keeps (F:List Addr)(ch:List Addr)(h h':Heap):Prop:=∀b o,h.get? b=some o->b∉F->b∉ch->h'.get? b=some o
abbrev Slots (F:List Addr)(h h':Heap):Prop:=∀b o,h.get? b=some o->b∈F->∃sl,h'.get? b=some {o with slots:=sl}
section
variable {M:Model}{A:Around}{E:Value->Shared->Prop}{s:Shared}{base:Heap}{env:Env}{outer:List Env}{L e:Addr}{cls:Value}{Q:Unit->Shared->Prop}
def yd {oe:Obj}{vs:Array Value}{head:Value}{hadNext:Bool}(hfr:A.frames=some (env :: outer))(hl:s.heap.FunFrames base (env :: outer))(hf:env.frame=some L)(he:s.heap.get? e=some oe)(hc:oe.cls=cls)(hdd:oe.dict=none)(hd:oe.data=.fields vs)(hsz:1 < vs.size)
  (h:∀h' T,Keeps (hJ (env :: outer)) [e] s.heap h'->Slots (hJ (env :: outer)) s.heap h'->s.heap.get? T=none->Rc h' e cls T (rawInt L)->Q () {s with heap:=h'}) :
  wpAny M A (do let a <-frameOf env;let pl <-entryPlaceOf L hadNext;let b <-EntryCells.newEntry head a .none (rawInt L) .none pl;setField (.ref e) 1 b) Q E s:=by
 have eF:e∉hJ (env :: outer):=λz=>by
  obtain⟨_,o,q,n⟩:=hl.mem z
  rw[he] at q;cases q;exact n _ hd
 refine GS (wpAny_frameOf_fun hfr hl hf λh1 s1=>?_)
 refine GS (wpAny_entryPlaceOf λpl hpl=>?_)
 unfold EntryCells.newEntry newFields
 refine GS (IJ ?_ (hpl.sizeOk5 _ _ _ _ _))
 have e1:h1.get? e=some oe:=(s1.2.1 e eF).trans he
 have e2:=GV (h:=h1) {cls:=.type "traceback",dict:=none,data:=.fields ([head,.ref L,.none,rawInt L,.none] ++ (if pl.isEmpty then List.replicate 6 Value.none else pl)).toArray} e1
 have tn:h1.objs.size≠e:=Nat.ne_of_gt (G9 e1)
 refine Jr e2 hd hsz (h _ h1.objs.size (λb o q hb hn=>?_) (λb o q hb=>?_) ?_ ?_)
 ·have hbe:b≠e:=by simpa using hn
  have q1:h1.get? b=some o:=(s1.2.1 b hb).trans q
  rw[HY _ _ (Ne.symm hbe)]
  exact GV _ q1
 ·obtain⟨sl,q1⟩:=s1.2.2 b o q
  have hbe:b≠e:=λz=>eF (z▸hb)
  refine⟨sl,?_⟩
  rw[HY _ _ (Ne.symm hbe)]
  exact GV _ q1
 ·cases q:s.heap.get? h1.objs.size with
  |none=>rfl
  |some o=>obtain⟨sl,q1⟩:=s1.2.2 _ o q;exact absurd (G9 q1) (HG _)
 ·have d3:=Obj.data_mapFields hd (·.setIfInBounds 1 (Value.ref h1.objs.size))
  have e3:=HQ (Obj.mapFields (·.setIfInBounds 1 (Value.ref h1.objs.size))) e2 (Obj.isFreed_of_fields d3)
  refine⟨_,_,_,_,e3,(Obj.cls_mapFields _ _).trans hc,?_,d3,by simp[hsz],tn,(HY _ _ (Ne.symm tn)).trans (Hf h1 rfl),rfl,?_⟩
  ·unfold Obj.mapFields
   split <;> exact hdd
  ·rcases hpl with rfl | ⟨_,_,_,_,_,_,_,rfl⟩ <;> simp
def tQ {oe:Obj}{vs:Array Value}(hfr:A.frames=some (env :: outer))(hl:s.heap.FunFrames base (env :: outer))(hf:env.frame=some L)(he:s.heap.get? e=some oe)(hc:oe.cls=cls)(hdd:oe.dict=none)(hd:oe.data=.fields vs)(h1:vs[1]? =some .none)
  (h:∀h' T,Keeps (hJ (env :: outer)) [e] s.heap h'->Slots (hJ (env :: outer)) s.heap h'->s.heap.get? T=none->Rc h' e cls T (rawInt L)->Q () {s with heap:=h'}):wpAny M A (noteFrame (.ref e) env) Q E s:=by
 unfold noteFrame
 simp only[hf]
 refine GS (wpAny_field he hd h1 ?_)
 rw[G8 (by decide)]
 exact yd hfr hl hf he hc hdd hd (HS.mp h1).1 h
def wo {T0:Addr}(hfr:A.frames=some (env :: outer))(hl:s.heap.FunFrames base (env :: outer))(hf:env.frame=some L)(r:Rc s.heap e cls T0 .none)
  (h:∀h' T,Keeps (hJ (env :: outer)) [e,T0] s.heap h'->Slots (hJ (env :: outer)) s.heap h'->(s.heap.get? T=none\/T=T0)->Rc h' e cls T (rawInt L)->Q () {s with heap:=h'}):wpAny M A (noteFrame (.ref e) env) Q E s:=by
 obtain⟨oe,vs,oT,ts,he,hc,hdd,hd,h1,hTe,hT,hdT,h3⟩:=r
 have tF:T0∉hJ (env :: outer):=λz=>by
  obtain⟨_,o,q,n⟩:=hl.mem z
  rw[hT] at q;cases q;exact n _ hdT
 unfold noteFrame
 simp only[hf]
 refine GS (wpAny_field he hd h1 ?_)
 rw[GW (show (Value.ref T0 != Value.none)=true from by simp)]
 refine GS (wpAny_field hT hdT h3 ?_)
 rw[G8 (show ¬((Value.none == rawInt L)=true) from by simp[rawInt])]
 refine GS (Jr hT hdT (HS.mp h3).1 ?_)
 have oth:∀b,b≠T0->(s.heap.update T0 (Obj.mapFields (·.setIfInBounds 3 Value.none))).get? b=s.heap.get? b:=λb hb=>HY _ _ (Ne.symm hb)
 have nf:∀b o,s.heap.get? b=some o->(∀ws,o.data≠.fields ws)->b≠T0:=λb o q n z=>by
  rw[z,hT] at q;cases q;exact n _ hdT
 refine yd (base:=base) hfr (hl.of_keeps λb o q n=>⟨o,(oth b (nf b o q n)).trans q,rfl⟩) hf ((oth e (Ne.symm hTe)).trans he) hc hdd hd (HS.mp h1).1 λh' T kp sl tn rc=>?_
 refine h h' T (λb o q hb hn=>?_) (λb o q hb=>?_) ?_ rc
 ·simp only[G7,List.not_mem_nil,or_false,not_or] at hn
  exact kp b o ((oth b hn.2).trans q) hb (by simp[hn.1])
 ·exact sl b o ((oth b λz=>tF (z▸hb)).trans q) hb
 ·by_cases z:T=T0
  ·exact .inr z
  ·exact .inl ((oth T z).symm.trans tn)
def uT {T:Addr}{fl:Value}(r:Rc s.heap e cls T fl)(h:∀h',Keeps [] [T] s.heap h'->Rc h' e cls T .none->Q () {s with heap:=h'}):wpAny M A (setFlight (.ref e) none) Q E s:=by
 obtain⟨oe,vs,oT,ts,he,hc,hdd,hd,h1,hTe,hT,hdT,h3⟩:=r
 have sz:3 < ts.size:=(HS.mp h3).1
 unfold setFlight
 refine GS (wpAny_field he hd h1 ?_)
 rw[GW (show (Value.ref T != Value.none)=true from by simp)]
 refine Jr hT hdT sz (h _ (λb o q _ hn=>?_) ?_)
 ·have hb:b≠T:=by simpa using hn
  exact (HY _ _ (Ne.symm hb)).trans q
 ·have d3:=Obj.data_mapFields hdT (·.setIfInBounds 3 ((none:Option Addr).elim Value.none λf=>rawInt f))
  exact⟨oe,vs,_,_,(HY _ _ hTe).trans he,hc,hdd,hd,h1,hTe,HQ _ hT (Obj.isFreed_of_fields d3),d3,by simp[sz]⟩
end
section
variable {P:Program}{w:World}
theorem bD.there {H:Hp}{h:Heap}{a:Addr}{o:HO}(x:bD P w H h a o):∃u,h.get? a=some u:=by
 cases o with
 |lst xs=>obtain⟨_,_,_,_,e⟩:=x;exact⟨_,e⟩
 |tup xs=>obtain⟨_,_,_,u,e,_⟩:=x;exact⟨u,e⟩
 |dK kvs=>obtain⟨_,_,_,_,o,_,_,e,_⟩:=x;exact⟨_,e⟩
 |dT kvs=>obtain⟨_,_,_,_,o,_,_,e,_⟩:=x;exact⟨_,e⟩
 |set S n=>obtain⟨o,_,_,_,e,_⟩:=x;exact⟨_,e⟩
 |ins C dx fs=>obtain⟨_,_,_,e,_⟩:=x;exact⟨_,e⟩
 |own y=>obtain⟨_,e⟩:=x;exact⟨_,e⟩
 |xd fs=>obtain⟨_,⟨_,_,_,e,_⟩,_⟩:=x;exact⟨_,e⟩
 |gz lo hi=>obtain⟨_,_,_,e⟩:=x;exact⟨_,e⟩
 |a7 ob u=>obtain⟨e,_⟩:=x;exact⟨_,e⟩
 |tbl ps=>exact⟨_,show h.get? a=some _ from x⟩
 |met f y=>exact⟨_,show h.get? a=some _ from x⟩
 |ext φ=>obtain⟨_,⟨_,e⟩,_⟩:=x;exact⟨_,e⟩
end
structure Lies (h₀:Heap)(H:Hp)(h:Heap)(e:Addr)(cls:Value):Prop where
 free:H e=none
 new:h₀.get? e=none
 ob:∃T,Rc h e cls T .none/\H T=none/\h₀.get? T=none
def lW (P:Program)(w:World):wD:=λouter H s E e s'=>∃ea cls H',e=.ref ea/\s'.os=s.os/\AllBare s'.gens/\Un (hJ outer) [] H H' s.heap s'.heap/\i9 P w H' s'.heap/\Lies s.heap H' s'.heap ea cls/\E cls none H'
section
variable {P:Program}{w:World}{M:Model}{A:Around}{E':Value->Shared->Prop}{s:Shared}{env:Env}{outer:List Env}{L e:Addr}{cls:Value}{base h₀:Heap}{H:Hp}{Q:Unit->Shared->Prop}
def sq {h h':Heap}(hok:i9 P w H h)(k:∀b o,h.get? b=some o->(∃u,H b=some u)->h'.get? b=some o):i9 P w H h':=λa o ha=>
 (hok a o ha).stay (λb u hb q=>k b u q (hb.elim (λz=>⟨o,by rw[z];exact ha⟩) λz=>⟨_,z⟩)) (λ_ q=>q) λ_ _ q=>q
def yq (hfr:A.frames=some (env :: outer))(hf:env.frame=some L)(hfn:s.heap.FunFrames base (env :: outer))(hok:i9 P w H s.heap)(hff:∀b∈hJ (env :: outer),H b=none)(Ly:Lies h₀ H s.heap e cls)(hex:∀b o,h₀.get? b=some o->∃o',s.heap.get? b=some o')
  (hQ:∀h',(∀b o,s.heap.get? b=some o->b∉hJ (env :: outer)->((∃o0,h₀.get? b=some o0)\/∃u,H b=some u)->h'.get? b=some o)->(∀b o,s.heap.get? b=some o->b∈hJ (env :: outer)->∃sl,h'.get? b=some {o with slots:=sl})->Lies h₀ H h' e cls->i9 P w H h'->Q () {s with heap:=h'}) :
  wpAny M A (leaving env (.ref e)) Q E' s:=by
 obtain⟨fr,nw,T0,rc,hHT,hnT⟩:=Ly
 obtain⟨oe,vs,oT,ts,he,hc,hdd,hd,h1,hTe,hT,hdT,h3⟩:=id rc
 have tF:T0∉hJ (env :: outer):=λz=>by
  obtain⟨_,o,q,n⟩:=hfn.mem z
  rw[hT] at q;cases q;exact n _ hdT
 unfold leaving
 refine GS (wo hfr hfn hf rc λh4 T kp sl tn rc4=>uT rc4 λh5 kp5 rc5=>?_)
 have nT:∀b o,s.heap.get? b=some o->b≠T0->b≠T:=λb o q n z=>by
  rcases tn with tn |tn
  ·rw[z,tn] at q;cases q
  ·exact n (z.trans tn)
 have kept:∀b o,s.heap.get? b=some o->b∉hJ (env :: outer)->((∃o0,h₀.get? b=some o0)\/∃u,H b=some u)->h5.get? b=some o:=λb o q hb hor=>by
  have be:b≠e:=λz=>by subst z;rcases hor with⟨_,z⟩ | ⟨_,z⟩ <;> simp_all
  have bT:b≠T0:=λz=>by subst z;rcases hor with⟨_,z⟩ | ⟨_,z⟩ <;> simp_all
  exact kp5 b o (kp b o q hb (by simp[be,bT])) (by simp) (by simp[nT b o q bT])
 have slot:∀b o,s.heap.get? b=some o->b∈hJ (env :: outer)->∃sl,h5.get? b=some {o with slots:=sl}:=λb o q hb=>by
  obtain⟨x,q4⟩:=sl b o q hb
  exact⟨x,kp5 b _ q4 (by simp) (by simp[nT b o q λz=>tF (z▸hb)])⟩
 have fresh:H T=none/\h₀.get? T=none:=by
  rcases tn with tn |tn
  ·refine⟨?_,?_⟩
   ·cases q:H T with
    |none=>rfl
    |some u=>obtain⟨o,qo⟩:=(hok T u q).there;rw[tn] at qo;cases qo
   ·cases q:h₀.get? T with
    |none=>rfl
    |some u=>obtain⟨o,qo⟩:=hex T u q;rw[tn] at qo;cases qo
  ·rw[tn];exact⟨hHT,hnT⟩
 refine hQ h5 kept slot ⟨fr,nw,T,rc5,fresh.1,fresh.2⟩ (sq hok λb o q hu=>kept b o q (λz=>?_) (.inr hu))
 obtain⟨u,hu⟩:=hu
 rw[hff b z] at hu;cases hu
def ui {h:Heap}{args:List Value}(hfr:A.frames=some (env :: outer))(hf:env.frame=some L)(hfn:h.FunFrames base (env :: outer))(hok:i9 P w H h)(hff:∀b∈hJ (env :: outer),H b=none)(hex:∀b o,h₀.get? b=some o->∃o',h.get? b=some o')(hx:Heap.MadeExcOf h s.heap e cls args)
  (hQ:∀h',(∀b o,h.get? b=some o->b∉hJ (env :: outer)->h'.get? b=some o)->(∀b o,h.get? b=some o->b∈hJ (env :: outer)->∃sl,h'.get? b=some {o with slots:=sl})->Lies h₀ H h' e cls->i9 P w H h'->Q () {s with heap:=h'}) :
  wpAny M A (leaving env (.ref e)) Q E' s:=by
 obtain⟨t,he,_,_⟩:=hx.there
 unfold leaving
 refine GS (tQ (cls:=cls) hfr (hfn.of_keeps λb o q _=>⟨o,hx.keeps b o q,rfl⟩) hf he rfl rfl rfl rfl λh4 T kp sl tn rc4=>uT rc4 λh5 kp5 rc5=>?_)
 have ne:∀b o,h.get? b=some o->b≠e:=λb o q z=>by rw[z,hx.new] at q;cases q
 have nT:∀b o,h.get? b=some o->b≠T:=λb o q z=>by
  have:=hx.keeps b o q
  rw[z,tn] at this;cases this
 have kept:∀b o,h.get? b=some o->b∉hJ (env :: outer)->h5.get? b=some o:=λb o q hb=>kp5 b o (kp b o (hx.keeps b o q) hb (by simp[ne b o q])) (by simp) (by simp[nT b o q])
 have slot:∀b o,h.get? b=some o->b∈hJ (env :: outer)->∃sl,h5.get? b=some {o with slots:=sl}:=λb o q hb=>by
  obtain⟨x,q4⟩:=sl b o (hx.keeps b o q) hb
  exact⟨x,kp5 b _ q4 (by simp) (by simp[nT b o q])⟩
 have fresh:∀{b:Addr},h.get? b=none->H b=none/\h₀.get? b=none:=λ{b} hb=>by
  refine⟨?_,?_⟩
  ·cases q:H b with
   |none=>rfl
   |some u=>obtain⟨o,qo⟩:=(hok b u q).there;rw[hb] at qo;cases qo
  ·cases q:h₀.get? b with
   |none=>rfl
   |some u=>obtain⟨o,qo⟩:=hex b u q;rw[hb] at qo;cases qo
 have no:h.get? T=none:=by
  cases q:h.get? T with
  |none=>rfl
  |some o=>exact absurd rfl (nT T o q)
 obtain⟨f1,f2⟩:=fresh hx.new
 obtain⟨g1,g2⟩:=fresh no
 refine hQ h5 kept slot ⟨f1,f2,T,rc5,g1,g2⟩ (sq hok λb o q hu=>kept b o q λz=>?_)
 obtain⟨u,hu⟩:=hu
 rw[hff b z] at hu;cases hu
end
section
variable {P:Program}{w:World}{K:Frag}{mg:Str->Option Value}{base:Heap}{N:List Str}{qual:Str}{scope:Scope}{f:Addr}{cd:Value}{A:Around}{outer:List Env}{s0:Shared}{H0:Hp}{E:XK}
def aW:Passes (lW P w) (jK (lW P w) P w K mg base N qual scope f cd A outer s0 H0 E) E:=by
 intro pins σ H s e s' I hcx
 obtain⟨ea,cls,H',rfl,os,bare,un,hok,Ly,q⟩:=hcx
 have I':=I.call' os un hok bare (λb hb=>absurd hb (by simp))
 have old:∀{b:Addr},s.heap.get? b=none->s0.heap.get? b=none:=λ{b} hb=>by
  cases z:s0.heap.get? b with
  |none=>rfl
  |some o=>obtain⟨o',z'⟩:=I.base.there b o z (show b∉([]:List Addr) by simp);rw[hb] at z';cases z'
 have Ly0:Lies s0.heap H' s'.heap ea cls:=by
  obtain⟨fr,nw,T,rc,hHT,hnT⟩:=Ly
  exact⟨fr,old nw,T,rc,hHT,old hnT⟩
 have above:s0.heap.objs.size<=(envOfC qual scope s0.heap.objs.size f cd).locals:=I.ok.above
 refine yq (base:=base) (h₀:=s0.heap) I'.ok.frames rfl I'.stack I'.hok I'.stkFree Ly0 (λb o z=>I'.base.there b o z (show b∉([]:List Addr) by simp)) λh' kept slot Ly' hok'=>?_
 have nL:∀{b:Addr} {o:Obj},s0.heap.get? b=some o->b∉hJ outer->b∉hJ (envOfC qual scope s0.heap.objs.size f cd :: outer):=λ{b o} z hb hm=>by
  rcases G7.mp (I'.stkSub b hm) with e |e
  ·have:=G9 z
   rw[e] at this
   exact absurd (Hw this above) (HG _)
  ·exact hb e
 have inn:∀{b:Addr},b∈hJ outer->b∈hJ (envOfC qual scope s0.heap.objs.size f cd :: outer):=λ{b} hb=>by
  obtain⟨en,h1,h2⟩:=ID.mp hb
  exact ID.mpr ⟨en,GY _ h1,h2⟩
 refine⟨ea,cls,H',rfl,os.trans I.os,bare,⟨λb o z n hb _=>?_,λb o z n hb _=>?_,λb o z n _=>I'.base.free b o z n (show b∉([]:List Addr) by simp),λb o z _=>?_,I'.base.tups,I'.base.frzs,I'.base.tbls⟩,hok',Ly',q⟩
 ·exact kept b o (I'.base.keep b o z n hb (show b∉([]:List Addr) by simp)) (nL z hb) (.inl ⟨o,z⟩)
 ·obtain⟨sl,z1⟩:=I'.base.slot b o z n hb (show b∉([]:List Addr) by simp)
  obtain⟨sl2,z2⟩:=slot b _ z1 (inn hb)
  exact⟨sl2,z2⟩
 ·obtain⟨o',z1⟩:=I'.base.there b o z (show b∉([]:List Addr) by simp)
  by_cases hb:b∈hJ (envOfC qual scope s0.heap.objs.size f cd :: outer)
  ·obtain⟨sl,z2⟩:=slot b o' z1 hb
   exact⟨_,z2⟩
  ·exact⟨o',kept b o' z1 hb (.inl ⟨o,z⟩)⟩
def Cc (C:Addr)(E:XK)(t:TA):TS:=λ_ σ H=>t σ H λvs H1=>vs.length<=sizeLine/\E (.ref C) none H1
def yb {x:Str}{C:Addr}{np cpos pos:Pos}{e0:Expr}{es:List Expr}{t:TA}{Bn newId initId:String}{bmB:List Value}(FB:ExcBaseFacts Bn newId initId bmB)(hbb:bmB.contains (.type "BaseException")=true)(q:PySem.W.excIn K C bmB newId=true)
  (hg:Gl (jK (lW P w) P w K mg base N qual scope f cd A outer s0 H0 E) x) (hm:mg x=some (.ref C)) (ha:PA (jK (lW P w) P w K mg base N qual scope f cd A outer s0 H0 E) (e0 :: es) t)
  (he:starEach (e0 :: es) (envOfC qual scope s0.heap.objs.size f cd)=(false,eval e0 (envOfC qual scope s0.heap.objs.size f cd)) :: starEach es (envOfC qual scope s0.heap.objs.size f cd):=by rfl)
  (hpl:(backTo cpos (starEach es (envOfC qual scope s0.heap.objs.size f cd))).any (·.1)=false:=by rfl) (hdb:(x == ("__debug__":Str))=false:=by decide) :
  PS (jK (lW P w) P w K mg base N qual scope f cd A outer s0 H0 E) (.Raise (some (.Call (.Name x np) (e0 :: es) [] cpos)) none pos) (Cc C E t):=by
 intro pins s σ H D I h
 have own:∀{hh:Heap},K.In hh->∃bm Nn nm qn bs hdct sn sub ab col dd k0 k1 k2 k3 k5 mN,hh.get? C=some (excClassObj nm qn C Nn bs bm hdct sn sub ab col dd k0 k1 k2 k3 k5 newId)/\hh.Ns Nn mN/\mN "__init__"=none/\OwnTail hh bmB bm:=λ{hh} X=>by
  have q:=q
  unfold PySem.W.excIn at q
  split at q
  ·rename_i dd cdd sl ho
   split at q
   ·rename_i C' bm k0 k1 k2 k3 n k5 hm hs
    simp only[Hl,beq_iff_eq,Ia] at q
    obtain⟨⟨⟨⟨⟨rfl,rfl⟩,hdel⟩,ht⟩,hok⟩,hni⟩:=q
    obtain⟨nm,bs,mro,ns,qn,hd,sn,sub,ab,col,del⟩:=cdd
    dsimp only at hm hdel hok hni
    subst hm hdel
    have hsl:sl=#[k0,k1,k2,k3,some (.builtin n),k5]:=by
     obtain⟨l⟩:=sl
     simp only at hs
     rw[hs]
    subst hsl
    exact⟨bm,ns,nm,qn,bs,hd,sn,sub,ab,col,dd,k0,k1,k2,k3,k5,_,X _ _ ho,.of_isNs (PySem.W.isNs_of_in X hok),PySem.W.nsMap_none_of_in X hok hni,PySem.W.tail_of_in X ht⟩
   ·cases q
  ·cases q
 obtain⟨bm,Nn,nm,qn,bs,hdct,sn,sub,ab,col,dd,k0,k1,k2,k3,k5,mN,hC,hN,hni,TL⟩:=own I.ok.mod.kin
 have hA:=ha cpos pins s σ H _ I h
 refine wpAny_Raise_call_subT (C:=C) (nm:=nm) (q:=qn) (N:=Nn) (bs:=bs) (bm:=bm) (hdct:=hdct) (sn:=sn) (sub:=sub) (ab:=ab) (col:=col) (dd:=dd) (k0:=k0) (k1:=k1) (k2:=k2) (k3:=k3) (k5:=k5) FB (mN:=mN) (TL.hasType hbb) (I.ok.hd rfl) ?_ hni (qR I hg hm ⟨rfl,?_⟩ hdb)
 ·show (backTo cpos (starEach (e0 :: es) (envOfC qual scope s0.heap.objs.size f cd))).any (·.1)=false
  rw[he]
  show (false || (backTo cpos (starEach es (envOfC qual scope s0.heap.objs.size f cd))).any (·.1))=false
  rw[hpl];rfl
 have hA:wpAny _ _ (spliced (backTo cpos (starEach (e0 :: es) (envOfC qual scope s0.heap.objs.size f cd)))) _ _ s:=hA
 show wpAny _ _ (evalArgs (.ref C) true (backTo cpos (starEach (e0 :: es) (envOfC qual scope s0.heap.objs.size f cd))) []) _ _ s
 rw[he] at hA ⊢
 refine Calls.evalArgs_plain (cf hA λus s2 ⟨vs,H2,I2,r2,hl2,q2⟩=>⟨rfl,by show us.length<=_;rw[<-r2.length];exact hl2,I2.bk _ _ hC,hN.keeps I2.bk,TL.keeps I2.bk,λh' e hx=>?_⟩)
 have above:s0.heap.objs.size<=(envOfC qual scope s0.heap.objs.size f cd).locals:=I2.ok.above
 have nil:∀b:Addr,b∉([]:List Addr):=λb=>by simp
 refine ui (s:={s2 with heap:=h'}) (h:=s2.heap) (base:=base) (h₀:=s0.heap) I2.ok.frames rfl I2.stack I2.hok I2.stkFree (λb o z=>I2.base.there b o z (nil b)) hx λh2 kept slot Ly hok=>?_
 have nL:∀{b:Addr} {o:Obj},s0.heap.get? b=some o->b∉hJ outer->b∉hJ (envOfC qual scope s0.heap.objs.size f cd :: outer):=λ{b o} z hb hm=>by
  rcases G7.mp (I2.stkSub b hm) with e |e
  ·have:=G9 z
   rw[e] at this
   exact absurd (Hw this above) (HG _)
  ·exact hb e
 have inn:∀{b:Addr},b∈hJ outer->b∈hJ (envOfC qual scope s0.heap.objs.size f cd :: outer):=λ{b} hb=>by
  obtain⟨en,h1,h2⟩:=ID.mp hb
  exact ID.mpr ⟨en,GY _ h1,h2⟩
 refine⟨e,.ref C,H2,rfl,I2.os,I2.bare,⟨λb o z n hb _=>?_,λb o z n hb _=>?_,λb o z n _=>I2.base.free b o z n (nil b),λb o z _=>?_,I2.base.tups,I2.base.frzs,I2.base.tbls⟩,hok,Ly,q2⟩
 ·exact kept b o (I2.base.keep b o z n hb (nil b)) (nL z hb)
 ·obtain⟨sl,z1⟩:=I2.base.slot b o z n hb (nil b)
  obtain⟨sl2,z2⟩:=slot b _ z1 (inn hb)
  exact⟨sl2,z2⟩
 ·obtain⟨o',z1⟩:=I2.base.there b o z (nil b)
  by_cases hb:b∈hJ (envOfC qual scope s0.heap.objs.size f cd :: outer)
  ·obtain⟨sl,z2⟩:=slot b o' z1 hb
   exact⟨_,z2⟩
  ·exact⟨o',kept b o' z1 hb⟩
end
def mroIn (K:Frag)(C:Addr):List Value:=match K.lookup C with
 |some ⟨_,_,.cls cd,_⟩=>cd.mro
 |_=>[]
structure zG (k:Nat)(A:Around):Prop where
 dp:A.depth + 3 * k + 5 < recursionLimit
 un:A.units + 16 * k + 200 < cLine
 gd:A.guards=some []
def dk.h {k:Nat}{A:Around}(r:dk k A):zG k A:=⟨r.dp,r.un,r.gd⟩
def zG.units {k:Nat}{A:Around}(r:zG k A):A.units + 64 < cLine:=by have:=r.un;omega
section
variable {P:Program}{w:World}{K:Frag}{mg:Str->Option Value}{base:Heap}
def z0.xG {x qual:Str}{st:Stmt}{f:Addr}{fd:FuncData}{N ps:List Str}{k:Nat}{sp:Sp}(F:z0 K x qual st f fd)(S:aH N ps (ar st))(len:∀vs H Q E,sp vs H Q E->vs.length=ps.length)
  (hbody:∀(cdv:Value) (A:Around) (outer:List Env) (s:Shared) (H:Hp) (vs:List V) (Q:VK) (E:XK),dk k (A.deeper (envOfC qual (ar st) s.heap.objs.size f cdv))->sp vs H Q E->
   ∃t,oA (jK (lW P w) P w K mg base N qual (ar st) f cdv A outer s H E) (cq st) t/\t {nx:=λ_ H'=>Q .non H',rt:=Q} (start N vs) H):fo P w K mg base (lW P w) (k + 1) f fd ps sp:=by
 obtain⟨oc,od,kV,doc,pm,an,cdv,ct,osl,rfl,lk,hcd⟩:=F.ex
 exact BJ lk hcd S len λA outer s H vs Q E hr hsp=>hbody cdv A outer s H vs Q E hr hsp
end
section
variable {X:Cx}
def ik (hu:X.A.units + 100 < cLine):kX X (compareOp .NotIn) (EG X.K true):=by
 intro pins s σ H x y v u Q I rx ry h
 obtain⟨p,xs,d,ds,rfl,hq,hs,hx,s1,s2,q⟩:=h
 cases ry
 obtain⟨bs,r2⟩:=hx.reads I rx
 have key:∀{e:PyData} {as:List Addr} {u:Value},SeqAt.shaped e=true->Reads s.heap u e as->SeqAt.EqAt X.A.in1 s u v (PyData.eqv e d):=λ{e as u} h1 h2=>by
  refine SeqAt.eqAt_reads _ _ _ _ _ _ _ _ h2 r2 (Jo h1) (Jo s1) ?_
  have:=SeqAt.depth_of_shaped h1
  show X.A.units + 1 + _ < _
  omega
 rcases hq with hq |hq
 ·obtain⟨its,r,pl,hz⟩:=I.list hq
  obtain⟨f,e1,e2⟩:=qZ I d r hs s2
  refine SeqAt.notIn_listAt f pl.isList (λw hw=>?_) ⟨.bl _,H,I,rfl,?_⟩
  ·obtain⟨e,as,hm,rd,ef⟩:=e2 w (by simpa using hw)
   rw[ef];exact key (s2 e hm) rd
  ·rw[show its.toArray.any f=its.any f by simp,e1];exact q
 ·obtain⟨its,r,pl,hz⟩:=I.tuple hq
  obtain⟨f,e1,e2⟩:=qZ I d r hs s2
  refine SeqAt.notIn_tupleAt f pl (λw hw=>?_) ⟨.bl _,H,I,rfl,?_⟩
  ·obtain⟨e,as,hm,rd,ef⟩:=e2 w (by simpa using hw)
   rw[ef];exact key (s2 e hm) rd
  ·rw[show its.toArray.any f=its.any f by simp,e1];exact q
end
abbrev D:=PyData
def kD:Key->D
 | .inl i=>.int i
 | .inr x=>.str x
mutual
inductive Rp (K:Frag)(G:Hp):V->D->Prop
 |non:Rp K G .non .none
 |bl (b:Bool):Rp K G (.bl b) (.bool b)
 |int (i:Int):Rp K G (.int i) (.int i)
 |str (x:Str):Rp K G (.str x) (.str x)
 |tup {a:Addr} {xs:List V} {ds:List D}:dH K G a xs->ck K G xs ds->Rp K G (.ref a) (.tuple ds)
 |lst {a:Addr} {xs:List V} {ds:List D}:G a=some (.lst xs)->ck K G xs ds->Rp K G (.ref a) (.list ds)
 |scr {a:Addr} {ns:List Int}:fB K G a (ns.map V.int)->Rp K G (.ref a) (.dict [(.none,.list (ns.map int))])
 |dK {a:Addr} {kvs:List (Key×V)} {ds:List (D×D)}:G a=some (.dK kvs)->vg K G kvs ds->Rp K G (.ref a) (.dict ds)
 |dT {a:Addr} {kvs:List (List Key×V)} {ds:List (D×D)}:G a=some (.dT kvs)->uw K G kvs ds->Rp K G (.ref a) (.dict ds)
inductive ck (K:Frag)(G:Hp):List V->List D->Prop
 |nil:ck K G [] []
 |cons {x:V} {xs:List V} {d:D} {ds:List D}:Rp K G x d->ck K G xs ds->ck K G (x :: xs) (d :: ds)
inductive vg (K:Frag)(G:Hp):List (Key×V)->List (D×D)->Prop
 |nil:vg K G [] []
 |cons {k:Key} {x:V} {xs:List (Key×V)} {d:D} {ds:List (D×D)}:Rp K G x d->vg K G xs ds->vg K G ((k,x) :: xs) ((kD k,d) :: ds)
inductive uw (K:Frag)(G:Hp):List (List Key×V)->List (D×D)->Prop
 |nil:uw K G [] []
 |cons {k:List Key} {x:V} {xs:List (List Key×V)} {d:D} {ds:List (D×D)}:Rp K G x d->uw K G xs ds->uw K G ((k,x) :: xs) ((.tuple (k.map kD),d) :: ds)
end
section
variable {K:Frag}{G G' H H':Hp}
def Rd.mono {a:Addr}{u:HO}(h:Rd G a u)(s:ah G G'):Rd G' a u:=h.elim (λe=>.inl (s _ _ e)) λ⟨o,e⟩=>.inr ⟨o,s _ _ e⟩
mutual
theorem Rp.mono (s:ah G G'):∀{x:V} {d:D},Rp K G x d->Rp K G' x d
 |_,_,.non=>.non
 |_,_,.bl b=>.bl b
 |_,_,.int i=>.int i
 |_,_,.str x=>.str x
 |_,_,.tup h hs=>.tup (h.grow s.grow) (ck.mono s hs)
 |_,_,.lst h hs=>.lst (s _ _ h) (ck.mono s hs)
 |_,_,.scr h=>.scr (s.seq h)
 |_,_,.dK h hs=>.dK (s _ _ h) (vg.mono s hs)
 |_,_,.dT h hs=>.dT (s _ _ h) (uw.mono s hs)
theorem ck.mono (s:ah G G'):∀{xs:List V} {ds:List D},ck K G xs ds->ck K G' xs ds
 |_,_,.nil=>.nil
 |_,_,.cons h hs=>.cons (Rp.mono s h) (ck.mono s hs)
theorem vg.mono (s:ah G G'):∀{xs:List (Key×V)} {ds:List (D×D)},vg K G xs ds->vg K G' xs ds
 |_,_,.nil=>.nil
 |_,_,.cons h hs=>.cons (Rp.mono s h) (vg.mono s hs)
theorem uw.mono (s:ah G G'):∀{xs:List (List Key×V)} {ds:List (D×D)},uw K G xs ds->uw K G' xs ds
 |_,_,.nil=>.nil
 |_,_,.cons h hs=>.cons (Rp.mono s h) (uw.mono s hs)
end
theorem ck.len:∀{xs:List V} {ds:List D},ck K G xs ds->xs.length=ds.length
 |_,_,.nil=>rfl
 |_,_,.cons _ t=>by simp[ck.len t]
theorem ck.at:∀{xs:List V} {ds:List D} {i:Nat} {d:D},ck K G xs ds->ds[i]? =some d->∃x,xs[i]? =some x/\Rp K G x d
 |_,_,_,_,.nil,e=>by simp at e
 |_,_,0,_,.cons r _,e=>by simp at e;subst e;exact⟨_,rfl,r⟩
 |_,_,i + 1,x,.cons _ t,e=>by
  obtain⟨u,h1,h2⟩:=ck.at (i:=i) (d:=x) t (by simpa using e)
  exact⟨u,by simpa using h1,h2⟩
theorem ck.at':∀{xs:List V} {ds:List D} {i:Nat} {x:V},ck K G xs ds->xs[i]? =some x->∃d,ds[i]? =some d/\Rp K G x d
 |_,_,_,_,.nil,e=>by simp at e
 |_,_,0,_,.cons r _,e=>by simp at e;subst e;exact⟨_,rfl,r⟩
 |_,_,i + 1,x,.cons _ t,e=>by
  obtain⟨u,h1,h2⟩:=ck.at' (i:=i) (x:=x) t (by simpa using e)
  exact⟨u,by simpa using h1,h2⟩
theorem ck.append:∀{xs ys:List V} {ds es:List D},ck K G xs ds->ck K G ys es->ck K G (xs ++ ys) (ds ++ es)
 |_,_,_,_,.nil,s=>s
 |_,_,_,_,.cons r t,s=>.cons r (ck.append t s)
def ck.snoc {xs:List V}{ds:List D}{x:V}{d:D}(h:ck K G xs ds)(q:Rp K G x d):ck K G (xs ++ [x]) (ds ++ [d]):=h.append (.cons q .nil)
theorem ck.take:∀{xs:List V} {ds:List D} (n:Nat),ck K G xs ds->ck K G (xs.take n) (ds.take n)
 |_,_,0,_=>.nil
 |_,_,_ + 1,.nil=>.nil
 |_,_,n + 1,.cons r t=>.cons r (ck.take n t)
theorem ck.drop:∀{xs:List V} {ds:List D} (n:Nat),ck K G xs ds->ck K G (xs.drop n) (ds.drop n)
 |_,_,0,r=>r
 |_,_,_ + 1,.nil=>.nil
 |_,_,n + 1,.cons _ t=>ck.drop n t
mutual
def xh:D->Bool
 | .dict _=>false
 | .list ds=>mq ds
 | .tuple ds=>mq ds
 |_=>true
def mq:List D->Bool
 | []=>true
 |d :: ds=>xh d && mq ds
end
mutual
theorem Rp.rep:∀{x:V} {d:D},Rp K G x d->xh d=true->Rep K G x d
 |_,_,.non,_=>.non
 |_,_,.bl b,_=>.bl b
 |_,_,.int i,_=>.int i
 |_,_,.str x,_=>.str x
 |_,_,.tup h hs,e=>.tup h (ck.reps hs (by simpa[xh] using e))
 |_,_,.lst h hs,e=>.lst (.inl (.inl h)) (ck.reps hs (by simpa[xh] using e))
 |_,_,.scr _,e=>by simp[xh] at e
 |_,_,.dK _ _,e=>by simp[xh] at e
 |_,_,.dT _ _,e=>by simp[xh] at e
theorem ck.reps:∀{xs:List V} {ds:List D},ck K G xs ds->mq ds=true->je K G xs ds
 |_,_,.nil,_=>.nil
 |_,_,.cons h hs,e=>.cons (Rp.rep h (by simp[mq] at e;exact e.1)) (ck.reps hs (by simp[mq] at e;exact e.2))
end
def Own (K:Frag)(G H:Hp)(a:Addr):D->Prop
 | .list ds=>∃xs,H a=some (.lst xs)/\ck K G xs ds
 | .dict ds=>(∃kvs,H a=some (.dK kvs)/\vg K G kvs ds)\/∃kvs,H a=some (.dT kvs)/\uw K G kvs ds
 |_=>False
def Own.obj {a:Addr}{d:D}(h:Own K G H a d):∃o,H a=some o:=by
 cases d <;> first |exact h.elim |skip
 ·obtain⟨xs,e,_⟩:=h;exact⟨_,e⟩
 ·rcases h with⟨_,e,_⟩ | ⟨_,e,_⟩ <;> exact⟨_,e⟩
def Own.mono {a:Addr}{d:D}(h:Own K G H a d)(s:ah G G')(m:∀o,H a=some o->H' a=some o):Own K G' H' a d:=by
 cases d <;> first |exact h.elim |skip
 ·obtain⟨xs,e,r⟩:=h;exact⟨xs,m _ e,r.mono s⟩
 ·rcases h with⟨k,e,r⟩ | ⟨k,e,r⟩
  ·exact .inl ⟨k,m _ e,r.mono s⟩
  ·exact .inr ⟨k,m _ e,r.mono s⟩
def Own.rp {a:Addr}{d:D}(h:Own K G H a d)(n:G a=none){G':Hp}(s:ah G G')(e:∀o,H a=some o->G' a=some o):Rp K G' (.ref a) d:=by
 cases d <;> first |exact h.elim |skip
 ·obtain⟨xs,q,r⟩:=h;exact .lst (e _ q) (r.mono s)
 ·rcases h with⟨k,q,r⟩ | ⟨k,q,r⟩
  ·exact .dK (e _ q) (r.mono s)
  ·exact .dT (e _ q) (r.mono s)
def j6 (K:Frag)(B:Option Addr)(G H:Hp)(v:V)(d:D):Prop:=Rp K G v d\/∃a,v=.ref a/\B≠some a/\Own K G H a d
def gN (B:Option Addr)(H H':Hp):Prop:=∀b o,H b=some o->B≠some b->H' b=some o
def gN.refl (B:Option Addr)(H:Hp):gN B H H:=λ_ _ h _=>h
def gN.trans {B:Option Addr}{H1:Hp}(x:gN B H H1)(y:gN B H1 H'):gN B H H':=λb o h n=>y b o (x b o h n) n
def ah.mov (s:ah H H')(B:Option Addr):gN B H H':=λb o h _=>s b o h
def j6.mono {B:Option Addr}{v:V}{d:D}(h:j6 K B G H v d)(s:ah G G')(m:gN B H H'):j6 K B G' H' v d:=by
 rcases h with h | ⟨a,e,n,h⟩
 ·exact .inl (h.mono s)
 ·exact .inr ⟨a,e,n,h.mono s λo q=>m a o q n⟩
def j6.rpH {B:Option Addr}{v:V}{d:D}(h:j6 K B G H v d)(s:ah G H):Rp K H v d:=by
 rcases h with h | ⟨a,rfl,n,h⟩
 ·exact h.mono s
 ·cases d <;> first |exact h.elim |skip
  ·obtain⟨xs,q,r⟩:=h;exact .lst q (r.mono s)
  ·rcases h with⟨k,q,r⟩ | ⟨k,q,r⟩
   ·exact .dK q (r.mono s)
   ·exact .dT q (r.mono s)
def j6.list {B:Option Addr}{v:V}{ds:List D}(h:j6 K B G H v (.list ds))(s:ah G H):∃a xs,v=.ref a/\Rd H a (.lst xs)/\ck K G xs ds:=by
 rcases h with h | ⟨a,rfl,n,xs,q,r⟩
 ·cases h with
  |lst h r=>exact⟨_,_,rfl,.inl (s _ _ h),r⟩
 ·exact⟨a,xs,rfl,.inl q,r⟩
def j6.tuple {B:Option Addr}{v:V}{ds:List D}(h:j6 K B G H v (.tuple ds))(s:ah G H):∃a xs,v=.ref a/\dH K H a xs/\ck K G xs ds:=by
 rcases h with h | ⟨a,rfl,n,h⟩
 ·cases h with
  |tup h r=>exact⟨_,_,rfl,h.grow s.grow,r⟩
 ·exact h.elim
def j6.int {B:Option Addr}{v:V}{i:Int}(h:j6 K B G H v (.int i)):v=.int i:=by
 rcases h with h | ⟨a,rfl,n,h⟩
 ·cases h;rfl
 ·exact h.elim
def j6.bool {B:Option Addr}{v:V}{b:Bool}(h:j6 K B G H v (.bool b)):v=.bl b:=by
 rcases h with h | ⟨a,rfl,n,h⟩
 ·cases h;rfl
 ·exact h.elim
def j6.str {B:Option Addr}{v:V}{x:Str}(h:j6 K B G H v (.str x)):v=.str x:=by
 rcases h with h | ⟨a,rfl,n,h⟩
 ·cases h;rfl
 ·exact h.elim
def j6.none {B:Option Addr}{v:V}(h:j6 K B G H v .none):v=.non:=by
 rcases h with h | ⟨a,rfl,n,h⟩
 ·cases h;rfl
 ·exact h.elim
end
def Fz:HO->Prop
 | .tup _=>True
 | .a7 _ _=>True
 |_=>False
def Mx (H:Hp)(b:Addr):Prop:=H b≠none/\∀o,H b=some o->¬Fz o
def Mx.lst {H:Hp}{b:Addr}{xs:List V}(h:H b=some (.lst xs)):Mx H b:=⟨by rw[h];simp,λys z=>by rw[h] at z;cases z;exact λy=>y⟩
theorem Mx.same {H H':Hp}{b:Addr}(h:Mx H b)(m:∀o,H b=some o->H' b=some o):Mx H' b:=by
 obtain⟨h1,h2⟩:=h
 cases e:H b with
 |none=>exact absurd e h1
 |some o=>
  refine⟨by rw[m o e];simp,λxs z=>?_⟩
  rw[m o e] at z
  cases z
  exact h2 o e
def Own.mx {K:Frag}{G H:Hp}{a:Addr}{d:D}(h:Own K G H a d):Mx H a:=by
 cases d <;> first |exact h.elim |skip
 ·obtain⟨xs,e,_⟩:=h;exact Mx.lst e
 ·rcases h with⟨k,e,_⟩ | ⟨k,e,_⟩ <;> exact⟨by rw[e];simp,λys z=>by rw[e] at z;cases z;exact λy=>y⟩
open Classical in
noncomputable def kO (G H:Hp):Hp:=λb=>match G b with
 |some o=>some o
 |none=>match H b with
  |some o=>if Fz o then some o else none
  |none=>none
def oO {G H:Hp}:ah G (kO G H):=λb o e=>by unfold kO;rw[e]
theorem vn {G H:Hp}(s:ah G H){b:Addr}{o:HO}(e:H b=some o)(f:Fz o):kO G H b=some o:=by
 unfold kO
 cases q:G b with
 |some u=>have:=s b u q;rw[e] at this;cases this;rfl
 |none=>simp only[e];rw[GW f]
theorem sR {G H:Hp}(s:ah G H):ah (kO G H) H:=λb o e=>by
 unfold kO at e
 cases q:G b with
 |some u=>rw[q] at e;cases e;exact s b _ q
 |none=>
  rw[q] at e
  cases q2:H b with
  |none=>rw[q2] at e;cases e
  |some u=>
   rw[q2] at e
   dsimp only at e
   split at e
   ·cases e;rfl
   ·cases e
theorem vt {G H H':Hp}(hh:ah H H'){b:Addr}(m:Mx H b):kO G H' b=G b:=by
 unfold kO
 cases q:G b with
 |some u=>rfl
 |none=>
  obtain⟨h1,h2⟩:=m
  cases e:H b with
  |none=>exact absurd e h1
  |some o=>
   simp only[hh b o e]
   rw[G8 (h2 o e)]
def kq {K:Frag}{G H:Hp}(s:ah G H){a:Addr}{xs:List V}(h:dH K H a xs):dH K (kO G H) a xs:=by
 rcases h with (h | ⟨o,h⟩) |h
 ·exact .inl (.inl (vn s h trivial))
 ·exact .inl (.inr ⟨o,vn s h trivial⟩)
 ·exact .inr h
structure Fx where
 K:Frag
 H0:Hp
 G0:Hp
 par:List Addr
 ca:Str->Addr
 br:Nat->Bool
 bx:Option Addr
inductive Sl where
 |no |fz (d:D) |ow (d:D) |bx |br (d:D)
abbrev En:=List Sl
inductive Nv where
 |no |da (d:D) |bx
def Sl.val:Sl->Nv
 | .no=>.no
 | .fz d=>.da d
 | .ow d=>.da d
 | .br d=>.da d
 | .bx=>.bx
def vl (env:En):List Nv:=env.map Sl.val
def Ft (Γ:Fx)(B:Option Addr)(G H:Hp)(i:Nat)(o:Option (Option V)):Sl->Prop
 | .no=>True
 | .fz d=>∃v,o=some (some v)/\Rp Γ.K G v d
 | .ow d=>∃a,o=some (some (.ref a))/\Γ.H0 a=none/\G a=none/\B≠some a/\Own Γ.K G H a d
 | .bx=>∃a,o=some (some (.ref a))/\B=some a
 | .br d=>Γ.br i=true/\∃a,o=some (some (.ref a))/\B≠some a/\a∉Γ.par/\Own Γ.K G H a d
structure SR (Γ:Fx)(B:Option Addr)(G H:Hp)(σ:St)(env:En)(β:Int):Prop where
 sub:ah G H
 old:ah Γ.G0 G
 new:∀b,Mx Γ.H0 b->Γ.G0 b=none->G b=none
 keep:∀b o,Γ.H0 b=some o->b∉Γ.par->H b=some o
 pin:∀b,b∈Γ.par->Mx H b
 fix:∀b,Γ.bx=some b->B=some b
 box:∀b,B=some b->H b=some (.lst [.int β])/\G b=none/\(b∈Γ.par\/Γ.H0 b=none)
 len:σ.length=env.length
 slot:∀(i:Nat) (s:Sl),env[i]? =some s->Ft Γ B G H i (σ[i]?) s
 sep:∀(i j:Nat) (a:Addr) (d e:D),env[i]? =some (.ow d)->env[j]? =some (.ow e)->σ[i]? =some (some (.ref a))->σ[j]? =some (some (.ref a))->i=j
structure Ext (G H G' H':Hp):Prop where
 hh:ah H H'
 gg:ah G G'
 gh:ah G' H'
 on:∀b,Mx H b->G' b=G b
def Ext.refl {G H:Hp}(s:ah G H):Ext G H G H:=⟨ah.refl _,ah.refl _,s,λ_ _=>rfl⟩
def Ext.tups {G H H':Hp}(s:ah G H)(hh:ah H H'):Ext G H (kO G H') H':=⟨hh,oO,sR (s.trans hh),λ_ m=>vt hh m⟩
def Ext.new {G H:Hp}(s:ah G H){p:Addr}{o:HO}(h:H p=none):Ext G H (upd G p o) (upd H p o):=by
 refine⟨ah.new h,ah.new (s.free h),λb u e=>?_,λb hb=>?_⟩
 ·by_cases z:b=p
  ·subst z;rw[av] at e ⊢;exact e
  ·rw[au z] at e ⊢;exact s b u e
 ·exact au (λz=>hb.1 (by rw[z];exact h))
def Ext.own {G H:Hp}(s:ah G H){p:Addr}{o:HO}(h:H p=none):Ext G H G (upd H p o):=
 ⟨ah.new h,ah.refl _,s.trans (ah.new h),λ_ _=>rfl⟩
def Ext.trans {G H G1 H1 G2 H2:Hp}(x:Ext G H G1 H1)(y:Ext G1 H1 G2 H2):Ext G H G2 H2:=by
 refine⟨x.hh.trans y.hh,x.gg.trans y.gg,y.gh,λb hb=>?_⟩
 rw[y.on b (hb.same λo e=>x.hh b o e),x.on b hb]
section
variable {Γ:Fx}{B:Option Addr}{G H G' H':Hp}{σ:St}{env:En}{β:Int}
def SR.there (I:SR Γ B G H σ env β){b:Addr}(h:Γ.H0 b≠none):H b≠none:=by
 by_cases hp:b∈Γ.par
 ·exact (I.pin b hp).1
 ·cases e:Γ.H0 b with
  |none=>exact absurd e h
  |some o=>rw[I.keep b o e hp];simp
def SR.thereM (I:SR Γ B G H σ env β){b:Addr}(h:Mx Γ.H0 b):Mx H b:=by
 by_cases hp:b∈Γ.par
 ·exact I.pin b hp
 ·exact h.same λo e=>I.keep b o e hp
def SR.ext (I:SR Γ B G H σ env β)(x:Ext G H G' H'):SR Γ B G' H' σ env β:=by
 refine⟨x.gh,I.old.trans x.gg,λb h1 h2=>?_,λb o h1 h2=>x.hh b o (I.keep b o h1 h2),λb hb=>?_,I.fix,λb e=>?_,I.len,λi s e=>?_,I.sep⟩
 ·rw[x.on b (I.thereM h1)];exact I.new b h1 h2
 ·exact (I.pin b hb).same λo e=>x.hh b o e
 ·obtain⟨h1,h2,h3⟩:=I.box b e
  exact⟨x.hh b _ h1,by rw[x.on b (Mx.lst h1)];exact h2,h3⟩
 ·have q:=I.slot i s e
  cases s with
  |no=>trivial
  |fz d=>obtain⟨v,h1,h2⟩:=q;exact⟨v,h1,h2.mono x.gg⟩
  |ow d=>
   obtain⟨a,h1,h2,h3,h4,h5⟩:=q
   exact⟨a,h1,h2,by rw[x.on a h5.mx];exact h3,h4,h5.mono x.gg λo q=>x.hh a o q⟩
  |bx=>exact q
  |br d=>obtain⟨b1,a,h1,h4,hp,h5⟩:=q;exact⟨b1,a,h1,h4,hp,h5.mono x.gg λo q=>x.hh a o q⟩
def ij (env:En)(i:Nat):En:=match env[i]? with
 |some (.ow d)=>env.set i (.fz d)
 |_=>env
def a7 (L:List Nat)(env:En):En:=L.foldl ij env
def cM (L M:List Nat)(env:En):a7 (L ++ M) env=a7 M (a7 L env):=by unfold a7;rw[List.foldl_append]
def t6 (env:En)(i:Nat)(s:Sl)(h:∀t,env[i]? =some t->t.val=s.val):vl (env.set i s)=vl env:=by
 unfold vl
 apply JI
 intro j
 rw[He,He,List.getElem?_set]
 by_cases e:i=j
 ·subst e
  by_cases hi:i < env.length
  ·simp only[Ic,hi]
   have:=h _ (GU hi)
   simp[GU hi,this]
  ·simp only[Ic,hi,HI]
   rw[List.getElem?_eq_none (by omega)]
 ·simp[e]
def BH (env:En)(i:Nat):vl (ij env i)=vl env:=by
 unfold ij
 split
 ·rename_i d e
  exact t6 _ _ _ λt ht=>by rw[e] at ht;cases ht;rfl
 ·rfl
theorem gP (L:List Nat)(env:En):vl (a7 L env)=vl env:=by
 unfold a7
 induction L generalizing env with
 |nil=>rfl
 |cons i L ih=>rw[IY,ih,BH]
theorem B7 {i:Nat}{d:D}(h:(vl env)[i]? =some (.da d)):env[i]? =some (.fz d)\/env[i]? =some (.ow d)\/env[i]? =some (.br d):=by
 unfold vl at h
 rw[He] at h
 cases e:env[i]? with
 |none=>rw[e] at h;simp at h
 |some s=>
  rw[e] at h
  cases s with
  |no=>simp[Sl.val] at h
  |fz d'=>simp[Sl.val] at h;subst h;exact .inl rfl
  |ow d'=>simp[Sl.val] at h;subst h;exact .inr (.inl rfl)
  |bx=>simp[Sl.val] at h
  |br d'=>simp[Sl.val] at h;subst h;exact .inr (.inr rfl)
theorem DN {i:Nat}(h:(vl env)[i]? =some .bx):env[i]? =some .bx:=by
 unfold vl at h
 rw[He] at h
 cases e:env[i]? with
 |none=>rw[e] at h;simp at h
 |some s=>
  rw[e] at h
  cases s with
  |bx=>rfl
  |_=>simp[Sl.val] at h
def SR.freeze (I:SR Γ B G H σ env β)(i:Nat)(hb:Γ.br i=false){d:D}(h:(vl env)[i]? =some (.da d)):∃G' v,SR Γ B G' H σ (ij env i) β/\ah G G'/\σ[i]? =some (some v)/\Rp Γ.K G' v d:=by
 rcases B7 h with e |e |e
 ·obtain⟨v,h1,h2⟩:=I.slot i _ e
  exact⟨G,v,by unfold ij;rw[e];exact I,ah.refl _,h1,h2⟩
 rotate_left
 ·obtain⟨z,_⟩:=I.slot i _ e
  rw[hb] at z;cases z
 ·obtain⟨a,h1,h2,h3,h4,h5⟩:=I.slot i _ e
  obtain⟨o,ho⟩:=h5.obj
  have sG:ah G (upd G a o):=ah.new h3
  have hi:i < env.length:=(Hs.mp e).1
  have hr:Rp Γ.K (upd G a o) (.ref a) d:=h5.rp h3 sG λo' q=>by rw[ho] at q;cases q;exact av
  refine⟨upd G a o,.ref a,?_,sG,h1,hr⟩
  unfold ij
  rw[e]
  refine⟨λb u q=>?_,I.old.trans sG,λb n1 n2=>?_,I.keep,I.pin,I.fix,λb q=>?_,by rw[IX];exact I.len,λj s q=>?_,λj k c d1 d2 q1 q2 q3 q4=>?_⟩
  ·by_cases z:b=a
   ·subst z;rw[av] at q;cases q;exact ho
   ·rw[au z] at q;exact I.sub b u q
  ·rw[au (λz=>n1.1 (by rw[z];exact h2))];exact I.new b n1 n2
  ·obtain⟨k1,k2,k3⟩:=I.box b q
   exact⟨k1,by rw[au (λz=>h4 (by rw[<-z];exact q))];exact k2,k3⟩
  ·by_cases z:j=i
   ·subst z
    rw[Hq hi] at q
    cases q
    exact⟨.ref a,h1,hr⟩
   ·rw[Hm (Ne.symm z)] at q
    have w:=I.slot j s q
    cases s with
    |no=>trivial
    |fz d'=>obtain⟨v,w1,w2⟩:=w;exact⟨v,w1,w2.mono sG⟩
    |ow d'=>
     obtain⟨c,w1,w2,w3,w4,w5⟩:=w
     have ca:c≠a:=λz2=>z (I.sep j i c d' d q e w1 (by rw[z2];exact h1))
     exact⟨c,w1,w2,by rw[au ca];exact w3,w4,w5.mono sG λo q=>q⟩
    |bx=>exact w
    |br d'=>obtain⟨b1,c,w1,w4,wp,w5⟩:=w;exact⟨b1,c,w1,w4,wp,w5.mono sG λo q=>q⟩
  ·have ne:∀{j:Nat} {d':D},(env.set i (Sl.fz d))[j]? =some (.ow d')->env[j]? =some (.ow d'):=λ{j d'} q=>by
    by_cases z:j=i
    ·subst z;rw[Hq hi] at q;cases q
    ·rw[Hm (Ne.symm z)] at q;exact q
   exact I.sep j k c d1 d2 (ne q1) (ne q2) q3 q4
theorem SR.a7 (I:SR Γ B G H σ env β)(L:List Nat)(hb:∀i,i∈L->Γ.br i=false):∃G',SR Γ B G' H σ (a7 L env) β/\ah G G':=by
 induction L generalizing env G with
 |nil=>exact⟨G,I,ah.refl _⟩
 |cons i L ih=>
  show ∃G',SR Γ B G' H σ (L2.a7 L (ij env i)) β/\ah G G'
  have key:∃G1,SR Γ B G1 H σ (ij env i) β/\ah G G1:=by
   cases e:env[i]? with
   |none=>exact⟨G,by unfold ij;rw[e];exact I,ah.refl _⟩
   |some s=>
    cases s with
    |ow d=>
     obtain⟨G1,v,h1,h2,_⟩:=I.freeze i (hb i (G6 ..)) (d:=d) (by unfold vl;rw[He,e];rfl)
     exact⟨G1,h1,h2⟩
    |_=>exact⟨G,by unfold ij;rw[e];exact I,ah.refl _⟩
  obtain⟨G1,I1,s1⟩:=key
  obtain⟨G2,I2,s2⟩:=ih I1 λj hj=>hb j (GY _ hj)
  exact⟨G2,I2,s1.trans s2⟩
def SR.set (I:SR Γ B G H σ env β){i:Nat}(hi:i < env.length){v:V}{d:D}(h:Rp Γ.K G v d):SR Γ B G H (σ.set i (some v)) (env.set i (.fz d)) β:=by
 have hs:i < σ.length:=by rw[I.len];exact hi
 refine⟨I.sub,I.old,I.new,I.keep,I.pin,I.fix,I.box,by rw[IX,IX];exact I.len,λj s q=>?_,λj k c d1 d2 q1 q2 q3 q4=>?_⟩
 ·by_cases z:j=i
  ·subst z
   rw[Hq hi] at q
   cases q
   exact⟨v,by rw[Hq hs],h⟩
  ·rw[Hm (Ne.symm z)] at q ⊢
   exact I.slot j s q
 ·have ne:∀{j:Nat} {d':D},(env.set i (Sl.fz d))[j]? =some (.ow d')->j≠i/\env[j]? =some (.ow d'):=λ{j d'} q=>by
   by_cases z:j=i
   ·subst z;rw[Hq hi] at q;cases q
   ·rw[Hm (Ne.symm z)] at q;exact⟨z,q⟩
  obtain⟨n1,e1⟩:=ne q1
  obtain⟨n2,e2⟩:=ne q2
  rw[Hm (Ne.symm n1)] at q3
  rw[Hm (Ne.symm n2)] at q4
  exact I.sep j k c d1 d2 e1 e2 q3 q4
def SR.setOw (I:SR Γ B G H σ env β){i:Nat}(hi:i < env.length){a:Addr}{d:D}(h0:Γ.H0 a=none)(hg:G a=none)(hb:B≠some a)(h:Own Γ.K G H a d)(hn:∀(j:Nat) (d':D),env[j]? =some (.ow d')->j≠i->σ[j]?≠some (some (.ref a))):SR Γ B G H (σ.set i (some (.ref a))) (env.set i (.ow d)) β:=by
 have hs:i < σ.length:=by rw[I.len];exact hi
 refine⟨I.sub,I.old,I.new,I.keep,I.pin,I.fix,I.box,by rw[IX,IX];exact I.len,λj s q=>?_,λj k c d1 d2 q1 q2 q3 q4=>?_⟩
 ·by_cases z:j=i
  ·subst z
   rw[Hq hi] at q
   cases q
   exact⟨a,by rw[Hq hs],h0,hg,hb,h⟩
  ·rw[Hm (Ne.symm z)] at q ⊢
   exact I.slot j s q
 ·by_cases z1:j=i
  ·by_cases z2:k=i
   ·rw[z1,z2]
   ·subst z1
    rw[Hm (Ne.symm z2)] at q2 q4
    rw[Hq hs] at q3
    cases q3
    exact absurd q4 (hn k d2 q2 z2)
  ·by_cases z2:k=i
   ·subst z2
    rw[Hm (Ne.symm z1)] at q1 q3
    rw[Hq hs] at q4
    cases q4
    exact absurd q3 (hn j d1 q1 z1)
   ·rw[Hm (Ne.symm z1)] at q1 q3
    rw[Hm (Ne.symm z2)] at q2 q4
    exact I.sep j k c d1 d2 q1 q2 q3 q4
def SR.fresh (I:SR Γ B G H σ env β){a:Addr}(h:H a=none):Γ.H0 a=none/\G a=none/\B≠some a/\∀(j:Nat) (d:D),env[j]? =some (.ow d)->σ[j]?≠some (some (.ref a)):=by
 have hB:B≠some a:=λz=>by rw[(I.box a z).1] at h;cases h
 refine⟨?_,I.sub.free h,hB,λj d e z=>?_⟩
 ·cases e:Γ.H0 a with
  |none=>rfl
  |some o=>exact absurd h (I.there (by rw[e];simp))
 ·obtain⟨c,h1,_,_,_,h5⟩:=I.slot j _ e
  rw[z] at h1
  cases h1
  obtain⟨o,ho⟩:=h5.obj
  rw[h] at ho;cases ho
def SR.write (I:SR Γ B G H σ env β)(hb:∀j,Γ.br j=false){i:Nat}{a:Addr}{d d':D}{o:HO}(e:env[i]? =some (.ow d))(ea:σ[i]? =some (some (.ref a)))(h:∀H',H' a=some o->ah G H'->Own Γ.K G H' a d'):SR Γ B G (upd H a o) σ (env.set i (.ow d')) β:=by
 obtain⟨a',h1,h2,h3,h4,h5⟩:=I.slot i _ e
 rw[ea] at h1;cases h1
 have hi:i < env.length:=(Hs.mp e).1
 have sub:ah G (upd H a o):=λb u q=>by rw[au (λz=>by rw[z,h3] at q;cases q)];exact I.sub b u q
 refine⟨sub,I.old,I.new,λb u q n=>?_,λb q=>?_,I.fix,λb q=>?_,by rw[IX];exact I.len,λj s q=>?_,λj k c d1 d2 q1 q2 q3 q4=>?_⟩
 ·rw[au (λz=>by rw[z,h2] at q;cases q)];exact I.keep b u q n
 ·by_cases z:b=a
  ·subst z;exact (h _ av sub).mx
  ·exact (I.pin b q).same λo e=>by rw[au z];exact e
 ·obtain⟨k1,k2,k3⟩:=I.box b q
  exact⟨by rw[au (λz=>h4 (by rw[<-z];exact q))];exact k1,k2,k3⟩
 ·by_cases z:j=i
  ·subst z
   rw[Hq hi] at q
   cases q
   exact⟨a,ea,h2,h3,h4,h _ av sub⟩
  ·rw[Hm (Ne.symm z)] at q
   have w:=I.slot j s q
   cases s with
   |no=>trivial
   |fz d1=>exact w
   |ow d1=>
    obtain⟨c,w1,w2,w3,w4,w5⟩:=w
    have ca:c≠a:=λz2=>z (I.sep j i c d1 d q e w1 (by rw[z2];exact ea))
    exact⟨c,w1,w2,w3,w4,w5.mono (ah.refl _) λo q=>by rw[au ca];exact q⟩
   |bx=>exact w
   |br d1=>obtain⟨b1,_⟩:=w;rw[hb j] at b1;cases b1
 ·have back:∀{j:Nat} {d1:D},(env.set i (Sl.ow d'))[j]? =some (.ow d1)->∃d2,env[j]? =some (.ow d2):=λ{j d1} q=>by
   by_cases z:j=i
   ·subst z;exact⟨d,e⟩
   ·rw[Hm (Ne.symm z)] at q;exact⟨d1,q⟩
  obtain⟨_,b1⟩:=back q1
  obtain⟨_,b2⟩:=back q2
  exact I.sep j k c _ _ b1 b2 q3 q4
end
inductive R (α:Type) where
 |ok (a:α) (β:Int)
 |exc (c:Str)
 |bad
def R.bnd {α γ:Type}(r:R α)(k:α->Int->R γ):R γ:=match r with
 | .ok a β=>k a β
 | .exc c=>.exc c
 | .bad=>.bad
def R.of {α:Type}(o:Option α)(β:Int):R α:=match o with
 |some a=>.ok a β
 |none=>.bad
abbrev VF (α:Type):=List Nv->Int->R α
def Kp (Γ:Fx)(H':Hp):Prop:=∀b o,Γ.H0 b=some o->b∉Γ.par->H' b=some o
def Out {α:Type}(Γ:Fx)(E:XK)(r:R α)(P:α->Int->Prop):Prop:=match r with
 | .ok a β=>P a β
 | .exc c=>∀H',Kp Γ H'->E (.ref (Γ.ca c)) none H'
 | .bad=>False
section
variable {α γ:Type}{Γ:Fx}{E:XK}
theorem Out.bnd {r:R α}{k:α->Int->R γ}{P:γ->Int->Prop}(h:Out Γ E (r.bnd k) P):Out Γ E r λa β=>Out Γ E (k a β) P:=by
 cases r with
 |ok a β=>exact h
 |exc c=>exact h
 |bad=>exact h
theorem Out.imp {r:R α}{P P':α->Int->Prop}(h:Out Γ E r P)(i:∀a β,P a β->P' a β):Out Γ E r P':=by
 cases r with
 |ok a β=>exact i a β h
 |exc c=>exact h
 |bad=>exact h
theorem Out.of {o:Option α}{β:Int}{P:α->Int->Prop}(h:Out Γ E (R.of o β) P):∃a,o=some a/\P a β:=by
 cases o with
 |none=>exact h.elim
 |some a=>exact⟨a,rfl,h⟩
end
inductive Md where
 |b |v |w
def VO (K:Frag)(B:Option Addr)(H G' H':Hp):Md->D->V->Prop
 | .b,d,v=>j6 K B G' H' v d
 | .v,d,v=>Rp K G' v d
 | .w,d,v=>∃a,v=.ref a/\H a=none/\G' a=none/\Own K G' H' a d
def pT (Γ:Fx)(E:XK)(f:VF D)(L:List Nat)(md:Md):TE:=λσ H Q=>∃env G B β,SR Γ B G H σ env β/\
 Out Γ E (f (vl env) β) λd β'=>∀v G' H',SR Γ B G' H' σ (a7 L env) β'->ah G G'->gN B H H'->VO Γ.K B H G' H' md d v->Q v H'
def SE (X:Cx)(Γ:Fx)(E:XK)(e:Expr)(f:VF D)(L:List Nat)(md:Md):Prop:=PE X e (pT Γ E f L md)
def qT (Γ:Fx)(E:XK)(f:VF Bool)(L:List Nat):TT:=λσ H Q=>∃env G B β,SR Γ B G H σ env β/\
 Out Γ E (f (vl env) β) λc β'=>∀G' H',SR Γ B G' H' σ (a7 L env) β'->ah G G'->gN B H H'->Q c H'
def xD (X:Cx)(Γ:Fx)(E:XK)(e:Expr)(f:VF Bool)(L:List Nat):Prop:=PT X e (qT Γ E f L)
def tf (X:Cx)(Γ:Fx)(E:XK)(e:Expr)(f:VF Bool)(L:List Nat):Prop:=PW X e (qT Γ E f L)
def aT (Γ:Fx)(E:XK)(f:VF (List D))(L:List Nat):TA:=λσ H Q=>∃env G B β,SR Γ B G H σ env β/\
 Out Γ E (f (vl env) β) λds β'=>∀vs G' H',SR Γ B G' H' σ (a7 L env) β'->ah G G'->gN B H H'->ck Γ.K G' vs ds->Q vs H'
def SA (X:Cx)(Γ:Fx)(E:XK)(es:List Expr)(f:VF (List D))(L:List Nat):Prop:=PA X es (aT Γ E f L)
def PE.post' {X:Cx}{e:Expr}{t u:TE}(h:PE X e t)(m:∀σ H Q,u σ H Q->t σ H Q):PE X e u:=λpins s σ H Q I q=>h pins s σ H Q I (m σ H Q q)
def PT.post {X:Cx}{e:Expr}{t u:TT}(h:PT X e t)(m:∀σ H Q,u σ H Q->t σ H Q):PT X e u:=λpins s σ H Q I q=>h pins s σ H Q I (m σ H Q q)
def PW.post {X:Cx}{e:Expr}{t u:TT}(h:PW X e t)(m:∀σ H Q,u σ H Q->t σ H Q):PW X e u:=λwh pins s σ H Q I q=>h wh pins s σ H Q I (m σ H Q q)
def PA.post {X:Cx}{es:List Expr}{t u:TA}(h:PA X es t)(m:∀σ H Q,u σ H Q->t σ H Q):PA X es u:=λpos pins s σ H Q I q=>h pos pins s σ H Q I (m σ H Q q)
def PS.post {X:Cx}{st:Stmt}{t u:TS}(h:PS X st t)(m:∀D σ H,u D σ H->t D σ H):PS X st u:=λpins s σ H D I q=>h pins s σ H D I (m D σ H q)
def dat:Option Nv->Option D
 |some (.da d)=>some d
 |_=>none
def gv (i:Nat):VF D:=λvs β=>R.of (dat vs[i]?) β
def cst (d:D):VF D:=λ_ β=>.ok d β
section
variable {X:Cx}{Γ:Fx}{E:XK}{e a b c:Expr}{f fa fb fc:VF D}{L La Lb Lc:List Nat}{md ma mb mc:Md}{pos:Pos}
theorem join_some {o:Option Nv}{d:D}(h:dat o=some d):o=some (.da d):=by
 cases o with
 |none=>cases h
 |some o=>cases o with
  |da x=>cases h;rfl
  |_=>cases h
def SR.letIn {B:Option Addr}{G H:Hp}{σ:St}{env:En}{β:Int}(I:SR Γ B G H σ env β){p:Addr}{d:D}(h0:Γ.H0 p=none)(hg:G p=none)(hb:B≠some p)(hn:∀(j:Nat) (d':D),env[j]? =some (.ow d')->σ[j]?≠some (some (.ref p)))(h:Own Γ.K G H p d) :
  ∃G',SR Γ B G' H σ env β/\ah G G'/\Rp Γ.K G' (.ref p) d:=by
 obtain⟨o,ho⟩:=h.obj
 have sG:ah G (upd G p o):=ah.new hg
 refine⟨upd G p o,⟨λb u q=>?_,I.old.trans sG,λb n1 n2=>?_,I.keep,I.pin,I.fix,λb q=>?_,I.len,λj s q=>?_,I.sep⟩,sG,h.rp hg sG λo' q=>by rw[ho] at q;cases q;exact av⟩
 ·by_cases z:b=p
  ·subst z;rw[av] at q;cases q;exact ho
  ·rw[au z] at q;exact I.sub b u q
 ·rw[au (λz=>n1.1 (by rw[z];exact h0))];exact I.new b n1 n2
 ·obtain⟨k1,k2,k3⟩:=I.box b q
  exact⟨k1,by rw[au (λz=>hb (by rw[<-z];exact q))];exact k2,k3⟩
 ·have w:=I.slot j s q
  cases s with
  |no=>trivial
  |fz d'=>obtain⟨v,w1,w2⟩:=w;exact⟨v,w1,w2.mono sG⟩
  |ow d'=>
   obtain⟨c,w1,w2,w3,w4,w5⟩:=w
   have ca:c≠p:=λz2=>hn j d' q (by rw[<-z2];exact w1)
   exact⟨c,w1,w2,by rw[au ca];exact w3,w4,w5.mono sG λo q=>q⟩
  |bx=>exact w
  |br d'=>obtain⟨b1,c,w1,w4,wp,w5⟩:=w;exact⟨b1,c,w1,w4,wp,w5.mono sG λo q=>q⟩
def u9 {env:En}{i j:Nat}{d:D}(h:(ij env i)[j]? =some (.ow d)):env[j]? =some (.ow d):=by
 unfold ij at h
 split at h
 ·rename_i d' e
  by_cases z:i=j
  ·subst z
   rw[Hq (Hs.mp e).1] at h;cases h
  ·rw[Hm z] at h;exact h
 ·exact h
theorem qy {L:List Nat}{env:En}{j:Nat}{d:D}(h:(a7 L env)[j]? =some (.ow d)):env[j]? =some (.ow d):=by
 unfold a7 at h
 induction L generalizing env with
 |nil=>exact h
 |cons i L ih=>exact u9 (ih h)
def SR.letW {B:Option Addr}{G H G' H':Hp}{σ:St}{env:En}{β β':Int}{L:List Nat}{d:D}{v:V}(I:SR Γ B G H σ env β)(I':SR Γ B G' H' σ (L2.a7 L env) β')(h:VO Γ.K B H G' H' .w d v):∃G2,SR Γ B G2 H' σ (L2.a7 L env) β'/\ah G' G2/\Rp Γ.K G2 v d:=by
 obtain⟨p,rfl,h1,h2,h3⟩:=h
 obtain⟨q1,q2,q3,q4⟩:=I.fresh h1
 exact I'.letIn q1 h2 q3 (λj d' e=>q4 j d' (qy e)) h3
def SE.wv (h:SE X Γ E e f L .w):SE X Γ E e f L .v:=by
 refine PE.post' h λσ H Q ⟨env,G,B,β,I,o⟩=>⟨env,G,B,β,I,o.imp λd β' k v G' H' I' s m vo=>?_⟩
 obtain⟨G2,I2,s2,r⟩:=I.letW I' vo
 exact k v G2 H' I2 (s.trans s2) m r
theorem VO.brw {B:Option Addr}{H G' H':Hp}{d:D}{v:V}{K:Frag}(h:VO K B H G' H' md d v)(hB:∀x,B=some x->H x≠none):j6 K B G' H' v d:=by
 cases md with
 |b=>exact h
 |v=>exact .inl h
 |w=>
  obtain⟨p,rfl,h1,h2,h3⟩:=h
  exact .inr ⟨p,rfl,λz=>hB p z h1,h3⟩
def SR.boxThere {B:Option Addr}{G H:Hp}{σ:St}{env:En}{β:Int}(I:SR Γ B G H σ env β):∀x,B=some x->H x≠none:=λx e=>by rw[(I.box x e).1];simp
def af (i:Nat){x:Str}(hN:X.N[i]? =some x:=by rfl)(hv:zJ X.env.scope x:=by first |exact Or.inl rfl |exact Or.inr (Or.inl rfl) |exact Or.inr (Or.inr rfl))(hd:(x == ("__debug__":Str))=false:=by decide)
  (hcd:(x == ("__classdict__":Str))=false:=by decide):SE X Γ E (.Name x pos) (gv i) [] .b:=by
 refine PE.post' (jo hN hv hd hcd) λσ H Q ⟨env,G,B,β,I,o⟩=>?_
 obtain⟨d,e,k⟩:=o.of
 have e:=join_some e
 rcases B7 e with q |q |q
 ·obtain⟨v,h1,h2⟩:=I.slot i _ q
  exact⟨v,h1,k v G H I (ah.refl _) (gN.refl _ _) (.inl h2)⟩
 ·obtain⟨p,h1,h2,h3,h4,h5⟩:=I.slot i _ q
  exact⟨.ref p,h1,k _ G H I (ah.refl _) (gN.refl _ _) (.inr ⟨p,rfl,h4,h5⟩)⟩
 ·obtain⟨_,p,h1,h4,_,h5⟩:=I.slot i _ q
  exact⟨.ref p,h1,k _ G H I (ah.refl _) (gN.refl _ _) (.inr ⟨p,rfl,h4,h5⟩)⟩
def aw (i:Nat)(hb:Γ.br i=false){x:Str}(hN:X.N[i]? =some x:=by rfl)(hv:zJ X.env.scope x:=by first |exact Or.inl rfl |exact Or.inr (Or.inl rfl) |exact Or.inr (Or.inr rfl))(hd:(x == ("__debug__":Str))=false:=by decide)
  (hcd:(x == ("__classdict__":Str))=false:=by decide):SE X Γ E (.Name x pos) (gv i) [i] .v:=by
 refine PE.post' (jo hN hv hd hcd) λσ H Q ⟨env,G,B,β,I,o⟩=>?_
 obtain⟨d,e,k⟩:=o.of
 obtain⟨G',v,I',s,h1,h2⟩:=I.freeze i hb (join_some e)
 exact⟨v,h1,k v G' H I' s (gN.refl _ _) h2⟩
def A2 {v:V}{d:D}(h:PE X e (tC v))(r:∀G,Rp Γ.K G v d):SE X Γ E e (cst d) [] .v:=by
 refine PE.post' h λσ H Q ⟨env,G,B,β,I,o⟩=>?_
 exact o v G H I (ah.refl _) (gN.refl _ _) (r G)
def ax {i:Int}{j}:SE X Γ E (.Constant (.int i) j pos) (cst (.int i)) [] .v:=A2 qU λ_=>.int i
def lQ {i:Bool}{j}:SE X Γ E (.Constant (.bool i) j pos) (cst (.bool i)) [] .v:=A2 vG λ_=>.bl i
def yQ {x:Str}{j}:SE X Γ E (.Constant (.str x) j pos) (cst (.str x)) [] .v:=A2 CF λ_=>.str x
def AW {x:Str}{i:Int}{t:Tok}(hg:Gl X x)(hm:X.mg x=some (.int i t))(hd:(x == ("__debug__":Str))=false:=by decide):SE X Γ E (.Name x pos) (cst (.int i)) [] .v:=A2 (Az hg hm (show RelV (.int i) _ from⟨_,rfl⟩) hd) λ_=>.int i
def two {W:V->V->Hp->Prop}{B:Option Addr}{G H:Hp}{σ:St}{env:En}{β:Int}(I:SR Γ B G H σ env β)
  (h:Out Γ E (fa (vl env) β) λd1 β1=>Out Γ E (fb (vl env) β1) λd2 β2=>∀x y G2 H2,SR Γ B G2 H2 σ (a7 (La ++ Lb) env) β2->ah G G2->gN B H H2->j6 Γ.K B G2 H2 x d1->j6 Γ.K B G2 H2 y d2->W x y H2) :
  pT Γ E fa La ma σ H λx H1=>pT Γ E fb Lb mb σ H1 λy H2=>W x y H2:=by
 refine⟨env,G,B,β,I,h.imp λd1 β1 h x G1 H1 I1 s1 m1 vx=>⟨a7 La env,G1,B,β1,I1,?_⟩⟩
 rw[gP]
 refine h.imp λd2 β2 k y G2 H2 I2 s2 m2 vy=>?_
 refine k x y G2 H2 (by rw[cM];exact I2) (s1.trans s2) (m1.trans m2) ((vx.brw I.boxThere).mono s2 m2) (vy.brw I1.boxThere)
def mj (K:Frag)(r:R2)(g:D->D->Option D)(md:Md):Prop:=∀(B:Option Addr) (G H:Hp) (x y:V) (dx dy d:D) (Q:VK),ah G H->(∀x,B=some x->H x≠none)->j6 K B G H x dx->j6 K B G H y dy->g dx dy=some d->
 (∀v G' H',Ext G H G' H'->VO K B H G' H' md d v->Q v H')->r x y H Q
def f2 (fa fb:VF D)(g:D->D->Option D):VF D:=λvs β=>(fa vs β).bnd λx β1=>(fb vs β1).bnd λy β2=>R.of (g x y) β2
theorem fR {B:Option Addr}{H H2:Hp}(m:gN B H H2)(hB:∀x,B=some x->H2 x≠none){p:Addr}(h:H2 p=none):H p=none:=by
 cases e:H p with
 |none=>rfl
 |some o=>rw[m p o e λz=>hB p z h] at h;cases h
theorem VO.back {K:Frag}{B:Option Addr}{H H2 G' H':Hp}{d:D}{v:V}(h:VO K B H2 G' H' md d v)(m:gN B H H2)(hB:∀x,B=some x->H2 x≠none):VO K B H G' H' md d v:=by
 cases md with
 |b=>exact h
 |v=>exact h
 |w=>obtain⟨p,e,h1,h2,h3⟩:=h;exact⟨p,e,fR m hB h1,h2,h3⟩
def kI {r:R2}{g:D->D->Option D}{Q:VK}(pr:mj Γ.K r g md){B:Option Addr}{G H:Hp}{σ:St}{env:En}{β:Int}(I:SR Γ B G H σ env β)
  (h:Out Γ E (f2 fa fb g (vl env) β) λd β'=>∀v G' H',SR Γ B G' H' σ (a7 (La ++ Lb) env) β'->ah G G'->gN B H H'->VO Γ.K B H G' H' md d v->Q v H') :
  pT Γ E fa La ma σ H λx H1=>pT Γ E fb Lb mb σ H1 λy H2=>r x y H2 Q:=by
 refine two I (h.bnd.imp λd1 β1 h=>h.bnd.imp λd2 β2 h x y G2 H2 I2 s2 m2 bx by'=>?_)
 obtain⟨d,e,k⟩:=h.of
 refine pr B G2 H2 x y d1 d2 d Q I2.sub I2.boxThere bx by' e λv G' H' x' vo=>?_
 exact k v G' H' (I2.ext x') (s2.trans x'.gg) (m2.trans (x'.hh.mov B)) (vo.back m2 I2.boxThere)
def bo {op:Operator}{r:R2}{g:D->D->Option D}(ho:kX X (binaryOp op) r)(pr:mj Γ.K r g md)(ha:SE X Γ E a fa La ma)(hb:SE X Γ E b fb Lb mb):SE X Γ E (.BinOp a op b pos) (f2 fa fb g) (La ++ Lb) md:=
 PE.post' (rf ho ha hb) λσ H Q ⟨env,G,B,β,I,o⟩=>kI pr I o
def g7 {op:CmpOp}{r:R2}{g:D->D->Option D}(ho:kX X (compareOp op) r)(pr:mj Γ.K r g md)(ha:SE X Γ E a fa La ma)(hb:SE X Γ E b fb Lb mb)(hm:behindInMarks op b=false):SE X Γ E (.Compare a [op] [b] pos) (f2 fa fb g) (La ++ Lb) md:=
 PE.post' (Bz ho ha hb hm) λσ H Q ⟨env,G,B,β,I,o⟩=>kI pr I o
def cm {r:R2}{g:D->D->Option D}(hr:yr X r)(pr:mj Γ.K r g md)(ha:SE X Γ E a fa La ma)(hb:SE X Γ E b fb Lb mb)(hs:vf b):SE X Γ E (.Subscript a b pos) (f2 fa fb g) (La ++ Lb) md:=
 PE.post' (jT hr ha hb hs) λσ H Q ⟨env,G,B,β,I,o⟩=>kI pr I o
def w8 (K:Frag)(r:V->Hp->VK->Prop)(g:D->Option D)(md:Md):Prop:=∀(B:Option Addr) (G H:Hp) (x:V) (dx d:D) (Q:VK),ah G H->(∀x,B=some x->H x≠none)->j6 K B G H x dx->g dx=some d->
 (∀v G' H',Ext G H G' H'->VO K B H G' H' md d v->Q v H')->r x H Q
def f1 (fa:VF D)(g:D->Option D):VF D:=λvs β=>(fa vs β).bnd λx β1=>R.of (g x) β1
def iU {r:V->Hp->VK->Prop}{g:D->Option D}{Q:VK}(pr:w8 Γ.K r g md){B:Option Addr}{G H:Hp}{σ:St}{env:En}{β:Int}(I:SR Γ B G H σ env β)
  (h:Out Γ E (f1 fa g (vl env) β) λd β'=>∀v G' H',SR Γ B G' H' σ (a7 La env) β'->ah G G'->gN B H H'->VO Γ.K B H G' H' md d v->Q v H') :
  pT Γ E fa La ma σ H λx H1=>r x H1 Q:=by
 refine⟨env,G,B,β,I,h.bnd.imp λd1 β1 h x G1 H1 I1 s1 m1 vx=>?_⟩
 obtain⟨d,e,k⟩:=h.of
 refine pr B G1 H1 x d1 d Q I1.sub I1.boxThere (vx.brw I.boxThere) e λv G' H' x' vo=>?_
 exact k v G' H' (I1.ext x') (s1.trans x'.gg) (m1.trans (x'.hh.mov B)) (vo.back m1 I1.boxThere)
def DJ {op:UnaryOp}{r:V->Hp->VK->Prop}{g:D->Option D}(ho:EX X (unaryOp op) r)(pr:w8 Γ.K r g md)(ha:SE X Γ E a fa La ma):SE X Γ E (.UnaryOp op a pos) (f1 fa g) La md:=
 PE.post' (DZ ho ha) λσ H Q ⟨env,G,B,β,I,o⟩=>iU pr I o
def bN {id:String}{r:List V->Hp->VK->Prop}{g:D->Option D}{x:Str}{p:Pos}(hc:cw X (.builtin id) r)(pr:w8 Γ.K (λx=>r [x]) g md)(hg:Gl X x)(hm:X.mg x=none)(hv:bootBuiltins x=some (.builtin id))(ha:SE X Γ E a fa La ma)(hn:x≠"__name__":=by decide)(hdb:(x == ("__debug__":Str))=false:=by decide)
  (he:starEach [a] X.env=(false,eval a X.env) :: starEach [] X.env:=by rfl):SE X Γ E (.Call (.Name x p) [a] [] pos) (f1 fa g) La md:=
 PE.post' (jc hc hg hm hv (aK ha bq he) hn hdb he) λσ H Q ⟨env,G,B,β,I,o⟩=>iU (r:=λx=>r [x]) pr I o
def iu {id:String}{r:List V->Hp->VK->Prop}{g:D->Option D}{x:Str}{p:Pos}(hc:cw X (.type id) r)(pr:w8 Γ.K (λx=>r [x]) g md)(hg:Gl X x)(hm:X.mg x=none)(hv:bootBuiltins x=some (.type id))(ha:SE X Γ E a fa La ma)(hn:x≠"__name__":=by decide)(hdb:(x == ("__debug__":Str))=false:=by decide)
  (he:starEach [a] X.env=(false,eval a X.env) :: starEach [] X.env:=by rfl):SE X Γ E (.Call (.Name x p) [a] [] pos) (f1 fa g) La md:=
 PE.post' (hW hc hg hm hv (aK ha bq he) hn hdb he) λσ H Q ⟨env,G,B,β,I,o⟩=>iU (r:=λx=>r [x]) pr I o
def sk {id:String}{r:List V->Hp->VK->Prop}{g:D->D->Option D}{x:Str}{p:Pos}(hc:cw X (.builtin id) r)(pr:mj Γ.K (λx y=>r [x,y]) g md)(hg:Gl X x)(hm:X.mg x=none)(hv:bootBuiltins x=some (.builtin id))(ha:SE X Γ E a fa La ma)(hb:SE X Γ E b fb Lb mb)(hn:x≠"__name__":=by decide)(hdb:(x == ("__debug__":Str))=false:=by decide)
  (he:starEach [a,b] X.env=(false,eval a X.env) :: starEach [b] X.env:=by rfl) (he2:starEach [b] X.env=(false,eval b X.env) :: starEach [] X.env:=by rfl) (hpl:(backTo pos (starEach [b] X.env)).any (·.1)=false:=by rfl):SE X Γ E (.Call (.Name x p) [a,b] [] pos) (f2 fa fb g) (La ++ Lb) md:=
 PE.post' (jc hc hg hm hv (aK ha (aK hb bq he2) he) hn hdb he hpl) λσ H Q ⟨env,G,B,β,I,o⟩=>kI (r:=λx y=>r [x,y]) pr I o
def dX (fa fb:VF D):VF D:=λvs β=>(fa vs β).bnd λx β1=>match x with
 | .bool true=>fb vs β1
 | .bool false=>.ok (.bool false) β1
 |_=>.bad
def iC {op}(h:SE X Γ E a fa La md):SE X Γ E (.BoolOp op [a] pos) fa La md:=Dv h
theorem fx {rest:List Expr}(ha:SE X Γ E a fa La ma)(hb:SE X Γ E (.BoolOp .And (b :: rest) pos) fb Lb .v)(hbr:∀i,i∈Lb->Γ.br i=false):SE X Γ E (.BoolOp .And (a :: b :: rest) pos) (dX fa fb) (La ++ Lb) .v:=by
 refine PE.post' (Ds ha hb) λσ H Q ⟨env,G,B,β,I,o⟩=>?_
 refine⟨env,G,B,β,I,o.bnd.imp λd1 β1 h x G1 H1 I1 s1 m1 vx=>?_⟩
 have bx:=vx.brw I.boxThere
 cases d1 with
 |bool c=>
  obtain rfl:=bx.bool
  refine⟨c,rfl,?_⟩
  cases c with
  |true=>exact rH ⟨_,G1,B,β1,I1,by rw[gP];exact h.imp λd β' k v G' H' I' s' m' vo=>k v G' H' (by rw[cM];exact I') (s1.trans s') (m1.trans m') vo⟩
  |false=>
   obtain⟨G2,I2,s2⟩:=I1.a7 Lb hbr
   exact rl (h _ G2 H1 (by rw[cM];exact I2) (s1.trans s2) m1 (.bl false))
 |_=>exact h.elim
def pG:D->Option D
 | .bool c=>some (.bool (!c))
 |_=>none
theorem qg (ha:SE X Γ E a fa La ma):SE X Γ E (.UnaryOp .Not a pos) (f1 fa pG) La .v:=by
 refine PE.post' (Cy ha) λσ H Q ⟨env,G,B,β,I,o⟩=>?_
 refine iU (r:=λx H1 Q=>∃c,x=.bl c/\Q (.bl (!c)) H1) ?_ I o
 intro B G H x dx d Q s hB bx e k
 cases dx with
 |bool c=>
  obtain rfl:=bx.bool
  cases e
  exact⟨c,rfl,k _ G H (Ext.refl s) (.bl _)⟩
 |_=>cases e
def C7:D->Option Bool
 | .none=>some false
 | .bool b=>some b
 | .int i=>some (i != 0)
 | .str y=>if y.length<=sizeLine then some ((y.length:Int) != 0) else none
 | .list ds=>some (!ds.isEmpty)
 | .tuple ds=>some (!ds.isEmpty)
 | .dict _=>none
def mI (fa:VF D):VF Bool:=λvs β=>(fa vs β).bnd λx β1=>R.of (C7 x) β1
def l4 {K:Frag}{G:Hp}{xs:List V}{ds:List D}(r:ck K G xs ds):(!ds.isEmpty)= !xs.isEmpty:=by cases r <;> rfl
theorem fW (hK:X.K=Γ.K)(ha:SE X Γ E a fa La ma)(he:∀whole,isTrue a X.env whole=(do let v <-whole;standAt a.pos;holding [v] (truthy v)):=by intro _;rfl):xD X Γ E a (mI fa) La:=by
 refine PT.post (yK ha he) λσ H Q ⟨env,G,B,β,I,o⟩=>?_
 refine⟨env,G,B,β,I,o.bnd.imp λd1 β1 h x G1 H1 I1 s1 m1 vx=>?_⟩
 obtain⟨c,e,k⟩:=h.of
 have bx:=vx.brw I.boxThere
 refine⟨c,?_,k G1 H1 I1 s1 m1⟩
 rw[hK]
 cases d1 with
 |none=>obtain rfl:=bx.none;cases e;rfl
 |bool b=>obtain rfl:=bx.bool;cases e;rfl
 |int i=>obtain rfl:=bx.int;cases e;rfl
 |str y=>
  obtain rfl:=bx.str
  simp only[C7] at e
  split at e
  ·cases e;exact⟨by assumption,rfl⟩
  ·cases e
 |list ds=>obtain⟨p,xs,rfl,hq,r⟩:=bx.list I1.sub;cases e;exact .inl ⟨xs,.inl hq,l4 r⟩
 |tuple ds=>obtain⟨p,xs,rfl,hq,r⟩:=bx.tuple I1.sub;cases e;exact .inr (.inl ⟨xs,hq,l4 r⟩)
 |dict ds=>cases e
def df (fa:VF D):VF Bool:=λvs β=>(fa vs β).bnd λx β1=>match x with
 | .bool c=>.ok c β1
 |_=>.bad
theorem bC {op:CmpOp}{r:R2}{g:D->D->Option D}(ho:kX X (compareOp op) r)(pr:mj Γ.K r g .v)(ha:SE X Γ E a fa La ma)(hb:SE X Γ E b fb Lb mb)(hm:behindInMarks op b=false):xD X Γ E (.Compare a [op] [b] pos) (df (f2 fa fb g)) (La ++ Lb):=by
 refine PT.post (Be ho ha hb hm) λσ H Q ⟨env,G,B,β,I,o⟩=>?_
 refine kI pr I (o.bnd.imp λd β' h v G' H' I' s' m' vo=>?_)
 cases d with
 |bool c=>cases vo;exact⟨c,rfl,h G' H' I' s' m'⟩
 |_=>exact h.elim
def vP (t:VF Bool):VF Bool:=λvs β=>(t vs β).bnd λc β1=>.ok (!c) β1
def zW (t u:VF Bool):VF Bool:=λvs β=>(t vs β).bnd λc β1=>if c=true then u vs β1 else .ok false β1
def qH (t u:VF Bool):VF Bool:=λvs β=>(t vs β).bnd λc β1=>if c=true then .ok true β1 else u vs β1
variable {ta tb tc:VF Bool}
def ju (ha:xD X Γ E a ta La):xD X Γ E (.UnaryOp .Not a pos) (vP ta) La:=by
 refine PT.post (Du ha) λσ H Q ⟨env,G,B,β,I,o⟩=>?_
 exact⟨env,G,B,β,I,o.bnd.imp λc β1 h=>h⟩
def tf.t (h:tf X Γ E e ta La):xD X Γ E e ta La:=PW.pt h
def mG (ha:xD X Γ E a ta La):tf X Γ E (.BoolOp .And [a] pos) ta La:=vh ha
def qx (ha:xD X Γ E a ta La):tf X Γ E (.BoolOp .Or [a] pos) ta La:=CA ha
theorem qK {rest:List Expr}(ha:xD X Γ E a ta La)(hb:tf X Γ E (.BoolOp .And (b :: rest) pos) tb Lb)(hbr:∀i,i∈Lb->Γ.br i=false):tf X Γ E (.BoolOp .And (a :: b :: rest) pos) (zW ta tb) (La ++ Lb):=by
 refine PW.post (zg ha hb) λσ H Q ⟨env,G,B,β,I,o⟩=>?_
 refine⟨env,G,B,β,I,o.bnd.imp λc β1 h G1 H1 I1 s1 m1=>?_⟩
 cases c with
 |true=>exact rH ⟨_,G1,B,β1,I1,by rw[gP];exact Out.imp h λd β' k G' H' I' s' m'=>k G' H' (by rw[cM];exact I') (s1.trans s') (m1.trans m')⟩
 |false=>
  obtain⟨G2,I2,s2⟩:=I1.a7 Lb hbr
  exact rl (h G2 H1 (by rw[cM];exact I2) (s1.trans s2) m1)
theorem vE {rest:List Expr}(ha:xD X Γ E a ta La)(hb:tf X Γ E (.BoolOp .Or (b :: rest) pos) tb Lb)(hbr:∀i,i∈Lb->Γ.br i=false):tf X Γ E (.BoolOp .Or (a :: b :: rest) pos) (qH ta tb) (La ++ Lb):=by
 refine PW.post (Et ha hb) λσ H Q ⟨env,G,B,β,I,o⟩=>?_
 refine⟨env,G,B,β,I,o.bnd.imp λc β1 h G1 H1 I1 s1 m1=>?_⟩
 cases c with
 |true=>
  obtain⟨G2,I2,s2⟩:=I1.a7 Lb hbr
  exact rH (h G2 H1 (by rw[cM];exact I2) (s1.trans s2) m1)
 |false=>exact rl ⟨_,G1,B,β1,I1,by rw[gP];exact Out.imp h λd β' k G' H' I' s' m'=>k G' H' (by rw[cM];exact I') (s1.trans s') (m1.trans m')⟩
def GQ (t:VF Bool)(fa fb:VF D):VF D:=λvs β=>(t vs β).bnd λc β1=>if c=true then fa vs β1 else fb vs β1
def ag:VF (List D):=λ_ β=>.ok [] β
def aa (fa:VF D)(fr:VF (List D)):VF (List D):=λvs β=>(fa vs β).bnd λx β1=>(fr vs β1).bnd λxs β2=>.ok (x :: xs) β2
variable {fr:VF (List D)}{es:List Expr}
def aq:SA X Γ E [] ag []:=PA.post bq λσ H Q ⟨env,G,B,β,I,o⟩=>o [] G H I (ah.refl _) (gN.refl _ _) .nil
def ae (ha:SE X Γ E a fa La .v)(hr:SA X Γ E es fr Lb)(hs:starEach (a :: es) X.env=(false,eval a X.env) :: starEach es X.env:=by rfl):SA X Γ E (a :: es) (aa fa fr) (La ++ Lb):=by
 refine PA.post (aK ha hr hs) λσ H Q ⟨env,G,B,β,I,o⟩=>?_
 refine⟨env,G,B,β,I,o.bnd.imp λd1 β1 h x G1 H1 I1 s1 m1 vx=>⟨a7 La env,G1,B,β1,I1,?_⟩⟩
 rw[gP]
 refine h.bnd.imp λds β2 k xs G2 H2 I2 s2 m2 r=>?_
 exact k (x :: xs) G2 H2 (by rw[cM];exact I2) (s1.trans s2) (m1.trans m2) (.cons (vx.mono s2) r)
def bh (fr:VF (List D)):VF D:=λvs β=>(fr vs β).bnd λds β1=>if ds.length<=sizeLine then .ok (.tuple ds) β1 else .bad
def cA (fr:VF (List D)):VF D:=λvs β=>(fr vs β).bnd λds β1=>if ds.length<=sizeLine then .ok (.list ds) β1 else .bad
def b7 {x1}(h:SA X Γ E es fr L):SE X Γ E (.Tuple es x1 pos) (bh fr) L .v:=by
 refine PE.post' (tG h) λσ H Q ⟨env,G,B,β,I,o⟩=>?_
 refine⟨env,G,B,β,I,o.bnd.imp λds β1 k xs G1 H1 I1 s1 m1 r=>?_⟩
 by_cases hz:ds.length<=sizeLine
 ·rw[GW hz] at k
  refine⟨by rw[r.len];exact hz,λp hp=>?_⟩
  have x:=Ext.new I1.sub (o:=.tup xs) hp
  exact k _ _ _ (I1.ext x) (s1.trans x.gg) (m1.trans (x.hh.mov B)) (.tup (.inl (.inl av)) (r.mono x.gg))
 ·rw[G8 hz] at k;exact k.elim
def fq (h:SA X Γ E es fr L):SE X Γ E (.List es pos) (cA fr) L .w:=by
 refine PE.post' (ze h) λσ H Q ⟨env,G,B,β,I,o⟩=>?_
 refine⟨env,G,B,β,I,o.bnd.imp λds β1 k xs G1 H1 I1 s1 m1 r=>?_⟩
 by_cases hz:ds.length<=sizeLine
 ·rw[GW hz] at k
  refine⟨by rw[r.len];exact hz,λp hp=>?_⟩
  have x:=Ext.own I1.sub (o:=.lst xs) hp
  exact k _ _ _ (I1.ext x) s1 (m1.trans (x.hh.mov B)) ⟨p,rfl,fR m1 I1.boxThere hp,I1.sub.free hp,xs,av,r⟩
 ·rw[G8 hz] at k;exact k.elim
inductive FR where
 |ok (d:D) (fresh:Bool)
 |exc (c:Str)
 |bad
def FV (K:Frag)(H G' H':Hp)(fr:Bool)(d:D)(v:V):Prop:=if fr=true then ∃a,v=.ref a/\H a=none/\G' a=none/\Own K G' H' a d else Rp K G' v d
def z8 (K:Frag)(ca:Str->Addr)(n:Nat)(F:List D->FR):Sp:=λvs H Q E=>∃G ds,ah G H/\ds.length=n/\ck K G vs ds/\match F ds with
 | .ok d fr=>∀v G' H',ah H H'->ah G G'->ah G' H'->(∀b,Mx H b->G b=none->G' b=none)->FV K H G' H' fr d v->Q v H'
 | .exc c=>∀H',ah H H'->E (.ref (ca c)) none H'
 | .bad=>False
structure dI (P:Program)(w:World)(K:Frag)(mg:Str->Option Value)(base:Heap)(ca:Str->Addr)(x:Str)(ps:List Str)(k:Nat)(F:List D->FR):Prop where
 ex:∃f fd,mg x=some (.ref f)/\PySem.W.keepIn K (.ref f)=true/\Binds K fd ps []/\fo P w K mg base (lW P w) k f fd ps (z8 K ca ps.length F)
 len:∀ds,F ds≠.bad->ds.length=ps.length
def aE (F:List D->FR)(fr:VF (List D)):VF D:=λvs β=>(fr vs β).bnd λds β1=>match F ds with
 | .ok d _=>.ok d β1
 | .exc c=>.exc c
 | .bad=>.bad
def nq (F:List D->FR)(fr:VF (List D)):VF D:=λvs β=>(fr vs β).bnd λds β1=>match F ds with
 | .ok d true=>.ok d β1
 | .ok _ false=>.bad
 | .exc c=>.exc c
 | .bad=>.bad
def SR.called {B:Option Addr}{G1 H1 G2 H2:Hp}{σ:St}{env:En}{β:Int}(I1:SR Γ B G1 H1 σ env β)(h:ah H1 H2)(g:ah G1 G2)(s:ah G2 H2)(n:∀b,Mx H1 b->G1 b=none->G2 b=none):SR Γ B G2 H2 σ env β/\gN B H1 H2:=by
 refine⟨⟨s,I1.old.trans g,λb n1 n2=>?_,λb o e np=>h b o (I1.keep b o e np),λb hb=>?_,I1.fix,λb e=>?_,I1.len,λi t e=>?_,I1.sep⟩,h.mov B⟩
 ·exact n b (I1.thereM n1) (I1.new b n1 n2)
 ·exact (I1.pin b hb).same λo e=>h b o e
 ·obtain⟨h1,h2,h3⟩:=I1.box b e
  exact⟨h b _ h1,n b (Mx.lst h1) h2,h3⟩
 ·have q:=I1.slot i t e
  cases t with
  |no=>trivial
  |fz d=>obtain⟨v,h1,h2⟩:=q;exact⟨v,h1,h2.mono g⟩
  |ow d=>
   obtain⟨p,h1,h2,h3,h4,h5⟩:=q
   exact⟨p,h1,h2,n p h5.mx h3,h4,h5.mono g λo q=>h p o q⟩
  |bx=>exact q
  |br d=>obtain⟨b1,p,h1,h4,hp,h5⟩:=q;exact⟨b1,p,h1,h4,hp,h5.mono g λo q=>h p o q⟩
def SR.kp {B:Option Addr}{G H H':Hp}{σ:St}{env:En}{β:Int}(I:SR Γ B G H σ env β)(h:ah H H'):Kp Γ H':=λb o e n=>h b o (I.keep b o e n)
theorem oF {F:List D->FR}{ps:List Str}{Q:VK}{B:Option Addr}{G H:Hp}{σ:St}{env:En}{β:Int}(I:SR Γ B G H σ env β)(hK:X.K=Γ.K){wv:Bool}
  (h:Out Γ E (if wv=true then nq F fr (vl env) β else aE F fr (vl env) β) λd β'=>∀v G' H',SR Γ B G' H' σ (a7 L env) β'->ah G G'->gN B H H'->VO Γ.K B H G' H' (if wv=true then .w else .v) d v->Q v H') (hl:∀ds,F ds≠.bad->ds.length=ps.length) :
  aT Γ E fr L σ H λvs H1=>z8 X.K Γ.ca ps.length F vs H1 Q E:=by
 refine⟨env,G,B,β,I,?_⟩
 have h:Out Γ E (fr (vl env) β) λds β1=>Out Γ E (match F ds with
   | .ok d true=>.ok d β1
   | .ok d false=>if wv=true then .bad else .ok d β1
   | .exc c=>.exc c
   | .bad=>.bad) λd β'=>∀v G' H',SR Γ B G' H' σ (a7 L env) β'->ah G G'->gN B H H'->VO Γ.K B H G' H' (if wv=true then .w else .v) d v->Q v H':=by
  cases wv with
  |true=>
   simp only[Ic] at h ⊢
   refine h.bnd.imp λds β1 h=>?_
   cases q:F ds with
   |ok d b=>rw[q] at h;cases b <;> exact h
   |exc c=>rw[q] at h;exact h
   |bad=>rw[q] at h;exact h
  |false=>
   simp only[Hg,HI] at h ⊢
   refine h.bnd.imp λds β1 h=>?_
   cases q:F ds with
   |ok d b=>rw[q] at h;cases b <;> exact h
   |exc c=>rw[q] at h;exact h
   |bad=>rw[q] at h;exact h
 refine h.imp λds β1 k vs G1 H1 I1 s1 m1 r=>?_
 refine⟨G1,ds,I1.sub,?_,by rw[hK];exact r,?_⟩
 ·exact hl ds λz=>by rw[z] at k;exact k
 cases q:F ds with
 |bad=>rw[q] at k;exact k
 |exc c=>rw[q] at k;exact λH' s=>k H' (I1.kp s)
 |ok d b=>
  rw[q] at k
  intro v G' H' hh hg hs hn fv
  obtain⟨I2,m2⟩:=I1.called hh hg hs hn
  cases b with
  |true=>
   obtain⟨p,rfl,p1,p2,p3⟩:∃a,v=.ref a/\H1 a=none/\G' a=none/\Own X.K G' H' a d:=fv
   rw[hK] at p3
   have hp:=fR m1 I1.boxThere p1
   cases wv with
   |true=>exact k _ G' H' I2 (s1.trans hg) (m1.trans m2) ⟨p,rfl,hp,p2,p3⟩
   |false=>
    obtain⟨q1,q2,q3,q4⟩:=I1.fresh p1
    obtain⟨G3,I3,s3,r3⟩:=I2.letIn q1 p2 q3 q4 p3
    exact k _ G3 H' I3 ((s1.trans hg).trans s3) (m1.trans m2) r3
  |false=>
   cases wv with
   |true=>exact k.elim
   |false=>
    have fv:Rp X.K G' v d:=fv
    rw[hK] at fv
    exact k _ G' H' I2 (s1.trans hg) (m1.trans m2) fv
def aO {x:Str}{ps:List Str}{k:Nat}{F:List D->FR}{p:Pos}(hf:dI X.prog X.w X.K X.mg X.base Γ.ca x ps k F)(hr:dk k X.A)(hx:Passes (lW X.prog X.w) X E)(hK:X.K=Γ.K)(hg:Gl X x)(ha:SA X Γ E (a :: es) fr L)(hdb:(x == ("__debug__":Str))=false:=by decide)
  (he:starEach (a :: es) X.env=(false,eval a X.env) :: starEach es X.env:=by rfl) (hpl:(backTo pos (starEach es X.env)).any (·.1)=false:=by rfl):SE X Γ E (.Call (.Name x p) (a :: es) [] pos) (aE F fr) L .v:=by
 obtain⟨f,fd,hm,hk,hb,hF⟩:=hf.ex
 refine PE.post' (kH (dvs:=[]) hF hr hg hm hk hb .nil hx ha hdb he hpl) λσ H Q ⟨env,G,B,β,I,o⟩=>?_
 show aT Γ E fr L σ H λvs H1=>z8 X.K Γ.ca ps.length F (vs ++ []) H1 Q E
 have:=oF (Q:=Q) (wv:=false) (ps:=ps) I hK o hf.len
 simpa using this
def nE {x:Str}{ps:List Str}{k:Nat}{F:List D->FR}{p:Pos}(hf:dI X.prog X.w X.K X.mg X.base Γ.ca x ps k F)(hr:dk k X.A)(hx:Passes (lW X.prog X.w) X E)(hK:X.K=Γ.K)(hg:Gl X x)(ha:SA X Γ E (a :: es) fr L)(hdb:(x == ("__debug__":Str))=false:=by decide)
  (he:starEach (a :: es) X.env=(false,eval a X.env) :: starEach es X.env:=by rfl) (hpl:(backTo pos (starEach es X.env)).any (·.1)=false:=by rfl):SE X Γ E (.Call (.Name x p) (a :: es) [] pos) (nq F fr) L .w:=by
 obtain⟨f,fd,hm,hk,hb,hF⟩:=hf.ex
 refine PE.post' (kH (dvs:=[]) hF hr hg hm hk hb .nil hx ha hdb he hpl) λσ H Q ⟨env,G,B,β,I,o⟩=>?_
 show aT Γ E fr L σ H λvs H1=>z8 X.K Γ.ca ps.length F (vs ++ []) H1 Q E
 have:=oF (Q:=Q) (wv:=true) (ps:=ps) I hK o hf.len
 simpa using this
end
inductive SO where
 |nx (env:En) (β:Int)
 |bk (env:En) (β:Int)
 |ct (env:En) (β:Int)
 |rt (d:D) (fr:Bool) (β:Int)
 |exc (c:Str)
 |bad
abbrev SF:=En->Int->SO
def RV (Γ:Fx)(G' H':Hp)(fr:Bool)(d:D)(v:V):Prop:=if fr=true then ∃a,v=.ref a/\Γ.H0 a=none/\G' a=none/\Own Γ.K G' H' a d else Rp Γ.K G' v d
def oy (Γ:Fx)(E:XK)(G:Hp)(N:Ends):SO->Prop
 | .nx env β=>∀B G' H' σ,SR Γ B G' H' σ env β->ah G G'->N.nx σ H'
 | .bk env β=>∀B G' H' σ,SR Γ B G' H' σ env β->ah G G'->N.bk σ H'
 | .ct env β=>∀B G' H' σ,SR Γ B G' H' σ env β->ah G G'->N.ct σ H'
 | .rt d fr β=>∀B G' H' σ env v,SR Γ B G' H' σ env β->ah G G'->RV Γ G' H' fr d v->N.rt v H'
 | .exc c=>∀H',Kp Γ H'->E (.ref (Γ.ca c)) none H'
 | .bad=>False
def sT (Γ:Fx)(E:XK)(m:SF):TS:=λN σ H=>∃env G B β,SR Γ B G H σ env β/\oy Γ E G N (m env β)
def SS (X:Cx)(Γ:Fx)(E:XK)(st:Stmt)(m:SF):Prop:=PS X st (sT Γ E m)
def z7 (X:Cx)(Γ:Fx)(E:XK)(st:List Stmt)(m:SF):Prop:=oA X st (sT Γ E m)
def oA.post {X:Cx}{st:List Stmt}{t u:TS}(h:oA X st t)(m:∀D σ H,u D σ H->t D σ H):oA X st u:=λpins s σ H D I q=>h pins s σ H D I (m D σ H q)
def aG (m m':SF):SF:=λenv β=>match m env β with
 | .nx env' β'=>m' env' β'
 |r=>r
def mC:SF:=λenv β=>.nx env β
section
variable {X:Cx}{Γ:Fx}{E:XK}{e a b c:Expr}{f fa fb:VF D}{L La Lb:List Nat}{md ma mb:Md}{pos:Pos}{st:Stmt}{sts:List Stmt}{m m':SF}{ta:VF Bool}
theorem oy.weak {G G1:Hp}{N:Ends}{r:SO}(h:oy Γ E G N r)(s:ah G G1):oy Γ E G1 N r:=by
 cases r with
 |nx env β=>exact λB G' H' σ I s'=>h B G' H' σ I (s.trans s')
 |bk env β=>exact λB G' H' σ I s'=>h B G' H' σ I (s.trans s')
 |ct env β=>exact λB G' H' σ I s'=>h B G' H' σ I (s.trans s')
 |rt d fr β=>exact λB G' H' σ env v I s'=>h B G' H' σ env v I (s.trans s')
 |exc c=>exact h
 |bad=>exact h
def c5:z7 X Γ E [] mC:=oA.post vC λN σ H ⟨env,G,B,β,I,o⟩=>o B G H σ I (ah.refl _)
theorem ao (h:SS X Γ E st m)(h':z7 X Γ E sts m'):z7 X Γ E (st :: sts) (aG m m'):=by
 refine oA.post (fX h h') λN σ H ⟨env,G,B,β,I,o⟩=>?_
 refine⟨env,G,B,β,I,?_⟩
 unfold aG at o
 cases q:m env β with
 |nx env' β'=>rw[q] at o;exact λB' G' H' σ' I' s'=>⟨env',G',B',β',I',o.weak s'⟩
 |bk env' β'=>rw[q] at o;exact o
 |ct env' β'=>rw[q] at o;exact o
 |rt d fr β'=>rw[q] at o;exact o
 |exc c=>rw[q] at o;exact o
 |bad=>rw[q] at o;exact o
def az (h:SS X Γ E st m):z7 X Γ E [st] m:=gK h
def toS {α:Type}(r:R α)(k:α->Int->SO):SO:=match r with
 | .ok x β=>k x β
 | .exc c=>.exc c
 | .bad=>.bad
theorem cE {α:Type}{G:Hp}{N:Ends}{r:R α}{k:α->Int->SO}{P:α->Int->Prop}(h:oy Γ E G N (toS r k))(i:∀x β,oy Γ E G N (k x β)->P x β):Out Γ E r P:=by
 cases r with
 |ok x β=>exact i x β h
 |exc c=>exact h
 |bad=>exact h
def SR.set' {B:Option Addr}{G H:Hp}{σ:St}{env:En}{β:Int}(I:SR Γ B G H σ env β)(i:Nat){v:V}{d:D}(h:Rp Γ.K G v d):SR Γ B G H (σ.set i (some v)) (env.set i (.fz d)) β:=by
 by_cases hi:i < env.length
 ·exact I.set hi h
 ·have h1:env.set i (.fz d)=env:=IH (by omega)
  have h2:σ.set i (some v)=σ:=IH (by rw[I.len];omega)
  rw[h1,h2];exact I
def SR.setOw' {B:Option Addr}{G H:Hp}{σ:St}{env:En}{β:Int}(I:SR Γ B G H σ env β)(i:Nat){a:Addr}{d:D}(h0:Γ.H0 a=none)(hg:G a=none)(hb:B≠some a)(h:Own Γ.K G H a d)(hn:∀(j:Nat) (d':D),env[j]? =some (.ow d')->σ[j]?≠some (some (.ref a))):SR Γ B G H (σ.set i (some (.ref a))) (env.set i (.ow d)) β:=by
 by_cases hi:i < env.length
 ·exact I.setOw hi h0 hg hb h λj d' e _=>hn j d' e
 ·have h1:env.set i (.ow d)=env:=IH (by omega)
  have h2:σ.set i (some (.ref a))=σ:=IH (by rw[I.len];omega)
  rw[h1,h2];exact I
def a9 (i:Nat)(L:List Nat)(f:VF D):SF:=λenv β=>toS (f (vl env) β) λd β'=>.nx ((a7 L env).set i (.fz d)) β'
def aU {i:Nat}{x:Str}{pos':Pos}(he:SE X Γ E e f L .v)(hN:X.N.Nodup)(hi:X.N[i]? =some x:=by rfl)(hx:Loc X.env.scope x:=by first |exact Or.inl rfl |exact Or.inr rfl)(hs:swapsWith e (some (.Name x pos')) pos.line X.env=pure false:=by rfl)(hf:X.fn x=true\/X.env.scope.names.lookup x=some .local:=by first |exact .inl rfl |exact .inr rfl |assumption) :
  SS X Γ E (.Assign [.Name x pos'] e pos) (a9 i L f):=by
 refine PS.post (qt hN hi hx he hs hf) λN σ H ⟨env,G,B,β,I,o⟩=>?_
 refine⟨env,G,B,β,I,cE o λd β' k v G' H' I' s' m' vo=>?_⟩
 exact k B G' H' _ (I'.set' i vo) s'
def kR (i:Nat)(L:List Nat)(f:VF D):SF:=λenv β=>toS (f (vl env) β) λd β'=>.nx ((a7 L env).set i (.ow d)) β'
def kW {i:Nat}{x:Str}{pos':Pos}(he:SE X Γ E e f L .w)(hN:X.N.Nodup)(hi:X.N[i]? =some x:=by rfl)(hx:Loc X.env.scope x:=by first |exact Or.inl rfl |exact Or.inr rfl)(hs:swapsWith e (some (.Name x pos')) pos.line X.env=pure false:=by rfl)(hf:X.fn x=true\/X.env.scope.names.lookup x=some .local:=by first |exact .inl rfl |exact .inr rfl |assumption) :
  SS X Γ E (.Assign [.Name x pos'] e pos) (kR i L f):=by
 refine PS.post (qt hN hi hx he hs hf) λN σ H ⟨env,G,B,β,I,o⟩=>?_
 refine⟨env,G,B,β,I,cE o λd β' k v G' H' I' s' m' vo=>?_⟩
 obtain⟨p,rfl,h1,h2,h3⟩:=vo
 obtain⟨q1,q2,q3,q4⟩:=I.fresh h1
 exact k B G' H' _ (I'.setOw' i q1 h2 q3 h3 λj d' z=>q4 j d' (qy z)) s'
def oW (L:List Nat)(f:VF D):SF:=λenv β=>toS (f (vl env) β) λ_ β'=>.nx (a7 L env) β'
def u4 (he:SE X Γ E e f L md)(hs:swapsWith e none pos.line X.env=pure false:=by rfl):SS X Γ E (.Expr e pos) (oW L f):=by
 refine PS.post (qf he hs) λN σ H ⟨env,G,B,β,I,o⟩=>?_
 exact⟨env,G,B,β,I,cE o λd β' k v G' H' I' s' m' vo=>k B G' H' _ I' s'⟩
def bY (f:VF D):SF:=λenv β=>toS (f (vl env) β) λd β'=>.rt d false β'
def aZ (he:SE X Γ E e f L .v):SS X Γ E (.Return (some e) pos) (bY f):=by
 refine PS.post (lJ he) λN σ H ⟨env,G,B,β,I,o⟩=>?_
 exact⟨env,G,B,β,I,cE o λd β' k v G' H' I' s' m' vo=>k B G' H' σ _ v I' s' vo⟩
def jQ (f:VF D):SF:=λenv β=>toS (f (vl env) β) λd β'=>.rt d true β'
def jE (he:SE X Γ E e f L .w):SS X Γ E (.Return (some e) pos) (jQ f):=by
 refine PS.post (lJ he) λN σ H ⟨env,G,B,β,I,o⟩=>?_
 refine⟨env,G,B,β,I,cE o λd β' k v G' H' I' s' m' vo=>?_⟩
 obtain⟨p,rfl,h1,h2,h3⟩:=vo
 obtain⟨q1,_⟩:=I.fresh h1
 exact k B G' H' σ _ _ I' s' ⟨p,rfl,q1,h2,h3⟩
def vm (i:Nat):SF:=λenv β=>match env[i]? with
 |some (.fz d)=>.rt d false β
 |some (.ow d)=>.rt d true β
 |_=>.bad
theorem vB (i:Nat){x:Str}{p:Pos}(hN:X.N[i]? =some x:=by rfl)(hv:zJ X.env.scope x:=by first |exact Or.inl rfl |exact Or.inr (Or.inl rfl) |exact Or.inr (Or.inr rfl))(hd:(x == ("__debug__":Str))=false:=by decide)
  (hcd:(x == ("__classdict__":Str))=false:=by decide):SS X Γ E (.Return (some (.Name x p)) pos) (vm i):=by
 refine PS.post (lJ (jo hN hv hd hcd)) λN σ H ⟨env,G,B,β,I,o⟩=>?_
 unfold vm at o
 cases q:env[i]? with
 |none=>rw[q] at o;exact o.elim
 |some s=>
  rw[q] at o
  cases s with
  |no=>exact o.elim
  |bx=>exact o.elim
  |br d=>exact o.elim
  |fz d=>
   obtain⟨v,h1,h2⟩:=I.slot i _ q
   exact⟨v,h1,o B G H σ env v I (ah.refl _) h2⟩
  |ow d=>
   obtain⟨p,h1,h2,h3,h4,h5⟩:=I.slot i _ q
   exact⟨_,h1,o B G H σ env _ I (ah.refl _) ⟨p,rfl,h2,h3,h5⟩⟩
def kB (L:List Nat)(t:VF Bool)(m m':SF):SF:=λenv β=>toS (t (vl env) β) λc β'=>if c=true then m (a7 L env) β' else m' (a7 L env) β'
theorem fZ {x y:List Stmt}(hc:xD X Γ E c ta L)(ha:z7 X Γ E x m)(hb:z7 X Γ E y m'):SS X Γ E (.If c x y pos) (kB L ta m m'):=by
 refine PS.post (BK hc ha hb) λN σ H ⟨env,G,B,β,I,o⟩=>?_
 refine⟨env,G,B,β,I,cE o λd β' k G' H' I' s' m'=>?_⟩
 cases d with
 |true=>exact rH ⟨_,G',B,β',I',oy.weak k s'⟩
 |false=>exact rl ⟨_,G',B,β',I',oy.weak k s'⟩
def iz (L:List Nat)(t:VF Bool)(m:SF):Nat->SF
 | 0=>λ_ _=>.bad
 |n + 1=>λenv β=>toS (t (vl env) β) λc β'=>if c=true then (match m (a7 L env) β' with
   | .nx env2 β2=>iz L t m n env2 β2
   | .ct env2 β2=>iz L t m n env2 β2
   | .bk env2 β2=>.nx env2 β2
   |r=>r) else .nx (a7 L env) β'
theorem rK {x:List Stmt}(n:Nat)(hp:PassesOwn (model X.prog X.w) X.A X.env X.xe)(hc:xD X Γ E c ta L)(hb:z7 X Γ E x m):SS X Γ E (.While c x [] pos) (iz L ta m n):=by
 refine PS.post (zX hp hc hb) λN σ H ⟨env,G,B,β,I,o⟩=>?_
 refine⟨λk σ H=>∃env G1 B β,SR Γ B G1 H σ env β/\ah G G1/\oy Γ E G1 N (iz L ta m k env β),⟨n,env,G,B,β,I,ah.refl _,o⟩,?_⟩
 rintro k σ H ⟨env,G1,B,β,I,sG,o⟩
 cases k with
 |zero=>exact o.elim
 |succ k=>
  refine⟨env,G1,B,β,I,cE o λd β' q G' H' I' s' m'=>?_⟩
  cases d with
  |false=>exact rl (q B G' H' σ I' s')
  |true=>
   refine rH ⟨λσ H=>∃env G1 B β,SR Γ B G1 H σ env β/\ah G G1/\oy Γ E G1 N (iz L ta m k env β),λσ' H' h=>⟨k,Nat.lt_succ_self k,h⟩,a7 L env,G',B,β',I',?_⟩
   rw[GW rfl] at q
   cases r:m (a7 L env) β' with
   |nx env2 β2=>rw[r] at q;exact λB2 G2 H2 σ2 I2 s2=>⟨env2,G2,B2,β2,I2,(sG.trans s').trans s2,oy.weak q (s'.trans s2)⟩
   |ct env2 β2=>rw[r] at q;exact λB2 G2 H2 σ2 I2 s2=>⟨env2,G2,B2,β2,I2,(sG.trans s').trans s2,oy.weak q (s'.trans s2)⟩
   |bk env2 β2=>rw[r] at q;exact λB2 G2 H2 σ2 I2 s2=>q B2 G2 H2 σ2 I2 (s'.trans s2)
   |rt d fr β2=>rw[r] at q;exact oy.weak q s'
   |exc c=>rw[r] at q;exact q
   |bad=>rw[r] at q;exact q
def Walk (K:Frag)(B:Option Addr)(G H1:Hp)(ds:List D)(J:It):Prop:=∀Gc H (i:Nat),ah G Gc->ah Gc H->gN B H1 H->
 (i < ds.length->J.go i H/\∀x H',J.yld i H x H'->∃G' d,Ext Gc H G' H'/\ds[i]? =some d/\Rp K G' x d)/\(ds.length<=i->J.stop i H)
def iT (Γ:Fx)(E:XK)(f:VF (List D))(L:List Nat)(md:Md):TI:=λσ H Rr=>∃env G B β,SR Γ B G H σ env β/\
 Out Γ E (f (vl env) β) λds β'=>∀J G' H',SR Γ B G' H' σ (a7 L env) β'->ah G G'->gN B H H'->Walk Γ.K B G' (match md with | .b=>H' |_=>λ_=>none) ds J->Rr J H'
def SI (X:Cx)(Γ:Fx)(E:XK)(tg e:Expr)(f:VF (List D))(L:List Nat)(md:Md):Prop:=PI X tg e (iT Γ E f L md)
def PI.post {X:Cx}{tg e:Expr}{t u:TI}(h:PI X tg e t)(m:∀σ H Q,u σ H Q->t σ H Q):PI X tg e u:=λpins s σ H Q I q=>h pins s σ H Q I (m σ H Q q)
variable {tg:Expr}
def jk:D->Option (List D)
 | .list ds=>some ds
 | .tuple ds=>some ds
 |_=>none
def bS (fa:VF D):VF (List D):=λvs β=>(fa vs β).bnd λx β1=>R.of (jk x) β1
end
def GK (K:Frag)(tl:TE):TI:=λσ H R=>tl σ H λx H1=>∃a xs,x=.ref a/\((fB K H1 a xs/\R (wc K a) H1)\/(dH K H1 a xs/\R (B5 K a) H1))
section
variable {X:Cx}{tg l:Expr}{tl:TE}
def BO (hl:PE X l tl):PI X tg l (GK X.K tl):=by
 intro pins s σ H R I h
 refine cf (hl pins s σ H _ I h) λv s1 ⟨x,H1,I1,r1,q1⟩=>?_
 obtain⟨a,xs,e,q⟩:=q1
 subst e
 cases r1
 rcases q with⟨hq,q⟩ | ⟨hq,q⟩
 ·obtain⟨its,rv,p,hz⟩:=I1.list hq
  refine I0 p.isList ?_
  refine⟨s1.heap.objs.size,[s1.heap.objs.size],_,_,H1,rfl,I1.kept (t':=s1.toks) λb o e=>GV _ e,lr a _,⟨_,Hf _ rfl,rfl,rfl⟩,λb hb=>?_,q⟩
  have e:b=s1.heap.objs.size:=by simpa using hb
  subst e
  exact I1.fpOk (GZ _) (I1.hok.fresh (GZ _))
 ·obtain⟨its,rv,p,hz⟩:=I1.tuple hq
  refine wpAny_pyIter_tuple (show s1.heap.IsTuple a its.toArray from p) ?_
  refine⟨s1.heap.objs.size,[s1.heap.objs.size],_,_,H1,rfl,I1.kept (t':=s1.toks) λb o e=>GV _ e,mT a _,⟨_,Hf _ rfl,rfl,rfl⟩,λb hb=>?_,q⟩
  have e:b=s1.heap.objs.size:=by simpa using hb
  subst e
  exact I1.fpOk (GZ _) (I1.hok.fresh (GZ _))
end
section
variable {X:Cx}{Γ:Fx}{E:XK}{e a b c:Expr}{f fa fb:VF D}{L La Lb:List Nat}{md ma mb:Md}{pos:Pos}{st:Stmt}{sts:List Stmt}{m m':SF}{ta:VF Bool}{tg:Expr}
def lN {K:Frag}{B:Option Addr}{G H1:Hp}{p:Addr}{xs:List V}{ds:List D}(h:∀Gc H,ah G Gc->ah Gc H->gN B H1 H->fB K H p xs)(r:ck K G xs ds):Walk K B G H1 ds (wc K p):=λGc H i s1 s2 m=>by
 have hq:=h Gc H s1 s2 m
 refine⟨λhi=>⟨?_,λx H' y=>?_⟩,λhi=>⟨xs,hq,by rw[r.len];exact hi⟩⟩
 ·have hi':i < xs.length:=by rw[r.len];exact hi
  exact⟨xs,xs[i],hq,by simp[hi']⟩
 ·obtain⟨rfl,y⟩:=y
  obtain⟨d,e,q⟩:=r.at' (y xs hq)
  exact⟨Gc,d,Ext.refl s2,e,q.mono s1⟩
def q5 {K:Frag}{B:Option Addr}{G H1:Hp}{p:Addr}{xs:List V}{ds:List D}(h:∀Gc H,ah G Gc->ah Gc H->gN B H1 H->dH K H p xs)(r:ck K G xs ds):Walk K B G H1 ds (B5 K p):=λGc H i s1 s2 m=>by
 have hq:=h Gc H s1 s2 m
 refine⟨λhi=>⟨?_,λx H' y=>?_⟩,λhi=>⟨xs,hq,by rw[r.len];exact hi⟩⟩
 ·have hi':i < xs.length:=by rw[r.len];exact hi
  exact⟨xs,xs[i],hq,by simp[hi']⟩
 ·obtain⟨rfl,y⟩:=y
  obtain⟨d,e,q⟩:=r.at' (y xs hq)
  exact⟨Gc,d,Ext.refl s2,e,q.mono s1⟩
theorem C2 (hK:X.K=Γ.K)(ha:SE X Γ E a fa La .v):SI X Γ E tg a (bS fa) La .v:=by
 refine PI.post (BO ha) λσ H Q ⟨env,G,B,β,I,o⟩=>?_
 refine⟨env,G,B,β,I,o.bnd.imp λd1 β1 h x G1 H1 I1 s1 m1 vx=>?_⟩
 obtain⟨ds,e,k⟩:=h.of
 rw[hK]
 have vx:Rp Γ.K G1 x d1:=vx
 cases d1 with
 |list l=>
  cases e
  cases vx with
  | @lst p xs _ hq r=>exact⟨p,xs,rfl,.inl ⟨.inl (Rd.mono (.inl hq) I1.sub),k _ G1 H1 I1 s1 m1 (lN (λGc H t1 t2 _=>.inl (Rd.mono (.inl hq) (t1.trans t2))) r)⟩⟩
 |tuple l=>
  cases e
  cases vx with
  | @tup p xs _ hq r=>exact⟨p,xs,rfl,.inr ⟨hq.grow I1.sub.grow,k _ G1 H1 I1 s1 m1 (q5 (λGc H t1 t2 _=>hq.grow (t1.trans t2).grow) r)⟩⟩
 |_=>cases e
theorem ny (hK:X.K=Γ.K)(ha:SE X Γ E a fa La ma):SI X Γ E tg a (bS fa) La .b:=by
 refine PI.post (BO ha) λσ H Q ⟨env,G,B,β,I,o⟩=>?_
 refine⟨env,G,B,β,I,o.bnd.imp λd1 β1 h x G1 H1 I1 s1 m1 vx=>?_⟩
 obtain⟨ds,e,k⟩:=h.of
 rw[hK]
 have vx:=vx.brw I.boxThere
 cases d1 with
 |list l=>
  cases e
  rcases vx with vx | ⟨p,rfl,hb,xs,q,r⟩
  ·cases vx with
   | @lst p xs _ hq r=>exact⟨p,xs,rfl,.inl ⟨.inl (Rd.mono (.inl hq) I1.sub),k _ G1 H1 I1 s1 m1 (lN (λGc H t1 t2 _=>.inl (Rd.mono (.inl hq) (t1.trans t2))) r)⟩⟩
  ·exact⟨p,xs,rfl,.inl ⟨.inl (.inl q),k _ G1 H1 I1 s1 m1 (lN (λGc H t1 t2 mv=>.inl (.inl (mv p _ q hb))) r)⟩⟩
 |tuple l=>
  cases e
  rcases vx with vx | ⟨p,rfl,hb,q⟩
  ·cases vx with
   | @tup p xs _ hq r=>exact⟨p,xs,rfl,.inr ⟨hq.grow I1.sub.grow,k _ G1 H1 I1 s1 m1 (q5 (λGc H t1 t2 _=>hq.grow (t1.trans t2).grow) r)⟩⟩
  ·exact q.elim
 |_=>cases e
def b4 (lo:Int)(n:Nat):List D:=(List.range n).map λ(k:Nat)=>int (lo + k)
def dP (lo:Int)(n:Nat):(b4 lo n).length=n:=by unfold b4;simp
def rV {K:Frag}{B:Option Addr}{G H1:Hp}(lo:Int)(n:Nat):Walk K B G H1 (b4 lo n) (wZ lo n):=λGc H i s1 s2 m=>by
 rw[dP]
 refine⟨λhi=>⟨hi,λx H' y=>?_⟩,λhi=>hi⟩
 obtain⟨rfl,rfl⟩:=y
 refine⟨Gc,.int (lo + i),Ext.refl s2,?_,.int _⟩
 unfold b4
 rw[He,List.getElem?_range hi];rfl
def xG (j:Int):Bool:=Nat.ble j.natAbs 1000000
def k7 {j:Int}(h:xG j=true): -(2 ^ 62)<=j/\j < 2 ^ 62:=by
 have:=Nat.le_of_ble_eq_true h
 omega
def kZ {j:Int}(h: -1000<=j)(h2:j<=10000):xG j=true:=Nat.ble_eq_true_of_le (by omega)
def bz (fa:VF D):VF (List D):=λvs β=>(fa vs β).bnd λx β1=>match x with
 | .int j=>if xG j=true then .ok (b4 0 j.toNat) β1 else .bad
 |_=>.bad
def oH (fa fb:VF D):VF (List D):=λvs β=>(fa vs β).bnd λx β1=>(fb vs β1).bnd λy β2=>match x,y with
 | .int i,.int j=>if (xG i && xG j)=true then .ok (b4 i (j - i).toNat) β2 else .bad
 |_,_=>.bad
theorem gC {p:Pos}(hg:Gl X "range")(hm:X.mg "range"=none)(ha:SE X Γ E a fa La ma)(hs:starEach [a] X.env= [(false,eval a X.env)]:=by rfl)(hs':starEach [a] X.env=(false,eval a X.env) :: starEach [] X.env:=by rfl):SI X Γ E tg (.Call (.Name "range" p) [a] [] pos) (bz fa) La md:=by
 refine PI.post (jz hg hm (aK ha bq hs') hs) λσ H Q ⟨env,G,B,β,I,o⟩=>?_
 refine⟨env,G,B,β,I,o.bnd.imp λd1 β1 h x G1 H1 I1 s1 m1 vx=>?_⟩
 have vx:=vx.brw I.boxThere
 cases d1 with
 |int j=>
  obtain rfl:=vx.int
  dsimp only at h
  by_cases hj:xG j=true
  ·rw[GW hj] at h
   exact⟨j,rfl,(k7 hj).1,(k7 hj).2,h _ G1 H1 I1 s1 m1 (rV 0 _)⟩
  ·rw[G8 hj] at h;exact h.elim
 |_=>exact h.elim
def Ea {p:Pos}(hg:Gl X "range")(hm:X.mg "range"=none)(ha:SE X Γ E a fa La ma)(hb:SE X Γ E b fb Lb mb)(hs:starEach [a,b] X.env= [(false,eval a X.env),(false,eval b X.env)]:=by rfl)(hs2:starEach [b] X.env= [(false,eval b X.env)]:=by rfl)(hs':starEach [a,b] X.env=(false,eval a X.env) :: starEach [b] X.env:=by rfl)(hs3:starEach [b] X.env=(false,eval b X.env) :: starEach [] X.env:=by rfl):SI X Γ E tg (.Call (.Name "range" p) [a,b] [] pos) (oH fa fb) (La ++ Lb) md:=by
 refine PI.post (wU hg hm (aK ha (aK hb bq hs3) hs') hs hs2) λσ H Q ⟨env,G,B,β,I,o⟩=>?_
 refine two (W:=λx y H2=>∃i j:Int,[x,y]= [.int i,.int j]/\(-(2 ^ 62)<=i/\i < 2 ^ 62/\ -(2 ^ 62)<=j/\j < 2 ^ 62)/\Q (wZ i (j - i).toNat) H2) I (o.bnd.imp λd1 β1 h=>h.bnd.imp λd2 β2 h x y G2 H2 I2 s2 m2 bx by'=>?_)
 obtain⟨i,j,rfl,rfl⟩:∃i j,d1=.int i/\d2=.int j:=by
  cases d1 <;> cases d2 <;> first |exact h.elim |exact⟨_,_,rfl,rfl⟩
 obtain rfl:=bx.int
 obtain rfl:=by'.int
 dsimp only at h
 by_cases hj:(xG i && xG j)=true
 ·rw[GW hj] at h
  rw[Hl] at hj
  exact⟨i,j,rfl,⟨(k7 hj.1).1,(k7 hj.1).2,(k7 hj.2).1,(k7 hj.2).2⟩,h _ G2 H2 I2 s2 m2 (rV i _)⟩
 ·rw[G8 hj] at h;exact h.elim
inductive Tg where
 |nm (i:Nat)
 |two (i j:Nat)
def pairD:D->Option (D×D)
 | .tuple [x,y]=>some (x,y)
 |_=>none
def yJ {d x y:D}(h:pairD d=some (x,y)):d=.tuple [x,y]:=by
 unfold pairD at h
 split at h
 ·cases h;rfl
 ·cases h
def dJ:Tg->D->En->Option En
 | .nm i,d,env=>some (env.set i (.fz d))
 | .two i j,d,env=>(pairD d).map λp=>(env.set i (.fz p.1)).set j (.fz p.2)
def nQ:Tg->D->List Nv->Option (List Nv)
 | .nm i,d,vs=>some (vs.set i (.da d))
 | .two i j,d,vs=>(pairD d).map λp=>(vs.set i (.da p.1)).set j (.da p.2)
def uH (env:En)(i:Nat)(s:Sl):vl (env.set i s)=(vl env).set i s.val:=by unfold vl;rw[List.map_set]
theorem Bv (t:Tg)(d:D)(env:En):(dJ t d env).map vl=nQ t d (vl env):=by
 cases t with
 |nm i=>show some (vl _)=some _;rw[uH];rfl
 |two i j=>
  show ((pairD d).map _).map vl=(pairD d).map _
  cases pairD d with
  |none=>rfl
  |some p=>show some (vl _)=some _;rw[uH,uH];rfl
def gT (Γ:Fx)(t:Tg):TG:=λv σ H Q=>∃env G B β d env',SR Γ B G H σ env β/\Rp Γ.K G v d/\dJ t d env=some env'/\∀σ',SR Γ B G H σ' env' β->Q σ' H
def SG (X:Cx)(Γ:Fx)(tg:Expr)(t:Tg):Prop:=PG X tg (gT Γ t)
def PG.post {X:Cx}{tg:Expr}{t u:TG}(h:PG X tg t)(m:∀v σ H Q,u v σ H Q->t v σ H Q):PG X tg u:=λpins s σ H v uu Q I r q=>h pins s σ H v uu Q I r (m v σ H Q q)
def b9 {i:Nat}{x:Str}(hN:X.N.Nodup)(hi:X.N[i]? =some x:=by rfl)(hx:Loc X.env.scope x:=by first |exact Or.inl rfl |exact Or.inr rfl)(hf:X.fn x=true\/X.env.scope.names.lookup x=some .local:=by first |exact .inl rfl |exact .inr rfl |assumption):SG X Γ (.Name x pos) (.nm i):=by
 refine PG.post (cn hN hi hx hf) λv σ H Q ⟨env,G,B,β,d,env',I,r,e,k⟩=>?_
 cases e
 exact k _ (I.set' i r)
theorem lu {i j:Nat}{x y:Str}{px py:Pos}{n:Nat}(hN:X.N.Nodup)(hc:X.calm=true:=by rfl)(hK:X.K=Γ.K:=by rfl)(hi:X.N[i]? =some x:=by rfl)(hj:X.N[j]? =some y:=by rfl)(hx:Loc X.env.scope x:=by first |exact Or.inl rfl |exact Or.inr rfl)(hy:Loc X.env.scope y:=by first |exact Or.inl rfl |exact Or.inr rfl)
  (hf:X.fn x=true\/X.env.scope.names.lookup x=some .local:=by first |exact .inl rfl |exact .inr rfl |assumption) (hf':X.fn y=true\/X.env.scope.names.lookup y=some .local:=by first |exact .inl rfl |exact .inr rfl |assumption):SG X Γ (.Tuple [.Name x px,.Name y py] n pos) (.two i j):=by
 refine PG.post (nG (n:=2) hc (cO (cn hN hi hx hf) (cO (cn hN hj hy hf') ky))) λv σ H Q ⟨env,G,B,β,d,env',I,r,e,k⟩=>?_
 rw[hK]
 have e:(pairD d).map (λp=>(env.set i (.fz p.1)).set j (.fz p.2))=some env':=e
 cases q:pairD d with
 |none=>rw[q] at e;cases e
 |some p=>
  obtain⟨dx,dy⟩:=p
  rw[q] at e
  cases e
  obtain rfl:=yJ q
  cases r with
  | @tup p xs _ hq r=>
   cases r with
   |cons r1 r=>
    cases r with
    |cons r2 r=>
     cases r
     exact⟨p,_,rfl,hq.grow I.sub.grow,rfl,_,_,rfl,_,_,rfl,rfl,k _ ((I.set' i r1).set' j r2)⟩
def qd (t:Tg)(m:SF):List D->SF
 | []=>λenv β=>.nx env β
 |d :: ds=>λenv β=>match dJ t d env with
  |none=>.bad
  |some env1=>match m env1 β with
   | .nx env2 β2=>qd t m ds env2 β2
   | .ct env2 β2=>qd t m ds env2 β2
   | .bk env2 β2=>.nx env2 β2
   |r=>r
def dh (t:Tg)(L:List Nat)(fi:VF (List D))(m:SF):SF:=λenv β=>toS (fi (vl env) β) λds β'=>qd t m ds (a7 L env) β'
def fy {t:Tg}{fi:VF (List D)}{x:List Stmt}(hp:PassesOwn (model X.prog X.w) X.A X.env X.xe)(hc:X.calm=true)(hi:SI X Γ E tg e fi L .v)(hg:SG X Γ tg t)(hb:z7 X Γ E x m)(hs:∀x,foldedSetIterable e X.env x=pure x:=by intro _;rfl):SS X Γ E (.For tg e x [] pos) (dh t L fi m):=by
 refine PS.post (qE hp hc hi hg hb hs) λN σ H ⟨env,G,B,β,I,o⟩=>?_
 refine⟨env,G,B,β,I,cE o λds β' q J G' H' I' s' m' w=>?_⟩
 have w:Walk Γ.K B G' (λ_=>none) ds J:=w
 refine⟨λi n σ H=>n=ds.length - i/\i<=ds.length/\∃env G1 B β,SR Γ B G1 H σ env β/\ah G' G1/\oy Γ E G1 N (qd t m (ds.drop i) env β),⟨ds.length,by simp,HK _,a7 L env,G',B,β',I',ah.refl _,by rw[List.drop_zero];exact oy.weak q s'⟩,?_⟩
 rintro i n σ H ⟨rfl,hi,env,G1,B1,β1,I1,s1,q⟩
 obtain⟨w1,w2⟩:=w G1 H i s1 I1.sub λb o e=>by cases e
 by_cases hlt:i < ds.length
 ·obtain⟨go,yl⟩:=w1 hlt
  refine .inr ⟨go,λσ H=>∃env G2 B β,SR Γ B G2 H σ env β/\ah G' G2/\oy Γ E G2 N (qd t m (ds.drop (i + 1)) env β),λσ2 H2 h=>⟨ds.length - (i + 1),by omega,rfl,hlt,h⟩,λx H2 y=>?_⟩
  obtain⟨G2,d,x2,ed,rd⟩:=yl x H2 y
  have I2:=I1.ext x2
  have q:=oy.weak q x2.gg
  rw[List.drop_eq_getElem_cons hlt] at q
  have ed':ds[i]=d:=by rw[GU hlt] at ed;exact Option.some.inj ed
  rw[ed'] at q
  unfold qd at q
  cases eb:dJ t d env with
  |none=>rw[eb] at q;exact q.elim
  |some env1=>
   rw[eb] at q
   refine⟨env,G2,B1,β1,d,env1,I2,rd,eb,λσ3 I3=>⟨env1,G2,B1,β1,I3,?_⟩⟩
   have s2:=s1.trans x2.gg
   dsimp only at q
   cases r:m env1 β1 with
   |nx env2 β2=>rw[r] at q;exact λB2 G3 H3 σ2 I2 s3=>⟨env2,G3,B2,β2,I2,s2.trans s3,oy.weak q s3⟩
   |ct env2 β2=>rw[r] at q;exact λB2 G3 H3 σ2 I2 s3=>⟨env2,G3,B2,β2,I2,s2.trans s3,oy.weak q s3⟩
   |bk env2 β2=>rw[r] at q;exact λB2 G3 H3 σ2 I2 s3=>q B2 G3 H3 σ2 I2 s3
   |rt d fr β2=>rw[r] at q;exact q
   |exc c=>rw[r] at q;exact q
   |bad=>rw[r] at q;exact q
 ·have e:i=ds.length:=by omega
  subst e
  rw[List.drop_length] at q
  exact .inl ⟨w2 (GZ _),q B1 G1 H σ I1 (ah.refl _)⟩
end
abbrev Fx.g8 (Γ:Fx)(H0 G0:Hp)(par:List Addr)(br:Nat->Bool)(bx:Option Addr):Fx:=⟨Γ.K,H0,G0,par,Γ.ca,br,bx⟩
def fA (own:Nat)(ixs:List Nat)(vs:List Nv):List Nv:=List.replicate own .no ++ ixs.map λi=>(vs[i]?).getD .no
def DR:Option Sl->Sl
 |some (.ow d)=>.br d
 |some s=>s
 |none=>.no
def benv (own:Nat)(ixs:List Nat)(env:En):En:=List.replicate own .no ++ ixs.map λi=>DR env[i]?
theorem AL (o:Option Sl):(DR o).val=(o.map Sl.val).getD .no:=by
 cases o with
 |none=>rfl
 |some s=>cases s <;> rfl
def Br (own:Nat)(ixs:List Nat)(env:En):vl (benv own ixs env)=fA own ixs (vl env):=by
 unfold vl benv fA
 rw[Il,List.map_replicate,Ih]
 congr 1
 refine IM λi _=>?_
 show (DR env[i]?).val=_
 rw[AL,He]
def tI (env:En):Prop:=∀(i:Nat) (d:D),env[i]?≠some (.ow d)
theorem sV {env:En}(h:tI env)(L:List Nat):a7 L env=env:=by
 unfold a7
 induction L with
 |nil=>rfl
 |cons i L ih=>
  rw[IY]
  have:ij env i=env:=by
   unfold ij
   split
   ·rename_i d e;exact absurd e (h i d)
   ·rfl
  rw[this];exact ih
def ph (own:Nat)(ixs:List Nat)(env:En):tI (benv own ixs env):=λi d e=>by
 unfold benv at e
 have hm:=Hi e
 rcases Hu.mp hm with h |h
 ·have:=JD h;cases this
 ·obtain⟨k,_,hk⟩:=Ha.mp h
  cases q:env[k]? with
  |none=>rw[q] at hk;cases hk
  |some s=>rw[q] at hk;cases s <;> cases hk
def nD {env:En}(h:tI env)(i:Nat)(d:D):tI (env.set i (.fz d)):=λj d' e=>by
 by_cases z:i=j
 ·subst z
  by_cases hi:i < env.length
  ·rw[Hq hi] at e;cases e
  ·rw[IH (by omega)] at e;exact h _ _ e
 ·rw[Hm z] at e;exact h _ _ e
theorem wY {env env1:En}{t:Tg}{d:D}(h:tI env)(e:dJ t d env=some env1):tI env1:=by
 cases t with
 |nm i=>cases e;exact nD h i d
 |two i j=>
  have e:(pairD d).map _=some env1:=e
  cases q:pairD d with
  |none=>rw[q] at e;cases e
  |some p=>rw[q] at e;cases e;exact nD (nD h _ _) _ _
theorem wO {env env1:En}{t:Tg}{d:D}(e:dJ t d env=some env1)(d':D):dJ t d' env1=dJ t d' env:=by
 cases t with
 |nm i=>cases e;show some _=some _;rw[set_set]
 |two i j=>
  have e:(pairD d).map _=some env1:=e
  cases q:pairD d with
  |none=>rw[q] at e;cases e
  |some p=>
   rw[q] at e;cases e
   show (pairD d').map _=(pairD d').map _
   cases pairD d' with
   |none=>rfl
   |some p'=>
    show some _=some _
    congr 1
    dsimp only
    by_cases z:i=j
    ·subst z;simp[set_set]
    ·rw[List.set_comm _ _ (Ne.symm z),set_set,set_set]
def Ext.mov {G H G' H':Hp}(x:Ext G H G' H')(B:Option Addr):gN B H H':=x.hh.mov B
section
variable {Γ:Fx}{B:Option Addr}{G H G1 H1 Gc Hc:Hp}{σ σ':St}{env envb:En}{β β':Int}{own:Nat}{ixs:List Nat}{Da:Addr}{acc:List V}
def tO (envb:En):Nat->Bool:=λj=>match envb[j]? with
 |some (.br _)=>true
 |_=>false
def SR.block (I:SR Γ B G H σ env β)(own:Nat)(ixs:List Nat)(hD:H Da=none):SR (Γ.g8 (upd H Da (.lst [])) G (Da :: B.toList) (tO (benv own ixs env)) B) B G (upd H Da (.lst [])) (qO own ixs σ) (benv own ixs env) β:=by
 obtain⟨q1,q2,q3,q4⟩:=I.fresh hD
 have nB:∀b,B=some b->b≠Da:=λb e z=>q3 (by rw[<-z];exact e)
 refine⟨I.sub.trans (ah.new hD),ah.refl _,λb _ h=>h,λb o h _=>h,λb hb=>?_,λb e=>e,λb e=>?_,?_,λi s e=>?_,λi j c d d' e=>absurd e (ph own ixs env i d)⟩
 ·rcases G7.mp hb with z |z
  ·subst z;exact Mx.lst av
  ·have z':B=some b:=by simpa using z
   exact Mx.lst (by rw[au (nB b z')];exact (I.box b z').1)
 ·obtain⟨h1,h2,_⟩:=I.box b e
  exact⟨by rw[au (nB b e)];exact h1,h2,.inl (GY _ (by simpa using e))⟩
 ·unfold qO benv;simp
 ·by_cases hi:i < own
  ·unfold benv at e
   rw[HL (by simpa using hi),Iy,GW hi] at e
   cases e;trivial
  ·have e0:=e
   unfold benv at e
   rw[HH (by simpa using hi),IW,He] at e
   cases ek:ixs[i - own]? with
   |none=>rw[ek] at e;cases e
   |some k=>
    rw[ek] at e
    have e:DR env[k]? =s:=Option.some.inj e
    have es:(qO own ixs σ)[i]? =some ((σ[k]?).join):=by
     unfold qO
     rw[HH (by simpa using hi),IW,He,ek];rfl
    rw[es]
    cases q:env[k]? with
    |none=>rw[q] at e;subst e;trivial
    |some t=>
     rw[q] at e
     have w:=I.slot k t q
     cases t with
     |no=>subst e;trivial
     |fz d=>subst e;obtain⟨v,h1,h2⟩:=w;exact⟨v,by rw[h1];rfl,h2⟩
     |bx=>subst e;obtain⟨a,h1,h2⟩:=w;exact⟨a,by rw[h1];rfl,h2⟩
     |ow d=>
      subst e
      obtain⟨a,h1,h2,h3,h4,h5⟩:=w
      obtain⟨o,ho⟩:=h5.obj
      have aD:a≠Da:=aB ho hD
      refine⟨by show tO _ i=true;unfold tO;rw[e0];rfl,a,by rw[h1];rfl,h4,?_,h5.mono (ah.refl _) λo q=>by rw[au aD];exact q⟩
      intro hm
      rcases G7.mp hm with z |z
      ·exact aD z
      ·exact h4 (by simpa using z)
     |br d=>
      subst e
      obtain⟨b1,a,h1,h4,hp,h5⟩:=w
      obtain⟨o,ho⟩:=h5.obj
      have aD:a≠Da:=aB ho hD
      refine⟨by show tO _ i=true;unfold tO;rw[e0];rfl,a,by rw[h1];rfl,h4,?_,h5.mono (ah.refl _) λo q=>by rw[au aD];exact q⟩
      intro hm
      rcases G7.mp hm with z |z
      ·exact aD z
      ·exact h4 (by simpa using z)
def SR.unblock (I:SR Γ B G H σ env β){br:Nat->Bool}(hD:H Da=none)(J:SR (Γ.g8 (upd H Da (.lst [])) G (Da :: B.toList) br B) B Gc Hc σ' envb β'):SR Γ B Gc Hc σ env β'/\gN B H Hc/\Gc Da=none:=by
 obtain⟨q1,q2,q3,q4⟩:=I.fresh hD
 have up:∀{b:Addr},Mx H b->Mx (upd H Da (.lst [])) b:=λ{b} h=>h.same λo e=>by rw[au (aB e hD)];exact e
 have mv:gN B H Hc:=λb o e n=>J.keep b o (show upd H Da (.lst []) b=some o by rw[au (aB e hD)];exact e) λhm=>by
  rcases G7.mp hm with z |z
  ·rw[z,hD] at e;cases e
  ·exact n (by simpa using z)
 refine⟨⟨J.sub,I.old.trans J.old,λb h1 h2=>J.new b (up (I.thereM h1)) (I.new b h1 h2),λb o h1 h2=>mv b o (I.keep b o h1 h2) λz=>?_,λb hb=>J.thereM (up (I.pin b hb)),I.fix,λb e=>?_,I.len,λi s e=>?_,I.sep⟩,mv,J.new Da (Mx.lst (show upd H Da (.lst []) Da=some (.lst []) from av)) q2⟩
 ·obtain⟨_,_,h3⟩:=I.box b z
  rcases h3 with h3 |h3
  ·exact h2 h3
  ·rw[h1] at h3;cases h3
 ·obtain⟨j1,j2,_⟩:=J.box b e
  exact⟨j1,j2,(I.box b e).2.2⟩
 ·have w:=I.slot i s e
  cases s with
  |no=>trivial
  |fz d=>obtain⟨v,h1,h2⟩:=w;exact⟨v,h1,h2.mono J.old⟩
  |bx=>exact w
  |ow d=>
   obtain⟨a,h1,h2,h3,h4,h5⟩:=w
   exact⟨a,h1,h2,J.new a (up h5.mx) h3,h4,h5.mono J.old λo q=>mv a o q h4⟩
  |br d=>
   obtain⟨b1,a,h1,h4,hp,h5⟩:=w
   exact⟨b1,a,h1,h4,hp,h5.mono J.old λo q=>mv a o q h4⟩
def SR.updD {ys:List V}(J:SR Γ B G H σ env β)(hp:Da∈Γ.par)(h0:Mx Γ.H0 Da)(g0:Γ.G0 Da=none)(hB:B≠some Da):SR Γ B G (upd H Da (.lst ys)) σ env β:=by
 have gD:=J.new Da h0 g0
 refine⟨λb u q=>by rw[au (λz=>by rw[z,gD] at q;cases q)];exact J.sub b u q,J.old,J.new,λb u q n=>by rw[au (λz=>n (by rw[z];exact hp))];exact J.keep b u q n,λb hb=>?_,J.fix,λb e=>?_,J.len,λi s e=>?_,J.sep⟩
 ·by_cases z:b=Da
  ·subst z;exact Mx.lst av
  ·exact (J.pin b hb).same λo e=>by rw[au z];exact e
 ·obtain⟨h1,h2⟩:=J.box b e
  exact⟨by rw[au (λz=>hB (by rw[<-z];exact e))];exact h1,h2⟩
 ·have w:=J.slot i s e
  cases s with
  |no=>trivial
  |fz d=>exact w
  |bx=>exact w
  |ow d=>
   obtain⟨a,h1,h2,h3,h4,h5⟩:=w
   have aD:a≠Da:=λz=>h0.1 (by rw[<-z];exact h2)
   exact⟨a,h1,h2,h3,h4,h5.mono (ah.refl _) λo q=>by rw[au aD];exact q⟩
  |br d=>
   obtain⟨b1,a,h1,h4,hpa,h5⟩:=w
   have aD:a≠Da:=λz=>hpa (by rw[z];exact hp)
   exact⟨b1,a,h1,h4,hpa,h5.mono (ah.refl _) λo q=>by rw[au aD];exact q⟩
end
def R.okb {α γ:Type}(r:R α)(k:α->Int->R γ):R γ:=match r with
 | .ok a β=>k a β
 |_=>.bad
def fm (t:Tg)(ft:VF Bool)(fe:VF D)(vs:List Nv):List D->Int->R (List D)
 | [],β=>.ok [] β
 |d :: ds,β=>match nQ t d vs with
  |none=>.bad
  |some vs1=>(ft vs1 β).okb λc β1=>if c=true then (fe vs1 β1).okb λx β2=>(fm t ft fe vs ds β2).okb λxs β3=>.ok (x :: xs) β3 else fm t ft fe vs ds β1
def aL (own:Nat)(ixs:List Nat)(t:Tg)(fi:VF (List D))(ft:VF Bool)(fe:VF D):VF D:=λvs β=>(fi vs β).bnd λds β1=>if ds.length<=sizeLine then (fm t ft fe (fA own ixs vs) ds β1).okb λxs β2=>.ok (.list xs) β2 else .bad
def mn:VF Bool:=λ_ β=>.ok true β
def BS (own:Nat)(ixs Lc:List Nat)(j:Nat):Bool:=decide (j < own) || (match ixs[j - own]? with
 |some i=>Lc.contains i
 |none=>false)
theorem Bm {α γ:Type}{Γ:Fx}{E:XK}{r:R α}{k:α->Int->R γ}{P:γ->Int->Prop}(h:Out Γ E (r.okb k) P):∃a β,r=.ok a β/\Out Γ E (k a β) P:=by
 cases r with
 |ok a β=>exact⟨a,β,rfl,h⟩
 |exc c=>exact h.elim
 |bad=>exact h.elim
section
variable {X:Cx}{Γ:Fx}{E:XK}{tg iter elt:Expr}{ifs:List Expr}{scope:Scope}{NB:List Str}{own:Nat}{ixs Li Lc Lt Le:List Nat}{t:Tg}{fi:VF (List D)}{ft:VF Bool}{fe:VF D}{pos:Pos}
def gM {X:Cx}{Γ:Fx}{E:XK}:zo X [] (qT Γ E mn []):=λpins s σ H Q I ⟨env,G,B,β,J,o⟩=>pS pins s σ H Q I (o G H J (ah.refl _) (gN.refl _ _))
def fO {X:Cx}{Γ:Fx}{E:XK}{c:Expr}{ta:VF Bool}{L:List Nat}(h:xD X Γ E c ta L):zo X [c] (qT Γ E ta L):=vD h
def sC {NB:List Str}{scope:Scope}{C:Addr}{ex:List Addr}{s3:Shared}{H3:Hp}{pn:List (Addr×Obj)}{P:Program}{w:World}:Passes (lW P w) (g8 X NB scope C ex s3 H3 pn) E0:=λpins σ H s e s' I h=>by
 obtain⟨_,_,_,_,_,_,_,_,_,q⟩:=h
 exact q.elim
abbrev gU (Γ:Fx)(t:Tg):TG:=λv σ H Q=>∃H0 G0 par br bx,gT (Γ.g8 H0 G0 par br bx) t v σ H Q
abbrev tU (Γ:Fx)(own:Nat)(ixs Lc:List Nat)(ft:VF Bool)(Lt:List Nat):TT:=λσ H Q=>∃H0 G0 par br bx,(∀j,BS own ixs Lc j=true->br j=false)/\qT (Γ.g8 H0 G0 par br bx) E0 ft Lt σ H Q
abbrev eU (Γ:Fx)(own:Nat)(ixs Lc:List Nat)(fe:VF D)(Le:List Nat):TE:=λσ H Q=>∃H0 G0 par br bx,(∀j,BS own ixs Lc j=true->br j=false)/\pT (Γ.g8 H0 G0 par br bx) E0 fe Le .v σ H Q
def BW {σ:St}{H:Hp}{Q:VK}(hLc:∀i,i∈Lc->Γ.br i=false)(h:pT Γ E (aL own ixs t fi ft fe) (Li ++ Lc) .w σ H Q):uF own ixs (iT Γ E fi Li .b) (gU Γ t) (tU Γ own ixs Lc ft Lt) (eU Γ own ixs Lc fe Le) σ H Q:=by
 obtain⟨env,G,B,β,I,o⟩:=h
 refine⟨env,G,B,β,I,o.bnd.imp λds β1 h J G1 H1 I1 s1 m1 wk Da hD=>?_⟩
 have wk:Walk Γ.K B G1 H1 ds J:=wk
 by_cases hz:ds.length<=sizeLine
 case neg=>rw[G8 hz] at h;exact h.elim
 rw[GW hz] at h
 obtain⟨xs0,β0,e0,h⟩:=Bm h
 have h:∀v G' H',SR Γ B G' H' σ (a7 (Li ++ Lc) env) β0->ah G G'->gN B H H'->VO Γ.K B H G' H' .w (.list xs0) v->Q v H':=h
 obtain⟨G2,I2,s2⟩:=I1.a7 Lc hLc
 rw[<-cM] at I2
 obtain⟨q1,q2,q3,q4⟩:=I2.fresh hD
 have Ib0:=I2.block own ixs hD
 generalize hbr:tO (benv own ixs (a7 (Li ++ Lc) env))=br at Ib0
 have hbo:∀j,BS own ixs Lc j=true->br j=false:=by
  intro j hj
  rw[<-hbr]
  unfold tO
  split
  ·rename_i d e
   exfalso
   unfold benv at e
   by_cases hjo:j < own
   ·rw[HL (by simpa using hjo),Iy,GW hjo] at e;cases e
   ·rw[HH (by simpa using hjo),IW,He] at e
    unfold BS at hj
    rw[Hh hjo,Bool.false_or] at hj
    cases ek:ixs[j - own]? with
    |none=>rw[ek] at hj;cases hj
    |some k=>
     rw[ek] at hj e
     have hk:k∈Lc:=by simpa using hj
     have e:DR (a7 (Li ++ Lc) env)[k]? =.br d:=Option.some.inj e
     cases q:(a7 (Li ++ Lc) env)[k]? with
     |none=>rw[q] at e;cases e
     |some s=>
      rw[q] at e
      cases s with
      |no=>cases e
      |fz _=>cases e
      |bx=>cases e
      |br d'=>
       obtain⟨b1,_⟩:=I2.slot k _ q
       rw[hLc k hk] at b1;cases b1
      |ow d'=>
       rw[cM] at q
       have key:∀(M:List Nat) (en:En),k∈M->∀d',(a7 M en)[k]?≠some (.ow d'):=by
        intro M
        induction M with
        |nil=>intro en hm;cases hm
        |cons i M ih=>
         intro en hm d' z
         rcases G7.mp hm with y |y
         ·subst y
          have z1:(ij en k)[k]? =some (.ow d'):=qy (L:=M) z
          have z2:=u9 z1
          unfold ij at z1
          rw[z2] at z1
          dsimp only at z1
          rw[Hq (Hs.mp z2).1] at z1;cases z1
         ·exact ih (ij en i) y d' z
       exact key Lc _ hk d' q
  ·rfl
 have evb:vl (benv own ixs (a7 (Li ++ Lc) env))=fA own ixs (vl env):=by rw[Br,gP]
 refine⟨λi n σ' H'=>n=ds.length - i/\i<=ds.length/\∃envb Gc β' acc accd,SR (Γ.g8 (upd H1 Da (.lst [])) G2 (Da :: B.toList) br B) B Gc H' σ' envb β'/\(envb=benv own ixs (a7 (Li ++ Lc) env)\/∃d,dJ t d (benv own ixs (a7 (Li ++ Lc) env))=some envb)/\
   H' Da=some (.lst acc)/\ck Γ.K Gc acc accd/\accd.length<=i/\∃xs,fm t ft fe (fA own ixs (vl env)) (ds.drop i) β'=.ok xs β0/\accd ++ xs=xs0,
  ⟨ds.length,by simp,HK _,_,G2,β1,[],[],Ib0,.inl rfl,av,.nil,HK _,xs0,by rw[List.drop_zero];exact e0,rfl⟩,?_⟩
 rintro i n σ' H' ⟨rfl,hi',envb,Gc,β',acc,accd,Ib,eb,hacc,racc,lacc,xs,ec,exs⟩
 obtain⟨Io,mv,gD⟩:=I2.unblock hD Ib
 obtain⟨w1,w2⟩:=wk Gc H' i (s2.trans Ib.old) Ib.sub mv
 by_cases hlt:i < ds.length
 ·obtain⟨go,yl⟩:=w1 hlt
  refine .inr ⟨go,λσ' H'=>∃envb Gc β' acc accd,SR (Γ.g8 (upd H1 Da (.lst [])) G2 (Da :: B.toList) br B) B Gc H' σ' envb β'/\(envb=benv own ixs (a7 (Li ++ Lc) env)\/∃d,dJ t d (benv own ixs (a7 (Li ++ Lc) env))=some envb)/\
   H' Da=some (.lst acc)/\ck Γ.K Gc acc accd/\accd.length<=i + 1/\∃xs,fm t ft fe (fA own ixs (vl env)) (ds.drop (i + 1)) β'=.ok xs β0/\accd ++ xs=xs0,λσ2 H2 hh=>⟨ds.length - (i + 1),by omega,rfl,hlt,hh⟩,λx H2 y=>?_⟩
  obtain⟨G3,d,x3,ed,rd⟩:=yl x H2 y
  have I3:=Ib.ext x3
  have ed':ds[i]=d:=by rw[GU hlt] at ed;exact Option.some.inj ed
  rw[List.drop_eq_getElem_cons hlt,ed'] at ec
  unfold fm at ec
  cases ebv:nQ t d (fA own ixs (vl env)) with
  |none=>rw[ebv] at ec;cases ec
  |some vs1=>
   rw[ebv] at ec
   dsimp only at ec
   obtain⟨env1,eb1,ev1⟩:∃env1,dJ t d (benv own ixs (a7 (Li ++ Lc) env))=some env1/\vl env1=vs1:=by
    have:=Bv t d (benv own ixs (a7 (Li ++ Lc) env))
    rw[evb,ebv] at this
    cases q:dJ t d (benv own ixs (a7 (Li ++ Lc) env)) with
    |none=>rw[q] at this;cases this
    |some env1=>rw[q] at this;exact⟨env1,rfl,Option.some.inj this⟩
   have eb2:dJ t d envb=some env1:=by
    rcases eb with rfl | ⟨d0,eb⟩
    ·exact eb1
    ·rw[wO eb];exact eb1
   have no1:tI env1:=wY (ph _ _ _) eb1
   have a2:H2 Da=some (.lst acc):=x3.hh _ _ hacc
   refine⟨_,_,_,_,_,envb,G3,B,β',d,env1,I3,rd,eb2,λσ3 I4=>?_⟩
   refine⟨_,_,_,_,_,hbo,env1,G3,B,β',I4,?_⟩
   rw[ev1]
   cases et:ft vs1 β' with
   |exc c=>rw[et] at ec;cases ec
   |bad=>rw[et] at ec;cases ec
   |ok c β2=>
    rw[et] at ec
    intro G4 H4 I5 s4 m4
    rw[sV no1] at I5
    have a4:H4 Da=some (.lst acc):=m4 _ _ a2 q3
    cases c with
    |false=>
     refine rl ⟨env1,G4,β2,acc,accd,I5,.inr ⟨d,eb1⟩,a4,racc.mono (x3.gg.trans s4),by omega,xs,?_,exs⟩
     exact ec
    |true=>
     refine rH ⟨_,_,_,_,_,hbo,env1,G4,B,β2,I5,?_⟩
     rw[ev1]
     have ec:((fe vs1 β2).okb λx β3=>(fm t ft fe (fA own ixs (vl env)) (ds.drop (i + 1)) β3).okb λxs β4=>R.ok (x :: xs) β4)=R.ok xs β0:=ec
     cases ee:fe vs1 β2 with
     |exc c=>rw[ee] at ec;cases ec
     |bad=>rw[ee] at ec;cases ec
     |ok dx β3=>
      rw[ee] at ec
      intro v G5 H5 I6 s5 m5 vo
      rw[sV no1] at I6
      have a5:H5 Da=some (.lst acc):=m5 _ _ a4 q3
      have ec:((fm t ft fe (fA own ixs (vl env)) (ds.drop (i + 1)) β3).okb λxs β4=>R.ok (dx :: xs) β4)=R.ok xs β0:=ec
      cases er:fm t ft fe (fA own ixs (vl env)) (ds.drop (i + 1)) β3 with
      |exc c=>rw[er] at ec;cases ec
      |bad=>rw[er] at ec;cases ec
      |ok ys β4=>
       rw[er] at ec
       cases ec
       refine⟨acc,a5,by rw[racc.len];omega,env1,G5,β3,acc ++ [v],accd ++ [dx],?_,.inr ⟨d,eb1⟩,av,(racc.mono ((x3.gg.trans s4).trans s5)).snoc vo,by rw[HN];simp;omega,ys,er,by rw[<-exs,IA];rfl⟩
       refine I6.updD (G6 ..) (Mx.lst (show upd H1 Da (.lst []) Da=some (.lst []) from av)) (I2.sub.free hD) q3
 ·have e:i=ds.length:=by omega
  subst e
  rw[List.drop_length] at ec
  cases ec
  rw[IV] at exs
  subst exs
  refine .inl ⟨w2 (GZ _),⟨acc,hacc⟩,h _ Gc H' Io ((s1.trans s2).trans Ib.old) (m1.trans mv) ⟨Da,rfl,fR m1 I1.boxThere hD,gD,acc,hacc,racc⟩⟩
def bU (hg:∀H0 G0 par br bx C ex s3 H3 pn,SG (g8 X NB scope C ex s3 H3 pn) (Γ.g8 H0 G0 par br bx) tg t)(C:Addr)(ex:List Addr)(s3:Shared)(H3:Hp)(pn:List (Addr×Obj)):PG (g8 X NB scope C ex s3 H3 pn) tg (gU Γ t):=by
 rintro pins s σ H v u Q I r ⟨H0,G0,par,br,bx,q⟩
 exact hg H0 G0 par br bx C ex s3 H3 pn pins s σ H v u Q I r q
def du (Lc:List Nat)(hc:X.calm=true)(S:cI X NB own ixs scope)(hLc:∀i,i∈Lc->Γ.br i=false)(hi:SI X Γ E tg iter fi Li .b)
  (hg:∀H0 G0 par br bx C ex s3 H3 pn,SG (g8 X NB scope C ex s3 H3 pn) (Γ.g8 H0 G0 par br bx) tg t)
  (ht:∀H0 G0 par br bx C ex s3 H3 pn,(∀j,BS own ixs Lc j=true->br j=false)->zo (g8 X NB scope C ex s3 H3 pn) ifs (qT (Γ.g8 H0 G0 par br bx) E0 ft Lt))
  (he:∀H0 G0 par br bx C ex s3 H3 pn,(∀j,BS own ixs Lc j=true->br j=false)->SE (g8 X NB scope C ex s3 H3 pn) (Γ.g8 H0 G0 par br bx) E0 elt fe Le .v)
  (hs:∀x,foldedSetIterable iter X.env x=pure x:=by intro _;rfl) :
  SE X Γ E (.ListComp elt [⟨tg,iter,ifs,0⟩] scope pos) (aL own ixs t fi ft fe) (Li ++ Lc) .w:=by
 refine PE.post' (sx (g:=gU Γ t) (tt:=tU Γ own ixs Lc ft Lt) (te:=eU Γ own ixs Lc fe Le) hc S hi (bU hg) (λC ex s3 H3 pn=>?_) (λC ex s3 H3 pn=>?_) hs) λσ H Q h=>BW hLc h
 ·rintro pins s σ H Q I ⟨H0,G0,par,br,bx,b,q⟩
  exact ht H0 G0 par br bx C ex s3 H3 pn b pins s σ H Q I q
 ·rintro pins s σ H Q I ⟨H0,G0,par,br,bx,b,q⟩
  exact he H0 G0 par br bx C ex s3 H3 pn b pins s σ H Q I q
def jF {i:Nat}{y:Str}{py spos:Pos}(Lc:List Nat)(hc:X.calm=true)(S:cI X NB own ixs scope)(hLc:∀i,i∈Lc->Γ.br i=false)(hi:SI X Γ E tg iter fi Li .b)
  (hg:∀H0 G0 par br bx C ex s3 H3 pn,SG (g8 X NB scope C ex s3 H3 pn) (Γ.g8 H0 G0 par br bx) tg t)
  (ht:∀H0 G0 par br bx C ex s3 H3 pn,(∀j,BS own ixs Lc j=true->br j=false)->zo (g8 X NB scope C ex s3 H3 pn) ifs (qT (Γ.g8 H0 G0 par br bx) E0 ft Lt))
  (he:∀H0 G0 par br bx C ex s3 H3 pn,(∀j,BS own ixs Lc j=true->br j=false)->SE (g8 X NB scope C ex s3 H3 pn) (Γ.g8 H0 G0 par br bx) E0 elt fe Le .v)
  (hN:X.N.Nodup) (hy:X.N[i]? =some y:=by rfl) (hl:X.env.scope.names.lookup y=some .local:=by rfl)
  (hsw:swapsWith (.ListComp elt [⟨tg,iter,ifs,0⟩] scope pos) (some (.Name y py)) spos.line X.env=pure true:=by rfl)
  (hs:∀x,foldedSetIterable iter X.env x=pure x:=by intro _;rfl) :
  SS X Γ E (.Assign [.Name y py] (.ListComp elt [⟨tg,iter,ifs,0⟩] scope pos) spos) (a9 i (Li ++ Lc) (aL own ixs t fi ft fe)):=by
 refine PS.post (yt (g:=gU Γ t) (tt:=tU Γ own ixs Lc ft Lt) (te:=eU Γ own ixs Lc fe Le) hc S hi (bU hg) (λC ex s3 H3 pn=>?_) (λC ex s3 H3 pn=>?_) hN hy hl hsw hs) λN σ H ⟨env,G,B,β,I,o⟩=>?_
 ·rintro pins s σ H Q I ⟨H0,G0,par,br,bx,b,q⟩
  exact ht H0 G0 par br bx C ex s3 H3 pn b pins s σ H Q I q
 ·rintro pins s σ H Q I ⟨H0,G0,par,br,bx,b,q⟩
  exact he H0 G0 par br bx C ex s3 H3 pn b pins s σ H Q I q
 refine BW hLc ⟨env,G,B,β,I,cE o λd β' k v G' H' I' s' m' vo=>?_⟩
 obtain⟨G2,I2,s2,r⟩:=I.letW I' vo
 exact k B G2 H' _ (I2.set' i r) (s'.trans s2)
end
def fin:SO->FR
 | .nx _ _=>.ok .none false
 | .rt d fr _=>.ok d fr
 | .exc c=>.exc c
 |_=>.bad
def xf (n:Nat)(ds:List D):En:=ds.map Sl.fz ++ List.replicate (n - ds.length) .no
def bb (n p:Nat)(m:SF):List D->FR:=λds=>if ds.length=p then fin (m (xf n ds) 0) else .bad
abbrev Fx.fn (K:Frag)(H G:Hp)(ca:Str->Addr):Fx:=⟨K,H,G,[],ca,λ_=>false,none⟩
def SR.start {K:Frag}{H G:Hp}{ca:Str->Addr}{N:List Str}{vs:List V}{ds:List D}(s:ah G H)(r:ck K G vs ds)(hn:ds.length<=N.length):SR (Fx.fn K H G ca) none G H (start N vs) (xf N.length ds) 0:=by
 have hl:=r.len
 refine⟨s,ah.refl _,λb _ h=>h,λb o h _=>h,λb h=>(by cases h),λb h=>(by cases h),λb h=>(by cases h),?_,λi t e=>?_,λi j a d e h=>?_⟩
 ·unfold L2.start xf;simp;omega
 ·unfold xf at e
  by_cases hi:i < ds.length
  ·rw[HL (by simpa using hi),He,GU hi] at e
   cases e
   obtain⟨x,hx,rx⟩:=r.at (GU hi)
   refine⟨x,?_,rx⟩
   unfold L2.start
   rw[HL (by simpa[hl] using hi),He,hx];rfl
  ·rw[HH (by simpa using hi),Iy] at e
   split at e
   ·cases e;trivial
   ·cases e
 ·unfold xf at h
  have hm:=Hi h
  rcases Hu.mp hm with z |z
  ·obtain⟨_,_,z⟩:=Ha.mp z;cases z
  ·have:=JD z;cases this
section
variable {P:Program}{w:World}{K:Frag}{mg:Str->Option Value}{base:Heap}{ca:Str->Addr}
def aX {x qual:Str}{st:Stmt}{f:Addr}{fd:FuncData}{N ps:List Str}{k:Nat}{m:SF}(F:z0 K x qual st f fd)(S:aH N ps (ar st))
  (hbody:∀(cdv:Value) (A:Around) (outer:List Env) (s:Shared) (H G:Hp) (E:XK),dk k (A.deeper (envOfC qual (ar st) s.heap.objs.size f cdv))->z7 (jK (lW P w) P w K mg base N qual (ar st) f cdv A outer s H E) (Fx.fn K H G ca) E (cq st) m) :
  fo P w K mg base (lW P w) (k + 1) f fd ps (z8 K ca ps.length (bb N.length ps.length m)):=by
 have hpn:ps.length<=N.length:=by have:=congrArg List.length S.pre;rw[Ir] at this;omega
 refine F.xG S (λvs H Q E h=>?_) (λcdv A outer s H vs Q E hr h=>?_)
 ·obtain⟨G,ds,sG,hl,r,_⟩:=h
  rw[r.len];exact hl
 ·obtain⟨G,ds,sG,hl,r,h⟩:=h
  refine⟨_,hbody cdv A outer s H G E hr,?_⟩
  have I:=SR.start (ca:=ca) (N:=N) sG r (by omega)
  refine⟨_,G,none,0,I,?_⟩
  unfold bb at h
  rw[GW hl] at h
  have fin':∀{B G' H' σ env β},SR (Fx.fn K H G ca) B G' H' σ env β->ah H H':=λJ b o e=>J.keep b o e (λz=>by cases z)
  cases q:m (xf N.length ds) 0 with
  |nx env β=>rw[q] at h;exact λB G' H' σ J s'=>h .non G' H' (fin' J) s' J.sub (λb h1 h2=>J.new b h1 h2) Rp.non
  |bk env β=>rw[q] at h;exact h.elim
  |ct env β=>rw[q] at h;exact h.elim
  |rt d fr β=>
   rw[q] at h
   refine λB G' H' σ env v J s' rv=>h v G' H' (fin' J) s' J.sub (λb h1 h2=>J.new b h1 h2) ?_
   cases fr with
   |true=>exact rv
   |false=>exact rv
  |exc c=>rw[q] at h;exact λH' kp=>h H' λb o e=>kp b o e (λz=>by cases z)
  |bad=>rw[q] at h;exact h.elim
def Bu {n:Nat}{F F':List D->FR}(h:∀ds,ds.length=n->F' ds≠.bad->F ds=F' ds){vs:List V}{H:Hp}{Q:VK}{E:XK}(q:z8 K ca n F' vs H Q E):z8 K ca n F vs H Q E:=by
 obtain⟨G,ds,s,hl,r,q⟩:=q
 refine⟨G,ds,s,hl,r,?_⟩
 by_cases hb:F' ds=.bad
 ·rw[hb] at q;exact q.elim
 ·rw[h ds hl hb];exact q
def dI.imp {x:Str}{ps:List Str}{k:Nat}{F F':List D->FR}(h:dI P w K mg base ca x ps k F)(i:∀ds,F' ds≠.bad->F ds=F' ds):dI P w K mg base ca x ps k F':=by
 obtain⟨f,fd,a,b,c,d⟩:=h.ex
 exact⟨⟨f,fd,a,b,c,d.imp λvs H Q E q=>Bu (λds _=>i ds) q⟩,λds hn=>h.len ds (by rw[i ds hn];exact hn)⟩
def aQ {n p:Nat}{m:SF}(ds:List D)(h:bb n p m ds≠.bad):ds.length=p:=by
 unfold bb at h
 by_cases hl:ds.length=p
 ·exact hl
 ·rw[G8 hl] at h;exact absurd rfl h
def rT {N:List Str}{qual:Str}{scope:Scope}{f:Addr}{cd:Value}{A:Around}{outer:List Env}{s0:Shared}{H0:Hp}{E:XK}{Γ:Fx}{x:Str}{C:Addr}{np cpos pos:Pos}{e0:Expr}{es:List Expr}{fr:VF (List D)}{L:List Nat}(q:PySem.W.excIn K C [.type "ValueError",.type "Exception",.type "BaseException",.type "object"] "ValueError.__new__"=true)(hca:Γ.ca x=C)
  (hg:Gl (jK (lW P w) P w K mg base N qual scope f cd A outer s0 H0 E) x) (hm:mg x=some (.ref C)) (ha:SA (jK (lW P w) P w K mg base N qual scope f cd A outer s0 H0 E) Γ E (e0 :: es) fr L)
  (he:starEach (e0 :: es) (envOfC qual scope s0.heap.objs.size f cd)=(false,eval e0 (envOfC qual scope s0.heap.objs.size f cd)) :: starEach es (envOfC qual scope s0.heap.objs.size f cd):=by rfl)
  (hpl:(backTo cpos (starEach es (envOfC qual scope s0.heap.objs.size f cd))).any (·.1)=false:=by rfl) (hdb:(x == ("__debug__":Str))=false:=by decide) :
  SS (jK (lW P w) P w K mg base N qual scope f cd A outer s0 H0 E) Γ E (.Raise (some (.Call (.Name x np) (e0 :: es) [] cpos)) none pos) (λenv β=>toS (fr (vl env) β) λds _=>if ds.length<=sizeLine then .exc x else .bad):=by
 refine PS.post (yb PySem.F.excBase_ValueError (by decide +kernel) q hg hm ha he hpl hdb) λD σ H ⟨env,G,B,β,I,o⟩=>?_
 refine⟨env,G,B,β,I,cE o λds β' k vs G' H' I' s' m' r=>?_⟩
 by_cases hz:ds.length<=sizeLine
 ·rw[GW hz] at k
  refine⟨by rw[r.len];exact hz,?_⟩
  have:=k H' (I'.kp (ah.refl _))
  rw[hca] at this
  exact this
 ·rw[G8 hz] at k;exact k.elim
end
section
variable {X:Cx}{Γ:Fx}{E:XK}{e a b c:Expr}{f fa fb:VF D}{L La Lb:List Nat}{md ma mb:Md}{pos apos cpos np:Pos}
def uj:Option Sl->Bool
 |some (.ow (.list _))=>true
 |_=>false
theorem p9 {o:Option Sl}(h:uj o=true):∃ds,o=some (.ow (.list ds)):=by
 cases o with
 |none=>cases h
 |some s=>
  cases s with
  |ow d=>cases d with
   |list ds=>exact⟨ds,rfl⟩
   |_=>cases h
  |_=>cases h
def DC (i:Nat)(env:En)(β:Int)(g:List D->Option (List D)):SO:=match env[i]? with
 |some (.ow (.list ds))=>(match g ds with
  |some es=>.nx (env.set i (.ow (.list es))) β
  |none=>.bad)
 |_=>.bad
def ml (i:Nat)(L:List Nat)(f:VF D):SF:=λenv β=>if uj env[i]? =true then toS (f (vl env) β) λd β'=>DC i (a7 L env) β' λds=>if ds.length < sizeLine then some (ds ++ [d]) else none else .bad
def uL {Γ:Fx}{E:XK}{G:Hp}{N:Ends}{i:Nat}{env:En}{β:Int}{g:List D->Option (List D)}(h:oy Γ E G N (DC i env β g)):∃ds es,env[i]? =some (.ow (.list ds))/\g ds=some es/\oy Γ E G N (.nx (env.set i (.ow (.list es))) β):=by
 unfold DC at h
 split at h
 ·rename_i ds q
  cases e:g ds with
  |none=>rw[e] at h;exact h.elim
  |some es=>rw[e] at h;exact⟨ds,es,q,e,h⟩
 ·exact h.elim
def lg (i:Nat){x:Str}(hb:∀j,Γ.br j=false)(he:SE X Γ E e f L .v)(hN:X.N[i]? =some x:=by rfl)(hv:zJ X.env.scope x:=by first |exact Or.inl rfl |exact Or.inr (Or.inl rfl) |exact Or.inr (Or.inr rfl))(hd:(x == ("__debug__":Str))=false:=by decide)
  (hcd:(x == ("__classdict__":Str))=false:=by decide)
  (hbase:attributeBase (.Name x np) "append" X.env (eval (.Name x np) X.env)=eval (.Name x np) X.env:=by rfl)
  (hfew:((backTo cpos (starEach [e] X.env)).all (λx=> !x.1) && (backToKw cpos (keywordEach [] X.env)).all (λx=>x.1.isSome)
   && decide ([e].length + ([]:List Keyword).length + (if ([]:List Keyword).isEmpty then 0 else 1) < 30))=true:=by rfl)
  (hline:(apos.endLine == cpos.line)=true:=by rfl) (hs:starEach [e] X.env=(false,eval e X.env) :: starEach [] X.env:=by rfl)
  (hsw:swapsWith (.Call (.Attribute (.Name x np) "append" apos) [e] [] cpos) none pos.line X.env=pure false:=by rfl) :
  SS X Γ E (.Expr (.Call (.Attribute (.Name x np) "append" apos) [e] [] cpos) pos) (ml i L f):=by
 refine PS.post (qf (yU PySem.F.plainAttrs_list PySem.F.slot_list_append PySem.F.type_list_append lL (jo hN hv hd hcd) (aK he bq hs) hbase hfew hline hs rfl) hsw) λN σ H ⟨env,G,B,β,I,o⟩=>?_
 unfold ml at o
 by_cases hO:uj env[i]? =true
 case neg=>rw[G8 hO] at o;exact o.elim
 rw[GW hO] at o
 obtain⟨ds0,q0⟩:=p9 hO
 obtain⟨p,h1,_,_,_,xs,h5,_⟩:=I.slot i _ q0
 refine⟨_,h1,.inl ⟨rfl,xs,.inl (.inl h5)⟩,?_⟩
 refine⟨env,G,B,β,I,cE o λd β' k v G' H' I' s' m' vo=>?_⟩
 obtain⟨ds,es,q,eg,k⟩:=uL k
 by_cases hz:ds.length < sizeLine
 case neg=>rw[G8 hz] at eg;cases eg
 rw[GW hz] at eg
 cases eg
 obtain⟨p',g1,_,_,_,ys,g5,g6⟩:=I'.slot i _ q
 rw[h1] at g1;cases g1
 refine⟨p,ys,v,rfl,rfl,g5,by rw[g6.len];exact hz,?_⟩
 exact k B G' _ σ (I'.write hb q h1 λH2 e2 s2=>⟨_,e2,g6.snoc vo⟩) s'
def Inv.lstR {pins:List (Addr×Obj)}{σ:St}{H:Hp}{s:Shared}{l:Addr}{xs:List V}(I:Inv X pins σ H s)(hH:Rd H l (.lst xs)):xs.length<=sizeLine/\∃(its:List Value) (n:Nat),Vals xs its/\xs.length=its.length/\s.heap.get? l=some {cls:=.type "list",data:=.seq its.toArray n}:=by
 obtain⟨z,its,n,r,e⟩:=hH.ok I.hok
 exact⟨z,its,n,r,r.length,e⟩
end
section
variable {K:Frag}{X:Cx}
def uN {g:Int->Int->V}{gd:D->D->Option D}(h:∀dx dy d,gd dx dy=some d->∃i j,dx=.int i/\dy=.int j/\∀G,Rp K G (g i j) d):mj K (zS g) gd .v:=by
 intro B G H x y dx dy d Q s hB bx by' e k
 obtain⟨i,j,rfl,rfl,r⟩:=h _ _ _ e
 obtain rfl:=bx.int
 obtain rfl:=by'.int
 exact⟨i,j,rfl,rfl,k _ G H (Ext.refl s) (r G)⟩
def xJ {C:Int->Int->Prop}{g:Int->Int->V}{gd:D->D->Option D}(h:∀dx dy d,gd dx dy=some d->∃i j,dx=.int i/\dy=.int j/\C i j/\∀G,Rp K G (g i j) d):mj K (rI C g) gd .v:=by
 intro B G H x y dx dy d Q s hB bx by' e k
 obtain⟨i,j,rfl,rfl,c,r⟩:=h _ _ _ e
 obtain rfl:=bx.int
 obtain rfl:=by'.int
 exact⟨i,j,rfl,rfl,c,k _ G H (Ext.refl s) (r G)⟩
def gI (c:Int->Int->Bool)(g:Int->Int->D):D->D->Option D
 | .int i,.int j=>if c i j=true then some (g i j) else none
 |_,_=>none
def vp (g:Int->Int->D):D->D->Option D
 | .int i,.int j=>some (g i j)
 |_,_=>none
def zC {c:Int->Int->Bool}{g:Int->Int->D}{dx dy d:D}(h:gI c g dx dy=some d):∃i j,dx=.int i/\dy=.int j/\c i j=true/\d=g i j:=by
 unfold gI at h
 split at h
 ·split at h
  ·cases h;exact⟨_,_,rfl,rfl,by assumption,rfl⟩
  ·cases h
 ·cases h
def lC {g:Int->Int->D}{dx dy d:D}(h:vp g dx dy=some d):∃i j,dx=.int i/\dy=.int j/\d=g i j:=by
 unfold vp at h
 split at h
 ·cases h;exact⟨_,_,rfl,rfl,rfl⟩
 ·cases h
def xA:D->D->Option D:=gI (λ_ j=>decide (0 < j) && decide (j < 1073741824)) λi j=>.int (i / j)
def Ai:mj K (rI Bc λi j=>.int (i / j)) xA .v:=xJ λdx dy d h=>by obtain⟨i,j,rfl,rfl,c,rfl⟩:=zC h;exact⟨i,j,rfl,rfl,by simpa[Bc] using c,λ_=>.int _⟩
def jZ:D->D->Option D:=gI (λ_ j=>decide (0 < j)) λi j=>.int (i % j)
def oM:mj K (rI (λ_ j=>0 < j) λi j=>.int (i % j)) jZ .v:=xJ λdx dy d h=>by obtain⟨i,j,rfl,rfl,c,rfl⟩:=zC h;exact⟨i,j,rfl,rfl,by simpa using c,λ_=>.int _⟩
def Dq:D->D->Option D:=vp λi j=>.bool (decide (i < j))
def y2:D->D->Option D:=vp λi j=>.bool (decide (i<=j))
def DB:D->D->Option D:=vp λi j=>.bool (decide (j < i))
def El:mj K (zS λi j=>.bl (decide (i < j))) Dq .v:=uN λdx dy d h=>by obtain⟨i,j,rfl,rfl,rfl⟩:=lC h;exact⟨i,j,rfl,rfl,λ_=>.bl _⟩
def CN:mj K (zS λi j=>.bl (decide (i<=j))) y2 .v:=uN λdx dy d h=>by obtain⟨i,j,rfl,rfl,rfl⟩:=lC h;exact⟨i,j,rfl,rfl,λ_=>.bl _⟩
def Gb:mj K (zS λi j=>.bl (decide (j < i))) DB .v:=uN λdx dy d h=>by obtain⟨i,j,rfl,rfl,rfl⟩:=lC h;exact⟨i,j,rfl,rfl,λ_=>.bl _⟩
mutual
theorem va:∀d:D,d.canLay0=true->xh d=true
 | .none,_=>rfl
 | .bool _,_=>rfl
 | .int _,_=>rfl
 | .str _,_=>rfl
 | .list ds,h=>by simp only[PyData.canLay0] at h;simp only[xh];exact mY ds h
 | .tuple ds,h=>by simp only[PyData.canLay0] at h;simp only[xh];exact mY ds h
 | .dict _,h=>by simp[PyData.canLay0] at h
theorem mY:∀ds:List D,PyData.canLayAll0 ds=true->mq ds=true
 | [],_=>rfl
 |d :: ds,h=>by
  simp only[PyData.canLayAll0,Hl] at h
  simp only[mq,Hl]
  exact⟨va d h.1,mY ds h.2⟩
end
def pU {d:D}(h:SeqAt.shaped d=true):xh d=true:=va d (Jo h)
theorem uR:∀{ds:List D},(ds.all SeqAt.shaped)=true->mq ds=true
 | [],_=>rfl
 |d :: ds,h=>by
  rw[List.all_cons,Hl] at h
  simp only[mq,Hl]
  exact⟨pU h.1,uR h.2⟩
def de (neg:Bool)(x y:D):Option D:=if (SeqAt.shaped x && SeqAt.shaped y)=true then some (.bool (if neg then !PyData.eqv x y else PyData.eqv x y)) else none
def gy {neg:Bool}:mj K (Dr K neg) (de neg) .v:=by
 intro B G H x y dx dy d Q s hB bx by' e k
 unfold de at e
 split at e
 ·rename_i h
  rw[Hl] at h
  cases e
  exact⟨dx,dy,(bx.rpH s).rep (pU h.1),(by'.rpH s).rep (pU h.2),h.1,h.2,k _ G H (Ext.refl s) (.bl _)⟩
 ·cases e
def xl (neg:Bool)(x y:D):Option D:=match jk y with
 |some ds=>if (SeqAt.shaped x && ds.all SeqAt.shaped)=true then some (.bool (if neg then !(ds.any λe=>PyData.eqv e x) else ds.any λe=>PyData.eqv e x)) else none
 |none=>none
theorem j6.seq {B:Option Addr}{G H:Hp}{v:V}{d:D}{ds:List D}(h:j6 K B G H v d)(e:jk d=some ds)(s:ah G H):∃a xs,v=.ref a/\(fB K H a xs\/dH K H a xs)/\ck K G xs ds:=by
 cases d with
 |list l=>cases e;obtain⟨a,xs,e,q,r⟩:=h.list s;exact⟨a,xs,e,.inl (.inl q),r⟩
 |tuple l=>cases e;obtain⟨a,xs,e,q,r⟩:=h.tuple s;exact⟨a,xs,e,.inr q,r⟩
 |_=>cases e
theorem yE {neg:Bool}:mj K (EG K neg) (xl neg) .v:=by
 intro B G H x y dx dy d Q s hB bx by' e k
 unfold xl at e
 cases q:jk dy with
 |none=>rw[q] at e;cases e
 |some ds=>
  rw[q] at e
  dsimp only at e
  split at e
  ·rename_i h
   rw[Hl] at h
   cases e
   obtain⟨a,xs,rfl,hq,r⟩:=by'.seq q s
   refine⟨a,xs,dx,ds,rfl,hq,(r.mono s).reps (uR h.2),(bx.rpH s).rep (pU h.1),h.1,λe he=>Iv.mp h.2 e he,k _ G H (Ext.refl s) (.bl _)⟩
  ·cases e
def Bb:D->Bool
 | .none=>true
 |_=>false
theorem ck.ints {G:Hp}:∀ns:List Int,ck K G (ns.map V.int) (ns.map int)
 | []=>.nil
 |n :: ns=>.cons (.int n) (ck.ints ns)
theorem vg.noNone {G:Hp}{kvs:List (Key×V)}{d:D}{r:List (D×D)}(h:vg K G kvs ((.none,d) :: r)):False:=by
 generalize e:(PyData.none,d) :: r=l at h
 cases h with
 |nil=>cases e
 | @cons k x xs d' ds _ _=>
  injection e with e1 _
  injection e1 with e2 _
  cases k <;> cases e2
theorem uw.noNone {G:Hp}{kvs:List (List Key×V)}{d:D}{r:List (D×D)}(h:uw K G kvs ((.none,d) :: r)):False:=by
 generalize e:(PyData.none,d) :: r=l at h
 cases h with
 |nil=>cases e
 | @cons k x xs d' ds _ _=>
  injection e with e1 _
  injection e1 with e2 _
  cases e2
def j6.scr {B:Option Addr}{G H:Hp}{v:V}{ds:List D}(h:j6 K B G H v (.dict [(.none,.list ds)]))(s:ah G H):∃a xs,v=.ref a/\fB K H a xs/\ck K G xs ds:=by
 rcases h with h | ⟨a,rfl,n,h⟩
 ·cases h with
  | @scr a ns q=>exact⟨a,_,rfl,s.seq q,ck.ints ns⟩
  |dK _ r=>exact r.noNone.elim
  |dT _ r=>exact r.noNone.elim
 ·rcases h with⟨_,_,r⟩ | ⟨_,_,r⟩
  ·exact r.noNone.elim
  ·exact r.noNone.elim
def cZ:D->D->Option D
 | .list ds,.int i=>j9 ds i
 | .tuple ds,.int i=>j9 ds i
 | .str z,.int i=>if z.length<=sizeLine then (j9 z.cps.toList i).map λc=>.str ⟨#[c]⟩ else none
 | .dict [(.none,.list ds)],.int i=>j9 ds i
 |_,_=>none
theorem pH {G:Hp}{xs:List V}{ds:List D}{i:Int}{d:D}(r:ck K G xs ds)(h:j9 ds i=some d):∃x,j9 xs i=some x/\Rp K G x d:=by
 unfold j9 at h ⊢
 rw[r.len]
 cases e:xC ds.length i with
 |none=>rw[e] at h;cases h
 |some j=>rw[e] at h;exact r.at h
theorem fP:mj K (Gn K) cZ .v:=by
 intro B G H x y dx dy d Q s hB bx by' e k
 cases dx with
 |list ds=>
  cases dy with
  |int i=>
   obtain rfl:=by'.int
   obtain⟨a,xs,rfl,q,r⟩:=bx.list s
   obtain⟨v,ev,rv⟩:=pH r e
   exact .inl ⟨a,xs,i,v,rfl,rfl,.inl q,ev,k _ G H (Ext.refl s) rv⟩
  |_=>cases e
 |tuple ds=>
  cases dy with
  |int i=>
   obtain rfl:=by'.int
   obtain⟨a,xs,rfl,q,r⟩:=bx.tuple s
   obtain⟨v,ev,rv⟩:=pH r e
   exact .inr (.inl ⟨a,xs,i,v,rfl,rfl,q,ev,k _ G H (Ext.refl s) rv⟩)
  |_=>cases e
 |str z=>
  cases dy with
  |int i=>
   obtain rfl:=by'.int
   obtain rfl:=bx.str
   simp only[cZ] at e
   split at e
   ·rename_i hz
    cases q:j9 z.cps.toList i with
    |none=>rw[q] at e;cases e
    |some c=>rw[q] at e;cases e;exact .inr (.inr ⟨z,i,c,rfl,rfl,hz,q,k _ G H (Ext.refl s) (.str _)⟩)
   ·cases e
  |_=>cases e
 |none=>cases dy <;> cases e
 |bool b=>cases dy <;> cases e
 |int b=>cases dy <;> cases e
 |dict b=>
  obtain⟨ds,i,rfl,rfl,e⟩:∃ds i,b= [(.none,.list ds)]/\dy=.int i/\j9 ds i=some d:=by
   unfold cZ at e
   split at e
   ·contradiction
   ·contradiction
   ·contradiction
   ·rename_i h;cases h;exact⟨_,_,rfl,rfl,e⟩
   ·cases e
  obtain rfl:=by'.int
  obtain⟨a,xs,rfl,q,r⟩:=bx.scr s
  obtain⟨v,ev,rv⟩:=pH r e
  exact .inl ⟨a,xs,i,v,rfl,rfl,q,ev,k _ G H (Ext.refl s) rv⟩
def gQ:D->Option D
 | .list ds=>some (.int ds.length)
 | .tuple ds=>some (.int ds.length)
 | .str z=>if z.length<=sizeLine then some (.int z.length) else none
 | .dict [(.none,.list ds)]=>some (.int ds.length)
 |_=>none
def Fy (K:Frag):List V->Hp->VK->Prop:=λxs H Q=>∃x n,xs= [x]/\D0 K x H n/\Q (.int n) H
def ni:w8 K (λx=>Fy K [x]) gQ .v:=by
 intro B G H x dx d Q s hB bx e k
 unfold gQ at e
 split at e
 ·cases e;obtain⟨a,xs,rfl,q,r⟩:=bx.list s;exact⟨_,_,rfl,.inl ⟨xs,.inl q,r.len.symm⟩,k _ G H (Ext.refl s) (.int _)⟩
 ·cases e;obtain⟨a,xs,rfl,q,r⟩:=bx.tuple s;exact⟨_,_,rfl,.inr ⟨xs,q,r.len.symm⟩,k _ G H (Ext.refl s) (.int _)⟩
 ·obtain rfl:=bx.str
  split at e
  ·rename_i hz;cases e;exact⟨_,_,rfl,⟨hz,rfl⟩,k _ G H (Ext.refl s) (.int _)⟩
  ·cases e
 ·cases e;obtain⟨a,xs,rfl,q,r⟩:=bx.scr s;exact⟨_,_,rfl,.inl ⟨xs,q,r.len.symm⟩,k _ G H (Ext.refl s) (.int _)⟩
 ·cases e
def gY:D->Option D
 | .list ds=>some (.tuple ds)
 | .tuple ds=>some (.tuple ds)
 |_=>none
theorem mB:w8 K (λx H Q=>∃p ys,[x]= [.ref p]/\((fB K H p ys/\∀l,H l=none->Q (.ref l) (upd H l (.tup ys)))\/(dH K H p ys/\Q (.ref p) H))) gY .v:=by
 intro B G H x dx d Q s hB bx e k
 cases dx with
 |list ds=>
  cases e
  obtain⟨a,xs,rfl,q,r⟩:=bx.list s
  refine⟨a,xs,rfl,.inl ⟨.inl q,λl hl=>?_⟩⟩
  have x:=Ext.new s (o:=.tup xs) hl
  exact k _ _ _ x (.tup (.inl (.inl av)) (r.mono x.gg))
 |tuple ds=>
  cases e
  rcases bx with bx | ⟨_,_,_,z⟩
  ·cases bx with
   | @tup a xs _ hq r=>exact⟨a,xs,rfl,.inr ⟨hq.grow s.grow,k _ G H (Ext.refl s) (.tup hq r)⟩⟩
  ·exact z.elim
 |_=>cases e
def BY:D->Option D
 | .list ds=>some (.list ds)
 | .tuple ds=>some (.list ds)
 |_=>none
def Cp:w8 K (λx H Q=>∃p ys,[x]= [.ref p]/\(fB K H p ys\/dH K H p ys)/\∀l,H l=none->Q (.ref l) (upd H l (.lst ys))) BY .w:=by
 intro B G H x dx d Q s hB bx e k
 obtain⟨ds,e1,rfl⟩:∃ds,jk dx=some ds/\d=.list ds:=by
  cases dx <;> cases e <;> exact⟨_,rfl,rfl⟩
 obtain⟨a,xs,rfl,hq,r⟩:=bx.seq e1 s
 refine⟨a,xs,rfl,hq,λl hl=>?_⟩
 exact k _ _ _ (Ext.own s (o:=.lst xs) hl) ⟨l,rfl,hl,s.free hl,xs,av,r⟩
def jm:List D->Option (List Bool)
 | []=>some []
 | .bool b :: ds=>(jm ds).map (b :: ·)
 |_=>none
theorem oP {G:Hp}:∀{ds:List D} {bs:List Bool} {xs:List V},jm ds=some bs->ck K G xs ds->xs=bs.map V.bl
 | [],bs,xs,e,r=>by cases e;cases r;rfl
 | .bool b :: ds,bs,xs,e,r=>by
  cases r with
  |cons r1 r2=>
   cases r1
   simp only[jm] at e
   cases q:jm ds with
   |none=>rw[q] at e;cases e
   |some cs=>rw[q] at e;cases e;rw[oP q r2];rfl
 | .none :: _,_,_,e,_=>by cases e
 | .int _ :: _,_,_,e,_=>by cases e
 | .str _ :: _,_,_,e,_=>by cases e
 | .list _ :: _,_,_,e,_=>by cases e
 | .tuple _ :: _,_,_,e,_=>by cases e
 | .dict _ :: _,_,_,e,_=>by cases e
def jh (f:List Bool->Bool):D->Option D
 | .list ds=>(jm ds).map λbs=>.bool (f bs)
 |_=>none
theorem uX {f:List Bool->Bool}:w8 K (λx=>tT K f [x]) (jh f) .v:=by
 intro B G H x dx d Q s hB bx e k
 cases dx with
 |list ds=>
  simp only[jh] at e
  cases q:jm ds with
  |none=>rw[q] at e;cases e
  |some bs=>
   rw[q] at e
   cases e
   obtain⟨a,xs,rfl,hq,r⟩:=bx.list s
   obtain rfl:=oP q r
   exact⟨a,bs,rfl,.inl hq,k _ G H (Ext.refl s) (.bl _)⟩
 |_=>cases e
def BQ:R2:=λx y H Q=>∃l b xs zs,x=.ref l/\y=.ref b/\Rd H l (.lst xs)/\Rd H b (.lst zs)/\xs.length + zs.length<=sizeLine/\∀p,H p=none->Q (.ref p) (upd H p (.lst (xs ++ zs)))
def ki:kX X (binaryOp .Add) BQ:=by
 intro pins s σ H x y v u Q I rx ry h
 obtain⟨l,b,xs,zs,rfl,rfl,hH,hB,hz,q⟩:=h
 cases rx
 cases ry
 obtain⟨z,its,n,r,hl,e⟩:=I.lstR hH
 obtain⟨z2,its2,n2,r2,hl2,e2⟩:=I.lstR hB
 refine PySem.P.add_list e e2 ?_ (by rw[Hj,Hj];omega)
 have ea:its.toArray ++ its2.toArray=(its ++ its2).toArray:=by simp
 rw[ea]
 exact⟨.ref _,_,I.lnew (t':=s.toks) (r.append r2) (by rw[HN];omega),rfl,q _ I.fresh⟩
def gx:D->D->Option D
 | .list a,.list b=>if a.length + b.length<=sizeLine then some (.list (a ++ b)) else none
 |_,_=>none
def rk:mj K BQ gx .w:=by
 intro B G H x y dx dy d Q s hB bx by' e k
 cases dx <;> cases dy <;> first | (cases e;done) |skip
 rename_i a b
 simp only[gx] at e
 split at e
 ·rename_i hz
  cases e
  obtain⟨p,xs,rfl,q1,r1⟩:=bx.list s
  obtain⟨p2,ys,rfl,q2,r2⟩:=by'.list s
  refine⟨p,p2,xs,ys,rfl,rfl,q1,q2,by rw[r1.len,r2.len];exact hz,λl hl=>?_⟩
  exact k _ _ _ (Ext.own s (o:=.lst (xs ++ ys)) hl) ⟨l,rfl,hl,s.free hl,_,av,r1.append r2⟩
 ·cases e
def bK:D->D->Option D:=vp λi j=>.int (i + j)
def gZ:mj K (zS λi j=>.int (i + j)) bK .v:=uN λdx dy d h=>by obtain⟨i,j,rfl,rfl,rfl⟩:=lC h;exact⟨i,j,rfl,rfl,λ_=>.int _⟩
def b5:D->D->Option D:=gI (λi j=>(decide (-(2 ^ 64) < i) && decide (i < 2 ^ 64)) || (decide (-(2 ^ 64) < j) && decide (j < 2 ^ 64))) λi j=>.int (i * j)
def iE:mj K (rI zU λi j=>.int (i * j)) b5 .v:=xJ λdx dy d h=>by obtain⟨i,j,rfl,rfl,c,rfl⟩:=zC h;exact⟨i,j,rfl,rfl,by simpa[zU] using c,λ_=>.int _⟩
def DT:D->Option D
 | .int i=>some (.int (-i))
 |_=>none
theorem DQ:w8 K (rU λi=>.int (-i)) DT .v:=by
 intro B G H x dx d Q s hB bx e k
 cases dx with
 |int i=>cases e;obtain rfl:=bx.int;exact⟨i,rfl,k _ G H (Ext.refl s) (.int _)⟩
 |_=>cases e
def Ej:D->String
 | .none=>"NoneType"
 | .bool _=>"bool"
 | .int _=>"int"
 | .str _=>"str"
 | .list _=>"list"
 | .tuple _=>"tuple"
 | .dict _=>"dict"
def zL (d:D)(T:String):Bool:=Ej d == T || (T == "int" && Ej d == "bool")
def dG:D->Bool
 | .dict ((.none,_) :: _)=>true
 |_=>false
def jr (T:String)(d:D):Option D:=if dG d=true then none else some (.bool (zL d T))
def Gu (K:Frag)(H:Hp)(x:V)(t:String):Prop:=Ad K H x t\/(t="dict"/\∃a kvs,x=.ref a/\H a=some (.dT kvs))
def DL (K:Frag):List V->Hp->VK->Prop:=λxs H Q=>∃x T t b,xs= [x,.ty T]/\Gu K H x t/\PySem.W.kitOne K (.type t) (.type T)=some b/\Q (.bl b) H
def zd:cw X (.builtin "isinstance") (DL X.K):=by
 intro pins s σ H xs us Q I r h
 obtain⟨x,T,t,b,rfl,ty,e,q⟩:=h
 rcases ty with ty | ⟨rfl,a,kvs,rfl,hk⟩
 ·exact zM pins s σ H _ us Q I r ⟨x,T,t,b,rfl,ty,e,q⟩
 ·obtain⟨u,c,rfl,rx,rc⟩:=vals2 r
  cases rc
  cases rx
  obtain⟨_,_,_,_,o,_,_,e2,ex,_⟩:=I.hok a _ hk
  exact HP PySem.W.kitx_dict I.kIn ⟨o,e2,ex.1⟩ e (λz=>nomatch z) λtk=>⟨.bl b,H,I.tok tk,rfl,q⟩
theorem j6.ty {B:Option Addr}{G H:Hp}{v:V}{d:D}(h:j6 K B G H v d)(s:ah G H)(n:dG d=false):Gu K H v (Ej d):=by
 cases d with
 |none=>obtain rfl:=h.none;exact .inl .non
 |bool b=>obtain rfl:=h.bool;exact .inl (.bl b)
 |int b=>obtain rfl:=h.int;exact .inl (.int b)
 |str b=>obtain rfl:=h.str;exact .inl (.str b)
 |list b=>obtain⟨a,xs,rfl,q,_⟩:=h.list s;exact .inl (.lst (.inl q))
 |tuple b=>obtain⟨a,xs,rfl,q,_⟩:=h.tuple s;exact .inl (.tup q)
 |dict b=>
  rcases h with h | ⟨a,rfl,_,h⟩
  ·cases h with
   |scr _=>cases n
   |dK q _=>exact .inl (.dic (s _ _ q))
   |dT q _=>exact .inr ⟨rfl,_,_,rfl,s _ _ q⟩
  ·rcases h with⟨_,q,_⟩ | ⟨_,q,_⟩
   ·exact .inl (.dic q)
   ·exact .inr ⟨rfl,_,_,rfl,q⟩
theorem EA {d:D}{T:String}(hT:T∈ ["int","bool","str","list","tuple","dict"]):PySem.W.kitOne K (.type (Ej d)) (.type T)=some (zL d T):=by
 simp only[G7,List.not_mem_nil,or_false] at hT
 cases d with
 |dict l=>rcases hT with rfl |rfl |rfl |rfl |rfl |rfl <;> rfl
 |none=>rcases hT with rfl |rfl |rfl |rfl |rfl |rfl <;> rfl
 |bool _=>rcases hT with rfl |rfl |rfl |rfl |rfl |rfl <;> rfl
 |int _=>rcases hT with rfl |rfl |rfl |rfl |rfl |rfl <;> rfl
 |str _=>rcases hT with rfl |rfl |rfl |rfl |rfl |rfl <;> rfl
 |list _=>rcases hT with rfl |rfl |rfl |rfl |rfl |rfl <;> rfl
 |tuple _=>rcases hT with rfl |rfl |rfl |rfl |rfl |rfl <;> rfl
def k6 {a:Expr}{fa:VF D}{La:List Nat}{ma:Md}{Γ:Fx}{E:XK}{pos p p2:Pos}(T:String){y:Str}(hT:T∈ ["int","bool","str","list","tuple","dict"])(hK:X.K=Γ.K)(hg:Gl X "isinstance")(hm:X.mg "isinstance"=none)(hgT:Gl X y)(hmT:X.mg y=none)(hvT:bootBuiltins y=some (.type T))(ha:SE X Γ E a fa La ma)
  (hnT:y≠"__name__":=by decide) (hdT:(y == ("__debug__":Str))=false:=by decide)
  (he:starEach [a,.Name y p2] X.env=(false,eval a X.env) :: starEach [.Name y p2] X.env:=by rfl) (he2:starEach [.Name y p2] X.env=(false,eval (.Name y p2) X.env) :: starEach [] X.env:=by rfl) (hpl:(backTo pos (starEach [.Name y p2] X.env)).any (·.1)=false:=by rfl) :
  SE X Γ E (.Call (.Name "isinstance" p) [a,.Name y p2] [] pos) (f1 fa (jr T)) La .v:=by
 refine PE.post' (jc zd hg hm (by decide +kernel) (aK ha (aK (Bw hgT hmT hvT (show RelV (.ty T) _ from rfl) hnT hdT) bq he2) he) (by decide) (by decide) he hpl) λσ H Q ⟨env,G,B,β,I,o⟩=>?_
 refine iU (r:=λx H1 Q=>DL X.K [x,.ty T] H1 Q) ?_ I o
 intro B G H x dx d Q s hB bx e k
 unfold jr at e
 split at e
 ·cases e
 ·rename_i hn
  cases e
  rw[hK]
  exact⟨x,T,Ej dx,zL dx T,rfl,bx.ty s (by simpa using hn),EA hT,k _ G H (Ext.refl s) (.bl _)⟩
def iP (fa fb fc:VF D)(g g':D->D->Option D):VF D:=λvs β=>(fa vs β).bnd λx β1=>(fb vs β1).bnd λy β2=>match g x y with
 |some (.bool true)=>(fc vs β2).bnd λz β3=>R.of (g' y z) β3
 |some (.bool false)=>.ok (.bool false) β2
 |_=>.bad
theorem sd {a b c:Expr}{fa fb fc:VF D}{ma mb mc:Md}{Γ:Fx}{E:XK}{pos:Pos}{op op':CmpOp}{r r':R2}{g g':D->D->Option D}(ho:kX X (compareOp op) r)(ho':kX X (compareOp op') r')(pr:mj Γ.K r g .v)(pr':mj Γ.K r' g' .v)(ha:SE X Γ E a fa [] ma)(hb:SE X Γ E b fb [] mb)(hc:SE X Γ E c fc [] mc)
  (hm:lastMarks [op,op'] [b,c]=false:=by with_unfolding_all rfl):SE X Γ E (.Compare a [op,op'] [b,c] pos) (iP fa fb fc g g') [] .v:=by
 refine PE.post' (x8 ho ho' ha hb hc hm) λσ H Q ⟨env,G,B,β,I,o⟩=>?_
 refine two (W:=λx y H2=>r x y H2 λz H3=>∃k,z=.bl k/\(if k=true then pT Γ E fc [] mc σ H3 λw' H4=>r' y w' H4 Q else Q (.bl false) H3)) I (o.bnd.imp λd1 β1 h=>h.bnd.imp λd2 β2 h x y G2 H2 I2 s2 m2 bx by'=>?_)
 obtain⟨cb,ec,h⟩:∃cb,g d1 d2=some (.bool cb)/\Out Γ E (if cb=true then (fc (vl env) β2).bnd λz β3=>R.of (g' d2 z) β3 else .ok (.bool false) β2) λd β'=>∀v G' H',SR Γ B G' H' σ (a7 [] env) β'->ah G G'->gN B H H'->VO Γ.K B H G' H' .v d v->Q v H':=by
  split at h
  ·rename_i q;exact⟨true,q,by rw[GW rfl];exact h⟩
  ·rename_i q;exact⟨false,q,by rw[G8 Ht];exact h⟩
  ·exact h.elim
 refine pr B G2 H2 x y d1 d2 _ _ I2.sub I2.boxThere bx by' ec λv G' H' x' vo=>?_
 cases vo
 refine⟨cb,rfl,?_⟩
 have I3:=I2.ext x'
 cases cb with
 |false=>rw[G8 Ht] at h;exact rl (h _ G' H' I3 (s2.trans x'.gg) (m2.trans (x'.mov B)) (.bl false))
 |true=>
  rw[GW rfl] at h
  refine rH ⟨env,G',B,β2,I3,h.bnd.imp λd3 β3 h z G4 H4 I4 s4 m4 vz=>?_⟩
  obtain⟨d,e,k⟩:=h.of
  refine pr' B G4 H4 y z d2 d3 d Q I4.sub I4.boxThere (by'.mono (x'.gg.trans s4) ((x'.mov B).trans m4)) (vz.brw I3.boxThere) e λv G5 H5 x5 vo=>?_
  exact k v G5 H5 (I4.ext x5) (((s2.trans x'.gg).trans s4).trans x5.gg) (((m2.trans (x'.mov B)).trans m4).trans (x5.mov B)) vo
end
def dk.u1 {k:Nat}{A:Around}(r:dk k A):A.units + 100 < cLine:=by have:=r.un;omega
def GB (N:List Str)(sc:Scope)(NB:List Str)(own:Nat)(ixs:List Nat)(scope:Scope):Bool:=
 decide (scope.kind=.function) && (scope.names.all λy=>decide (y.2≠.cell)) && (scope.names.all λy=>decide (scope.names.lookup y.1=some y.2)) &&
 (scope.names.all λy=>decide (y.2=.free->(sc.names.lookup y.1=some .cell\/sc.names.lookup y.1=some .free))) && decide NB.Nodup && decide (NB.length=own + ixs.length) &&
 ((List.range ixs.length).all λk=>decide (NB[own + k]? =N[ixs.getD k 0]?) && (match NB[own + k]? with |some x=>decide ((x,NameKind.free)∈scope.names) |none=>true))
def cv {X:Cx}{NB:List Str}{own:Nat}{ixs:List Nat}{scope:Scope}(h:GB X.N X.env.scope NB own ixs scope=true):cI X NB own ixs scope:=by
 unfold GB at h
 simp only[Hl,Iv,Ho,Hn] at h
 obtain⟨⟨⟨⟨⟨⟨h1,h2⟩,h3⟩,h4⟩,h5⟩,h6⟩,h7⟩:=h
 refine⟨h1,h2,h3,h4,h5,h6,λk hk=>⟨(h7 k hk).1,λx hx=>?_⟩⟩
 have:=(h7 k hk).2
 rw[hx] at this
 simpa using this
section
variable {X:Cx}{Γ:Fx}{E:XK}{e a b c:Expr}{f fa fb fc:VF D}{L La Lb:List Nat}{md ma mb mc:Md}{pos:Pos}{K:Frag}
def tN (fa:VF D)(neg:Bool):VF Bool:=λvs β=>(fa vs β).bnd λx β1=>.ok (if neg then !Bb x else Bb x) β1
def oT (Γ:Fx)(E:XK)(f:VF (Option Int))(L:List Nat):TO:=λσ H Q=>∃env G B β,SR Γ B G H σ env β/\
 Out Γ E (f (vl env) β) λd β'=>∀G' H',SR Γ B G' H' σ (a7 L env) β'->ah G G'->gN B H H'->Q d H'
def EO (X:Cx)(Γ:Fx)(E:XK)(e:Option Expr)(f:VF (Option Int))(L:List Nat):Prop:=PO X e (oT Γ E f L)
def BE:EO X Γ E none (λ_ β=>.ok none β) []:=λpins s σ H Q I ⟨env,G,B,β,J,o⟩=>A7 pins s σ H Q I (o G H J (ah.refl _) (gN.refl _ _))
def Eh (fa:VF D):VF (Option Int):=λvs β=>(fa vs β).bnd λx β1=>match x with
 | .int i=>.ok (some i) β1
 |_=>.bad
theorem A3 (ha:SE X Γ E a fa La ma):EO X Γ E (some a) (Eh fa) La:=λpins s σ H Q I ⟨env,G,B,β,J,o⟩=>by
 refine AH ha pins s σ H Q I ⟨env,G,B,β,J,o.bnd.imp λd1 β1 h x G1 H1 I1 s1 m1 vx=>?_⟩
 cases d1 with
 |int i=>exact⟨i,(vx.brw J.boxThere).int,h G1 H1 I1 s1 m1⟩
 |_=>exact h.elim
def cutD (xs:List D)(lo hi:Option Int):List D:=(xs.drop (HT.o7 xs.length 0 lo)).take (HT.o7 xs.length xs.length hi - HT.o7 xs.length 0 lo)
def AG {G:Hp}{xs:List V}{ds:List D}(r:ck K G xs ds)(lo hi:Option Int):ck K G (tL xs lo hi) (cutD ds lo hi):=by
 unfold tL cutD
 rw[r.len]
 exact (r.drop _).take _
def EL (fa:VF D)(fl fh:VF (Option Int)):VF D:=λvs β=>(fa vs β).bnd λx β1=>(fl vs β1).bnd λl β2=>(fh vs β2).bnd λh β3=>match x with
 | .list ds=>.ok (.list (cutD ds l h)) β3
 |_=>.bad
theorem xK {lo hi:Option Expr}{fl fh:VF (Option Int)}{Ll Lh:List Nat}{p2:Pos}(hK:X.K=Γ.K)(ha:SE X Γ E a fa La ma)(hl:EO X Γ E lo fl Ll)(hh:EO X Γ E hi fh Lh):SE X Γ E (.Subscript a (.Slice lo hi none p2) pos) (EL fa fl fh) (La ++ Ll ++ Lh) .w:=by
 refine PE.post' (xX Af ha hl hh) λσ H Q ⟨env,G,B,β,I,o⟩=>?_
 refine⟨env,G,B,β,I,o.bnd.imp λd1 β1 h x G1 H1 I1 s1 m1 vx=>⟨a7 La env,G1,B,β1,I1,?_⟩⟩
 rw[gP]
 refine h.bnd.imp λl β2 h G2 H2 I2 s2 m2=>⟨a7 Ll (a7 La env),G2,B,β2,I2,?_⟩
 rw[gP,gP]
 refine h.bnd.imp λu β3 h G3 H3 I3 s3 m3=>?_
 rw[<-cM,<-cM,<-IA] at I3
 have bx:=((vx.brw I.boxThere).mono s2 m2).mono s3 m3
 cases d1 with
 |list ds=>
  obtain⟨p,xs,rfl,hq,r⟩:=bx.list I3.sub
  rw[hK]
  refine⟨p,xs,rfl,.inl hq,λq hn=>?_⟩
  have x:=Ext.own I3.sub (o:=.lst (tL xs l u)) hn
  exact h _ _ _ (I3.ext x) ((s1.trans s2).trans s3) (((m1.trans m2).trans m3).trans (x.mov B)) ⟨q,rfl,fR ((m1.trans m2).trans m3) I3.boxThere hn,I3.sub.free hn,_,av,AG r l u⟩
 |_=>exact h.elim
def Dd:mj K (λx y H Q=>∃i j,[x,y]= [.int i,.int j]/\Q (.int (if j > i then j else i)) H) (vp λi j=>.int (if j > i then j else i)) .v:=by
 intro B G H x y dx dy d Q s hB bx by' e k
 obtain⟨i,j,rfl,rfl,rfl⟩:=lC e
 obtain rfl:=bx.int
 obtain rfl:=by'.int
 exact⟨i,j,rfl,k _ G H (Ext.refl s) (.int _)⟩
def Dk:mj K (λx y H Q=>∃i j,[x,y]= [.int i,.int j]/\Q (.int (if j < i then j else i)) H) (vp λi j=>.int (if j < i then j else i)) .v:=by
 intro B G H x y dx dy d Q s hB bx by' e k
 obtain⟨i,j,rfl,rfl,rfl⟩:=lC e
 obtain rfl:=bx.int
 obtain rfl:=by'.int
 exact⟨i,j,rfl,k _ G H (Ext.refl s) (.int _)⟩
end
structure jL (K:Frag)(mg:Str->Option Value)(x:Str)(st:Stmt)(ps:List Str)(f:Addr)(fd:FuncData):Prop where
 mg:mg x=some (.ref f)
 F:z0 K x x st f fd
 b:Binds K fd ps []
structure Exc (K:Frag)(mg:Str->Option Value)(ca:Str->Addr)(x:Str):Prop where
 mg:mg x=some (.ref (ca x))
 ex:PySem.W.excIn K (ca x) [.type "ValueError",.type "Exception",.type "BaseException",.type "object"] "ValueError.__new__"=true
def Exc.ca {K:Frag}{mg:Str->Option Value}{ca:Str->Addr}{x:Str}(h:Exc K mg ca x):ca x=ca x:=rfl
structure jM (mg:Str->Option Value):Prop where
 len:mg "len"=none
 range:mg "range"=none
 enumerate:mg "enumerate"=none
 zip:mg "zip"=none
 min:mg "min"=none
 max:mg "max"=none
 sum:mg "sum"=none
 abs:mg "abs"=none
 sorted:mg "sorted"=none
 reversed:mg "reversed"=none
 int:mg "int"=none
 str:mg "str"=none
 bool:mg "bool"=none
 list:mg "list"=none
 tuple:mg "tuple"=none
 dict:mg "dict"=none
 set:mg "set"=none
 isinstance:mg "isinstance"=none
 repr:mg "repr"=none
 any:mg "any"=none
 all:mg "all"=none
 divmod:mg "divmod"=none
inductive FB where
 |ok (d:D) (fresh:Bool) (β:Int)
 |bad
def DD (K:Frag)(n:Nat)(F:List D->Int->FB):Sp:=λvs H Q _=>∃b rest G ds β,vs=.ref b :: rest/\H b=some (.lst [.int β])/\G b=none/\ah G H/\ds.length=n/\ck K G rest ds/\match F ds β with
 | .ok d fr β'=>∀v G' H',gN (some b) H H'->H' b=some (.lst [.int β'])->ah G G'->ah G' H'->(∀c,Mx H c->G c=none->G' c=none)->FV K H G' H' fr d v->Q v H'
 | .bad=>False
structure jb (P:Program)(w:World)(K:Frag)(mg:Str->Option Value)(base:Heap)(x:Str)(ps:List Str)(k:Nat)(F:List D->Int->FB):Prop where
 ex:∃f fd,mg x=some (.ref f)/\PySem.W.keepIn K (.ref f)=true/\Binds K fd ps []/\fo P w K mg base (lW P w) k f fd ps (DD K (ps.length - 1) F)
 len:∀ds β,F ds β≠.bad->ds.length=ps.length - 1
def tq (vs:List Nv)(i:Nat):Bool:=match vs[i]? with
 |some .bx=>true
 |_=>false
def gS (i:Nat)(F:List D->Int->FB)(fr:VF (List D)):VF D:=λvs β=>if tq vs i=true then (fr vs β).bnd λds β1=>match F ds β1 with
 | .ok d _ β2=>.ok d β2
 | .bad=>.bad else .bad
def Ga (i:Nat)(F:List D->Int->FB)(fr:VF (List D)):VF D:=λvs β=>if tq vs i=true then (fr vs β).bnd λds β1=>match F ds β1 with
 | .ok d true β2=>.ok d β2
 |_=>.bad else .bad
section
variable {X:Cx}{Γ:Fx}{E:XK}{e a b c:Expr}{f fa fb fc:VF D}{L La Lb:List Nat}{md ma mb mc:Md}{pos:Pos}{K:Frag}{es:List Expr}{fr:VF (List D)}
def Bq {env:En}{i:Nat}(h:tq (vl env) i=true):env[i]? =some .bx:=by
 unfold tq at h
 split at h
 ·exact DN (by assumption)
 ·cases h
def Bl {env:En}{i j:Nat}{d:D}(h:(ij env i)[j]? =some (.br d)):env[j]? =some (.br d):=by
 unfold ij at h
 split at h
 ·rename_i d' e
  by_cases z:i=j
  ·subst z
   rw[Hq (Hs.mp e).1] at h;cases h
  ·rw[Hm z] at h;exact h
 ·exact h
theorem CP {L:List Nat}{env:En}{j:Nat}{d:D}(h:(a7 L env)[j]? =some (.br d)):env[j]? =some (.br d):=by
 unfold a7 at h
 induction L generalizing env with
 |nil=>exact h
 |cons i L ih=>exact Bl (ih h)
def SR.calledB {p:Addr}{β β':Int}{G1 H1 G2 H2:Hp}{σ:St}{env:En}(I1:SR Γ (some p) G1 H1 σ env β)(h:gN (some p) H1 H2)(hp:H2 p=some (.lst [.int β']))(g:ah G1 G2)(s:ah G2 H2)(n:∀b,Mx H1 b->G1 b=none->G2 b=none):SR Γ (some p) G2 H2 σ env β':=by
 obtain⟨b1,b2,b3⟩:=I1.box p rfl
 refine⟨s,I1.old.trans g,λb n1 n2=>n b (I1.thereM n1) (I1.new b n1 n2),λb o e np=>h b o (I1.keep b o e np) λz=>?_,λb hb=>?_,I1.fix,λb e=>?_,I1.len,λi t e=>?_,I1.sep⟩
 ·cases z
  rcases b3 with b3 |b3
  ·exact np b3
  ·rw[e] at b3;cases b3
 ·by_cases z:p=b
  ·subst z;exact Mx.lst hp
  ·exact (I1.pin b hb).same λo q=>h b o q λy=>z (Option.some.inj y)
 ·cases e
  exact⟨hp,n p (Mx.lst b1) b2,b3⟩
 ·have q:=I1.slot i t e
  cases t with
  |no=>trivial
  |fz d=>obtain⟨v,h1,h2⟩:=q;exact⟨v,h1,h2.mono g⟩
  |ow d=>
   obtain⟨c,h1,h2,h3,h4,h5⟩:=q
   exact⟨c,h1,h2,n c h5.mx h3,h4,h5.mono g λo q=>h c o q h4⟩
  |bx=>exact q
  |br d=>obtain⟨b1,c,h1,h4,hpp,h5⟩:=q;exact⟨b1,c,h1,h4,hpp,h5.mono g λo q=>h c o q h4⟩
theorem BF {F:List D->Int->FB}{ps:List Str}{Q:VK}{B:Option Addr}{G H:Hp}{σ:St}{env:En}{β:Int}{i:Nat}{p:Addr}(I:SR Γ B G H σ env β)(hK:X.K=Γ.K)(hp:B=some p){wv:Bool}
  (h:Out Γ E (fr (vl env) β) λds β1=>Out Γ E (match F ds β1 with
   | .ok d true β2=>.ok d β2
   | .ok d false β2=>if wv=true then .bad else .ok d β2
   | .bad=>.bad) λd β'=>∀v G' H',SR Γ B G' H' σ (a7 L env) β'->ah G G'->gN B H H'->VO Γ.K B H G' H' (if wv=true then .w else .v) d v->Q v H') (hl:∀ds β,F ds β≠.bad->ds.length=ps.length - 1) :
  aT Γ E fr L σ H λvs H1=>DD X.K (ps.length - 1) F (.ref p :: vs) H1 Q E:=by
 subst hp
 refine⟨env,G,_,β,I,h.imp λds β1 k vs G1 H1 I1 s1 m1 r=>?_⟩
 obtain⟨b1,b2,b3⟩:=I1.box p rfl
 refine⟨p,vs,G1,ds,β1,rfl,b1,b2,I1.sub,hl ds β1 λz=>by rw[z] at k;exact k,by rw[hK];exact r,?_⟩
 cases q:F ds β1 with
 |bad=>rw[q] at k;exact k
 |ok d fr' β2=>
  rw[q] at k
  intro v G' H' hh hb hg hs hn fv
  have I2:=I1.calledB hh hb hg hs hn
  cases fr' with
  |true=>
   obtain⟨c,rfl,p1,p2,p3⟩:∃a,v=.ref a/\H1 a=none/\G' a=none/\Own X.K G' H' a d:=fv
   rw[hK] at p3
   have hp:=fR m1 I1.boxThere p1
   cases wv with
   |true=>exact k _ G' H' I2 (s1.trans hg) (m1.trans hh) ⟨c,rfl,hp,p2,p3⟩
   |false=>
    obtain⟨q1,q2,q3,q4⟩:=I1.fresh p1
    obtain⟨G3,I3,s3,r3⟩:=I2.letIn q1 p2 q3 q4 p3
    exact k _ G3 H' I3 ((s1.trans hg).trans s3) (m1.trans hh) r3
  |false=>
   cases wv with
   |true=>exact k.elim
   |false=>
    have fv:Rp X.K G' v d:=fv
    rw[hK] at fv
    exact k _ G' H' I2 (s1.trans hg) (m1.trans hh) fv
theorem Dc {F:List D->Int->FB}{ps:List Str}{Q:VK}{i:Nat}{σ:St}{H:Hp}(hK:X.K=Γ.K){wv:Bool}(hl:∀ds β,F ds β≠.bad->ds.length=ps.length - 1)(h:pT Γ E (if wv=true then Ga i F fr else gS i F fr) L (if wv=true then .w else .v) σ H Q) :
  Ak i σ H λx H1=>aT Γ E fr L σ H1 λvs H2=>DD X.K (ps.length - 1) F (x :: vs) H2 Q E:=by
 obtain⟨env,G,B,β,I,o⟩:=h
 have hi:tq (vl env) i=true:=by
  by_cases hi:tq (vl env) i=true
  ·exact hi
  ·exfalso
   cases wv with
   |true=>simp only[Ic] at o;unfold Ga at o;rw[G8 hi] at o;exact o
   |false=>simp only[Hg,HI] at o;unfold gS at o;rw[G8 hi] at o;exact o
 obtain⟨p,e1,e2⟩:=I.slot i _ (Bq hi)
 refine⟨.ref p,e1,BF (i:=i) (ps:=ps) I hK e2 (wv:=wv) ?_ hl⟩
 cases wv with
 |true=>
  simp only[Ic] at o ⊢
  unfold Ga at o
  rw[GW hi] at o
  refine o.bnd.imp λds β1 h=>?_
  cases q:F ds β1 with
  |bad=>rw[q] at h;exact h
  |ok d b β2=>rw[q] at h;cases b <;> exact h
 |false=>
  simp only[Hg,HI] at o ⊢
  unfold gS at o
  rw[GW hi] at o
  refine o.bnd.imp λds β1 h=>?_
  cases q:F ds β1 with
  |bad=>rw[q] at h;exact h
  |ok d b β2=>rw[q] at h;cases b <;> exact h
def i7 {x y:Str}{ps:List Str}{k:Nat}{F:List D->Int->FB}{p np:Pos}(i:Nat)(hf:jb X.prog X.w X.K X.mg X.base x ps k F)(hr:dk k X.A)(hx:Passes (lW X.prog X.w) X E)(hK:X.K=Γ.K)(hg:Gl X x)(ha:SA X Γ E es fr L)(hN:X.N[i]? =some y:=by rfl)(hv:zJ X.env.scope y:=by first |exact Or.inl rfl |exact Or.inr (Or.inl rfl) |exact Or.inr (Or.inr rfl))(hd:(y == ("__debug__":Str))=false:=by decide)
  (hcd:(y == ("__classdict__":Str))=false:=by decide) (hdb:(x == ("__debug__":Str))=false:=by decide)
  (he:starEach (.Name y np :: es) X.env=(false,eval (.Name y np) X.env) :: starEach es X.env:=by rfl) (hpl:(backTo pos (starEach es X.env)).any (·.1)=false:=by rfl):SE X Γ E (.Call (.Name x p) (.Name y np :: es) [] pos) (gS i F fr) L .v:=by
 obtain⟨f,fd,hm,hk,hb,hF⟩:=hf.ex
 refine PE.post' (kH (dvs:=[]) hF hr hg hm hk hb .nil hx (aK (jo hN hv hd hcd) ha he) hdb he hpl) λσ H Q h=>?_
 have:=Dc (Q:=Q) (wv:=false) (ps:=ps) hK hf.len (by simpa using h)
 show Ak i σ H λx H1=>aT Γ E fr L σ H1 λvs H2=>DD X.K (ps.length - 1) F ((x :: vs) ++ []) H2 Q E
 simpa using this
def xI:D->Option Int
 | .list [.int z]=>some z
 |_=>none
def A5 {d:D}{z:Int}(h:xI d=some z):d=.list [.int z]:=by
 unfold xI at h
 split at h
 ·cases h;rfl
 ·cases h
def E1 (f0:VF D)(F:List D->Int->FB)(n:Int):VF D:=λvs β=>(f0 vs β).bnd λd0 β1=>match xI d0 with
 |some z=>(match F [.int n] z with
  | .ok d _ _=>.ok d β1
  | .bad=>.bad)
 |none=>.bad
theorem Eu {x:Str}{ps:List Str}{k:Nat}{F:List D->Int->FB}{p cp:Pos}{n:Int}{j}(hf:jb X.prog X.w X.K X.mg X.base x ps k F)(hr:dk k X.A)(hx:Passes (lW X.prog X.w) X E)(hK:X.K=Γ.K)(hg:Gl X x)(h0:SE X Γ E a fa La .w)(hdb:(x == ("__debug__":Str))=false:=by decide)
  (he:starEach [a,.Constant (.int n) j cp] X.env=(false,eval a X.env) :: starEach [.Constant (.int n) j cp] X.env:=by rfl) (he2:starEach [.Constant (.int n) j cp] X.env=(false,eval (.Constant (.int n) j cp) X.env) :: starEach [] X.env:=by rfl) (hpl:(backTo pos (starEach [.Constant (.int n) j cp] X.env)).any (·.1)=false:=by rfl):SE X Γ E (.Call (.Name x p) [a,.Constant (.int n) j cp] [] pos) (E1 fa F n) La .v:=by
 obtain⟨f,fd,hm,hk,hb,hF⟩:=hf.ex
 refine PE.post' (kH (dvs:=[]) hF hr hg hm hk hb .nil hx (aK h0 (aK qU bq he2) he) hdb he hpl) λσ H Q ⟨env,G,B,β,I,o⟩=>?_
 show pT Γ E fa La .w σ H λx H1=>DD X.K (ps.length - 1) F ([x,.int n] ++ []) H1 Q E
 refine⟨env,G,B,β,I,o.bnd.imp λd0 β1 h x G1 H1 I1 s1 m1 vx=>?_⟩
 obtain⟨c,rfl,c1,c2,c3⟩:=vx
 cases q:xI d0 with
 |none=>rw[q] at h;exact h.elim
 |some z=>
  rw[q] at h
  obtain rfl:=A5 q
  obtain⟨xs,c3,rx⟩:=c3
  obtain⟨q1,q2,q3,q4⟩:=I.fresh c1
  have hx2:H1 c=some (.lst [.int z]):=by
   cases rx with
   |cons r1 r2=>
    cases r1
    cases r2
    exact c3
  refine⟨c,[.int n],G1,[.int n],z,rfl,hx2,c2,I1.sub,hf.len [.int n] z λy=>?_,.cons (.int n) .nil,?_⟩
  ·dsimp only at h;rw[y] at h;exact h
  cases qF:F [.int n] z with
  |bad=>dsimp only at h;rw[qF] at h;exact h
  |ok d fr' β2=>
   dsimp only at h
   rw[qF] at h
   intro v G' H' hh hb' hg' hs hn fv
   have I2:SR Γ B G' H' σ (a7 La env) β1:=by
    refine⟨hs,I1.old.trans hg',λb n1 n2=>hn b (I1.thereM n1) (I1.new b n1 n2),λb o e np=>hh b o (I1.keep b o e np) λz=>?_,λb hb=>?_,I1.fix,λb e=>?_,I1.len,λi t e=>?_,I1.sep⟩
    ·cases z;rw[q1] at e;cases e
    ·by_cases z:c=b
     ·subst z;exact Mx.lst hb'
     ·exact (I1.pin b hb).same λo qq=>hh b o qq λy=>z (Option.some.inj y)
    ·obtain⟨b1,b2,b3⟩:=I1.box b e
     have bc:b≠c:=λz=>q3 (by rw[<-z];exact e)
     exact⟨hh b _ b1 λy=>bc (Option.some.inj y).symm,hn b (Mx.lst b1) b2,b3⟩
    ·have w:=I1.slot i t e
     cases t with
     |no=>trivial
     |fz d=>obtain⟨v,h1,h2⟩:=w;exact⟨v,h1,h2.mono hg'⟩
     |ow d=>
      obtain⟨a',h1,h2,h3,h4,h5⟩:=w
      have ac:a'≠c:=λz=>q4 i d (qy e) (by rw[<-z];exact h1)
      exact⟨a',h1,h2,hn a' h5.mx h3,h4,h5.mono hg' λo q=>hh a' o q λy=>ac (Option.some.inj y).symm⟩
     |bx=>exact w
     |br d=>
      obtain⟨b1,a',h1,h4,hpp,h5⟩:=w
      have e0:env[i]? =some (.br d):=CP e
      obtain⟨_,a2,g1,_,_,g5⟩:=I.slot i _ e0
      rw[h1] at g1;cases g1
      obtain⟨o,ho⟩:=g5.obj
      have ac:a'≠c:=aB ho c1
      exact⟨b1,a',h1,h4,hpp,h5.mono hg' λo q=>hh a' o q λy=>ac (Option.some.inj y).symm⟩
   have m2:gN B H H':=λb o e nb=>by
    have e1:=m1 b o e nb
    exact hh b o e1 λy=>by cases y;rw[c1] at e;cases e
   cases fr' with
   |true=>
    obtain⟨c',rfl,p1,p2,p3⟩:∃a,v=.ref a/\H1 a=none/\G' a=none/\Own X.K G' H' a d:=fv
    rw[hK] at p3
    obtain⟨w1,w2,w3,w4⟩:=I1.fresh p1
    obtain⟨G3,I3,s3,r3⟩:=I2.letIn w1 p2 w3 w4 p3
    exact h _ G3 H' I3 ((s1.trans hg').trans s3) m2 r3
   |false=>
    have fv:Rp X.K G' v d:=fv
    rw[hK] at fv
    exact h _ G' H' I2 (s1.trans hg') m2 fv
end
section
variable {P:Program}{w:World}{K:Frag}{mg:Str->Option Value}{base:Heap}{ca:Str->Addr}
def sY:SO->FB
 | .nx _ β=>.ok .none false β
 | .rt d fr β=>.ok d fr β
 |_=>.bad
def ud (n:Nat)(ds:List D):En:=.bx :: ds.map Sl.fz ++ List.replicate (n - 1 - ds.length) .no
def mh (n p:Nat)(m:SF):List D->Int->FB:=λds β=>if ds.length=p then sY (m (ud n ds) β) else .bad
abbrev Fx.fb (K:Frag)(H G:Hp)(ca:Str->Addr)(b:Addr):Fx:=⟨K,H,G,[b],ca,λ_=>false,some b⟩
def SR.startB {H G:Hp}{N:List Str}{b:Addr}{vs:List V}{ds:List D}{β:Int}(s:ah G H)(hb:H b=some (.lst [.int β]))(gb:G b=none)(r:ck K G vs ds)(hn:ds.length + 1<=N.length):SR (Fx.fb K H G ca b) (some b) G H (L2.start N (.ref b :: vs)) (ud N.length ds) β:=by
 have hl:=r.len
 refine⟨s,ah.refl _,λc _ h=>h,λc o h _=>h,λc h=>?_,λc h=>h,λc h=>?_,?_,λi t e=>?_,λi j a d e h=>?_⟩
 ·have:c=b:=by simpa using h
  subst this;exact Mx.lst hb
 ·cases h;exact⟨hb,gb,.inl (by simp)⟩
 ·unfold L2.start ud;simp;omega
 ·cases i with
  |zero=>
   unfold ud at e
   cases e
   exact⟨b,rfl,rfl⟩
  |succ i=>
   unfold ud at e
   have e:(ds.map Sl.fz ++ List.replicate (N.length - 1 - ds.length) Sl.no)[i]? =some t:=by simpa using e
   by_cases hi:i < ds.length
   ·rw[HL (by simpa using hi),He,GU hi] at e
    cases e
    obtain⟨x,hx,rx⟩:=r.at (GU hi)
    refine⟨x,?_,rx⟩
    unfold L2.start
    have hi':i < vs.length:=by rw[hl];exact hi
    rw[HL (by simp;exact hi'),He,List.getElem?_cons_succ,hx];rfl
   ·rw[HH (by simpa using hi),Iy] at e
    split at e
    ·cases e;trivial
    ·cases e
 ·unfold ud at h
  have hm:=Hi h
  rcases G7.mp hm with z |hm
  ·cases z
  rcases Hu.mp hm with z |z
  ·obtain⟨_,_,z⟩:=Ha.mp z;cases z
  ·have:=JD z;cases this
def kj {x qual:Str}{st:Stmt}{f:Addr}{fd:FuncData}{N:List Str}{ps:List Str}{k:Nat}{m:SF}(F:z0 K x qual st f fd)(S:aH N ps (ar st))(hp:1<=ps.length)
  (hbody:∀(cdv:Value) (A:Around) (outer:List Env) (s:Shared) (H G:Hp) (b:Addr) (E:XK),dk k (A.deeper (envOfC qual (ar st) s.heap.objs.size f cdv))->z7 (jK (lW P w) P w K mg base N qual (ar st) f cdv A outer s H E) (Fx.fb K H G ca b) E (cq st) m) :
  fo P w K mg base (lW P w) (k + 1) f fd ps (DD K (ps.length - 1) (mh N.length (ps.length - 1) m)):=by
 have hpn:ps.length<=N.length:=by have:=congrArg List.length S.pre;rw[Ir] at this;omega
 refine F.xG S (λvs H Q E h=>?_) (λcdv A outer s H vs Q E hr h=>?_)
 ·obtain⟨b,rest,G,ds,β,rfl,hb,gb,sG,hl,r,_⟩:=h
  rw[Hr,r.len];omega
 ·obtain⟨b,rest,G,ds,β,rfl,hb,gb,sG,hl,r,h⟩:=h
  refine⟨_,hbody cdv A outer s H G b E hr,?_⟩
  have I:=SR.startB (ca:=ca) (N:=N) sG hb gb r (by omega)
  refine⟨_,G,some b,β,I,?_⟩
  unfold mh at h
  rw[GW hl] at h
  have fin':∀{B G' H' σ env β},SR (Fx.fb K H G ca b) B G' H' σ env β->gN (some b) H H'/\H' b=some (.lst [.int β]):=λJ=>by
   have e:=J.fix b rfl
   refine⟨λc o ec n=>J.keep c o ec λz=>n ?_,(J.box b e).1⟩
   have:c=b:=by simpa using z
   rw[this]
  cases q:m (ud N.length ds) β with
  |nx env β'=>rw[q] at h;exact λB G' H' σ J s'=>h .non G' H' (fin' J).1 (fin' J).2 s' J.sub (λc h1 h2=>J.new c h1 h2) Rp.non
  |bk env β'=>rw[q] at h;exact h.elim
  |ct env β'=>rw[q] at h;exact h.elim
  |rt d fr β'=>
   rw[q] at h
   refine λB G' H' σ env v J s' rv=>h v G' H' (fin' J).1 (fin' J).2 s' J.sub (λc h1 h2=>J.new c h1 h2) ?_
   cases fr with
   |true=>exact rv
   |false=>exact rv
  |exc c=>rw[q] at h;exact h.elim
  |bad=>rw[q] at h;exact h.elim
def kT {n p:Nat}{m:SF}(ds:List D)(β:Int)(h:mh n p m ds β≠.bad):ds.length=p:=by
 unfold mh at h
 by_cases hl:ds.length=p
 ·exact hl
 ·rw[G8 hl] at h;exact absurd rfl h
end
def ak (p:Pr):D:=.tuple [.int p.1,.int p.2]
def mR:D->Option Pr
 | .tuple [.int a,.int b]=>some (a,b)
 |_=>none
def sO {d:D}{p:Pr}(h:mR d=some p):d=ak p:=by
 unfold mR at h
 split at h
 ·cases h;rfl
 ·cases h
def wd (p:Pr):mR (ak p)=some p:=rfl
def dM:List D->Option (List Pr)
 | []=>some []
 |d :: ds=>match mR d,dM ds with
  |some p,some ps=>some (p :: ps)
  |_,_=>none
theorem ip:∀{ds:List D} {ps:List Pr},dM ds=some ps->ds=ps.map ak
 | [],ps,h=>by cases h;rfl
 |d :: ds,ps,h=>by
  unfold dM at h
  split at h
  ·rename_i p qs h1 h2;cases h;rw[sO h1,ip h2];rfl
  ·cases h
theorem cW:∀ps:List Pr,dM (ps.map ak)=some ps
 | []=>rfl
 |p :: ps=>by
  show (match mR (ak p),dM (ps.map ak) with
   |some p,some ps=>some (p :: ps)
   |_,_=>none)=_
  rw[wd,cW ps]
section
variable {K:Frag}{X:Cx}{G H:Hp}
theorem ck.pairs:∀{ps:List Pr} {xs:List V},ck K G xs (ps.map ak)->aI K G xs ps
 | [],_,.nil=>.nil
 |p :: ps,_,.cons r t=>by
  cases r with
  |tup hq r=>
   cases r with
   |cons r1 r=>
    cases r with
    |cons r2 r=>cases r;cases r1;cases r2;exact .cons ⟨_,rfl,hq⟩ (ck.pairs t)
theorem aI.rps:∀{ps:List Pr} {xs:List V},aI K G xs ps->ck K G xs (ps.map ak)
 | [],_,.nil=>.nil
 |p :: ps,_,.cons r t=>by
  obtain⟨a,rfl,q⟩:=r
  exact .cons (.tup q (.cons (.int _) (.cons (.int _) .nil))) (aI.rps t)
def Cb (p:Pr):Bool:=decide (0<=p.1) && decide (p.1 < 8) && decide (0<=p.2) && decide (p.2 < 8)
def yj {p:Pr}(h:Cb p=true):Sm p:=by
 unfold Cb at h
 simp only[Hl,Ho] at h
 exact⟨⟨h.1.1.1,h.1.1.2⟩,h.1.2,h.2⟩
noncomputable def cc (d:D):Option D:=match jk d with
 |some ds=>(match dM ds with
  |some ps=>if ps.all Cb=true/\(OM.bu 8 (OM.Mem ps)).length < 64 then some (.list ((OM.bu 8 (OM.Mem ps)).map ak)) else none
  |none=>none)
 |none=>none
variable {Γ:Fx}{E:XK}{e a b c:Expr}{f fa fb fc:VF D}{L La Lb:List Nat}{md ma mb mc:Md}{pos:Pos}
theorem mP {p1 p2 pos2:Pos}(hc:X.calm=true)(hu:X.A.units + 64 < cLine)(hK:X.K=Γ.K)(hg:Gl X "sorted")(hm:X.mg "sorted"=none)(hg2:Gl X "set")(hm2:X.mg "set"=none)(ha:SE X Γ E a fa La ma)
  (he:starEach [a] X.env=(false,eval a X.env) :: starEach [] X.env:=by rfl)
  (he2:starEach [.Call (.Name "set" p2) [a] [] pos2] X.env=(false,eval (.Call (.Name "set" p2) [a] [] pos2) X.env) :: starEach [] X.env:=by rfl) :
  SE X Γ E (.Call (.Name "sorted" p1) [.Call (.Name "set" p2) [a] [] pos2] [] pos) (f1 fa cc) La .w:=by
 refine PE.post' (jc (ql hc) hg hm (by decide +kernel) (aK (hW (zk hc hu) hg2 hm2 (by decide +kernel) (aK ha bq he) (by decide) (by decide) he) bq he2) (by decide) (by decide) he2) λσ H Q ⟨env,G,B,β,I,o⟩=>?_
 refine iU (r:=λx H1 Q=>Ez X.prog X.w X.K [x] H1 λy H2=>rM X.prog X.w X.K [y] H2 Q) ?_ I o
 intro B G H x dx d Q s hB bx e k
 rw[hK]
 unfold cc at e
 cases q:jk dx with
 |none=>rw[q] at e;cases e
 |some ds=>
  rw[q] at e
  dsimp only at e
  cases q2:dM ds with
  |none=>rw[q2] at e;cases e
  |some ps=>
   rw[q2] at e
   dsimp only at e
   split at e
   ·rename_i hh
    obtain⟨h1,h2⟩:=hh
    cases e
    obtain⟨p,xs,rfl,hq,r⟩:=bx.seq q s
    rw[ip q2] at r
    have pv:=(r.mono s).pairs
    have sm:∀p,p∈ps->Sm p:=λp hp=>yj (Iv.mp h1 p hp)
    refine⟨p,xs,ps,rfl,hq,pv,sm,λS qs hS hpv nd hm=>?_⟩
    have qsl:qs.length < 64:=by
     have:(pq qs).length<=(OM.bu 8 (OM.Mem ps)).length:=OM.nv nd λx hx=>by
      have hx':=(hm x).mp hx
      have hs:=sm x hx'
      exact OM.aM.mpr ⟨⟨⟨hs.1.1,hs.1.2⟩,hs.2.1,hs.2.2⟩,hx'⟩
     simp only[Hd] at this
     omega
    have xS:=Ext.own s (o:=wR X.prog X.w S qs) hS
    refine⟨S,qs,rfl,av,hpv.grow (fU.new hS),λp hp=>sm p ((hm p).mp hp),nd,qsl,λl ws rs hl hpw hr hmem=>?_⟩
    have ers:rs=OM.bu 8 (OM.Mem ps):=OM.dw hr (OM.bX _ _) λx=>by
     rw[hmem x,hm x,OM.aM]
     constructor
     ·intro hx;have hs:=sm x hx;exact⟨⟨⟨hs.1.1,hs.1.2⟩,hs.2.1,hs.2.2⟩,hx⟩
     ·intro hx;exact hx.2
    subst ers
    have hlH:H l=none:=by
     by_cases z:l=S
     ·subst z;exact hS
     ·rw[au z] at hl;exact hl
    have lS:l≠S:=λz=>by subst z;rw[av] at hl;cases hl
    have hh:ah H (upd (upd H S (wR X.prog X.w S qs)) l (.lst ws)):=(ah.new hS).trans (ah.new hl)
    have xx:=Ext.tups s hh
    refine k _ _ _ xx ⟨l,rfl,hlH,?_,ws,av,?_⟩
    ·unfold kO
     rw[s.free hlH,av]
     exact G8 λy=>y
    ·refine aI.rps (Paired.mapP hpw λv p ⟨a,ea,qa⟩=>⟨a,ea,kq (s.trans hh) ?_⟩)
     exact qa.grow (fU.new hl)
   ·cases e
end
section
variable {K:Frag}{X:Cx}{G H:Hp}{Γ:Fx}{E:XK}{e a b c:Expr}{f fa fb fc:VF D}{L La Lb:List Nat}{md ma mb mc:Md}{pos apos cpos np:Pos}
def bJ:D->Option D
 | .int n=>if 0<=n/\n<=1000 then some (.list (b4 0 n.toNat)) else none
 |_=>none
def v5 (n:Nat):ck K G ((List.range n).map λ(i:Nat)=>V.int (i:Int)) (b4 0 n):=by
 have key:∀l:List Nat,ck K G (l.map λ(i:Nat)=>V.int (i:Int)) (l.map λ(k:Nat)=>int (0 + k)):=by
  intro l
  induction l with
  |nil=>exact .nil
  |cons x l ih=>exact .cons (by show Rp K G (.int (x:Int)) (.int (0 + (x:Int)));rw[Ip];exact .int _) ih
 exact key _
theorem j3 {p1 p2 pos2:Pos}(hc:X.calm=true)(hg:Gl X "list")(hm:X.mg "list"=none)(hg2:Gl X "range")(hm2:X.mg "range"=none)(ha:SE X Γ E a fa La ma)
  (he:starEach [a] X.env=(false,eval a X.env) :: starEach [] X.env:=by rfl)
  (he2:starEach [.Call (.Name "range" p2) [a] [] pos2] X.env=(false,eval (.Call (.Name "range" p2) [a] [] pos2) X.env) :: starEach [] X.env:=by rfl) :
  SE X Γ E (.Call (.Name "list" p1) [.Call (.Name "range" p2) [a] [] pos2] [] pos) (f1 fa bJ) La .w:=by
 refine PE.post' (hW (oi hc) hg hm (by decide +kernel) (aK (hW zZ hg2 hm2 (by decide +kernel) (aK ha bq he) (by decide) (by decide) he) bq he2) (by decide) (by decide) he2) λσ H Q ⟨env,G,B,β,I,o⟩=>?_
 refine iU (r:=λx H1 Q=>∃n:Int,[x]= [.int n]/\∀p,H1 p=none->(λ(y:V) (H2:Hp)=>∃(p:Addr) (n:Int),[y]= [V.ref p]/\H2 p=some (.gz 0 n)/\0<=n/\n<=1000/\∀l,H2 l=none->Q (.ref l) (upd H2 l (.lst ((List.range n.toNat).map λ(i:Nat)=>V.int (i:Int))))) (V.ref p) (upd H1 p (.gz 0 n))) ?_ I o
 intro B G H x dx d Q s hB bx e k
 cases dx with
 |int n=>
  obtain rfl:=bx.int
  simp only[bJ] at e
  split at e
  ·rename_i hh
   cases e
   refine⟨n,rfl,λp hp=>⟨p,n,rfl,av,hh.1,hh.2,λl hl=>?_⟩⟩
   have hlp:l≠p:=λz=>by subst z;rw[av] at hl;cases hl
   have hlH:H l=none:=by rw[au hlp] at hl;exact hl
   have x1:=Ext.own s (o:=.gz 0 n) hp
   have x2:=Ext.own x1.gh (o:=.lst ((List.range n.toNat).map λ(i:Nat)=>V.int (i:Int))) hl
   exact k _ _ _ (x1.trans x2) ⟨l,rfl,hlH,s.free hlH,_,av,v5 _⟩
  ·cases e
 |_=>cases e
def Ax:D->Option D
 | .int i=>some (.int (if i < 0 then -i else i))
 |_=>none
theorem D8:w8 K (λx H Q=>∃i,[x]= [.int i]/\Q (.int (if i < 0 then -i else i)) H) Ax .v:=by
 intro B G H x dx d Q s hB bx e k
 cases dx with
 |int i=>cases e;obtain rfl:=bx.int;exact⟨i,rfl,k _ G H (Ext.refl s) (.int _)⟩
 |_=>cases e
def nM (d:D):Option D:=match jk d with
 |some _=>if d.showable=true/\d.hasDict=false/\d.depth<=64/\d.shown.length<=sizeLine/\xh d=true then some (.str d.shown) else none
 |none=>none
theorem zv:w8 K (λx=>BN K [x]) nM .v:=by
 intro B G H x dx d Q s hB bx e k
 unfold nM at e
 cases q:jk dx with
 |none=>rw[q] at e;cases e
 |some ds=>
  rw[q] at e
  dsimp only at e
  split at e
  ·rename_i hh
   cases e
   obtain⟨a,xs,rfl,_,_⟩:=bx.seq q s
   exact⟨a,dx,rfl,(bx.rpH s).rep hh.2.2.2.2,hh.1,hh.2.1,hh.2.2.1,hh.2.2.2.1,k _ G H (Ext.refl s) (.str _)⟩
  ·cases e
noncomputable def fY (d:D):Option D:=match d with
 | .list ds=>(match dM ds with
  |some ps=>if ps.all Cb=true/\ps.Nodup/\ps.length < 64 then some (.list ((OM.bu 8 (OM.Mem ps)).map ak)) else none
  |none=>none)
 |_=>none
theorem vT:w8 K (λx=>vL K [x]) fY .w:=by
 intro B G H x dx d Q s hB bx e k
 cases dx with
 |list ds=>
  simp only[fY] at e
  cases q2:dM ds with
  |none=>rw[q2] at e;cases e
  |some ps=>
   rw[q2] at e
   dsimp only at e
   split at e
   ·rename_i hh
    obtain⟨h1,h2,h3⟩:=hh
    cases e
    obtain⟨p,xs,rfl,hq,r⟩:=bx.list s
    rw[ip q2] at r
    have pv:=(r.mono s).pairs
    have sm:∀p,p∈ps->Sm p:=λp hp=>yj (Iv.mp h1 p hp)
    refine⟨p,xs,ps,rfl,.inl hq,pv,sm,h2,h3,λl ws rs hl hpw hr hmem=>?_⟩
    have ers:rs=OM.bu 8 (OM.Mem ps):=OM.dw hr (OM.bX _ _) λx=>by
     rw[hmem x,OM.aM]
     constructor
     ·intro hx;have hs:=sm x hx;exact⟨⟨⟨hs.1.1,hs.1.2⟩,hs.2.1,hs.2.2⟩,hx⟩
     ·intro hx;exact hx.2
    subst ers
    have hh:ah H (upd H l (.lst ws)):=ah.new hl
    refine k _ _ _ (Ext.tups s hh) ⟨l,rfl,hl,?_,ws,av,?_⟩
    ·unfold kO
     rw[s.free hl,av]
     exact G8 λy=>y
    ·refine aI.rps (Paired.mapP hpw λv p ⟨a,ea,qa⟩=>⟨a,ea,kq (s.trans hh) ?_⟩)
     exact qa.grow (fU.new hl)
   ·cases e
 |_=>cases e
def wg (ds:List D)(k:D):Option (D×List D):=match k with
 | .int i=>if -(2 ^ 63)<=i/\i < 2 ^ 63 then (match seqIndex? i ds.length with
  |some n=>(match ds[n]? with
   |some d=>some (d,ds.eraseIdx n)
   |none=>none)
  |none=>none) else none
 |_=>none
def iI (i j:Nat)(L:List Nat)(f:VF D):SF:=λenv β=>if uj env[i]? =true/\uj env[j]? =true/\i≠j then toS (f (vl env) β) λk β'=>match (a7 L env)[j]? with
 |some (.ow (.list es))=>(match wg es k with
  |some (d,es')=>DC i ((a7 L env).set j (.ow (.list es'))) β' λds=>if ds.length < sizeLine then some (ds ++ [d]) else none
  |none=>.bad)
 |_=>.bad else .bad
theorem ck.eraseIdx:∀{xs:List V} {ds:List D} (i:Nat),ck K G xs ds->ck K G (xs.eraseIdx i) (ds.eraseIdx i)
 |_,_,_,.nil=>.nil
 |_,_,0,.cons _ t=>t
 |_,_,i + 1,.cons r t=>.cons r (ck.eraseIdx i t)
theorem wy (i j:Nat){x y:Str}{np2 apos2 cpos2:Pos}(hb:∀j,Γ.br j=false)(he:SE X Γ E e f L md)(hN:X.N[i]? =some x:=by rfl)(hv:zJ X.env.scope x:=by first |exact Or.inl rfl |exact Or.inr (Or.inl rfl) |exact Or.inr (Or.inr rfl))(hd:(x == ("__debug__":Str))=false:=by decide)
  (hcd:(x == ("__classdict__":Str))=false:=by decide)
  (hN2:X.N[j]? =some y:=by rfl) (hv2:zJ X.env.scope y:=by first |exact Or.inl rfl |exact Or.inr (Or.inl rfl) |exact Or.inr (Or.inr rfl)) (hd2:(y == ("__debug__":Str))=false:=by decide)
  (hcd2:(y == ("__classdict__":Str))=false:=by decide)
  (hbase:attributeBase (.Name x np) "append" X.env (eval (.Name x np) X.env)=eval (.Name x np) X.env:=by rfl)
  (hfew:((backTo cpos (starEach [.Call (.Attribute (.Name y np2) "pop" apos2) [e] [] cpos2] X.env)).all (λx=> !x.1) && (backToKw cpos (keywordEach [] X.env)).all (λx=>x.1.isSome)
   && decide ([Expr.Call (.Attribute (.Name y np2) "pop" apos2) [e] [] cpos2].length + ([]:List Keyword).length + (if ([]:List Keyword).isEmpty then 0 else 1) < 30))=true:=by rfl)
  (hline:(apos.endLine == cpos.line)=true:=by rfl) (hs:starEach [.Call (.Attribute (.Name y np2) "pop" apos2) [e] [] cpos2] X.env=(false,eval (.Call (.Attribute (.Name y np2) "pop" apos2) [e] [] cpos2) X.env) :: starEach [] X.env:=by rfl)
  (hbase2:attributeBase (.Name y np2) "pop" X.env (eval (.Name y np2) X.env)=eval (.Name y np2) X.env:=by rfl)
  (hfew2:((backTo cpos2 (starEach [e] X.env)).all (λx=> !x.1) && (backToKw cpos2 (keywordEach [] X.env)).all (λx=>x.1.isSome)
   && decide ([e].length + ([]:List Keyword).length + (if ([]:List Keyword).isEmpty then 0 else 1) < 30))=true:=by rfl)
  (hline2:(apos2.endLine == cpos2.line)=true:=by rfl) (hs2:starEach [e] X.env=(false,eval e X.env) :: starEach [] X.env:=by rfl)
  (hsw:swapsWith (.Call (.Attribute (.Name x np) "append" apos) [.Call (.Attribute (.Name y np2) "pop" apos2) [e] [] cpos2] [] cpos) none pos.line X.env=pure false:=by rfl) :
  SS X Γ E (.Expr (.Call (.Attribute (.Name x np) "append" apos) [.Call (.Attribute (.Name y np2) "pop" apos2) [e] [] cpos2] [] cpos) pos) (iI i j L f):=by
 refine PS.post (qf (yU PySem.F.plainAttrs_list PySem.F.slot_list_append PySem.F.type_list_append lL (jo hN hv hd hcd)
  (aK (yU PySem.F.plainAttrs_list PySem.F.slot_list_pop PySem.F.type_list_pop zD (jo hN2 hv2 hd2 hcd2) (aK he bq hs2) hbase2 hfew2 hline2 hs2 rfl) bq hs) hbase hfew hline hs rfl) hsw) λN σ H ⟨env,G,B,β,I,o⟩=>?_
 unfold iI at o
 by_cases hO:uj env[i]? =true/\uj env[j]? =true/\i≠j
 case neg=>rw[G8 hO] at o;exact o.elim
 rw[GW hO] at o
 obtain⟨hO1,hO2,hij⟩:=hO
 obtain⟨ds0,q0⟩:=p9 hO1
 obtain⟨es0,w0⟩:=p9 hO2
 obtain⟨p,h1,_,_,_,xs,h5,_⟩:=I.slot i _ q0
 obtain⟨q,k1,_,_,_,ys,k5,_⟩:=I.slot j _ w0
 refine⟨_,h1,.inl ⟨rfl,xs,.inl (.inl h5)⟩,?_⟩
 refine⟨_,k1,.inl ⟨rfl,ys,.inl (.inl k5)⟩,?_⟩
 refine⟨env,G,B,β,I,cE o λkd β' k v G' H' I' s' m' vo=>?_⟩
 cases ej:(a7 L env)[j]? with
 |none=>rw[ej] at k;exact k.elim
 |some sj=>
  rw[ej] at k
  cases sj with
  |ow dj=>
   cases dj with
   |list es=>
    dsimp only at k
    cases ep:wg es kd with
    |none=>rw[ep] at k;exact k.elim
    |some pr=>
     obtain⟨d,es'⟩:=pr
     rw[ep] at k
     dsimp only at k
     unfold wg at ep
     cases kd <;> first | (cases ep;done) |skip
     rename_i ii
     dsimp only at ep
     split at ep
     ·rename_i hr
      cases eI:seqIndex? ii es.length with
      |none=>rw[eI] at ep;cases ep
      |some n=>
       rw[eI] at ep
       dsimp only at ep
       cases eD:es[n]? with
       |none=>rw[eD] at ep;cases ep
       |some d0=>
        rw[eD] at ep
        cases ep
        obtain rfl:=(vo.brw I.boxThere).int
        obtain⟨q',g1,_,_,_,zs,g5,g6⟩:=I'.slot j _ ej
        rw[k1] at g1;cases g1
        obtain⟨xv,ex,rx⟩:=g6.at eD
        refine⟨q,zs,ii,n,xv,rfl,rfl,g5,hr.1,hr.2,by rw[g6.len];exact eI,ex,?_⟩
        have I2:=I'.write hb ej k1 (o:=.lst (zs.eraseIdx n)) (d':=.list (es.eraseIdx n)) λH2 e2 s2=>⟨_,e2,g6.eraseIdx n⟩
        obtain⟨ds,fs,eq,eg,k⟩:=uL k
        by_cases hz:ds.length < sizeLine
        case neg=>rw[G8 hz] at eg;cases eg
        rw[GW hz] at eg
        cases eg
        obtain⟨p',f1,_,_,_,us,f5,f6⟩:=I2.slot i _ eq
        rw[h1] at f1;cases f1
        refine⟨p,us,xv,rfl,rfl,f5,by rw[f6.len];exact hz,?_⟩
        exact k B G' _ σ (I2.write hb eq h1 λH2 e2 s2=>⟨_,e2,f6.snoc rx⟩) s'
     ·cases ep
   |_=>exact k.elim
  |_=>exact k.elim
end
def bM:List D->Int->FB
 | [.int m],β=>if 0 < m/\m < 1073741824 then .ok (.int (β % m)) false (β / m) else .bad
 |_,_=>.bad
def vb {ds:List D}{β:Int}(h:bM ds β≠.bad):∃m,ds= [.int m]/\0 < m/\m < 1073741824:=by
 unfold bM at h
 split at h
 ·rename_i m
  by_cases hh:0 < m/\m < 1073741824
  ·exact⟨m,rfl,hh.1,hh.2⟩
  ·rw[G8 hh] at h;exact absurd rfl h
 ·exact absurd rfl h
def pP {m β:Int}(h0:0 < m)(h1:m < 1073741824):bM [.int m] β=.ok (.int (β % m)) false (β / m):=GW ⟨h0,h1⟩
def constsOf:List Expr->Option (List Int)
 | []=>some []
 | .Constant (.int i) _ _ :: es=>(constsOf es).map λr=>i :: r
 |_=>none
def Gq (ns:List Int):VF (List D):=λ_ β=>.ok (ns.map int) β
theorem oJ {X:Cx}{Γ:Fx}{E:XK}:∀{es:List Expr} {ns:List Int},constsOf es=some ns->SA X Γ E es (Gq ns) []
 | [],ns,h=>by
  have e:ns= []:=by unfold constsOf at h;exact (Option.some.inj h).symm
  subst e
  exact aq
 |e :: es,ns,h=>by
  unfold constsOf at h
  split at h
  ·cases ‹_ :: _= []›
  ·next i a b es' heq=>
   cases heq
   cases q:constsOf es with
   |none=>rw[q] at h;cases h
   |some r=>
    rw[q] at h
    have e2:i :: r=ns:=Option.some.inj h
    subst e2
    exact ae ax (oJ q) rfl
  ·cases h
section
variable {P:Program}{w:World}{K:Frag}{mg:Str->Option Value}{base:Heap}
def Av {X:Cx}{i j:Nat}{x y:Str}{px py pos:Pos}{k:Nat}(hN:X.N.Nodup)(hi:X.N[i]? =some x)(hj:X.N[j]? =some y)(hx:X.env.scope.names.lookup x=some .local)(hy:X.env.scope.names.lookup y=some .local)(hc:X.calm=true) :
  PG X (.Tuple [.Name x px,.Name y py] k pos) (Au X.K 2 (mS (jS i) (mS (jS j) AZ))):=
 nG hc (cO (cn hN hi (Or.inl hx) (Or.inr hx)) (cO (cn hN hj (Or.inl hy) (Or.inr hy)) ky))
def yg {b:Addr}{β m:Int}{H:Hp}{Q:VK}{G:Hp}(hb:H b=some (.lst [.int β]))(s:ah G H){p:Addr}(hp:H p=none)
  (kk:∀v G' H',gN (some b) H H'->H' b=some (.lst [.int (β / m)])->ah G G'->ah G' H'->(∀c,Mx H c->G c=none->G' c=none)->FV K H G' H' false (.int (β % m)) v->Q v H') (gb:G b=none) :
  Q (.int (β % m)) (upd (upd H p (.tup [.int (β / m),.int (β % m)])) b (.lst [.int (β / m)])):=by
 have hbp:b≠p:=aB hb hp
 refine kk _ G _ (λc o e n=>?_) av (ah.refl _) (λc o e=>?_) (λc _ h=>h) (.int _)
 ·rw[au (λz=>n (by rw[z])),au (aB e hp)];exact e
 ·rw[au (λz=>by rw[z,gb] at e;cases e),au (aB (s c o e) hp)];exact s c o e
end
end L2
namespace L2
open PySem PySem.SeqAt PySem.Spec PyProof.Rows
def qm {M:Model}{A:Around}{E:Value->Shared->Prop}{s:Shared}{β:Type}{b:Nat}(f:Nat->β->Sem (ForInStep β))(I:List Nat->β->Shared->Prop)(Q:β->Shared->Prop)
  (turn:∀x rest b s,I (x :: rest) b s->wpAny M A (f x b) (λr s'=>match r with | .yield b'=>I rest b' s' | .done b'=>Q b' s') E s)
  (fin:∀b s,I [] b s->Q b s) (c:β) (h:I (List.range' 0 b) c s):wpAny M A (forIn [0:b] c f) Q E s:=by
 rw[Std.Legacy.Range.forIn_eq_forIn_range']
 simp only[Std.Legacy.Range.size,Nat.sub_zero,Nat.add_sub_cancel,Nat.div_one]
 exact wpAny_forIn_list f I Q turn fin _ c h
def n9 (l:Addr)(items:Array Value)(n:Nat)(dd:Option Addr)(sl:Array (Option Value))(x:Value)(e:Value->Bool)(j:Nat)(hj:j < items.size)
  (hit:e items[j]=true) (hno:∀m (hm:m < items.size),m < j->e items[m]=false) :
  Meets (Builtin.«tuple.index» ⟨[.ref l,x],[]⟩)
   (λA R s=>s.heap.get? l=some {cls:=.type "tuple",dict:=dd,data:=.seq items n,slots:=sl}/\(∀y,y∈items->EqAt A.in1 s y x (e y))/\R (.ok (.ret (.int j s.toks))) {s with toks:=s.toks + 1}):=
 .of_wp λprog w A R s h=>by
  obtain⟨hp,g,d,tk,os⟩:=s;obtain⟨hl,he,h⟩:=h
  wp_walk using wpAny_loadPart' hl,qm _ (λrest b s'=>b.1=none/\s'=⟨hp,g,d,tk,os⟩/\∃i,i<=j/\rest=List.range' i (items.size - i)) _
  case turn=>
   rintro y rest b s' ⟨hb,rfl,i,hi,hr⟩
   obtain⟨m,hm⟩:∃m,items.size - i=m + 1:=⟨items.size - i - 1,by omega⟩
   rw[hm,List.range'_succ] at hr
   obtain⟨rfl,rfl⟩:=List.cons.inj hr
   have hlt:y < items.size:=by omega
   have e1:items[y]? =some items[y]:=by simp[hlt]
   simp only[e1]
   refine GS (he _ (JH hlt) prog w _ _ ?_)
   by_cases z:y=j
   ·subst z
    rw[hit]
    wp_walk
    exact⟨_,rfl,h⟩
   ·rw[hno y hlt (by omega)]
    wp_walk
    exact⟨rfl,rfl,y + 1,by omega,by congr 1;omega⟩
  case fin=>
   rintro b s' ⟨hb,rfl,i,hi,hr⟩
   obtain⟨m,hm⟩:∃m,items.size - i=m + 1:=⟨items.size - i - 1,by omega⟩
   rw[hm,List.range'_succ] at hr
   cases hr
  case h=>
   exact⟨rfl,rfl,0,HK _,by rw[Nat.min_self];rfl⟩
section
variable {K:Frag}{X:Cx}{G H:Hp}{Γ:Fx}{E:XK}{e a b c:Expr}{f fa fb fc:VF D}{L La Lb:List Nat}{md ma mb mc:Md}{pos apos cpos np:Pos}
def ur (k:Int):Value->Bool
 | .int i _=>i == k
 |_=>false
theorem jW {k:Int}:∀{ns:List Int} {us:List Value} (i:Nat) (h:i < us.length) (h2:i < ns.length),Vals (ns.map V.int) us->ur k us[i]=(ns[i] == k)
 | [],_,_,_,h2,_=>absurd h2 (Nat.not_lt_zero _)
 |n :: ns,_,0,_,_,.cons r _=>by obtain⟨t,rfl⟩:=r;rfl
 |n :: ns,_,i + 1,h,h2,.cons _ rs=>jW i (Nat.lt_of_succ_lt_succ h) (Nat.lt_of_succ_lt_succ h2) rs
theorem rj {k:Int}{t:Tok}(A:Around)(s:Shared):∀{ns:List Int} {us:List Value},Vals (ns.map V.int) us->∀y∈us,EqAt A s y (.int k t) (ur k y)
 | [],_,.nil,y,hy=>by cases hy
 |n :: ns,_,.cons r rs,y,hy=>by
  rcases G7.mp hy with z |z
  ·subst z;obtain⟨t',rfl⟩:=r;exact EqAt.int_int n t' k t
  ·exact rj A s rs y z
def Bi (K:Frag):V->List V->Hp->VK->Prop:=λx vs H Q=>∃(a:Addr) (ns:List Int) (k:Int),x=.ref a/\vs= [.int k]/\dH K H a (ns.map V.int)/\k∈ns/\Q (.int (ns.idxOf k:Nat)) H
def xw:EN X "tuple.index" (Bi X.K):=by
 intro pins s σ H x vs v us Q I rx rv h
 obtain⟨a,ns,k,rfl,rfl,hq,hk,q⟩:=h
 cases rx
 obtain⟨u,rfl,ru⟩:=vals1 rv
 obtain⟨t,rfl⟩:=ru
 obtain⟨its,rs,pl,hz⟩:=I.tuple hq
 obtain⟨⟨cls,dd,data,sl⟩,ho,hc,n,hd⟩:=id pl
 simp only at hc hd
 subst hc hd
 have hj:ns.idxOf k < ns.length:=Jh.mpr hk
 have hlen:its.length=ns.length:=by rw[<-rs.length,Hd]
 refine call_meets PySem.F.slot_tuple_index ⟨_,ho,rfl⟩ PySem.F.entry_tuple_index (PySem.F.args_tuple_index_2 _ _)
  (n9 a its.toArray n dd sl (.int k t) (ur k) (ns.idxOf k) (by simpa[hlen] using hj) ?_ ?_) ⟨ho,λy hy=>rj _ _ rs y (by simpa using hy),?_⟩
 ·have:=jW (k:=k) (ns.idxOf k) (by omega) hj rs
  simpa[List.getElem_idxOf hj] using this
 ·intro m hm hlt
  have hm':m < ns.length:=by simpa[hlen] using hm
  have hne:ns[m]≠k:=λz=>by
   have:=List.not_of_lt_findIdx (p:=(· == k)) hlt
   simp[z] at this
  have:=jW (k:=k) m (by omega) hm' rs
  rw[beq_eq_false_iff_ne.mpr hne] at this;simpa using this
 ·exact⟨.int (ns.idxOf k:Nat),H,I.tok _,⟨_,rfl⟩,q⟩
def Inv.tupleP {pins:List (Addr×Obj)}{σ:St}{s:Shared}{p:Addr}{xs:List V}(I:Inv X pins σ H s)(h:dH X.K H p xs):s.TypeIs (.ref p) "tuple"/\∀a,Value.ref p=.ref a->∃ob,s.heap.get? a=some ob/\ob.dict=none:=by
 rcases h with h | ⟨o,its,n,hk,hc,hs,hz,r,hd⟩
 ·obtain⟨_,_,_,o,e,c,n,d,hd⟩:=h.ok I.hok
  exact⟨⟨o,e,c⟩,λa z=>by cases z;exact⟨o,e,hd⟩⟩
 ·exact⟨⟨o,I.kIn p o hk,hc⟩,λa z=>by cases z;exact⟨o,I.kIn p o hk,hd⟩⟩
def E9 (K:Frag)(r:V->List V->Hp->VK->Prop)(to:TE)(t:TA):TE:=λσ H Q=>to σ H λx H1=>(∃p xs,x=.ref p/\dH K H1 p xs)/\t σ H1 λxs H2=>r x xs H2 Q
def CW {o e:Expr}{es:List Expr}{to:TE}{t:TA}{name:Str}{apos cpos:Pos}{id:String}{r:V->List V->Hp->VK->Prop}(slot:Slot "tuple" name id)(hty:typeOf (.builtin id)=pure (.type "method_descriptor"))(hm:EN X id r)(ho:PE X o to)(ha:PA X (e :: es) t)
  (hbase:attributeBase o name X.env (eval o X.env)=eval o X.env:=by rfl)
  (hfew:((backTo cpos (starEach (e :: es) X.env)).all (λx=> !x.1) && (backToKw cpos (keywordEach [] X.env)).all (λx=>x.1.isSome)
   && decide ((e :: es).length + ([]:List Keyword).length + (if ([]:List Keyword).isEmpty then 0 else 1) < 30))=true:=by rfl)
  (hline:(apos.endLine == cpos.line)=true:=by rfl) (hs:starEach (e :: es) X.env=(false,eval e X.env) :: starEach es X.env:=by rfl) (hplain:(backTo cpos (starEach es X.env)).any (·.1)=false:=by rfl) :
  PE X (.Call (.Attribute o name apos) (e :: es) [] cpos) (E9 X.K r to t):=by
 intro pins s σ H Q I h
 refine wpAny_Call_method_late hbase hfew hline rfl (cf (ho pins s σ H _ I h) λv s1 ⟨x,H1,I1,r1,⟨p,ys,ex,hr⟩,q1⟩=>?_)
 subst ex
 cases r1
 obtain⟨h1,h2⟩:=I1.tupleP hr
 refine⟨"tuple",id,PySem.F.plainAttrs_tuple,slot,hty,h1,h2,?_⟩
 have hA:=ha cpos pins s1 σ H1 _ I1 q1
 rw[hs] at hA ⊢
 refine Calls.callWith_builtin (by show (false || (backTo cpos (starEach es X.env)).any (·.1))=false;rw[hplain] <;> rfl) (Calls.evalArgs_plain ?_)
 exact cf hA λus s2 ⟨vs,H2,I2,r2,q2⟩=>hm pins s2 σ H2 (.ref p) vs (.ref p) us Q I2 rfl r2 q2
def jU:List D->Option (List Int)
 | []=>some []
 | .int i :: ds=>(jU ds).map (i :: ·)
 |_=>none
theorem rL:∀{ds:List D} {ns:List Int},jU ds=some ns->ds=ns.map int
 | [],ns,h=>by cases h;rfl
 | .int i :: ds,ns,h=>by
  unfold jU at h
  cases q:jU ds with
  |none=>rw[q] at h;cases h
  |some ms=>rw[q] at h;cases h;rw[rL q];rfl
 | .none :: _,_,h=>by cases h
 | .bool _ :: _,_,h=>by cases h
 | .str _ :: _,_,h=>by cases h
 | .list _ :: _,_,h=>by cases h
 | .tuple _ :: _,_,h=>by cases h
 | .dict _ :: _,_,h=>by cases h
theorem jD:∀ns:List Int,jU (ns.map int)=some ns
 | []=>rfl
 |n :: ns=>by show (jU (ns.map int)).map (n :: ·)=_;rw[jD ns];rfl
theorem nJ:∀{ns:List Int} {xs:List V},ck K G xs (ns.map int)->xs=ns.map V.int
 | [],_,.nil=>rfl
 |n :: ns,_,.cons r t=>by cases r;rw[nJ t];rfl
def AJ (d y:D):Option D:=match d,y with
 | .tuple ds,.int k=>(match jU ds with
  |some ns=>if k∈ns then some (.int (ns.idxOf k:Nat)) else none
  |none=>none)
 |_,_=>none
def vV:D->Bool
 | .tuple _=>true
 |_=>false
def k9 (fa fb:VF D):VF D:=λvs β=>(fa vs β).bnd λx β1=>if vV x=true then (fb vs β1).bnd λy β2=>R.of (AJ x y) β2 else .bad
theorem sL (hK:X.K=Γ.K)(ha:SE X Γ E a fa La ma)(hb:SE X Γ E b fb Lb mb)
  (hbase:attributeBase a "index" X.env (eval a X.env)=eval a X.env:=by rfl)
  (hfew:((backTo cpos (starEach [b] X.env)).all (λx=> !x.1) && (backToKw cpos (keywordEach [] X.env)).all (λx=>x.1.isSome)
   && decide ([b].length + ([]:List Keyword).length + (if ([]:List Keyword).isEmpty then 0 else 1) < 30))=true:=by rfl)
  (hline:(apos.endLine == cpos.line)=true:=by rfl) (hs:starEach [b] X.env=(false,eval b X.env) :: starEach [] X.env:=by rfl) :
  SE X Γ E (.Call (.Attribute a "index" apos) [b] [] cpos) (k9 fa fb) (La ++ Lb) .v:=by
 refine PE.post' (CW PySem.F.slot_tuple_index PySem.F.type_tuple_index xw ha (aK hb bq hs) hbase hfew hline hs rfl) λσ H Q ⟨env,G,B,β,I,o⟩=>?_
 refine⟨env,G,B,β,I,o.bnd.imp λd1 β1 h x G1 H1 I1 s1 m1 vx=>?_⟩
 have vx:=vx.brw I.boxThere
 cases d1 with
 |tuple ds=>
  rw[GW (show vV (.tuple ds)=true from rfl)] at h
  obtain⟨p,xs,rfl,hq,r⟩:=vx.tuple I1.sub
  refine⟨⟨p,xs,rfl,by rw[hK];exact hq⟩,?_⟩
  refine⟨a7 La env,G1,B,β1,I1,?_⟩
  rw[gP]
  refine h.bnd.imp λd2 β2 h y G2 H2 I2 s2 m2 vy=>?_
  obtain⟨d,e,k⟩:=h.of
  have vy:=vy.brw I1.boxThere
  cases d2 with
  |int kk=>
   obtain rfl:=vy.int
   simp only[AJ] at e
   cases q:jU ds with
   |none=>rw[q] at e;cases e
   |some ns=>
    rw[q] at e
    dsimp only at e
    split at e
    ·rename_i hk
     cases e
     have eds:=rL q
     subst eds
     have exs:=nJ r
     subst exs
     have hq2:dH X.K H2 p (ns.map V.int):=by
      rw[hK]
      rcases hq with hq |hq
      ·rcases vx with vx | ⟨_,_,_,vx⟩
       ·cases vx with
        |tup g1 r9=>have z9:=nJ r9;subst z9;exact (g1.grow (s2.trans I2.sub).grow)
       ·exact vx.elim
      ·exact .inr hq
     exact⟨p,ns,kk,rfl,rfl,hq2,hk,k _ G2 H2 (by rw[cM];exact I2) (s1.trans s2) (m1.trans m2) (.int _)⟩
    ·cases e
  |_=>simp only[AJ] at e;cases e
 |_=>exact h.elim
def sH (t:Tg)(L:List Nat)(f:VF D):SF:=λenv β=>toS (f (vl env) β) λd β'=>match dJ t d (a7 L env) with
 |some env'=>.nx env' β'
 |none=>.bad
theorem xT {t:Tg}{tg:Expr}(he:SE X Γ E e f L .v)(hg:SG X Γ tg t)(hs:swapsWithSole [tg] e pos.line X.env=pure false:=by rfl)(hw:swappedStores [tg] e X.env=pure none:=by rfl)
  (h1:(assignEach [tg] X.env).map (·.2)= [assign tg X.env]:=by rfl):SS X Γ E (.Assign [tg] e pos) (sH t L f):=by
 refine PS.post (mO he hg hs hw h1) λN σ H ⟨env,G,B,β,I,o⟩=>?_
 refine⟨env,G,B,β,I,cE o λd β' k v G' H' I' s' m' vo=>?_⟩
 cases q:dJ t d (a7 L env) with
 |none=>rw[q] at k;exact k.elim
 |some env'=>
  rw[q] at k
  exact⟨_,G',B,β',d,env',I',vo,q,λσ' J=>k B G' H' σ' J s'⟩
abbrev Fx.at (Γ:Fx)(H0:Hp):Fx:=⟨Γ.K,H0,Γ.G0,Γ.par,Γ.ca,Γ.br,Γ.bx⟩
end
end L2
namespace L2
open PySem PySem.Spec PyProof.Rows
section
variable {K:Frag}{X:Cx}{G H:Hp}
def C0 (neg:Bool):D->D->Option D
 | .str x,.str y=>some (.bool (if neg then !decide (x=y) else decide (x=y)))
 |_,_=>none
def xU (x y:Str):decide (V.str x=V.str y)=decide (x=y):=by
 rw[HZ];simp
def EC:mj K GC (C0 true) .v:=by
 intro B G H x y dx dy d Q s hB bx by' e k
 cases dx <;> cases dy <;> first | (cases e;done) |skip
 cases e
 obtain rfl:=bx.str
 obtain rfl:=by'.str
 refine⟨rfl,?_⟩
 rw[xU]
 exact k _ G H (Ext.refl s) (.bl _)
end
end L2
namespace L2
open PySem
section
variable {α γ:Type}
@[simp] theorem j5 (a:α)(β:Int)(k:α->Int->R γ):(R.ok a β).bnd k=k a β:=rfl
@[simp] theorem ER (c:Str)(k:α->Int->R γ):(R.exc c:R α).bnd k=.exc c:=rfl
@[simp] theorem E4 (k:α->Int->R γ):(R.bad:R α).bnd k=.bad:=rfl
@[simp] theorem FW (a:α)(β:Int)(k:α->Int->R γ):(R.ok a β).okb k=k a β:=rfl
@[simp] theorem pL (a:α)(β:Int):R.of (some a) β=.ok a β:=rfl
@[simp] theorem of_none (β:Int):(R.of none β:R α)=.bad:=rfl
@[simp] theorem FP (a:α)(β:Int)(k:α->Int->SO):toS (.ok a β) k=k a β:=rfl
@[simp] theorem EV (c:Str)(k:α->Int->SO):toS (.exc c:R α) k=.exc c:=rfl
@[simp] theorem E6 (k:α->Int->SO):toS (.bad:R α) k=.bad:=rfl
end
section
variable (f fa fb fc:VF D)(t u:VF Bool)(m m':SF)(vs:List Nv)(β:Int)(env:En)(i j:Nat)(L:List Nat)
@[simp] theorem BX:gv i vs β=R.of (dat vs[i]?) β:=rfl
@[simp] theorem uG (d:D):dat (some (.da d))=some d:=rfl
@[simp] theorem Fs (d:D):cst d vs β=.ok d β:=rfl
@[simp] theorem Gz (g:D->Option D):f1 fa g vs β=(fa vs β).bnd λx β1=>R.of (g x) β1:=rfl
@[simp] theorem Gy (g:D->D->Option D):f2 fa fb g vs β=(fa vs β).bnd λx β1=>(fb vs β1).bnd λy β2=>R.of (g x y) β2:=rfl
@[simp] theorem u0:ag vs β=.ok [] β:=rfl
@[simp] theorem bf (fr:VF (List D)):aa fa fr vs β=(fa vs β).bnd λx β1=>(fr vs β1).bnd λxs β2=>.ok (x :: xs) β2:=rfl
@[simp] theorem qk:mI fa vs β=(fa vs β).bnd λx β1=>R.of (C7 x) β1:=rfl
@[simp] theorem pI:vP t vs β=(t vs β).bnd λc β1=>.ok (!c) β1:=rfl
@[simp] theorem CI:zW t u vs β=(t vs β).bnd λc β1=>if c=true then u vs β1 else .ok false β1:=rfl
@[simp] theorem pO:qH t u vs β=(t vs β).bnd λc β1=>if c=true then .ok true β1 else u vs β1:=rfl
@[simp] theorem Gp (n:Bool):tN fa n vs β=(fa vs β).bnd λx β1=>.ok (if n then !Bb x else Bb x) β1:=rfl
@[simp] theorem FU:GQ t fa fb vs β=(t vs β).bnd λc β1=>if c=true then fa vs β1 else fb vs β1:=rfl
@[simp] theorem iw (c:Bool){β1:Int}(h:fa vs β=.ok (.bool c) β1):df fa vs β=.ok c β1:=by unfold df;rw[h];rfl
@[simp] theorem tX:vl []= []:=rfl
@[simp] theorem pN (s:Sl):vl (s :: env)=s.val :: vl env:=rfl
@[simp] theorem t9 (d:D):(Sl.fz d).val=.da d:=rfl
@[simp] theorem Gm (d:D):(Sl.ow d).val=.da d:=rfl
@[simp] theorem Gg:Sl.no.val=.no:=rfl
@[simp] theorem Fj:Sl.bx.val=.bx:=rfl
@[simp] theorem EU:a7 [] env=env:=rfl
@[simp] theorem Eo:a7 (i :: L) env=a7 L (ij env i):=rfl
@[simp] theorem ET:aG m m' env β=(match m env β with
 | .nx env' β'=>m' env' β'
 |r=>r):=rfl
@[simp] theorem Ff:kB L t m m' env β=toS (t (vl env) β) λc β'=>if c=true then m (a7 L env) β' else m' (a7 L env) β':=rfl
@[simp] theorem jA:bY f env β=toS (f (vl env) β) λd β'=>.rt d false β':=rfl
@[simp] theorem zm:jQ f env β=toS (f (vl env) β) λd β'=>.rt d true β':=rfl
@[simp] theorem Fv:mC env β=.nx env β:=rfl
@[simp] theorem gO:a9 i L f env β=toS (f (vl env) β) λd β'=>.nx ((a7 L env).set i (.fz d)) β':=rfl
@[simp] theorem yw:kR i L f env β=toS (f (vl env) β) λd β'=>.nx ((a7 L env).set i (.ow d)) β':=rfl
@[simp] theorem DG:oW L f env β=toS (f (vl env) β) λ_ β'=>.nx (a7 L env) β':=rfl
end
def ay {m m':SF}{env env':En}{β β':Int}(h:m env β=.nx env' β'):aG m m' env β=m' env' β':=by unfold aG;rw[h]
def jB {m m':SF}{env:En}{β β':Int}{d:D}{b:Bool}(h:m env β=.rt d b β'):aG m m' env β=.rt d b β':=by unfold aG;rw[h]
def kx {L:List Nat}{t:VF Bool}{m m':SF}{env:En}{β β':Int}(h:t (vl env) β=.ok true β'):kB L t m m' env β=m (a7 L env) β':=by unfold kB;rw[h];rfl
def i5 {L:List Nat}{t:VF Bool}{m m':SF}{env:En}{β β':Int}(h:t (vl env) β=.ok false β'):kB L t m m' env β=m' (a7 L env) β':=by unfold kB;rw[h];rfl
def aN {F:List D->FR}{fr:VF (List D)}{vs:List Nv}{β β1:Int}{ds:List D}{d:D}{b:Bool}(h:fr vs β=.ok ds β1)(e:F ds=.ok d b):aE F fr vs β=.ok d β1:=by unfold aE;rw[h];dsimp only[R.bnd];rw[e]
def nu {F:List D->FR}{fr:VF (List D)}{vs:List Nv}{β β1:Int}{ds:List D}{d:D}(h:fr vs β=.ok ds β1)(e:F ds=.ok d true):nq F fr vs β=.ok d β1:=by unfold nq;rw[h];dsimp only[R.bnd];rw[e]
def cN {fa:VF D}{g:D->Option D}{vs:List Nv}{β β1:Int}{x d:D}(h:fa vs β=.ok x β1)(e:g x=some d):f1 fa g vs β=.ok d β1:=by unfold f1;rw[h];dsimp only[R.bnd];rw[e];rfl
def aJ {fa fb:VF D}{g:D->D->Option D}{vs:List Nv}{β β1 β2:Int}{x y d:D}(h:fa vs β=.ok x β1)(h':fb vs β1=.ok y β2)(e:g x y=some d):f2 fa fb g vs β=.ok d β2:=by unfold f2;rw[h];dsimp only[R.bnd];rw[h'];dsimp only[R.bnd];rw[e];rfl
def fw {i:Nat}{F:List D->Int->FB}{fr:VF (List D)}{vs:List Nv}{β β1 β2:Int}{ds:List D}{d:D}{b:Bool}(hi:tq vs i=true)(h:fr vs β=.ok ds β1)(e:F ds β1=.ok d b β2):gS i F fr vs β=.ok d β2:=by unfold gS;rw[GW hi,h];dsimp only[R.bnd];rw[e]
def CY {f0:VF D}{F:List D->Int->FB}{n:Int}{vs:List Nv}{β β1 z β2:Int}{d:D}{b:Bool}(h:f0 vs β=.ok (.list [.int z]) β1)(e:F [.int n] z=.ok d b β2):E1 f0 F n vs β=.ok d β1:=by unfold E1;rw[h];dsimp only[R.bnd,xI];rw[e]
def sz (n:Nat)(h:n<=1000):n<=sizeLine:=by rw[HB];omega
def Ex (n:Nat)(h:n<=1000):n < sizeLine:=by rw[HB];omega
def iZ {fr:VF (List D)}{vs:List Nv}{β β1:Int}{ds:List D}(h:fr vs β=.ok ds β1)(hz:ds.length<=1000):bh fr vs β=.ok (.tuple ds) β1:=by unfold bh;rw[h];exact GW (sz _ hz)
def cU {fr:VF (List D)}{vs:List Nv}{β β1:Int}{ds:List D}(h:fr vs β=.ok ds β1)(hz:ds.length<=1000):cA fr vs β=.ok (.list ds) β1:=by unfold cA;rw[h];exact GW (sz _ hz)
def yN {i:Nat}{env:En}{β:Int}{g:List D->Option (List D)}{ds es:List D}(h:env[i]? =some (.ow (.list ds)))(e:g ds=some es):DC i env β g=.nx (env.set i (.ow (.list es))) β:=by unfold DC;rw[h];dsimp only;rw[e]
def pE {i:Nat}{L:List Nat}{f:VF D}{env:En}{β β':Int}{ds:List D}{d:D}(hi:env[i]? =some (.ow (.list ds)))(hf:f (vl env) β=.ok d β')(hL:(a7 L env)[i]? =some (.ow (.list ds)))(hz:ds.length<=1000):ml i L f env β=.nx ((a7 L env).set i (.ow (.list (ds ++ [d])))) β':=by
 unfold ml
 rw[GW (by rw[hi];rfl),hf]
 exact yN hL (GW (Ex _ hz))
def uA {i j:Nat}{L:List Nat}{f:VF D}{env:En}{β β':Int}{ds es es':List D}{k d:D}(hi:env[i]? =some (.ow (.list ds)))(hj:env[j]? =some (.ow (.list es)))(hij:i≠j)(hf:f (vl env) β=.ok k β')(hL:a7 L env=env)(hp:wg es k=some (d,es'))(hz:ds.length<=1000):iI i j L f env β=.nx ((env.set j (.ow (.list es'))).set i (.ow (.list (ds ++ [d])))) β':=by
 unfold iI
 rw[GW ⟨by rw[hi];rfl,by rw[hj];rfl,hij⟩,hf,hL]
 dsimp only[toS]
 rw[hj]
 dsimp only
 rw[hp]
 exact yN (by rw[Hm (Ne.symm hij)];exact hi) (GW (Ex _ hz))
def c9 {α:Type}{own:Nat}{ixs:List Nat}{t:Tg}{fi:VF (List D)}{fe:VF D}{vs:List Nv}{β β1:Int}{l:List α}{e:α->D}(h:α->D)(hi:fi vs β=.ok (l.map e) β1)(hz:l.length<=1000)
  (hh:∀x,x∈l->∃vs1,nQ t (e x) (fA own ixs vs)=some vs1/\fe vs1 β1=.ok (h x) β1):aL own ixs t fi mn fe vs β=.ok (.list (l.map h)) β1:=by
 unfold aL
 rw[hi]
 dsimp only[R.bnd]
 rw[GW (sz _ (by rw[Hd];exact hz))]
 have key:∀m:List α,(∀x,x∈m->x∈l)->fm t mn fe (fA own ixs vs) (m.map e) β1=.ok (m.map h) β1:=by
  intro m
  induction m with
  |nil=>intro _;rfl
  |cons x m ih=>
   intro hm
   obtain⟨vs1,e1,e2⟩:=hh x (hm x (G6 ..))
   rw[Hx]
   unfold fm
   rw[e1]
   dsimp only
   show (R.ok true β1).okb _=_
   dsimp only[R.okb]
   rw[GW rfl,e2]
   dsimp only
   rw[ih λy hy=>hm y (GY _ hy)];rfl
 rw[key l λ_ h=>h];rfl
def cz {α:Type}{own:Nat}{ixs:List Nat}{t:Tg}{fi:VF (List D)}{ft:VF Bool}{fe:VF D}{vs:List Nv}{β β1:Int}{l:List α}{e:α->D}(g:α->Bool)(h:α->D)(hi:fi vs β=.ok (l.map e) β1)(hz:l.length<=1000)
  (hh:∀x,x∈l->∃vs1,nQ t (e x) (fA own ixs vs)=some vs1/\ft vs1 β1=.ok (g x) β1/\(g x=true->fe vs1 β1=.ok (h x) β1)):aL own ixs t fi ft fe vs β=.ok (.list ((l.filter g).map h)) β1:=by
 unfold aL
 rw[hi]
 dsimp only[R.bnd]
 rw[GW (sz _ (by rw[Hd];exact hz))]
 have key:∀m:List α,(∀x,x∈m->x∈l)->fm t ft fe (fA own ixs vs) (m.map e) β1=.ok ((m.filter g).map h) β1:=by
  intro m
  induction m with
  |nil=>intro _;rfl
  |cons x m ih=>
   intro hm
   obtain⟨vs1,e1,e2,e3⟩:=hh x (hm x (G6 ..))
   have ih:=ih λy hy=>hm y (GY _ hy)
   rw[Hx]
   unfold fm
   rw[e1]
   dsimp only
   rw[e2]
   dsimp only[R.okb]
   cases q:g x with
   |true=>
    rw[GW rfl,e3 q]
    dsimp only
    rw[ih,List.filter_cons_of_pos q];rfl
   |false=>
    rw[G8 Ht,ih,List.filter_cons_of_neg (by rw[q];exact Ht)]
 rw[key l λ_ h=>h];rfl
theorem cQ {t:Tg}{m:SF}(Pv:Nat->En->Int->Prop):∀{ds:List D} {k:Nat} {env:En} {β:Int},Pv k env β->
  (∀i d env β,ds[i]? =some d->Pv (k + i) env β->∃env1,dJ t d env=some env1/\∃env2 β2,m env1 β=.nx env2 β2/\Pv (k + i + 1) env2 β2)->∃env' β',qd t m ds env β=.nx env' β'/\Pv (k + ds.length) env' β'
 | [],k,env,β,h0,_=>⟨env,β,rfl,h0⟩
 |d :: ds,k,env,β,h0,hs=>by
  obtain⟨env1,e1,env2,β2,e2,h1⟩:=hs 0 d env β rfl h0
  obtain⟨env',β',e3,h2⟩:=cQ Pv (t:=t) (m:=m) (ds:=ds) (k:=k + 1) h1 λi d' en be hi hp=>by
   have:=hs (i + 1) d' en be (by simpa using hi) (by rw[show k + (i + 1)=k + 1 + i by omega];exact hp)
   rw[show k + (i + 1) + 1=k + 1 + i + 1 by omega] at this
   exact this
  refine⟨env',β',?_,by rw[Hr,show k + (ds.length + 1)=k + 1 + ds.length by omega];exact h2⟩
  unfold qd
  rw[e1]
  dsimp only
  rw[e2]
  exact e3
theorem ke {L:List Nat}{t:VF Bool}{m:SF}(Pv:Nat->En->Int->Prop)(Dn:En->Int->Prop):∀{n k:Nat} {env:En} {β:Int},k < n->Pv k env β->
  (∀k env β,Pv k env β->∃c β1,t (vl env) β=.ok c β1/\((c=false/\Dn (a7 L env) β1)\/(c=true/\∃env2 β2 k',m (a7 L env) β1=.nx env2 β2/\k' < k/\Pv k' env2 β2)))->∃env' β',iz L t m n env β=.nx env' β'/\Dn env' β'
 | 0,k,env,β,hk,_,_=>by omega
 |n + 1,k,env,β,hk,h0,hs=>by
  obtain⟨c,β1,e1,hc⟩:=hs k env β h0
  unfold iz
  rw[e1]
  dsimp only[toS]
  rcases hc with⟨rfl,hd⟩ | ⟨rfl,env2,β2,k',e2,hl,h1⟩
  ·exact⟨_,_,rfl,hd⟩
  ·rw[GW rfl,e2]
   exact ke Pv Dn (n:=n) (k:=k') (by omega) h1 hs
end L2
namespace RM
open PySem L2
def nj:SF:=(bY (dX (f1 (gv 0) (jr "int")) (f1 (f1 (gv 0) (jr "bool")) pG)))
def nS (bB:List D->FR):SF:=(bY (dX (aE bB (aa (gv 0) ag)) (iP (cst (.int 0)) (gv 0) (gv 1) y2 Dq)))
def pf (bB:List D->FR):SF:=(bY (dX (aE bB (aa (gv 0) ag)) (iP (cst (.int 1)) (gv 0) (cst (.int 8)) y2 y2)))
def hZ (c8:List D->FR):SF:=(aG (kB ([] ++ ([] ++ [])) (qH (vP (mI (f1 (gv 0) (jr "tuple")))) (df (f2 (f1 (gv 0) gQ) (cst (.int 2)) (de true))))
 (bY (cst (.bool false)))
 mC)
 (bY (dX (aE c8 (aa (f2 (gv 0) (cst (.int 0)) cZ) (aa (gv 1) ag))) (aE c8 (aa (f2 (gv 0) (cst (.int 1)) cZ) (aa (gv 1) ag))))))
def fJ:SF:=(jQ (aL 1 [0] (.nm 0) (bz (f2 (gv 0) (gv 0) b5)) mn (bh (aa (f2 (gv 0) (gv 1) xA) (aa (f2 (gv 0) (gv 1) jZ) ag)))))
def mU:SF:=(bY (f1 (aL 2 [] (.two 0 1) (bS (gv 0)) mn (f2 (gv 0) (gv 1) (de false))) (jh λbs=>bs.any id)))
def gi (fT bG hU eG:List D->FR):SF:=(aG (kB ([] ++ ([] ++ [])) (qH (vP (mI (f1 (gv 0) (jr "tuple")))) (df (f2 (f1 (gv 0) gQ) (cst (.int 2)) (de true))))
 (bY (cst (.bool false)))
 mC)
 (aG (a9 1 ([] ++ []) (f2 (gv 0) (cst (.int 0)) cZ))
 (aG (a9 2 ([] ++ []) (f2 (gv 0) (cst (.int 1)) cZ))
 (aG (kB (([1] ++ []) ++ []) (qH (vP (mI (aE fT (aa (gv 1) ag)))) (vP (mI (f1 (gv 2) (jr "tuple")))))
 (bY (cst (.bool false)))
 mC)
 (aG (kB ([] ++ [1]) (vP (mI (f1 (aL 1 [1] (.nm 0) (bS (gv 2)) mn (aE bG (aa (gv 0) (aa (gv 1) ag)))) (jh λbs=>bs.all id))))
 (bY (cst (.bool false)))
 mC)
 (bY (dX (f2 (gv 2) (aE hU (aa (gv 1) (aa (gv 2) ag))) (de false)) (f1 (aE eG (aa (gv 2) ag)) pG))))))))
def fC (dN:List D->FR):SF:=(kB ([0] ++ []) (vP (mI (aE dN (aa (gv 0) ag))))
 (λenv β=>toS ((aa (cst (.str "this is no order")) ag) (vl env) β) λds _=>if ds.length<=sizeLine then .exc "NoOrder" else .bad)
 mC)
def lT:SF:=(bY (dX (f2 (gv 1) (gv 2) (de true)) (dX (f2 (bh (aa (gv 1) (aa (gv 2) ag))) (f2 (gv 0) (cst (.int 1)) cZ) (xl true)) (f2 (bh (aa (gv 2) (aa (gv 1) ag))) (f2 (gv 0) (cst (.int 1)) cZ) (xl true)))))
def fj:SF:=(aG (kB ([] ++ []) (df (f2 (gv 1) (f1 (gv 0) gQ) Dq))
 (bY (f2 (gv 0) (gv 1) cZ))
 mC)
 (bY (cst (.int 0))))
def iA:SF:=(aG (a9 2 [] (cA (Gq [48271,69621,16807,39373,30269,40014,40692,50021,61687,71993,83869,95561,30307]))) (aG (a9 3 ((((([] ++ []) ++ []) ++ ([] ++ ([] ++ []))) ++ ([] ++ [])) ++ ([] ++ ([] ++ []))) (f2 (f2 (f2 (f2 (f2 (gv 0) (cst (.int 2147483647)) jZ) (cst (.int 12345)) bK) (f2 (gv 2) (f2 (gv 1) (cst (.int 13)) jZ) cZ) b5) (f2 (cst (.int 977)) (gv 1) b5) bK) (f2 (cst (.int 7919)) (f2 (gv 1) (cst (.int 13)) xA) b5) bK))
 (aG (a9 3 ([] ++ []) (f2 (gv 3) (cst (.int 1000000007)) jZ))
 (bY (f2 (f2 (f2 (f2 (gv 3) (gv 3) b5) (f2 (cst (.int 48271)) (gv 1) b5) bK) (cst (.int 1000000007)) jZ) (cst (.int 7)) xA)))))
def iB (dg dY:List D->FR):SF:=(aG (a9 2 ([0] ++ ([1] ++ [])) (aE dg (aa (gv 0) (aa (gv 1) ag))))
 (aG (kB (([] ++ []) ++ []) (df (f2 (f2 (gv 2) (cst (.int 2)) jZ) (cst (.int 0)) (de false)))
 (jQ (cA (aa (f2 (f1 (gv 2) Ax) (cst (.int 2)) xA) ag)))
 mC)
 (aG (a9 3 [] (cst (.int 0)))
 (aG (dh (.nm 4) [] (bz (cst (.int 40)))
 (a9 3 (([] ++ []) ++ ([2] ++ ([4] ++ []))) (f2 (f2 (gv 3) (cst (.int 142857143)) b5) (aE dY (aa (gv 2) (aa (gv 4) ag))) bK)))
 (jQ (cA (aa (gv 3) ag)))))))
def cT (aA:List D->Int->FB):SF:=(aG (kR 2 [] (f1 (gv 1) BY))
 (aG (kR 3 [] (cA ag))
 (aG (iz ([] ++ []) (df (f2 (gv 2) (cA ag) (de true)))
 (iI 3 2 ([] ++ []) (gS 0 aA (aa (f1 (gv 2) gQ) ag))) 1000)
 (vm 3))))
noncomputable def eT:SF:=(aG (a9 1 [] (f1 (gv 0) cc))
 (aG (a9 2 [] (f1 (cst (.int 1)) DT))
 (aG (iz ([] ++ []) (df (f2 (gv 2) (f1 (gv 1) gQ) (de true)))
 (aG (a9 2 [] (f1 (gv 1) gQ))
 (aG (a9 3 [] (cA ag))
 (aG (dh (.two 4 5) [1] (bS (gv 1))
 (a9 3 ([] ++ ([] ++ [4])) (f2 (gv 3) (aL 2 [5,4] (.two 0 1) (bS (gv 1)) (df (f2 (gv 0) (gv 2) (de false))) (bh (aa (gv 3) (aa (gv 1) ag)))) gx)))
 (a9 1 ([] ++ []) (f1 (f2 (gv 1) (gv 3) gx) cc))))) 1000)
 (bY (f1 (gv 1) gY)))))
def fG (cj:List D->FR)(aA aC:List D->Int->FB):SF:=(aG (a9 2 ([] ++ ([1] ++ [])) (f2 (cst (.int 1)) (gS 0 aA (aa (gv 1) ag)) bK))
 (aG (a9 3 ([] ++ []) (gS 0 aC (aa (f1 (gv 2) bJ) ag)))
 (aG (a9 4 (([] ++ ([] ++ ([] ++ ([] ++ [])))) ++ ([] ++ [])) (f2 (cA (aa (cst (.int 2)) (aa (cst (.int 3)) (aa (cst (.int 4)) (aa (cst (.int 7)) ag))))) (gS 0 aA (aa (cst (.int 4)) ag)) cZ))
 (aG (kR 5 [] (cA ag))
 (aG (dh (.nm 6) [] (bz (gv 2))
 (dh (.nm 7) (([] ++ []) ++ []) (oH (f2 (gv 6) (cst (.int 1)) bK) (gv 2))
 (kB (([4] ++ []) ++ []) (df (f2 (gS 0 aA (aa (gv 4) ag)) (cst (.int 0)) (de false)))
 (ml 5 (([] ++ []) ++ (([] ++ []) ++ [])) (bh (aa (f2 (gv 3) (gv 6) cZ) (aa (f2 (gv 3) (gv 7) cZ) ag))))
 mC)))
 (bY (bh (aa (gv 2) (aa (aE cj (aa (gv 5) ag)) ag)))))))))
def kS:SF:=(bY (dX (f2 (gv 1) (gv 2) (de true)) (dX (f2 (bh (aa (gv 1) (aa (gv 2) ag))) (f2 (gv 0) (cst (.int 1)) cZ) (xl true)) (f2 (bh (aa (gv 2) (aa (gv 1) ag))) (f2 (gv 0) (cst (.int 1)) cZ) (xl true)))))
def mD (a8 b8 bg:List D->FR):SF:=(aG (oW ([0] ++ []) (aE a8 (aa (gv 0) ag)))
 (jQ (aL 2 [0] (.two 0 1) (bS (aE b8 (aa (f2 (gv 0) (cst (.int 0)) cZ) ag))) (mI (aE bg (aa (gv 2) (aa (gv 0) (aa (gv 1) ag))))) (bh (aa (gv 0) (aa (gv 1) ag))))))
def DO:D->Bool
 | .int _=>true
 |_=>false
def jn:List D->FR
 | [d]=>if dG d=true then .bad else .ok (.bool (DO d)) false
 |_=>.bad
def p5 {d:D}(h:dG d=false):jn [d]=.ok (.bool (DO d)) false:=G8 (by rw[h];exact Ht)
def Ac (ds:List D)(h:jn ds≠.bad):bb 1 1 nj ds=jn ds:=by
 unfold jn at h
 split at h
 ·rename_i d
  cases q:dG d with
  |true=>rw[q] at h;exact absurd rfl h
  |false=>
   rw[p5 q]
   have e1:jr "int" d=some (.bool (zL d "int")):=by unfold jr;rw[q];rfl
   have e2:jr "bool" d=some (.bool (zL d "bool")):=by unfold jr;rw[q];rfl
   show fin (bY (dX (f1 (gv 0) (jr "int")) (f1 (f1 (gv 0) (jr "bool")) pG)) [.fz d] 0)=_
   unfold bY dX f1 gv
   simp only[pN,tX,t9,List.getElem?_cons_zero,uG,pL,j5,e1,e2]
   cases d <;> rfl
 ·exact absurd rfl h
def lI (d:D)(n:Int):Bool:=match d with
 | .int i=>decide (0<=i/\i < n)
 |_=>false
def dW:List D->FR
 | [d,.int n]=>if dG d=true then .bad else .ok (.bool (lI d n)) false
 |_=>.bad
def p8 {d:D}{n:Int}(h:dG d=false):dW [d,.int n]=.ok (.bool (lI d n)) false:=G8 (by rw[h];exact Ht)
def qX {i lo n:Int}{vs:List Nv}{β:Int}{fa fb fc:VF D}{g':D->D->Option D}{q:Bool}(ha:fa vs β=.ok (.int lo) β)(hb:fb vs β=.ok (.int i) β)(hc:fc vs β=.ok (.int n) β)(hq:g' (.int i) (.int n)=some (.bool q)):iP fa fb fc y2 g' vs β=.ok (.bool (decide (lo<=i) && q)) β:=by
 unfold iP
 rw[ha];dsimp only[R.bnd];rw[hb];dsimp only[R.bnd]
 show (match (some (PyData.bool (decide (lo<=i))):Option D) with
  |some (.bool true)=>_
  |some (.bool false)=>_
  |_=>_)=_
 by_cases h:lo<=i
 ·rw[Hb h]
  dsimp only
  rw[hc]
  dsimp only[R.bnd]
  rw[hq];rfl
 ·rw[Hh h];rfl
def Ab (ds:List D)(h:dW ds≠.bad):bb 2 2 (nS jn) ds=dW ds:=by
 unfold dW at h
 split at h
 ·rename_i d n
  cases q:dG d with
  |true=>rw[q] at h;exact absurd rfl h
  |false=>
   rw[p8 q]
   show fin (bY (dX (aE jn (aa (gv 0) ag)) (iP (cst (.int 0)) (gv 0) (gv 1) y2 Dq)) [.fz d,.fz (.int n)] 0)=_
   unfold bY dX aE
   simp only[pN,tX,t9,bf,u0,BX,List.getElem?_cons_zero,uG,pL,j5,p5 q]
   cases d with
   |int i=>
    show fin (toS (iP (cst (.int 0)) (gv 0) (gv 1) y2 Dq [.da (.int i),.da (.int n)] 0) _)=_
    rw[qX (lo:=0) (i:=i) (n:=n) rfl rfl rfl rfl]
    show FR.ok (.bool (decide (0<=i) && decide (i < n))) false=.ok (.bool (decide (0<=i/\i < n))) false
    rw[Bool.decide_and]
   |_=>rfl
 ·exact absurd rfl h
def BR (d:D):Bool:=match d with
 | .int i=>decide (1<=i/\i<=8)
 |_=>false
def jN:List D->FR
 | [d]=>if dG d=true then .bad else .ok (.bool (BR d)) false
 |_=>.bad
def yS {d:D}(h:dG d=false):jN [d]=.ok (.bool (BR d)) false:=G8 (by rw[h];exact Ht)
def C3 (ds:List D)(h:jN ds≠.bad):bb 1 1 (pf jn) ds=jN ds:=by
 unfold jN at h
 split at h
 ·rename_i d
  cases q:dG d with
  |true=>rw[q] at h;exact absurd rfl h
  |false=>
   rw[yS q]
   show fin (bY (dX (aE jn (aa (gv 0) ag)) (iP (cst (.int 1)) (gv 0) (cst (.int 8)) y2 y2)) [.fz d] 0)=_
   unfold bY dX aE
   simp only[pN,tX,t9,bf,u0,BX,List.getElem?_cons_zero,uG,pL,j5,p5 q]
   cases d with
   |int i=>
    show fin (toS (iP (cst (.int 1)) (gv 0) (cst (.int 8)) y2 y2 [.da (.int i)] 0) _)=_
    rw[qX (lo:=1) (i:=i) (n:=8) rfl rfl rfl rfl]
    show FR.ok (.bool (decide (1<=i) && decide (i<=8))) false=.ok (.bool (decide (1<=i/\i<=8))) false
    rw[Bool.decide_and]
   |_=>rfl
 ·exact absurd rfl h
def pairF:List D->FR
 | [d,.int n]=>(match mR d with
  |some p=>.ok (.bool (decide ((0<=p.1/\p.1 < n)/\(0<=p.2/\p.2 < n)))) false
  |none=>.bad)
 |_=>.bad
def zl (p:Pr)(n:Int):pairF [ak p,.int n]=.ok (.bool (decide ((0<=p.1/\p.1 < n)/\(0<=p.2/\p.2 < n)))) false:=rfl
def CJ (ds:List D)(h:pairF ds≠.bad):bb 2 2 (hZ dW) ds=pairF ds:=by
 unfold pairF at h
 split at h
 ·rename_i d n
  cases q:mR d with
  |none=>rw[q] at h;exact absurd rfl h
  |some p=>
   obtain rfl:=sO q
   rw[zl]
   obtain⟨a,b⟩:=p
   show fin (toS (dX (aE dW (aa (f2 (gv 0) (cst (.int 0)) cZ) (aa (gv 1) ag))) (aE dW (aa (f2 (gv 0) (cst (.int 1)) cZ) (aa (gv 1) ag))) [.da (.tuple [.int a,.int b]),.da (.int n)] 0) λd β'=>.rt d false β')=_
   have e1:aE dW (aa (f2 (gv 0) (cst (.int 0)) cZ) (aa (gv 1) ag)) [.da (.tuple [.int a,.int b]),.da (.int n)] 0=.ok (.bool (decide (0<=a/\a < n))) 0:=rfl
   have e2:aE dW (aa (f2 (gv 0) (cst (.int 1)) cZ) (aa (gv 1) ag)) [.da (.tuple [.int a,.int b]),.da (.int n)] 0=.ok (.bool (decide (0<=b/\b < n))) 0:=rfl
   unfold dX
   rw[e1]
   dsimp only[R.bnd]
   by_cases c:0<=a/\a < n
   ·rw[Hb c,e2]
    show FR.ok (.bool (decide (0<=b/\b < n))) false=.ok (.bool (decide ((0<=a/\a < n)/\(0<=b/\b < n)))) false
    simp[c]
   ·rw[Hh c]
    show FR.ok (.bool false) false=.ok (.bool (decide ((0<=a/\a < n)/\(0<=b/\b < n)))) false
    simp[c]
 ·exact absurd rfl h
def aF (n:Nat)(l:List Pr):D:=.tuple [.int n,.tuple (l.map ak)]
open Classical in
noncomputable def o9 (f:Nat->List Pr->FR):D->FR:=λd=>if h:∃nl:Nat×List Pr,d=aF nl.1 nl.2/\OM.Ord nl.1 nl.2 then f (Classical.choose h).1 (Classical.choose h).2 else .bad
def Bg {p q:Pr}(h:ak p=ak q):p=q:=by
 obtain⟨a,b⟩:=p
 obtain⟨c,d⟩:=q
 unfold ak at h
 simp at h
 rw[h.1,h.2]
theorem l5:∀{l m:List Pr},l.map ak=m.map ak->l=m
 | [],[],_=>rfl
 | [],_ :: _,h=>by cases h
 |_ :: _,[],h=>by cases h
 |p :: l,q :: m,h=>by
  simp only[Hx,List.cons.injEq] at h
  rw[Bg h.1,l5 h.2]
def yo {n m:Nat}{l k:List Pr}(h:aF n l=aF m k):n=m/\l=k:=by
 unfold aF at h
 simp only[PyData.tuple.injEq,List.cons.injEq,int.injEq,and_true] at h
 exact⟨by omega,l5 h.2⟩
def rC {f:Nat->List Pr->FR}{n:Nat}{l:List Pr}(O:OM.Ord n l):o9 f (aF n l)=f n l:=by
 unfold o9
 have h:∃nl:Nat×List Pr,aF n l=aF nl.1 nl.2/\OM.Ord nl.1 nl.2:=⟨(n,l),rfl,O⟩
 rw[dif_pos h]
 obtain⟨e,_⟩:=Classical.choose_spec h
 obtain⟨e1,e2⟩:=yo e
 rw[<-e1,<-e2]
def so {f:Nat->List Pr->FR}{d:D}(h:o9 f d≠.bad):∃n l,d=aF n l/\OM.Ord n l:=by
 unfold o9 at h
 by_cases q:∃nl:Nat×List Pr,d=aF nl.1 nl.2/\OM.Ord nl.1 nl.2
 ·obtain⟨nl,e,O⟩:=q;exact⟨nl.1,nl.2,e,O⟩
 ·rw[dif_neg q] at h;exact absurd rfl h
noncomputable def cG:List D->FR
 | [.int n,d]=>(match jk d with
  |some ds=>(match dM ds with
   |some ps=>(open Classical in if 1<=n/\n<=8/\OM.Wn n.toNat ps then .ok (.tuple ((OM.bu n.toNat (OM.Tr (OM.Mem ps))).map ak)) false else .bad)
   |none=>.bad)
  |none=>.bad)
 |_=>.bad
def zy {n:Nat}{ps:List Pr}(h1:1<=n)(h8:n<=8)(w:OM.Wn n ps):cG [.int n,.tuple (ps.map ak)]=.ok (.tuple ((OM.bu n (OM.Tr (OM.Mem ps))).map ak)) false:=by
 unfold cG
 simp only[jk,cW]
 rw[GW ⟨by omega,by omega,by rw[HV];exact w⟩,HV]
def i6:List D->FR
 | [.tuple ds]=>(match dM ds with
  |some ps=>if ps.length<=1000 then .ok (.bool (ps.any λp=>decide (p.1=p.2))) false else .bad
  |none=>.bad)
 |_=>.bad
theorem lb {α:Type}(f:α->Bool):∀l:List α,jm (l.map λx=>PyData.bool (f x))=some (l.map f)
 | []=>rfl
 |x :: l=>by
  show (jm (l.map λx=>PyData.bool (f x))).map (f x :: ·)=_
  rw[lb f l];rfl
def B8 (ds:List D)(h:i6 ds≠.bad):bb 1 1 mU ds=i6 ds:=by
 unfold i6 at h
 split at h
 ·rename_i ds
  cases q:dM ds with
  |none=>rw[q] at h;exact absurd rfl h
  |some ps=>
   rw[q] at h
   dsimp only at h
   by_cases hz:ps.length<=1000
   case neg=>rw[G8 hz] at h;exact absurd rfl h
   obtain rfl:=ip q
   have e:i6 [.tuple (ps.map ak)]=.ok (.bool (ps.any λp=>decide (p.1=p.2))) false:=by
    unfold i6;simp only[cW];rw[GW hz]
   rw[e]
   have ec:aL 2 [] (.two 0 1) (bS (gv 0)) mn (f2 (gv 0) (gv 1) (de false)) [.da (.tuple (ps.map ak))] 0=.ok (.list (ps.map λp=>PyData.bool (decide (p.1=p.2)))) 0:=by
    exact c9 (l:=ps) (e:=ak) (λp=>PyData.bool (decide (p.1=p.2))) rfl hz λp hp=>⟨_,rfl,rfl⟩
   show fin (toS ((aL 2 [] (.two 0 1) (bS (gv 0)) mn (f2 (gv 0) (gv 1) (de false)) [.da (.tuple (ps.map ak))] 0).bnd λx β1=>R.of (jh (λbs=>bs.any id) x) β1) λd β'=>.rt d false β')=_
   rw[ec]
   simp only[j5,jh]
   rw[lb]
   simp[fin,List.any_map]
 ·exact absurd rfl h
def ly (p:Pr):SeqAt.shaped (ak p)=true:=rfl
theorem pW:∀l:List Pr,PyData.canLayAll0 (l.map ak)=true
 | []=>rfl
 |p :: l=>by
  show ((ak p).canLay0 && PyData.canLayAll0 (l.map ak))=true
  rw[pW l];rfl
theorem qP:∀l:List Pr,PyData.depthAll (l.map ak)<=1
 | []=>by show (0:Nat)<=1;omega
 |p :: l=>by
  show max (ak p).depth (PyData.depthAll (l.map ak))<=1
  have h1:(ak p).depth=1:=by simp[ak,PyData.depth,PyData.depthAll]
  have h2:=qP l
  omega
def mQ (l:List Pr):SeqAt.shaped (.tuple (l.map ak))=true:=by
 unfold SeqAt.shaped
 have h1:(PyData.tuple (l.map ak)).canLay0=true:=by simp only[PyData.canLay0];exact pW l
 have h2:(PyData.tuple (l.map ak)).depth<=64:=by simp only[PyData.depth];have:=qP l;omega
 rw[h1,Hb h2];rfl
def xP (p q:Pr):PyData.eqv (ak p) (ak q)=decide (p=q):=by
 obtain⟨a,b⟩:=p
 obtain⟨c,d⟩:=q
 simp only[ak,PyData.eqv,PyData.eqvAll,Bool.and_true]
 rw[HZ]
 simp
theorem vS:∀l m:List Pr,PyData.eqvAll (l.map ak) (m.map ak)=decide (l=m)
 | [],[]=>rfl
 | [],_ :: _=>rfl
 |_ :: _,[]=>rfl
 |p :: l,q :: m=>by
  show (PyData.eqv (ak p) (ak q) && PyData.eqvAll (l.map ak) (m.map ak))=_
  rw[xP,vS l m,HZ]
  simp
def uO {n:Nat}{l:List Pr}(O:OM.Ord n l):l.length < 64:=by
 have h8:=O.hi
 have e:=O.closed
 by_cases h:l.length < 64
 ·exact h
 ·exfalso
  have h1:l.length<=n * n:=by rw[<-e];exact OM.yy _ _
  have h2:n * n<=64:=Ik h8 h8
  have hn:n=8:=by
   by_cases h7:n<=7
   ·have:n * n<=7 * 7:=Ik h7 h7
    omega
   ·omega
  have hlen:l.length=n * n:=by subst hn;omega
  have hg:l=OM.bO n:=by
   refine OM.sub_eq O.ris (OM.eZ n) (λx hx=>OM.aY.mpr (O.wn x hx)) ?_
   rw[hlen];unfold OM.bO;simp
  have:((0:Int),(0:Int))∈l:=by rw[hg];exact OM.aY.mpr ⟨⟨by omega,by omega⟩,by omega,by omega⟩
  exact O.irr 0 this
def ym {n:Nat}(h1:1<=n)(h8:n<=8):jN [.int n]=.ok (.bool true) false:=by
 rw[yS rfl]
 show FR.ok (.bool (decide (1<=(n:Int)/\(n:Int)<=8))) false=_
 rw[Hb (by omega)]
def zc (neg:Bool)(l m:List Pr):de neg (.tuple (l.map ak)) (.tuple (m.map ak))=some (.bool (if neg then !decide (l=m) else decide (l=m))):=by
 unfold de
 rw[mQ,mQ]
 simp only[Jw,Ic,PyData.eqv,vS]
def Ar {n:Nat}{l:List Pr}(O:OM.Ord n l):i6 [.tuple (l.map ak)]=.ok (.bool false) false:=by
 have hl:=uO O
 unfold i6
 simp only[cW]
 rw[GW (by omega)]
 have:(l.any λp=>decide (p.1=p.2))=false:=by
  rw[List.any_eq_false]
  intro p hp
  simp only[Ho]
  intro e
  obtain⟨a,b⟩:=p
  simp only at e
  subst e
  exact O.irr a hp
 rw[this]
def wF {n:Nat}{l:List Pr}(O:OM.Ord n l):bb 3 1 (gi jN pairF cG i6) [aF n l]=.ok (.bool true) false:=by
 have hl:=uO O
 show fin (gi jN pairF cG i6 [.fz (aF n l),.no,.no] 0)=_
 unfold gi
 rw[ay (env':=[.fz (aF n l),.no,.no]) (β':=0) (by rfl)]
 rw[ay (env':=[.fz (aF n l),.fz (.int n),.no]) (β':=0) (by rfl)]
 rw[ay (env':=[.fz (aF n l),.fz (.int n),.fz (.tuple (l.map ak))]) (β':=0) (by rfl)]
 have e4:aE jN (aa (gv 1) ag) [.da (aF n l),.da (.int n),.da (.tuple (l.map ak))] 0=.ok (.bool true) 0:=aN rfl (ym O.lo O.hi)
 rw[ay (env':=[.fz (aF n l),.fz (.int n),.fz (.tuple (l.map ak))]) (β':=0) ?h4]
 case h4=>
  refine i5 ?_
  show qH (vP (mI (aE jN (aa (gv 1) ag)))) _ [.da (aF n l),.da (.int n),.da (.tuple (l.map ak))] 0=_
  rw[pO,pI,qk,e4]
  rfl
 have e5:aL 1 [1] (.nm 0) (bS (gv 2)) mn (aE pairF (aa (gv 0) (aa (gv 1) ag))) [.da (aF n l),.da (.int n),.da (.tuple (l.map ak))] 0=.ok (.list (l.map λ_=>PyData.bool true)) 0:=by
  refine c9 (l:=l) (e:=ak) (λ_=>PyData.bool true) rfl (by omega) λp hp=>⟨_,rfl,?_⟩
  refine aN (b:=false) (ds:=[ak p,.int n]) rfl ?_
  rw[zl,Hb (by have:=O.wn p hp;exact this)]
 rw[ay (env':=[.fz (aF n l),.fz (.int n),.fz (.tuple (l.map ak))]) (β':=0) ?h5]
 case h5=>
  refine i5 ?_
  show vP (mI (f1 (aL 1 [1] (.nm 0) (bS (gv 2)) mn (aE pairF (aa (gv 0) (aa (gv 1) ag)))) (jh λbs=>bs.all id))) [.da (aF n l),.da (.int n),.da (.tuple (l.map ak))] 0=_
  rw[pI,qk,cN (d:=.bool true) e5 (by simp only[jh];rw[lb];simp)]
  rfl
 have e6:aE cG (aa (gv 1) (aa (gv 2) ag)) [.da (aF n l),.da (.int n),.da (.tuple (l.map ak))] 0=.ok (.tuple (l.map ak)) 0:=aN rfl (by rw[zy O.lo O.hi O.wn,O.closed])
 have e7:aE i6 (aa (gv 2) ag) [.da (aF n l),.da (.int n),.da (.tuple (l.map ak))] 0=.ok (.bool false) 0:=aN rfl (Ar O)
 show fin (toS (dX (f2 (gv 2) (aE cG (aa (gv 1) (aa (gv 2) ag))) (de false)) (f1 (aE i6 (aa (gv 2) ag)) pG) [.da (aF n l),.da (.int n),.da (.tuple (l.map ak))] 0) _)=_
 unfold dX
 rw[aJ (d:=.bool true) (x:=.tuple (l.map ak)) rfl e6 (by rw[zc];simp)]
 dsimp only[R.bnd]
 rw[cN (d:=.bool true) e7 rfl]
 rfl
noncomputable def dC:List D->FR
 | [d]=>o9 (λ_ _=>.ok (.bool true) false) d
 |_=>.bad
def oY {n:Nat}{l:List Pr}(O:OM.Ord n l):dC [aF n l]=.ok (.bool true) false:=by simp only[dC];exact rC O
def uB (ds:List D)(h:dC ds≠.bad):bb 3 1 (gi jN pairF cG i6) ds=dC ds:=by
 unfold dC at h
 split at h
 ·obtain⟨n,l,rfl,O⟩:=so h
  rw[wF O,oY O]
 ·exact absurd rfl h
noncomputable def jP:List D->FR
 | [d]=>o9 (λ_ _=>.ok .none false) d
 |_=>.bad
def ux {n:Nat}{l:List Pr}(O:OM.Ord n l):jP [aF n l]=.ok .none false:=by simp only[jP];exact rC O
def Ae (ds:List D)(h:jP ds≠.bad):bb 1 1 (fC dC) ds=jP ds:=by
 unfold jP at h
 split at h
 ·obtain⟨n,l,rfl,O⟩:=so h
  rw[ux O]
  have e:aE dC (aa (gv 0) ag) [.da (aF n l)] 0=.ok (.bool true) 0:=aN (ds:=[aF n l]) rfl (oY O)
  show fin (fC dC [.fz (aF n l)] 0)=_
  unfold fC
  rw[i5 (β':=0)]
  ·rfl
  ·show vP (mI (aE dC (aa (gv 0) ag))) [.da (aF n l)] 0=_
   rw[pI,qk,e];rfl
 ·exact absurd rfl h
abbrev bW (ns:List Int):D:=.dict [(.none,.list (ns.map int))]
def kc {i j:Int}(h: -(2 ^ 64) < i/\i < 2 ^ 64):b5 (.int i) (.int j)=some (.int (i * j)):=GW (by dsimp only;rw[Hb h.1,Hb h.2];rfl)
def Ct {i j:Int}(h: -(2 ^ 64) < j/\j < 2 ^ 64):b5 (.int i) (.int j)=some (.int (i * j)):=GW (by dsimp only;rw[Hb h.1,Hb h.2,Jw,Bool.or_true])
def lB {i j:Int}(h:0 < j):jZ (.int i) (.int j)=some (.int (i % j)):=GW (Hb h)
def vk {i j:Int}(h:0 < j)(h2:j < 1073741824):xA (.int i) (.int j)=some (.int (i / j)):=GW (by dsimp only;rw[Hb h,Hb h2];rfl)
theorem iS {α β:Type}(f:α->β)(l:List α)(i:Int):j9 (l.map f) i=(j9 l i).map f:=by
 unfold j9
 rw[Hd]
 cases xC l.length i with
 |none=>rfl
 |some j=>simp
def ll {α:Type}{l:List α}{k:Nat}(h:k < l.length):j9 l (k:Int)=some l[k]:=qQ (GU h)
def De {fa fb:VF D}{vs:List Nv}{β β1 β2:Int}{i j:Int}(h:fa vs β=.ok (.int i) β1)(h':fb vs β1=.ok (.int j) β2):df (f2 fa fb Dq) vs β=.ok (decide (i < j)) β2:=iw _ _ _ _ (aJ h h' rfl)
def cV {neg:Bool}{fa fb:VF D}{vs:List Nv}{β β1 β2:Int}{i j:Int}(h:fa vs β=.ok (.int i) β1)(h':fb vs β1=.ok (.int j) β2):df (f2 fa fb (de neg)) vs β=.ok (if neg then !decide (i=j) else decide (i=j)) β2:=by
 refine iw _ _ _ _ (aJ h h' ?_)
 cases neg <;> rfl
def Dl (ns:List Int)(k:Nat):∃z,bb 2 2 fj [bW ns,.int k]=.ok (.int z) false:=by
 show ∃z,fin (fj [.fz (bW ns),.fz (.int k)] 0)=.ok (.int z) false
 unfold fj
 have e:df (f2 (gv 1) (f1 (gv 0) gQ) Dq) [.da (bW ns),.da (.int k)] 0=.ok (decide ((k:Int) < (ns.map int).length)) 0:=De rfl rfl
 by_cases h:k < ns.length
 ·refine⟨ns[k],?_⟩
  rw[Hb (by simp;exact h)] at e
  rw[jB (d:=.int ns[k]) (b:=false) (β':=0)]
  ·rfl
  ·rw[kx e]
   show toS (f2 (gv 0) (gv 1) cZ [.da (bW ns),.da (.int k)] 0) _=_
   rw[aJ (x:=bW ns) (y:=.int k) (d:=.int ns[k]) (β1:=0) (β2:=0) rfl rfl]
   ·rfl
   ·show j9 (ns.map int) (k:Int)=_
    rw[iS,ll h];rfl
 ·refine⟨0,?_⟩
  rw[Hh (by simp;omega)] at e
  rw[ay (env':=[.fz (bW ns),.fz (.int k)]) (β':=0)]
  ·rfl
  ·rw[i5 e];rfl
noncomputable def uQ:List D->FR:=bb 2 2 fj
noncomputable def zY:List D->FR:=bb 4 2 iA
abbrev tY:List Int:=[48271,69621,16807,39373,30269,40014,40692,50021,61687,71993,83869,95561,30307]
def DM (c k:Int):∃z,zY [.int c,.int k]=.ok (.int z) false:=by
 show ∃z,fin (iA [.fz (.int c),.fz (.int k),.no,.no] 0)=.ok (.int z) false
 unfold iA
 rw[ay (env':=[.fz (.int c),.fz (.int k),.fz (.list (tY.map int)),.no]) (β':=0) (by rfl)]
 obtain⟨j,hj⟩:∃j:Nat,k % 13=j:=⟨(k % 13).toNat,by omega⟩
 have hj13:j < tY.length:=by show j < 13;omega
 have e1:f2 (f2 (f2 (f2 (f2 (gv 0) (cst (.int 2147483647)) jZ) (cst (.int 12345)) bK) (f2 (gv 2) (f2 (gv 1) (cst (.int 13)) jZ) cZ) b5) (f2 (cst (.int 977)) (gv 1) b5) bK) (f2 (cst (.int 7919)) (f2 (gv 1) (cst (.int 13)) xA) b5) bK [.da (.int c),.da (.int k),.da (.list (tY.map int)),.no] 0
   =.ok (.int ((c % 2147483647 + 12345) * tY[j] + 977 * k + 7919 * (k / 13))) 0:=by
  refine aJ (aJ (aJ (aJ (aJ (x:=.int c) (y:=.int 2147483647) rfl rfl (lB (by omega))) rfl rfl) (aJ (x:=.list (tY.map int)) rfl (aJ (x:=.int k) (y:=.int 13) rfl rfl (lB (by omega))) (d:=.int tY[j]) ?_) (kc ⟨by omega,by omega⟩)) (aJ (x:=.int 977) (y:=.int k) rfl rfl (kc ⟨by omega,by omega⟩)) rfl) (aJ (x:=.int 7919) rfl (aJ (x:=.int k) (y:=.int 13) rfl rfl (vk (by omega) (by omega))) (kc ⟨by omega,by omega⟩)) rfl
  show j9 (tY.map int) (k % 13)=_
  rw[hj,iS,ll hj13];rfl
 generalize ((c % 2147483647 + 12345) * tY[j] + 977 * k + 7919 * (k / 13))=st at e1
 rw[ay (env':=[.fz (.int c),.fz (.int k),.fz (.list (tY.map int)),.fz (.int st)]) (β':=0) ?h]
 case h=>
  show toS (f2 _ _ bK [.da (.int c),.da (.int k),.da (.list (tY.map int)),.no] 0) _=_
  rw[e1];rfl
 have e2:f2 (gv 3) (cst (.int 1000000007)) jZ [.da (.int c),.da (.int k),.da (.list (tY.map int)),.da (.int st)] 0=.ok (.int (st % 1000000007)) 0:=aJ rfl rfl (lB (by omega))
 rw[ay (env':=[.fz (.int c),.fz (.int k),.fz (.list (tY.map int)),.fz (.int (st % 1000000007))]) (β':=0) ?h2]
 case h2=>
  show toS (f2 (gv 3) (cst (.int 1000000007)) jZ [.da (.int c),.da (.int k),.da (.list (tY.map int)),.da (.int st)] 0) _=_
  rw[e2];rfl
 have hb: -(2 ^ 64) < st % 1000000007/\st % 1000000007 < 2 ^ 64:=⟨by omega,by omega⟩
 generalize st % 1000000007=u at hb
 have e3:f2 (f2 (f2 (f2 (gv 3) (gv 3) b5) (f2 (cst (.int 48271)) (gv 1) b5) bK) (cst (.int 1000000007)) jZ) (cst (.int 7)) xA [.da (.int c),.da (.int k),.da (.list (tY.map int)),.da (.int u)] 0=.ok (.int ((u * u + 48271 * k) % 1000000007 / 7)) 0:=
  aJ (aJ (aJ (aJ (x:=.int u) (y:=.int u) rfl rfl (kc hb)) (aJ (x:=.int 48271) (y:=.int k) rfl rfl (kc ⟨by omega,by omega⟩)) rfl) rfl (lB (by omega))) rfl (vk (by omega) (by omega))
 refine⟨(u * u + 48271 * k) % 1000000007 / 7,?_⟩
 show fin (toS (f2 _ (cst (.int 7)) xA [.da (.int c),.da (.int k),.da (.list (tY.map int)),.da (.int u)] 0) _)=_
 rw[e3];rfl
noncomputable def CM:List D->FR:=bb 5 2 (iB uQ zY)
def D9 (ns:List Int)(k:Nat):∃z,CM [bW ns,.int k]=.ok (.list [.int z]) true:=by
 obtain⟨c,hc⟩:=Dl ns k
 show ∃z,fin (iB uQ zY [.fz (bW ns),.fz (.int k),.no,.no,.no] 0)=.ok (.list [.int z]) true
 unfold iB
 have e0:aE uQ (aa (gv 0) (aa (gv 1) ag)) [.da (bW ns),.da (.int k),.no,.no,.no] 0=.ok (.int c) 0:=aN rfl hc
 rw[ay (env':=[.fz (bW ns),.fz (.int k),.fz (.int c),.no,.no]) (β':=0) ?h]
 case h=>
  show toS (aE uQ _ [.da (bW ns),.da (.int k),.no,.no,.no] 0) _=_
  rw[e0];rfl
 have e1:df (f2 (f2 (gv 2) (cst (.int 2)) jZ) (cst (.int 0)) (de false)) [.da (bW ns),.da (.int k),.da (.int c),.no,.no] 0=.ok (decide (c % 2=0)) 0:=cV (neg:=false) (aJ rfl rfl (lB (by omega))) rfl
 by_cases h:c % 2=0
 ·rw[Hb h] at e1
  refine⟨(if c < 0 then -c else c) / 2,?_⟩
  rw[jB (d:=.list [.int ((if c < 0 then -c else c) / 2)]) (b:=true) (β':=0)]
  ·rfl
  ·rw[kx e1]
   show toS (cA (aa (f2 (f1 (gv 2) Ax) (cst (.int 2)) xA) ag) [.da (bW ns),.da (.int k),.da (.int c),.no,.no] 0) _=_
   rw[cU (ds:=[.int ((if c < 0 then -c else c) / 2)]) (β1:=0)]
   ·rfl
   ·have e2:f2 (f1 (gv 2) Ax) (cst (.int 2)) xA [.da (bW ns),.da (.int k),.da (.int c),.no,.no] 0=.ok (.int ((if c < 0 then -c else c) / 2)) 0:=aJ (cN (x:=.int c) rfl rfl) rfl (vk (by omega) (by omega))
    rw[bf,e2];rfl
   ·simp
 ·rw[Hh h] at e1
  rw[ay (env':=[.fz (bW ns),.fz (.int k),.fz (.int c),.no,.no]) (β':=0) (by rw[i5 e1];rfl)]
  rw[ay (env':=[.fz (bW ns),.fz (.int k),.fz (.int c),.fz (.int 0),.no]) (β':=0) (by rfl)]
  obtain⟨env',β',el,z,x,rfl,rfl⟩:=cQ (t:=.nm 4) (m:=a9 3 (([] ++ []) ++ ([2] ++ ([4] ++ []))) (f2 (f2 (gv 3) (cst (.int 142857143)) b5) (aE zY (aa (gv 2) (aa (gv 4) ag))) bK)) (ds:=b4 0 40) (k:=0)
   (λ_ env β=>∃(z:Int) (x:Sl),env= [.fz (bW ns),.fz (.int k),.fz (.int c),.fz (.int z),x]/\β=0) (env:=[.fz (bW ns),.fz (.int k),.fz (.int c),.fz (.int 0),.no]) (β:=0) ⟨0,.no,rfl,rfl⟩ (by
    rintro i d env β hi ⟨z,x,rfl,rfl⟩
    obtain⟨j,rfl⟩:∃j:Int,d=.int j:=by
     unfold b4 at hi
     rw[He] at hi
     cases q:(List.range 40)[i]? with
     |none=>rw[q] at hi;cases hi
     |some j=>rw[q] at hi;cases hi;exact⟨_,rfl⟩
    obtain⟨y,hy⟩:=DM c j
    refine⟨_,rfl,_,_,?_,z * 142857143 + y,.fz (.int j),rfl,rfl⟩
    show toS (f2 (f2 (gv 3) (cst (.int 142857143)) b5) (aE zY (aa (gv 2) (aa (gv 4) ag))) bK [.da (bW ns),.da (.int k),.da (.int c),.da (.int z),.da (.int j)] 0) _=_
    rw[aJ (d:=.int (z * 142857143 + y)) (aJ (x:=.int z) (y:=.int 142857143) (β1:=0) (β2:=0) rfl rfl (Ct ⟨by omega,by omega⟩)) (aN (ds:=[.int c,.int j]) (β1:=0) rfl hy) rfl]
    rfl)
  refine⟨z,?_⟩
  rw[ay (env':=[.fz (bW ns),.fz (.int k),.fz (.int c),.fz (.int z),x]) (β':=0) ?h2]
  case h2=>exact el
  show fin (toS (cA (aa (gv 3) ag) [.da (bW ns),.da (.int k),.da (.int c),.da (.int z),x.val] 0) _)=_
  rw[cU (ds:=[.int z]) (β1:=0) rfl (by simp)]
  rfl
noncomputable def cX:List D->Int->FB:=mh 4 1 (cT bM)
theorem lay_ints:∀ns:List Int,PyData.canLayAll0 (ns.map int)=true
 | []=>rfl
 |n :: ns=>by
  show ((int n).canLay0 && PyData.canLayAll0 (ns.map int))=true
  rw[lay_ints ns];rfl
theorem rh:∀ns:List Int,PyData.depthAll (ns.map int)=0
 | []=>rfl
 |n :: ns=>by
  show max (int n).depth (PyData.depthAll (ns.map int))=0
  rw[rh ns];rfl
def shaped_ints (ns:List Int):SeqAt.shaped (.list (ns.map int))=true:=by
 unfold SeqAt.shaped
 have h1:(PyData.list (ns.map int)).canLay0=true:=by simp only[PyData.canLay0];exact lay_ints ns
 have h2:(PyData.list (ns.map int)).depth<=64:=by simp only[PyData.depth];rw[rh];omega
 rw[h1,Hb h2];rfl
theorem rm:∀l m:List Int,PyData.eqvAll (l.map int) (m.map int)=decide (l=m)
 | [],[]=>rfl
 | [],_ :: _=>rfl
 |_ :: _,[]=>rfl
 |p :: l,q :: m=>by
  show ((p == q) && PyData.eqvAll (l.map int) (m.map int))=_
  rw[rm l m,HZ]
  simp
def rP (neg:Bool)(l m:List Int):de neg (.list (l.map int)) (.list (m.map int))=some (.bool (if neg then !decide (l=m) else decide (l=m))):=by
 unfold de
 rw[shaped_ints,shaped_ints]
 simp only[Jw,Ic,PyData.eqv,rm]
theorem gp {α:Type}:∀{l:List α} {k:Nat} {x:α},l[k]? =some x->(x :: l.eraseIdx k).Perm l
 | [],_,_,h=>by simp at h
 |y :: l,0,x,h=>by simp at h;subst h;exact List.Perm.refl _
 |y :: l,k + 1,x,h=>by
  have h:l[k]? =some x:=by simpa using h
  have ih:=gp h
  show (x :: y :: l.eraseIdx k).Perm (y :: l)
  exact (List.Perm.swap y x _).trans (ih.cons y)
theorem oB {α β:Type}(f:α->β):∀(l:List α) (k:Nat),(l.map f).eraseIdx k=(l.eraseIdx k).map f
 | [],_=>rfl
 |_ :: _,0=>rfl
 |x :: l,k + 1=>by simp[oB f l k]
def mJ (ns:List Int)(hz:ns.length<=100)(β:Int):∃(ms:List Int) (β':Int),cX [.list (ns.map int)] β=.ok (.list (ms.map int)) true β'/\ms.Perm ns:=by
 show ∃(ms:List Int) (β':Int),sY (cT bM [.bx,.fz (.list (ns.map int)),.no,.no] β)=.ok (.list (ms.map int)) true β'/\ms.Perm ns
 unfold cT
 rw[ay (env':=[.bx,.fz (.list (ns.map int)),.ow (.list (ns.map int)),.no]) (β':=β) (by rfl)]
 have ez:cA ag [Nv.bx,.da (.list (ns.map int)),.da (.list (ns.map int)),.no] β=.ok (.list []) β:=cU rfl (by simp)
 rw[ay (env':=[.bx,.fz (.list (ns.map int)),.ow (.list (ns.map int)),.ow (.list [])]) (β':=β) ?h]
 case h=>
  show toS (cA ag [Nv.bx,.da (.list (ns.map int)),.da (.list (ns.map int)),.no] β) _=_
  rw[ez];rfl
 obtain⟨env',β',ew,ms,rfl,hp⟩:=ke (L:=[] ++ []) (t:=df (f2 (gv 2) (cA ag) (de true))) (m:=iI 3 2 ([] ++ []) (gS 0 bM (aa (f1 (gv 2) gQ) ag)))
  (λk env β=>∃ls ms:List Int,env= [.bx,.fz (.list (ns.map int)),.ow (.list (ls.map int)),.ow (.list (ms.map int))]/\(ms ++ ls).Perm ns/\k=ls.length)
  (λenv β=>∃ms:List Int,env= [.bx,.fz (.list (ns.map int)),.ow (.list []),.ow (.list (ms.map int))]/\ms.Perm ns) (n:=1000) (k:=ns.length) (env:=[.bx,.fz (.list (ns.map int)),.ow (.list (ns.map int)),.ow (.list [])]) (β:=β) (by omega) ⟨ns,[],rfl,by simp,rfl⟩ (by
   rintro k env β ⟨ls,ms,rfl,hp,rfl⟩
   have e1:cA ag [Nv.bx,.da (.list (ns.map int)),.da (.list (ls.map int)),.da (.list (ms.map int))] β=.ok (.list (([]:List Int).map int)) β:=cU rfl (by simp)
   have et:df (f2 (gv 2) (cA ag) (de true)) [Nv.bx,.da (.list (ns.map int)),.da (.list (ls.map int)),.da (.list (ms.map int))] β=.ok (!decide (ls= [])) β:=
    iw _ _ _ _ (aJ (x:=.list (ls.map int)) rfl e1 (by rw[rP];rfl))
   refine⟨_,_,et,?_⟩
   have hlen:=hp.length_eq
   rw[HN] at hlen
   cases ls with
   |nil=>exact .inl ⟨rfl,ms,rfl,by simpa using hp⟩
   |cons y ys=>
    refine .inr ⟨rfl,?_⟩
    have hm:(0:Int) < ((y :: ys).length:Nat)/\(((y :: ys).length:Nat):Int) < 1073741824:=by
     have:(y :: ys).length<=100:=by omega
     constructor
     ·simp
     ·omega
    obtain⟨j,hj⟩:∃j:Nat,β % (((y :: ys).length:Nat):Int)=j:=⟨(β % (((y :: ys).length:Nat):Int)).toNat,by have:=Int.emod_nonneg β (b:=(((y :: ys).length:Nat):Int)) (by omega);omega⟩
    have hj2:j < (y :: ys).length:=by have:=Int.emod_lt_of_pos β hm.1;omega
    have ef:gS 0 bM (aa (f1 (gv 2) gQ) ag) [Nv.bx,.da (.list (ns.map int)),.da (.list ((y :: ys).map int)),.da (.list (ms.map int))] β=.ok (.int (j:Int)) (β / (((y :: ys).length:Nat):Int)):=by
     refine fw (ds:=[.int (((y :: ys).length:Nat):Int)]) (b:=false) (by rfl) ?_ (by rw[pP hm.1 hm.2,hj])
     show R.ok [int ((((y :: ys).map int).length:Nat):Int)] β=_
     rw[Hd]
    have hpop:wg ((y :: ys).map int) (.int (j:Int))=some (.int (y :: ys)[j],((y :: ys).eraseIdx j).map int):=by
     unfold wg
     dsimp only
     rw[GW ⟨by omega,by omega⟩]
     have es:seqIndex? (j:Int) ((y :: ys).map int).length=some j:=by
      rw[Hd]
      exact PySem.StrLaws.seqIndex_nonneg (by omega) (by omega)
     rw[es]
     dsimp only
     rw[He,GU hj2,oB];rfl
    refine⟨[.bx,.fz (.list (ns.map int)),.ow (.list (((y :: ys).eraseIdx j).map int)),.ow (.list ((ms ++ [(y :: ys)[j]]).map int))],β / (((y :: ys).length:Nat):Int),((y :: ys).eraseIdx j).length,?_,?_,(y :: ys).eraseIdx j,ms ++ [(y :: ys)[j]],rfl,?_,rfl⟩
    ·show iI 3 2 ([] ++ []) (gS 0 bM (aa (f1 (gv 2) gQ) ag)) [.bx,.fz (.list (ns.map int)),.ow (.list ((y :: ys).map int)),.ow (.list (ms.map int))] β=_
     rw[uA (ds:=ms.map int) (es:=(y :: ys).map int) (by rfl) (by rfl) (by decide) ef (by rfl) hpop (by rw[Hd];omega),Il]
     rfl
    ·rw[List.length_eraseIdx]
     rw[GW hj2]
     show (y :: ys).length - 1 < (y :: ys).length
     simp
    ·rw[IA]
     exact (List.Perm.append_left ms (gp (GU hj2))).trans hp)
 refine⟨ms,β',?_,hp⟩
 rw[ay ew]
 rfl
def BP {n:Nat}{l:List Pr}(h8:n<=8)(w:OM.Wn n l):OM.bu 8 (OM.Mem l)=OM.bu n (OM.Mem l):=by
 refine OM.dw (OM.bX _ _) (OM.bX _ _) λx=>?_
 rw[OM.aM,OM.aM]
 constructor
 ·rintro⟨_,h⟩;exact⟨w x h,h⟩
 ·rintro⟨h1,h⟩;exact⟨⟨⟨h1.1.1,by omega⟩,h1.2.1,by omega⟩,h⟩
def uJ {n:Nat}{l:List Pr}(h1:1<=n)(h8:n<=8)(w:OM.Wn n l)(nd:l.Nodup)(irr:∀a,(a,a)∉l):l.length < 64:=by
 have:=OM.nv (l:=(0,0) :: l) (m:=OM.bO n) (HJ.mpr ⟨irr 0,nd⟩) (λx hx=>by
  rcases G7.mp hx with e |e
  ·subst e;exact OM.aY.mpr ⟨⟨by simp,by simp;omega⟩,by simp,by simp;omega⟩
  ·exact OM.aY.mpr (w x e))
 have hg:(OM.bO n).length=n * n:=by unfold OM.bO;simp
 have hn:n * n<=64:=Ik h8 h8
 rw[hg,Hr] at this
 omega
def tE {n:Nat}{l:List Pr}(h8:n<=8)(w:OM.Wn n l):l.all Cb=true:=by
 rw[Iv]
 intro p hp
 have:=w p hp
 unfold Cb
 rw[Hb this.1.1,Hb (by omega:p.1 < 8),Hb this.2.1,Hb (by omega:p.2 < 8)];rfl
def lV {n:Nat}{l:List Pr}{d:D}(h8:n<=8)(w:OM.Wn n l)(hl:(OM.bu n (OM.Mem l)).length < 64)(hd:jk d=some (l.map ak)):cc d=some (.list ((OM.bu n (OM.Mem l)).map ak)):=by
 unfold cc
 rw[hd]
 simp only[cW]
 rw[BP h8 w,GW ⟨tE h8 w,hl⟩]
def sZ (l:List Pr)(p:Pr):List Pr:=(l.filter λq=>decide (q.1=p.2)).map λq=>(p.1,q.2)
def uY (l:List Pr)(p:Pr):(sZ l p).length<=l.length:=by unfold sZ;rw[Hd];exact HR ..
theorem sh (l m:List Pr):(m.flatMap (sZ l)).length<=m.length * l.length:=by
 induction m with
 |nil=>simp
 |cons p m ih=>
  rw[List.flatMap_cons,HN,Hr,Nat.succ_mul]
  have:=uY l p
  omega
def kF {a b:List D}(h:a.length + b.length<=10000):gx (.list a) (.list b)=some (.list (a ++ b)):=GW (by rw[HB];omega)
noncomputable def iq:List D->FR:=bb 6 1 eT
def wu {n:Nat}{ps:List Pr}(h1:1<=n)(h8:n<=8)(w:OM.Wn n ps)(irr:∀a,¬OM.Tr (OM.Mem ps) a a):iq [.list (ps.map ak)]=.ok (.tuple ((OM.bu n (OM.Tr (OM.Mem ps))).map ak)) false:=by
 have blen:∀{l:List Pr},OM.BI n ps l->l.length < 64:=λ{l} B=>uJ h1 h8 B.wn (OM.fQ B.ris) λa ha=>irr a (B.sup _ ha)
 show fin (eT [.fz (.list (ps.map ak)),.no,.no,.no,.no,.no] 0)=_
 unfold eT
 have B0:=OM.xm (ps:=ps) w
 have e0:f1 (gv 0) cc [.da (.list (ps.map ak)),.no,.no,.no,.no,.no] 0=.ok (.list ((OM.bu n (OM.Mem ps)).map ak)) 0:=cN rfl (lV h8 w (blen B0) rfl)
 rw[ay (env':=[.fz (.list (ps.map ak)),.fz (.list ((OM.bu n (OM.Mem ps)).map ak)),.no,.no,.no,.no]) (β':=0) ?h0]
 case h0=>
  show toS (f1 (gv 0) cc [.da (.list (ps.map ak)),.no,.no,.no,.no,.no] 0) _=_
  rw[e0];rfl
 rw[ay (env':=[.fz (.list (ps.map ak)),.fz (.list ((OM.bu n (OM.Mem ps)).map ak)),.fz (.int (-1)),.no,.no,.no]) (β':=0) (by rfl)]
 obtain⟨env',β',ew,rfl,x,sz,a,b,rfl⟩:=ke (L:=[] ++ []) (t:=df (f2 (gv 2) (f1 (gv 1) gQ) (de true)))
  (m:=aG (a9 2 [] (f1 (gv 1) gQ)) (aG (a9 3 [] (cA ag)) (aG (dh (.two 4 5) [1] (bS (gv 1)) (a9 3 ([] ++ ([] ++ [4])) (f2 (gv 3) (aL 2 [5,4] (.two 0 1) (bS (gv 1)) (df (f2 (gv 0) (gv 2) (de false))) (bh (aa (gv 3) (aa (gv 1) ag)))) gx))) (a9 1 ([] ++ []) (f1 (f2 (gv 1) (gv 3) gx) cc)))))
  (λk env β=>β=0/\∃(l:List Pr) (sz:Int) (x a b:Sl),env= [.fz (.list (ps.map ak)),.fz (.list (l.map ak)),.fz (.int sz),x,a,b]/\OM.BI n ps l/\(sz= -1\/∃lp,OM.BI n ps lp/\l=OM.ji n lp/\sz=lp.length)/\k=2 * (64 - l.length) + (if sz=l.length then 0 else 1))
  (λenv β=>β=0/\∃(x sz a b:Sl),env= [.fz (.list (ps.map ak)),.fz (.list ((OM.bu n (OM.Tr (OM.Mem ps))).map ak)),sz,x,a,b])
  (n:=1000) (k:=2 * (64 - (OM.bu n (OM.Mem ps)).length) + (if (-1:Int)=(OM.bu n (OM.Mem ps)).length then 0 else 1)) (env:=[.fz (.list (ps.map ak)),.fz (.list ((OM.bu n (OM.Mem ps)).map ak)),.fz (.int (-1)),.no,.no,.no]) (β:=0)
  (by split <;> omega) ⟨rfl,_,_,_,_,_,rfl,B0,.inl rfl,rfl⟩ (by
   rintro k env β ⟨rfl,l,sz,x,a,b,rfl,B,hsz,rfl⟩
   have hl:=blen B
   have et:df (f2 (gv 2) (f1 (gv 1) gQ) (de true)) [.da (.list (ps.map ak)),.da (.list (l.map ak)),.da (.int sz),x.val,a.val,b.val] 0=.ok (!decide (sz=((l.map ak).length:Nat))) 0:=cV (neg:=true) rfl rfl
   rw[Hd] at et
   refine⟨_,_,et,?_⟩
   by_cases c:sz=(l.length:Nat)
   ·refine .inl ⟨by rw[Hb c];rfl,rfl,x,.fz (.int sz),a,b,?_⟩
    rcases hsz with h | ⟨lp,Bp,rfl,h⟩
    ·omega
    ·show [Sl.fz (.list (ps.map ak)),.fz (.list ((OM.ji n lp).map ak)),.fz (.int sz),x,a,b]=_
     rw[OM.yW Bp (by omega)]
   ·refine .inr ⟨by rw[Hh c];rfl,?_⟩
    obtain⟨B2,hs⟩:=OM.sg B
    have hl2:=blen B2
    have hge:l.length<=(OM.ji n l).length:=OM.nv (OM.fQ B.ris) hs
    have eturn:∃x' a' b':Sl,aG (a9 2 [] (f1 (gv 1) gQ)) (aG (a9 3 [] (cA ag)) (aG (dh (.two 4 5) [1] (bS (gv 1)) (a9 3 ([] ++ ([] ++ [4])) (f2 (gv 3) (aL 2 [5,4] (.two 0 1) (bS (gv 1)) (df (f2 (gv 0) (gv 2) (de false))) (bh (aa (gv 3) (aa (gv 1) ag)))) gx))) (a9 1 ([] ++ []) (f1 (f2 (gv 1) (gv 3) gx) cc)))) [.fz (.list (ps.map ak)),.fz (.list (l.map ak)),.fz (.int sz),x,a,b] 0
      =.nx [.fz (.list (ps.map ak)),.fz (.list ((OM.ji n l).map ak)),.fz (.int (l.length:Nat)),x',a',b'] 0:=by
     rw[ay (env':=[.fz (.list (ps.map ak)),.fz (.list (l.map ak)),.fz (.int (l.length:Nat)),x,a,b]) (β':=0) ?g1]
     case g1=>
      show SO.nx [.fz (.list (ps.map ak)),.fz (.list (l.map ak)),.fz (.int ((l.map ak).length:Nat)),x,a,b] 0=_
      rw[Hd]
     have e3:cA ag [.da (.list (ps.map ak)),.da (.list (l.map ak)),.da (.int (l.length:Nat)),x.val,a.val,b.val] 0=.ok (.list []) 0:=cU rfl (by simp)
     rw[ay (env':=[.fz (.list (ps.map ak)),.fz (.list (l.map ak)),.fz (.int (l.length:Nat)),.fz (.list []),a,b]) (β':=0) ?g2]
     case g2=>
      show toS (cA ag [.da (.list (ps.map ak)),.da (.list (l.map ak)),.da (.int (l.length:Nat)),x.val,a.val,b.val] 0) _=_
      rw[e3];rfl
     obtain⟨env2,β2,ef,rfl,a2,b2,rfl⟩:=cQ (t:=.two 4 5) (m:=a9 3 ([] ++ ([] ++ [4])) (f2 (gv 3) (aL 2 [5,4] (.two 0 1) (bS (gv 1)) (df (f2 (gv 0) (gv 2) (de false))) (bh (aa (gv 3) (aa (gv 1) ag)))) gx)) (ds:=l.map ak) (k:=0)
      (λi env β=>β=0/\∃a b:Sl,env= [.fz (.list (ps.map ak)),.fz (.list (l.map ak)),.fz (.int (l.length:Nat)),.fz (.list (((l.take i).flatMap (sZ l)).map ak)),a,b]) (env:=[.fz (.list (ps.map ak)),.fz (.list (l.map ak)),.fz (.int (l.length:Nat)),.fz (.list []),a,b]) (β:=0) ⟨rfl,a,b,rfl⟩ (by
       rintro i d env β hi ⟨rfl,a,b,rfl⟩
       rw[He] at hi
       cases q:l[i]? with
       |none=>rw[q] at hi;cases hi
       |some p=>
        rw[q] at hi
        cases hi
        have hil:i < l.length:=(Hs.mp q).1
        refine⟨[.fz (.list (ps.map ak)),.fz (.list (l.map ak)),.fz (.int (l.length:Nat)),.fz (.list (((l.take (0 + i)).flatMap (sZ l)).map ak)),.fz (.int p.1),.fz (.int p.2)],rfl,[.fz (.list (ps.map ak)),.fz (.list (l.map ak)),.fz (.int (l.length:Nat)),.fz (.list (((l.take (0 + i + 1)).flatMap (sZ l)).map ak)),.fz (.int p.1),.fz (.int p.2)],0,?_,rfl,_,_,rfl⟩
        have ec:aL 2 [5,4] (.two 0 1) (bS (gv 1)) (df (f2 (gv 0) (gv 2) (de false))) (bh (aa (gv 3) (aa (gv 1) ag))) [.da (.list (ps.map ak)),.da (.list (l.map ak)),.da (.int (l.length:Nat)),.da (.list (((l.take (0 + i)).flatMap (sZ l)).map ak)),.da (.int p.1),.da (.int p.2)] 0=.ok (.list ((sZ l p).map ak)) 0:=by
         rw[cz (l:=l) (e:=ak) (λq=>decide (q.1=p.2)) (λq=>ak (p.1,q.2)) rfl (by omega) (β1:=0)]
         ·unfold sZ;rw[Ih];rfl
         ·intro q hq
          refine⟨_,rfl,cV (neg:=false) (i:=q.1) (j:=p.2) rfl rfl,λ_=>?_⟩
          exact iZ (ds:=[.int p.1,.int q.2]) rfl (by simp)
        have hk:(l.take (0 + i)).length<=63:=by rw[Ir];omega
        have hfl:=sh l (l.take (0 + i))
        have hfl2:(l.take (0 + i)).length * l.length<=63 * 63:=Ik hk (by omega)
        have hm1:=uY l p
        have e5:f2 (gv 3) (aL 2 [5,4] (.two 0 1) (bS (gv 1)) (df (f2 (gv 0) (gv 2) (de false))) (bh (aa (gv 3) (aa (gv 1) ag)))) gx [.da (.list (ps.map ak)),.da (.list (l.map ak)),.da (.int (l.length:Nat)),.da (.list (((l.take (0 + i)).flatMap (sZ l)).map ak)),.da (.int p.1),.da (.int p.2)] 0=.ok (.list (((l.take (0 + i + 1)).flatMap (sZ l)).map ak)) 0:=by
         refine aJ rfl ec ?_
         rw[kF (by rw[Hd,Hd];omega),<-Il]
         have:l.take (0 + i + 1)=l.take (0 + i) ++ [p]:=by rw[HW,Ja,q];rfl
         rw[this,List.flatMap_append,List.flatMap_cons,List.flatMap_nil,IV]
        show toS (f2 (gv 3) (aL 2 [5,4] (.two 0 1) (bS (gv 1)) (df (f2 (gv 0) (gv 2) (de false))) (bh (aa (gv 3) (aa (gv 1) ag)))) gx [.da (.list (ps.map ak)),.da (.list (l.map ak)),.da (.int (l.length:Nat)),.da (.list (((l.take (0 + i)).flatMap (sZ l)).map ak)),.da (.int p.1),.da (.int p.2)] 0) _=_
        rw[e5];rfl)
     rw[HW,Hd,IS (GZ _)] at ef
     rw[ay (env':=[.fz (.list (ps.map ak)),.fz (.list (l.map ak)),.fz (.int (l.length:Nat)),.fz (.list ((l.flatMap (sZ l)).map ak)),a2,b2]) (β':=0) ?g3]
     case g3=>exact ef
     have hfl:=sh l l
     have hfl2:l.length * l.length<=63 * 63:=Ik (by omega) (by omega)
     have e6:f1 (f2 (gv 1) (gv 3) gx) cc [.da (.list (ps.map ak)),.da (.list (l.map ak)),.da (.int (l.length:Nat)),.da (.list ((l.flatMap (sZ l)).map ak)),a2.val,b2.val] 0=.ok (.list ((OM.ji n l).map ak)) 0:=by
      refine cN (x:=.list ((l ++ OM.more l).map ak)) (aJ rfl rfl ?_) (lV h8 (OM.zP B) hl2 rfl)
      rw[kF (by rw[Hd,Hd];omega),<-Il];rfl
     refine⟨.fz (.list ((l.flatMap (sZ l)).map ak)),a2,b2,?_⟩
     show toS (f1 (f2 (gv 1) (gv 3) gx) cc [.da (.list (ps.map ak)),.da (.list (l.map ak)),.da (.int (l.length:Nat)),.da (.list ((l.flatMap (sZ l)).map ak)),a2.val,b2.val] 0) _=_
     rw[e6];rfl
    obtain⟨x',a',b',et2⟩:=eturn
    refine⟨_,_,_,et2,?_,rfl,_,_,_,_,_,rfl,B2,.inr ⟨l,B,rfl,rfl⟩,rfl⟩
    rw[G8 c]
    split <;> omega)
 rw[ay ew]
 rfl
def sy (ms:List Int)(ps:List Pr):Prop:=∀p,p∈ps->∃i j:Nat,i < j/\ms[i]? =some p.1/\ms[j]? =some p.2
theorem gj {α:Type}:∀{l:List α} {i j:Nat} {x:α},l.Nodup->l[i]? =some x->l[j]? =some x->i=j
 | [],_,_,_,_,h,_=>by simp at h
 |y :: l,0,0,_,_,_,_=>rfl
 |y :: l,0,j + 1,x,nd,h1,h2=>by
  simp at h1
  subst h1
  exact absurd (Hi (by simpa using h2)) (HJ.mp nd).1
 |y :: l,i + 1,0,x,nd,h1,h2=>by
  simp at h2
  subst h2
  exact absurd (Hi (by simpa using h1)) (HJ.mp nd).1
 |y :: l,i + 1,j + 1,x,nd,h1,h2=>by
  rw[gj (l:=l) (i:=i) (j:=j) (HJ.mp nd).2 (by simpa using h1) (by simpa using h2)]
def xQ {ms:List Int}{ps:List Pr}(nd:ms.Nodup)(h:sy ms ps){a b:Int}(t:OM.Tr (OM.Mem ps) a b):∃i j:Nat,i < j/\ms[i]? =some a/\ms[j]? =some b:=by
 refine t.least (S:=λa b=>∃i j:Nat,i < j/\ms[i]? =some a/\ms[j]? =some b) (λa b r=>h _ r) ?_
 rintro a b c ⟨i,j,hij,h1,h2⟩ ⟨k,l,hkl,h3,h4⟩
 have:=gj nd h2 h3
 exact⟨i,l,by omega,h1,h4⟩
def xq {ms:List Int}{ps:List Pr}(nd:ms.Nodup)(h:sy ms ps)(a:Int):¬OM.Tr (OM.Mem ps) a a:=λt=>by
 obtain⟨i,j,hij,h1,h2⟩:=xQ nd h t
 have:=gj nd h1 h2
 omega
def gz (n:Nat):List Int:=(List.range n).map λ(k:Nat)=>(k:Int)
def eJ (n:Nat):(gz n).length=n:=by unfold gz;simp
def dr {n:Nat}{x:Int}:x∈gz n↔0<=x/\x < n:=by
 unfold gz
 rw[Ha]
 constructor
 ·rintro⟨k,hk,rfl⟩
  have:=Hn.mp hk
  omega
 ·intro h
  exact⟨x.toNat,Hn.mpr (by omega),by omega⟩
def jy (n:Nat):(gz n).Nodup:=by
 unfold gz
 rw[Iq,HM]
 exact (Iq.mp IP).imp λ{a b} h e=>h (by omega)
def kY (n:Nat):b4 0 n=(gz n).map int:=by
 unfold b4 gz
 rw[Ih]
 refine IM λk _=>?_
 show int (0 + (k:Int))=_
 rw[Ip];rfl
theorem gf {lo:Int}{n i:Nat}{d:D}(h:(b4 lo n)[i]? =some d):i < n/\d=.int (lo + i):=by
 unfold b4 at h
 rw[He] at h
 cases q:(List.range n)[i]? with
 |none=>rw[q] at h;cases h
 |some j=>
  rw[q] at h
  cases h
  obtain⟨hi,ej⟩:=Hs.mp q
  rw[IK] at hi
  rw[List.getElem_range] at ej
  subst ej
  exact⟨hi,rfl⟩
def jf {n:Nat}(h:n<=1000):bJ (.int n)=some (.list ((gz n).map int)):=by
 unfold bJ
 dsimp only
 rw[GW ⟨by omega,by omega⟩,HV,kY]
def cx {fa:VF D}{vs:List Nv}{β β1:Int}{n:Nat}(h:fa vs β=.ok (.int n) β1)(hn:n<=1000):bz fa vs β=.ok (b4 0 n) β1:=by
 unfold bz
 rw[h]
 simp only[j5]
 rw[GW (kZ (by omega) (by omega)),HV]
def yY {fa fb:VF D}{vs:List Nv}{β β1 β2:Int}{i j:Int}(h:fa vs β=.ok (.int i) β1)(h':fb vs β1=.ok (.int j) β2)(hi:0<=i/\i<=1000)(hj:0<=j/\j<=1000):oH fa fb vs β=.ok (b4 i (j - i).toNat) β2:=by
 unfold oH
 rw[h]
 simp only[j5]
 rw[h']
 simp only[j5]
 rw[GW (by rw[kZ (by omega) (by omega),kZ (by omega) (by omega)];rfl)]
def gn {t:Tg}{L:List Nat}{fi:VF (List D)}{m:SF}{env:En}{β β1:Int}{ds:List D}(h:fi (vl env) β=.ok ds β1):dh t L fi m env β=qd t m ds (a7 L env) β1:=by unfold dh;rw[h];rfl
noncomputable def mL:List D->Int->FB:=mh 8 1 (fG iq bM cX)
def wx {n:Nat}{ms:List Int}{ps:List Pr}(h1:1<=n)(h8:n<=8)(hp:ms.Perm (gz n))(ha:sy ms ps):OM.Wn n ps/\(∀a,¬OM.Tr (OM.Mem ps) a a)/\OM.Ord n (OM.bu n (OM.Tr (OM.Mem ps))):=by
 have nd:ms.Nodup:=hp.nodup_iff.mpr (jy n)
 have w:OM.Wn n ps:=λp hm=>by
  obtain⟨i,j,_,e1,e2⟩:=ha p hm
  have m1:=dr.mp (hp.mem_iff.mp (Hi e1))
  have m2:=dr.mp (hp.mem_iff.mp (Hi e2))
  exact⟨m1,m2⟩
 have ir:=λa=>xq nd ha a
 exact⟨w,ir,OM.C6 h1 h8 w ir⟩
def il {m:Nat}(h:1<=m)(h2:m<=1000)(β:Int):∃j:Nat,j < m/\bM [.int m] β=.ok (.int (j:Int)) false (β / m):=by
 refine⟨(β % m).toNat,?_,?_⟩
 ·have h0:=Int.emod_nonneg β (b:=(m:Int)) (by omega)
  have h3:=Int.emod_lt_of_pos β (b:=(m:Int)) (by omega)
  omega
 ·rw[pP (by omega) (by omega)]
  have h0:=Int.emod_nonneg β (b:=(m:Int)) (by omega)
  rw[show ((β % m).toNat:Int)=β % m by omega]
def yG {most:Nat}(hm1:1<=most)(hm8:most<=8)(β:Int):∃(n:Nat) (l:List Pr) (β':Int),mL [.int most] β=.ok (aF n l) false β'/\OM.Ord n l/\n<=most:=by
 obtain⟨j,hj,ej⟩:=il hm1 (by omega) β
 show ∃(n:Nat) (l:List Pr) (β':Int),sY (fG iq bM cX [.bx,.fz (.int most),.no,.no,.no,.no,.no,.no] β)=.ok (aF n l) false β'/\OM.Ord n l/\n<=most
 unfold fG
 generalize hβ1:β / (most:Int)=β1 at ej
 have n8:1 + j<=8:=by omega
 have e1:f2 (cst (.int 1)) (gS 0 bM (aa (gv 1) ag)) bK [Nv.bx,.da (.int most),.no,.no,.no,.no,.no,.no] β=.ok (.int ((1 + j:Nat):Int)) β1:=by
  refine aJ (x:=.int 1) rfl (fw (by rfl) rfl ej) ?_
  show some (int (1 + (j:Int)))=_
  rw[show ((1 + j:Nat):Int)=1 + (j:Int) by omega]
 rw[ay (env':=[.bx,.fz (.int most),.fz (.int ((1 + j:Nat):Int)),.no,.no,.no,.no,.no]) (β':=β1) ?g1]
 case g1=>
  show toS (f2 (cst (.int 1)) (gS 0 bM (aa (gv 1) ag)) bK [Nv.bx,.da (.int most),.no,.no,.no,.no,.no,.no] β) _=_
  rw[e1];rfl
 generalize hn:1 + j=n at n8
 have n1:1<=n:=by omega
 obtain⟨ms,β2,em,hp⟩:=mJ (gz n) (by rw[eJ];omega) β1
 have hml:ms.length=n:=by rw[hp.length_eq,eJ]
 have e2:gS 0 cX (aa (f1 (gv 2) bJ) ag) [Nv.bx,.da (.int most),.da (.int n),.no,.no,.no,.no,.no] β1=.ok (.list (ms.map int)) β2:=by
  refine fw (ds:=[.list ((gz n).map int)]) (b:=true) (β1:=β1) (by rfl) ?_ em
  rw[bf,cN (x:=.int n) (d:=.list ((gz n).map int)) (β1:=β1) rfl (jf (by omega))];rfl
 rw[ay (env':=[.bx,.fz (.int most),.fz (.int n),.fz (.list (ms.map int)),.no,.no,.no,.no]) (β':=β2) ?g2]
 case g2=>
  show toS (gS 0 cX (aa (f1 (gv 2) bJ) ag) [Nv.bx,.da (.int most),.da (.int n),.no,.no,.no,.no,.no] β1) _=_
  rw[e2];rfl
 obtain⟨q,hq,eq⟩:=il (m:=4) (by omega) (by omega) β2
 obtain⟨th,hth,hthv⟩:∃th:Nat,([2,3,4,7]:List Nat)[q]? =some th/\1<=th/\th<=7:=by
  rcases (show q=0\/q=1\/q=2\/q=3 by omega) with rfl |rfl |rfl |rfl
  ·exact⟨2,rfl,by omega,by omega⟩
  ·exact⟨3,rfl,by omega,by omega⟩
  ·exact⟨4,rfl,by omega,by omega⟩
  ·exact⟨7,rfl,by omega,by omega⟩
 generalize hβ3:β2 / ((4:Nat):Int)=β3 at eq
 have e3:f2 (cA (aa (cst (.int 2)) (aa (cst (.int 3)) (aa (cst (.int 4)) (aa (cst (.int 7)) ag))))) (gS 0 bM (aa (cst (.int 4)) ag)) cZ [Nv.bx,.da (.int most),.da (.int n),.da (.list (ms.map int)),.no,.no,.no,.no] β2=.ok (.int th) β3:=by
  refine aJ (x:=.list (([2,3,4,7]:List Nat).map λ(k:Nat)=>int (k:Int))) (y:=.int q) (cU rfl (by simp)) (fw (ds:=[.int 4]) (by rfl) rfl eq) ?_
  show j9 (([2,3,4,7]:List Nat).map λ(k:Nat)=>int (k:Int)) (q:Int)=_
  rw[iS,qQ hth];rfl
 rw[ay (env':=[.bx,.fz (.int most),.fz (.int n),.fz (.list (ms.map int)),.fz (.int th),.no,.no,.no]) (β':=β3) ?g3]
 case g3=>
  show toS (f2 (cA (aa (cst (.int 2)) (aa (cst (.int 3)) (aa (cst (.int 4)) (aa (cst (.int 7)) ag))))) (gS 0 bM (aa (cst (.int 4)) ag)) cZ [Nv.bx,.da (.int most),.da (.int n),.da (.list (ms.map int)),.no,.no,.no,.no] β2) _=_
  rw[e3];rfl
 have e4:cA ag [Nv.bx,.da (.int most),.da (.int n),.da (.list (ms.map int)),.da (.int th),.no,.no,.no] β3=.ok (.list []) β3:=cU rfl (by simp)
 rw[ay (env':=[.bx,.fz (.int most),.fz (.int n),.fz (.list (ms.map int)),.fz (.int th),.ow (.list []),.no,.no]) (β':=β3) ?g4]
 case g4=>
  show toS (cA ag [Nv.bx,.da (.int most),.da (.int n),.da (.list (ms.map int)),.da (.int th),.no,.no,.no] β3) _=_
  rw[e4];rfl
 obtain⟨env',β',ef,ps,a,b,rfl,hal,hpl⟩:=cQ (t:=.nm 6) (m:=dh (.nm 7) (([] ++ []) ++ []) (oH (f2 (gv 6) (cst (.int 1)) bK) (gv 2))
   (kB (([4] ++ []) ++ []) (df (f2 (gS 0 bM (aa (gv 4) ag)) (cst (.int 0)) (de false)))
   (ml 5 (([] ++ []) ++ (([] ++ []) ++ [])) (bh (aa (f2 (gv 3) (gv 6) cZ) (aa (f2 (gv 3) (gv 7) cZ) ag)))) mC)) (ds:=b4 0 n) (k:=0)
  (λi env β=>∃(ps:List Pr) (a b:Sl),env= [.bx,.fz (.int most),.fz (.int n),.fz (.list (ms.map int)),.fz (.int th),.ow (.list (ps.map ak)),a,b]/\sy ms ps/\ps.length<=8 * i)
  (env:=[.bx,.fz (.int most),.fz (.int n),.fz (.list (ms.map int)),.fz (.int th),.ow (.list []),.no,.no]) (β:=β3) ⟨[],.no,.no,rfl,λp hp=>(by cases hp),by simp⟩ (by
   rintro i d env β hi ⟨ps,a,b,rfl,hal,hpl⟩
   obtain⟨hin,rfl⟩:=gf hi
   refine⟨[.bx,.fz (.int most),.fz (.int n),.fz (.list (ms.map int)),.fz (.int th),.ow (.list (ps.map ak)),.fz (.int (0 + (i:Int))),b],rfl,?_⟩
   have er:oH (f2 (gv 6) (cst (.int 1)) bK) (gv 2) [Nv.bx,.da (.int most),.da (.int n),.da (.list (ms.map int)),.da (.int th),.da (.list (ps.map ak)),.da (.int (0 + (i:Int))),b.val] β=.ok (b4 (0 + (i:Int) + 1) ((n:Int) - (0 + (i:Int) + 1)).toNat) β:=yY rfl rfl ⟨by omega,by omega⟩ ⟨by omega,by omega⟩
   rw[gn (env:=[.bx,.fz (.int most),.fz (.int n),.fz (.list (ms.map int)),.fz (.int th),.ow (.list (ps.map ak)),.fz (.int (0 + (i:Int))),b]) er]
   obtain⟨env',β',ef,qs,b,rfl,hal2,hql⟩:=cQ (t:=.nm 7) (m:=kB (([4] ++ []) ++ []) (df (f2 (gS 0 bM (aa (gv 4) ag)) (cst (.int 0)) (de false)))
     (ml 5 (([] ++ []) ++ (([] ++ []) ++ [])) (bh (aa (f2 (gv 3) (gv 6) cZ) (aa (f2 (gv 3) (gv 7) cZ) ag)))) mC) (ds:=b4 (0 + (i:Int) + 1) ((n:Int) - (0 + (i:Int) + 1)).toNat) (k:=0)
    (λk env β=>∃(qs:List Pr) (b:Sl),env= [.bx,.fz (.int most),.fz (.int n),.fz (.list (ms.map int)),.fz (.int th),.ow (.list (qs.map ak)),.fz (.int (0 + (i:Int))),b]/\sy ms qs/\qs.length<=8 * i + k)
    (env:=[.bx,.fz (.int most),.fz (.int n),.fz (.list (ms.map int)),.fz (.int th),.ow (.list (ps.map ak)),.fz (.int (0 + (i:Int))),b]) (β:=β) ⟨ps,b,rfl,hal,by omega⟩ (by
     rintro k d env β hk ⟨qs,b,rfl,hal,hql⟩
     obtain⟨hkn,rfl⟩:=gf hk
     have hkn:i + 1 + k < n:=by omega
     refine⟨[.bx,.fz (.int most),.fz (.int n),.fz (.list (ms.map int)),.fz (.int th),.ow (.list (qs.map ak)),.fz (.int (0 + (i:Int))),.fz (.int (0 + (i:Int) + 1 + (k:Int)))],rfl,?_⟩
     obtain⟨z,hz,ez⟩:=il hthv.1 (by omega) β
     have et:df (f2 (gS 0 bM (aa (gv 4) ag)) (cst (.int 0)) (de false)) [Nv.bx,.da (.int most),.da (.int n),.da (.list (ms.map int)),.da (.int th),.da (.list (qs.map ak)),.da (.int (0 + (i:Int))),.da (.int (0 + (i:Int) + 1 + (k:Int)))] β=.ok (decide ((z:Int)=0)) (β / th):=cV (neg:=false) (fw (ds:=[.int th]) (by rfl) rfl ez) rfl
     by_cases c:(z:Int)=0
     ·rw[Hb c] at et
      have h1:i < ms.length:=by omega
      have h2:i + 1 + k < ms.length:=by omega
      refine⟨[.bx,.fz (.int most),.fz (.int n),.fz (.list (ms.map int)),.fz (.int th),.ow (.list ((qs ++ [(ms[i],ms[i + 1 + k])]).map ak)),.fz (.int (0 + (i:Int))),.fz (.int (0 + (i:Int) + 1 + (k:Int)))],β / th,?_,qs ++ [(ms[i],ms[i + 1 + k])],_,rfl,?_,?_⟩
      ·rw[kx et]
       have ep:bh (aa (f2 (gv 3) (gv 6) cZ) (aa (f2 (gv 3) (gv 7) cZ) ag)) [Nv.bx,.da (.int most),.da (.int n),.da (.list (ms.map int)),.da (.int th),.da (.list (qs.map ak)),.da (.int (0 + (i:Int))),.da (.int (0 + (i:Int) + 1 + (k:Int)))] (β / th)=.ok (ak (ms[i],ms[i + 1 + k])) (β / th):=by
        refine iZ (ds:=[.int ms[i],.int ms[i + 1 + k]]) ?_ (by simp)
        have a1:f2 (gv 3) (gv 6) cZ [Nv.bx,.da (.int most),.da (.int n),.da (.list (ms.map int)),.da (.int th),.da (.list (qs.map ak)),.da (.int (0 + (i:Int))),.da (.int (0 + (i:Int) + 1 + (k:Int)))] (β / th)=.ok (.int ms[i]) (β / th):=by
         refine aJ rfl rfl ?_
         show j9 (ms.map int) (0 + (i:Int))=_
         rw[Ip,iS,ll h1];rfl
        have a2:f2 (gv 3) (gv 7) cZ [Nv.bx,.da (.int most),.da (.int n),.da (.list (ms.map int)),.da (.int th),.da (.list (qs.map ak)),.da (.int (0 + (i:Int))),.da (.int (0 + (i:Int) + 1 + (k:Int)))] (β / th)=.ok (.int ms[i + 1 + k]) (β / th):=by
         refine aJ rfl rfl ?_
         show j9 (ms.map int) (0 + (i:Int) + 1 + (k:Int))=_
         rw[show (0 + (i:Int) + 1 + (k:Int))=((i + 1 + k:Nat):Int) by omega,iS,ll h2];rfl
        rw[bf,a1]
        dsimp only[R.bnd]
        rw[bf,a2];rfl
       have:=pE (i:=5) (L:=([] ++ []) ++ (([] ++ []) ++ [])) (env:=[.bx,.fz (.int most),.fz (.int n),.fz (.list (ms.map int)),.fz (.int th),.ow (.list (qs.map ak)),.fz (.int (0 + (i:Int))),.fz (.int (0 + (i:Int) + 1 + (k:Int)))]) (ds:=qs.map ak) (by rfl) ep (by rfl) (by rw[Hd];omega)
       rw[Il]
       exact this
      ·intro p hp
       rcases Hu.mp hp with hp |hp
       ·exact hal p hp
       ·have:p=(ms[i],ms[i + 1 + k]):=by simpa using hp
        subst this
        exact⟨i,i + 1 + k,by omega,GU h1,GU h2⟩
      ·rw[HN];simp;omega
     ·rw[Hh c] at et
      refine⟨_,_,by rw[i5 et];rfl,qs,_,rfl,hal,by omega⟩)
   have hlen:(b4 (0 + (i:Int) + 1) ((n:Int) - (0 + (i:Int) + 1)).toNat).length<=7:=by rw[dP];omega
   exact⟨_,_,ef,qs,_,b,rfl,hal2,by omega⟩)
 rw[ay (env':=[.bx,.fz (.int most),.fz (.int n),.fz (.list (ms.map int)),.fz (.int th),.ow (.list (ps.map ak)),a,b]) (β':=β') ?g5]
 case g5=>
  rw[gn (env:=[.bx,.fz (.int most),.fz (.int n),.fz (.list (ms.map int)),.fz (.int th),.ow (.list []),.no,.no]) (cx (n:=n) rfl (by omega))]
  exact ef
 obtain⟨w,ir,O⟩:=wx n1 n8 hp hal
 refine⟨n,OM.bu n (OM.Tr (OM.Mem ps)),β',?_,O,by omega⟩
 have e9:bh (aa (gv 2) (aa (aE iq (aa (gv 5) ag)) ag)) [Nv.bx,.da (.int most),.da (.int n),.da (.list (ms.map int)),.da (.int th),.da (.list (ps.map ak)),a.val,b.val] β'=.ok (aF n (OM.bu n (OM.Tr (OM.Mem ps)))) β':=by
  refine iZ (ds:=[.int n,.tuple ((OM.bu n (OM.Tr (OM.Mem ps))).map ak)]) ?_ (by simp)
  have a1:aE iq (aa (gv 5) ag) [Nv.bx,.da (.int most),.da (.int n),.da (.list (ms.map int)),.da (.int th),.da (.list (ps.map ak)),a.val,b.val] β'=.ok (.tuple ((OM.bu n (OM.Tr (OM.Mem ps))).map ak)) β':=aN rfl (wu n1 n8 w ir)
  rw[bf]
  show (R.ok (int n) β').bnd _=_
  dsimp only[R.bnd]
  rw[bf,a1];rfl
 show sY (toS (bh (aa (gv 2) (aa (aE iq (aa (gv 5) ag)) ag)) [Nv.bx,.da (.int most),.da (.int n),.da (.list (ms.map int)),.da (.int th),.da (.list (ps.map ak)),a.val,b.val] β') _)=_
 rw[e9];rfl
theorem qw (p:Pr):∀l:List Pr,((l.map ak).any λe=>PyData.eqv e (ak p))=decide (p∈l)
 | []=>rfl
 |q :: l=>by
  rw[Hx,IZ,qw p l,xP,HZ]
  simp only[Bool.or_eq_true,Ho,G7]
  exact⟨λh=>h.imp Eq.symm id,λh=>h.imp Eq.symm id⟩
def uZ (l:List Pr):(l.map ak).all SeqAt.shaped=true:=by
 rw[Iv]
 intro d hd
 obtain⟨p,_,rfl⟩:=Ha.mp hd
 exact ly p
def uV (neg:Bool)(p:Pr)(l:List Pr):xl neg (ak p) (.tuple (l.map ak))=some (.bool (if neg then !decide (p∈l) else decide (p∈l))):=by
 unfold xl
 simp only[jk,ly,uZ,Jw,Ic,qw]
def BD (neg:Bool)(p:Pr)(l:List Pr):xl neg (ak p) (.list (l.map ak))=some (.bool (if neg then !decide (p∈l) else decide (p∈l))):=by
 unfold xl
 simp only[jk,ly,uZ,Jw,Ic,qw]
def pA (neg:Bool)(i j:Int):de neg (.int i) (.int j)=some (.bool (if neg then !decide (i=j) else decide (i=j))):=rfl
theorem jw {fa fb:VF D}{vs:List Nv}{β:Int}{a b:Bool}(h:fa vs β=.ok (.bool a) β)(h':fb vs β=.ok (.bool b) β):dX fa fb vs β=.ok (.bool (a && b)) β:=by
 unfold dX
 rw[h]
 dsimp only[R.bnd]
 cases a with
 |true=>exact h'
 |false=>rfl
def cR {fa fb:VF D}{vs:List Nv}{β:Int}{a b:Int}(h:fa vs β=.ok (.int a) β)(h':fb vs β=.ok (.int b) β):bh (aa fa (aa fb ag)) vs β=.ok (ak (a,b)) β:=by
 refine iZ (ds:=[.int a,.int b]) ?_ (by simp)
 rw[bf,h]
 dsimp only[R.bnd]
 rw[bf,h'];rfl
def mK (l:List Pr)(p:Pr):Bool:= !decide (p.1=p.2) && (!decide ((p.1,p.2)∈l) && !decide ((p.2,p.1)∈l))
def GD {n:Nat}{l:List Pr}{fa:VF D}{vs:List Nv}{β:Int}(h:fa vs β=.ok (aF n l) β):f2 fa (cst (.int 1)) cZ vs β=.ok (.tuple (l.map ak)) β:=aJ h rfl rfl
def GL {n:Nat}{l:List Pr}{fa:VF D}{vs:List Nv}{β:Int}(h:fa vs β=.ok (aF n l) β):f2 fa (cst (.int 0)) cZ vs β=.ok (.int n) β:=aJ h rfl rfl
def Cw:List D->FR:=bb 3 3 lT
def qi:List D->FR:=bb 3 3 kS
def CH (n:Nat)(l:List Pr)(a b:Int):Cw [aF n l,.int a,.int b]=.ok (.bool (mK l (a,b))) false:=by
 show fin (toS (dX (f2 (gv 1) (gv 2) (de true)) (dX (f2 (bh (aa (gv 1) (aa (gv 2) ag))) (f2 (gv 0) (cst (.int 1)) cZ) (xl true)) (f2 (bh (aa (gv 2) (aa (gv 1) ag))) (f2 (gv 0) (cst (.int 1)) cZ) (xl true))) [.da (aF n l),.da (.int a),.da (.int b)] 0) _)=_
 rw[jw (aJ (x:=.int a) (y:=.int b) rfl rfl (pA true a b)) (jw (aJ (cR (a:=a) (b:=b) rfl rfl) (GD (n:=n) (l:=l) rfl) (uV true (a,b) l)) (aJ (cR (a:=b) (b:=a) rfl rfl) (GD (n:=n) (l:=l) rfl) (uV true (b,a) l)))]
 rfl
def yi (n:Nat)(l:List Pr)(a b:Int):qi [aF n l,.int a,.int b]=.ok (.bool (mK l (a,b))) false:=CH n l a b
def lO:List D->FR:=bb 1 1 fJ
def AY {n:Nat}(h1:1<=n)(h8:n<=8):lO [.int n]=.ok (.list ((OM.bO n).map ak)) true:=by
 have hm:n * n<=64:=Ik h8 h8
 have e:aL 1 [0] (.nm 0) (bz (f2 (gv 0) (gv 0) b5)) mn (bh (aa (f2 (gv 0) (gv 1) xA) (aa (f2 (gv 0) (gv 1) jZ) ag))) [.da (.int n)] 0=.ok (.list ((OM.bO n).map ak)) 0:=by
  have hi:bz (f2 (gv 0) (gv 0) b5) [.da (.int n)] 0=.ok ((List.range (n * n)).map λ(k:Nat)=>int (0 + (k:Int))) 0:=by
   refine cx (n:=n * n) (aJ (x:=.int n) (y:=.int n) rfl rfl ?_) (by omega)
   rw[kc ⟨by omega,by omega⟩];rfl
  rw[c9 (l:=List.range (n * n)) (e:=λ(k:Nat)=>int (0 + (k:Int))) (λk=>ak (((k / n:Nat):Int),((k % n:Nat):Int))) hi (by rw[IK];omega) λk hk=>⟨_,rfl,?_⟩]
  ·unfold OM.bO;rw[Ih];rfl
  ·refine cR (aJ (x:=.int (0 + (k:Int))) (y:=.int n) rfl rfl ?_) (aJ (x:=.int (0 + (k:Int))) (y:=.int n) rfl rfl ?_)
   ·rw[vk (by omega) (by omega),Ip];rfl
   ·rw[lB (by omega),Ip];rfl
 show fin (fJ [.fz (.int n)] 0)=_
 unfold fJ
 rw[zm,show vl [Sl.fz (.int n)]= [.da (.int n)] from rfl,e];rfl
def dA (n:Nat)(l:List Pr):List Pr:=(OM.bO n).filter (mK l)
def dD (n:Nat):(OM.bO n).length=n * n:=by unfold OM.bO;simp
def vH {n:Nat}{l:List Pr}(h8:n<=8):(dA n l).length<=64:=by
 have h1:(dA n l).length<=(OM.bO n).length:=HR _ _
 rw[dD] at h1
 have:n * n<=64:=Ik h8 h8
 omega
def u5 (n:Nat)(l:List Pr):OM.pC (dA n l):=OM.cy _ (OM.eZ n)
def eO {n:Nat}{l:List Pr}{p:Pr}:p∈dA n l↔((0<=p.1/\p.1 < n)/\(0<=p.2/\p.2 < n))/\mK l p=true:=by
 unfold dA;rw[Hk,OM.aY]
noncomputable def tJ:List D->FR:=bb 1 1 (mD jP lO Cw)
def pk {fa:VF D}{vs:List Nv}{β:Int}{c:Bool}(h:fa vs β=.ok (.bool c) β):mI fa vs β=.ok c β:=by rw[qk,h];rfl
def Ay {n:Nat}{l:List Pr}(O:OM.Ord n l):tJ [aF n l]=.ok (.list ((dA n l).map ak)) true:=by
 have hm:n * n<=64:=Ik O.hi O.hi
 show fin (mD jP lO Cw [.fz (aF n l)] 0)=_
 unfold mD
 rw[ay (env':=[.fz (aF n l)]) (β':=0) ?g1]
 case g1=>
  show toS (aE jP (aa (gv 0) ag) [.da (aF n l)] 0) _=_
  rw[aN (ds:=[aF n l]) rfl (ux O)];rfl
 have e:aL 2 [0] (.two 0 1) (bS (aE lO (aa (f2 (gv 0) (cst (.int 0)) cZ) ag))) (mI (aE Cw (aa (gv 2) (aa (gv 0) (aa (gv 1) ag))))) (bh (aa (gv 0) (aa (gv 1) ag))) [.da (aF n l)] 0=.ok (.list ((dA n l).map ak)) 0:=by
  have hi:bS (aE lO (aa (f2 (gv 0) (cst (.int 0)) cZ) ag)) [.da (aF n l)] 0=.ok ((OM.bO n).map ak) 0:=by
   unfold bS
   rw[aN (ds:=[.int n]) rfl (AY O.lo O.hi)];rfl
  exact cz (l:=OM.bO n) (e:=ak) (mK l) ak hi (by rw[dD];omega) λp hp=>⟨_,rfl,pk (aN (ds:=[aF n l,.int p.1,.int p.2]) rfl (CH n l p.1 p.2)),λ_=>cR rfl rfl⟩
 show fin (toS (aL 2 [0] (.two 0 1) (bS (aE lO (aa (f2 (gv 0) (cst (.int 0)) cZ) ag))) (mI (aE Cw (aa (gv 2) (aa (gv 0) (aa (gv 1) ag))))) (bh (aa (gv 0) (aa (gv 1) ag))) [.da (aF n l)] 0) _)=_
 rw[e];rfl
def yL:∀p∈L2.ST.lj,(ak p).shown.length=6/\(ak p).showable=true:=by decide +kernel
theorem zt {c:Nat}:∀(ts:List Str) (k:Nat) (acc:Str),(∀t∈ts,t.length + 2<=c)->(textFrom k acc ts).length<=acc.length + c * ts.length
 | [],k,acc,_=>by show acc.length<=_;omega
 |t :: r,k,acc,h=>by
  have ih:=zt r (k + 1) (acc ++ (if k > 0 then ", " else "":String) ++ t) λu hu=>h u (GY _ hu)
  have e:(acc ++ (if k > 0 then ", " else "":String) ++ t).length=acc.length + (if k > 0 then 2 else 0) + t.length:=by
   rw[Jl,Jl]
   split <;> rfl
  rw[e] at ih
  have ht:=h t (G6 ..)
  show (textFrom (k + 1) _ r).length<=_
  have e2:c * (t :: r).length=c * r.length + c:=by rw[Hr,Nat.mul_succ]
  rw[e2]
  have:(if k > 0 then 2 else 0:Nat)<=2:=by split <;> omega
  omega
theorem pZ (l:List Pr):PyData.shownAll (l.map ak)=l.map λp=>(ak p).shown:=by
 induction l with
 |nil=>simp[PyData.shownAll]
 |cons p l ih=>rw[Hx,PyData.shownAll,ih];rfl
theorem rg {l:List Pr}(h:∀p,p∈l->Sm p):PyData.showableAll (l.map ak)=true:=by
 induction l with
 |nil=>simp[PyData.showableAll]
 |cons p l ih=>rw[Hx,PyData.showableAll,(yL p (L2.ST.gr (h p (G6 ..)))).2,ih λq hq=>h q (GY _ hq)];rfl
theorem yM (l:List Pr):mq (l.map ak)=true:=by
 induction l with
 |nil=>rfl
 |cons p l ih=>rw[Hx];show (xh (ak p) && mq (l.map ak))=true;rw[ih];rfl
def wB {l:List Pr}(hl:l.length<=100)(hs:∀p,p∈l->Sm p):nM (.list (l.map ak))=some (.str (PyData.shown (.list (l.map ak)))):=by
 unfold nM
 dsimp only[jk]
 refine GW ⟨?_,?_,?_,?_,?_⟩
 ·rw[PyData.showable];exact rg hs
 ·exact PyData.hasDict_of_canLay _ (by rw[PyData.canLay0];exact pW l)
 ·have:=qP l
  rw[PyData.depth];omega
 ·rw[PyData.shown,pZ]
  unfold listText
  rw[Jl]
  have:=zt (c:=8) (l.map λp=>(ak p).shown) 0 "[" λt ht=>by
   obtain⟨p,hp,rfl⟩:=Ha.mp ht
   rw[(yL p (L2.ST.gr (hs p hp))).1];omega
  rw[Hd] at this
  have e1:((("[":String):Str)).length=1:=rfl
  have e2:((("]":String):Str)).length=1:=rfl
  rw[e1] at this
  rw[e2,HB];omega
 ·exact yM l
end RM
namespace L2
open PySem PySem.Spec PyProof.Rows
section
variable {X:Cx}{pins:List (Addr×Obj)}{σ:St}{H:Hp}{s:Shared}
def Inv.turnedL {t':Nat}{ch:List Addr}{h':Heap}(I:Inv X pins σ H s)(k:∀b o,b∉ch->s.heap.get? b=some o->h'.get? b=some o)(hf:∀b∈ch,mi X pins H b):Inv X pins σ H {s with heap:=h',toks:=t'}:=by
 have nit:∀b u,H b=some u->b∉ch:=λb u e z=>by rw[(hf b z).1] at e;cases e
 have nL:X.env.locals∉ch:=λz=>(hf _ z).2.1 rfl
 refine I.step (g':=s.gens) (d':=s.drawn) (ch:=ch) (λb hb=>?_) (λb o _ _ hc e _=>k b o hc e) (λb o _ _ hc e _=>⟨o.slots,k b o hc e⟩) (λ_ _ _ _ n=>n)
  (λb o hc e=>⟨o,k b o hc e⟩) (λ_ _ e=>e) (λ_ _ _ e=>e) (λb ps e=>⟨#[],by rw[e];simp⟩) (λm hm=>?_) (λb u e=>?_) I.bare
 ·obtain⟨f0,f1,f2,f3,f4,f5⟩:=hf b hb
  exact⟨f3,f1,f4,f5⟩
 ·obtain⟨o,es,ep,ho,r⟩:=hm
  exact⟨o,es,ep,k _ o nL ho,r⟩
 ·refine (I.hok b u e).stay (λc v hc q=>k c v ?_ q) (λ_ q=>q) λ_ _ q=>q
  rcases hc with z |z
  ·rw[z];exact nit b u e
  ·exact nit c _ z
end
section
variable {κ:Type}[DecidableEq κ]
def lA (kvs:List (κ×V))(k:κ):Option V:=(kvs.find? λkv=>decide (kv.1=k)).map (·.2)
def putK (kvs:List (κ×V))(k:κ)(v:V):List (κ×V):=
 if (kvs.any λkv=>decide (kv.1=k))=true then kvs.map (λkv=>if kv.1=k then (kv.1,v) else kv) else kvs ++ [(k,v)]
def kL {p:κ×V}{r:List (κ×V)}{k:κ}(e:p.1=k):lA (p :: r) k=some p.2:=by simp[lA,Jm,e]
def kM {p:κ×V}{r:List (κ×V)}{k:κ}(e:¬p.1=k):lA (p :: r) k=lA r k:=by simp[lA,Jm,e]
theorem rR (k:κ):∀kvs:List (κ×V),(kvs.any λkv=>decide (kv.1=k))=(lA kvs k).isSome
 | []=>rfl
 |p :: r=>by
  rw[IZ]
  by_cases e:p.1=k
  ·simp only[kL e,Hb e,Bool.true_or,Option.isSome_some]
  ·rw[kM e,Hh e,Bool.false_or];exact rR k r
def lP (kvs:List (κ×V))(k:κ)(v:V):(putK kvs k v).length<=kvs.length + 1:=by
 unfold putK
 split
 ·rw[Hd];omega
 ·rw[HN,Hr,List.length_nil];omega
theorem tR.isSome_eq {o:Option V}{u:Option Value}(r:tR o u):o.isSome=u.isSome:=by
 cases o with
 |none=>cases u with
  |none=>rfl
  |some _=>exact (show False from r).elim
 |some _=>cases u with
  |none=>exact (show False from r).elim
  |some _=>rfl
theorem KV.val {kvs:List (κ×V)}{vs:List (κ×Value)}(r:KV kvs vs)(k:κ):tR (lA kvs k) (valueAt vs k):=by
 unfold KV at r
 induction r with
 |nil=>exact True.intro
 | @cons p q ps qs h t ih=>
  obtain⟨h1,h2⟩:=h
  by_cases e:p.1=k
  ·have e':q.1=k:=h1.symm.trans e
   have b:valueAt (q :: qs) k=some q.2:=by simp[valueAt,Jm,e']
   rw[kL e,b];exact h2
  ·have e':¬q.1=k:=λz=>e (h1.trans z)
   have b:valueAt (q :: qs) k=valueAt qs k:=by simp[valueAt,Jm,e']
   rw[kM e,b];exact ih
end
theorem zR {P:Program}{w:World}{k:Key}{u:Value}(r:RelV (kV k) u):(bV P w).is k u=true:=by
 cases k with
 |inl i=>obtain⟨t,e⟩:=(show ∃t,u=Value.int i t from r);subst e;exact rN P w i t
 |inr x=>obtain⟨t,e⟩:=(show ∃t,u=Value.str x t from r);subst e;exact qY P w x t
theorem o4 {P:Program}{w:World}:∀{ks:List Key} {us:List Value},Vals (ks.map kV) us->ItemsAre (bV P w) ks us
 | [],_,r=>by rw[List.map_nil] at r;cases r;exact .nil
 |k :: ks,_,r=>by
  rw[Hx] at r
  cases r with
  |cons h t=>exact .cons (zR h) (o4 t)
abbrev KT (H:Hp):List (List Key×V)->List (List Key×Addr×Value)->Prop:=Paired λp q=>p.1=q.1/\Rd H q.2.1 (.tup (p.1.map kV))/\RelV p.2 q.2.2
theorem KT.val {H:Hp}{kvs:List (List Key×V)}{xs:List (List Key×Addr×Value)}(r:KT H kvs xs)(k:List Key):tR (lA kvs k) ((atKey xs k).map (·.2)):=by
 induction r with
 |nil=>exact True.intro
 | @cons p q ps qs h t ih=>
  obtain⟨h1,_,h2⟩:=h
  by_cases e:p.1=k
  ·have e':q.1=k:=h1.symm.trans e
   have b:atKey (q :: qs) k=some q.2:=by simp[atKey,Jm,e']
   rw[kL e,b];exact h2
  ·have e':¬q.1=k:=λz=>e (h1.trans z)
   have b:atKey (q :: qs) k=atKey qs k:=by simp[atKey,Jm,e']
   rw[kM e,b];exact ih
theorem KT.repl {H:Hp}{kvs:List (List Key×V)}{xs:List (List Key×Addr×Value)}(r:KT H kvs xs)(k:List Key){y:V}{u:Value}(ry:RelV y u) :
  KT H (kvs.map λkv=>if kv.1=k then (kv.1,y) else kv) (xs.map (putAt k u)):=by
 induction r with
 |nil=>exact .nil
 | @cons p q ps qs h t ih=>
  rw[Hx,Hx]
  refine .cons ?_ ih
  obtain⟨h1,h2,h3⟩:=h
  unfold putAt
  by_cases e:p.1=k
  ·rw[GW e,GW (h1.symm.trans e)];exact⟨h1,h2,ry⟩
  ·rw[G8 e,G8 (λz=>e (h1.trans z))];exact⟨h1,h2,h3⟩
def KT.put {H:Hp}{kvs:List (List Key×V)}{xs:List (List Key×Addr×Value)}(r:KT H kvs xs)(k:List Key){b:Addr}{y:V}{u:Value}(hb:Rd H b (.tup (k.map kV)))(ry:RelV y u) :
  KT H (putK kvs k y) (storedH xs k b u):=by
 have e:(kvs.any λkv=>decide (kv.1=k))=(atKey xs k).isSome:=by
  rw[rR,(r.val k).isSome_eq,Option.isSome_map]
 unfold putK storedH
 rw[e]
 by_cases q:(atKey xs k).isSome=true
 ·rw[GW q,GW q];exact r.repl k ry
 ·rw[G8 q,G8 q];exact Paired.snoc r ⟨rfl,hb,ry⟩
def KT.keeps {H H':Hp}{kvs:List (List Key×V)}{xs:List (List Key×Addr×Value)}(r:KT H kvs xs)(ht:∀b ys,Rd H b (.tup ys)->Rd H' b (.tup ys)):KT H' kvs xs:=
 Paired.mapP r λ_ _ z=>⟨z.1,ht _ _ z.2.1,z.2.2⟩
section
variable {P:Program}{w:World}{H:Hp}{h:Heap}{a:Addr}
def B6 {u:HO}(ok:i9 P w H h)(e:Rd H a u):bD P w H h a u:=e.ok ok
def vR {kvs:List (Key×V)}(ok:i9 P w H h)(e:Rd H a (.dK kvs)):kvs.length<=sizeLine/\(a == sysModules)=false/\∃vs,KV kvs vs/\h.DictOf (bV P w) a vs:=
 show bD P w H h a (.dK kvs) from B6 ok e
def lh {ks:List Key}(ok:i9 P w H h)(e:Rd H a (.tup (ks.map kV))):(tupleKind (bV P w)).is h ks a:=by
 obtain⟨_,its,r,o,h1,h2,n,h3⟩:=(show bD P w H h a (.tup (ks.map kV)) from e.ok ok)
 exact⟨o,its.toArray,n,h1,h2,h3.1,by simpa using o4 r⟩
def zK {kvs:List (List Key×V)}(ok:i9 P w H h)(e:Rd H a (.dT kvs)):kvs.length<=sizeLine/\(a == sysModules)=false/\
  ∃xs,KT H kvs xs/\h.DictOfH (tupleKind (bV P w)) a xs:=by
 obtain⟨z,y,xs,r,o,es,ep,h1,h2,h3,h4,h5⟩:=(show bD P w H h a (.dT kvs) from B6 ok e)
 refine⟨z,y,xs,r,o,es,ep,h1,h2,h3,h4,λx hx=>?_,h5⟩
 have all:∀{l:List (List Key×V)} {m:List (List Key×Addr×Value)},KT H l m->∀x∈m,(tupleKind (bV P w)).is h x.1 x.2.1:=by
  intro l m q
  induction q with
  |nil=>intro x hx;exact nomatch hx
  | @cons p q ps qs hq t ih=>
   intro x hx
   rcases G7.mp hx with e |hx
   ·subst e
    exact lh ok (by rw[<-hq.1];exact hq.2.1)
   ·exact ih x hx
 exact all r x hx
def EM {kvs:List (List Key×V)}(ok:i9 P w H h)(e:H a=some (.dT kvs)):kvs.length<=sizeLine/\(a == sysModules)=false/\
  ∃xs,KT H kvs xs/\h.DictOfH (tupleKind (bV P w)) a xs:=zK ok (.inl e)
end
def pK (H:Hp)(a:Addr)(y:V)(r:Option V):Prop:=
 (∃kvs k,Rd H a (.dK kvs)/\y=kV k/\r=lA kvs k)\/∃kvs k b,Rd H a (.dT kvs)/\y=.ref b/\Rd H b (.tup (k.map kV))/\r=lA kvs k
def AO (H:Hp)(a:Addr)(y v:V)(H':Hp):Prop:=
 (∃kvs k,H a=some (.dK kvs)/\y=kV k/\kvs.length < sizeLine/\H'=upd H a (.dK (putK kvs k v)))\/
 ∃kvs k b,H a=some (.dT kvs)/\y=.ref b/\Rd H b (.tup (k.map kV))/\kvs.length < sizeLine/\H'=upd H a (.dT (putK kvs k v))
def pK.k {H:Hp}{a:Addr}{kvs:List (Key×V)}{k:Key}(e:H a=some (.dK kvs)):pK H a (kV k) (lA kvs k):=.inl ⟨kvs,k,.inl e,rfl,rfl⟩
def pK.t {H:Hp}{a b:Addr}{kvs:List (List Key×V)}{k:List Key}(e:H a=some (.dT kvs))(eb:Rd H b (.tup (k.map kV))):pK H a (.ref b) (lA kvs k):=.inr ⟨kvs,k,b,.inl e,rfl,eb,rfl⟩
def AO.k {H:Hp}{a:Addr}{kvs:List (Key×V)}{k:Key}{v:V}(e:H a=some (.dK kvs))(hl:kvs.length < sizeLine):AO H a (kV k) v (upd H a (.dK (putK kvs k v))):=.inl ⟨kvs,k,e,rfl,hl,rfl⟩
def AO.t {H:Hp}{a b:Addr}{kvs:List (List Key×V)}{k:List Key}{v:V}(e:H a=some (.dT kvs))(eb:Rd H b (.tup (k.map kV)))(hl:kvs.length < sizeLine) :
  AO H a (.ref b) v (upd H a (.dT (putK kvs k v))):=.inr ⟨kvs,k,b,e,rfl,eb,hl,rfl⟩
section
variable {X:Cx}{pins:List (Addr×Obj)}{σ:St}{H:Hp}{s:Shared}{a:Addr}{y v:V}{u r:Value}{o:Option V}{A:Around}{E:Value->Shared->Prop}
def Inv.big (I:Inv X pins σ H s):sysModules < s.heap.objs.size:=by
 have h:mainGlobals < s.heap.objs.size:=(I.mod.glob.keeps I.bk).lt
 exact Nat.lt_trans (by decide) h
def Gk {Q:Value->Shared->Prop}(hu:A.units + 1 < cLine)(I:Inv X pins σ H s)(g:pK H a y o)(ry:RelV y u)(h:∀s',Inv X pins σ H s'->Q (.bool o.isSome) s') :
  wpAny (model X.prog X.w) A (compareOp .In u (.ref a)) Q E s:=by
 rcases g with⟨kvs,k,e,ey,l⟩ | ⟨kvs,k,b,e,ey,eb,l⟩
 ·subst ey
  obtain⟨z,hd,vs,rel,dd⟩:=vR I.hok e
  refine wpAny_in_of (zR ry) hd dd.mapOf ?_
  rw[<-(rel.val k).isSome_eq,<-l]
  exact h _ (I.tok _)
 ·subst ey
  cases (show u=Value.ref b from ry)
  obtain⟨z,hd,xs,rel,dd⟩:=zK I.hok e
  refine wpAny_in_heap (JE hu) (lh I.hok eb) hd dd ?_
  have q:=(rel.val k).isSome_eq
  rw[Option.isSome_map] at q
  rw[<-q,<-l]
  exact h _ (I.tok _)
def A8 {Q:Value->Shared->Prop}(hu:A.units + 1 < cLine)(I:Inv X pins σ H s)(g:pK H a y o)(ry:RelV y u)(h:∀s',Inv X pins σ H s'->Q (.bool (!o.isSome)) s') :
  wpAny (model X.prog X.w) A (compareOp .NotIn u (.ref a)) Q E s:=by
 rcases g with⟨kvs,k,e,ey,l⟩ | ⟨kvs,k,b,e,ey,eb,l⟩
 ·subst ey
  obtain⟨z,hd,vs,rel,dd⟩:=vR I.hok e
  refine wpAny_notIn_of (zR ry) hd dd.mapOf ?_
  rw[<-(rel.val k).isSome_eq,<-l]
  exact h _ (I.tok _)
 ·subst ey
  cases (show u=Value.ref b from ry)
  obtain⟨z,hd,xs,rel,dd⟩:=zK I.hok e
  refine wpAny_notIn_heap (JE hu) (lh I.hok eb) hd dd ?_
  have q:=(rel.val k).isSome_eq
  rw[Option.isSome_map] at q
  rw[<-q,<-l]
  exact h _ (I.tok _)
def BG {h':Heap}{t':Nat}{ob:HO}(I:Inv X pins σ H s)(mu:Ed (H a))(hs:Heap.SameBut a s.heap h')(he:∃q,h'.get? a=some q)(new:bD X.prog X.w (upd H a ob) h' a ob) :
  Inv X pins σ (upd H a ob) {s with heap:=h',toks:=t'}:=
 I.write (x:=a) (e:=a) mu (.inl rfl) (λb q hb z=>(hs.2 b hb).trans z) he new
end
mutual
def D6:D->Bool
 | .list ds=>y7 ds
 | .tuple ds=>y7 ds
 | .dict kvs=> !kvs.isEmpty && kvs.all λkv=>match kv.1,kv.2 with
  | .str _,.int _=>true
  |_,_=>false
 |_=>true
def y7:List D->Bool
 | []=>true
 |d :: ds=>D6 d && y7 ds
end
end L2
namespace L2
open PySem
section
variable {K:Frag}{h:Heap}{mg:Str->Option Value}
theorem xB {α:Type}{P:List α->Prop}(q:∀a,P [a]):∀us:List α,us.length=1->P us
 | [a],_=>q a
theorem ln2 {α:Type}{P:List α->Prop}(q:∀a b,P [a,b]):∀us:List α,us.length=2->P us
 | [a,b],_=>q a b
theorem EY {α:Type}{P:List α->Prop}(q:∀a b c,P [a,b,c]):∀us:List α,us.length=3->P us
 | [a,b,c],_=>q a b c
def aV (x:Str)(st:Stmt)(ps:List Str):Prop:=∀(kV doc pm:Value) (an:Option Addr) (cdv ct:Value) (us:List Value),us.length=ps.length->bindArgs (PySem.W.fnOf x x (gH st) (cq st) (ar st) .none kV doc pm an cdv ct) ⟨us,[]⟩=pure (ps.zip us)
structure Fo (K:Frag)(mg:Str->Option Value)(x:Str)(st:Stmt)(ps:List Str):Prop where
 ex:∃f fd,jL K mg x st ps f fd
def bR {x:Str}{st:Stmt}{ps:List Str}{f:Addr}{oc:Value}{od an:Option Addr}{sl:Array (Option Value)}{kV doc pm cdv ct:Value}(X:K.In h)(G:h.Ns mainGlobals mg)(b:aV x st ps)(a:PySem.W.nsIn K mainGlobals x=some (some (.ref f)))
  (l:K.lookup f=some ⟨oc,od,.func (PySem.W.fnOf x x (gH st) (cq st) (ar st) .none kV doc pm an cdv ct),sl⟩) (c:PySem.W.codeIn K cdv x=true) (k:PySem.W.keepIn K (.ref f)=true):Fo K mg x st ps:=
 ⟨⟨f,_,Jy X G a,uy l c k,(uy l c k).binds b⟩⟩
def FI:List Str:=["len","range","enumerate","zip","min","max","sum","abs","sorted","reversed","int","str","bool","list","tuple","dict","set","isinstance","repr","any","all","divmod"]
def FD (K:Frag):Bool:=FI.all λx=>match PySem.W.nsIn K mainGlobals x with
 |some none=>true
 |_=>false
def Cz (q:FD K=true){x:Str}(hx:x∈FI):PySem.W.nsIn K mainGlobals x=some none:=by
 have:=Iv.mp q x hx
 split at this
 ·assumption
 ·cases this
def DH (X:K.In h)(G:h.Ns mainGlobals mg)(q:FD K=true):jM mg:=by
 have key:∀{x:Str},x∈FI->mg x=none:=λhx=>PySem.W.mg_none_of X G (Cz q hx)
 constructor <;> exact key (by decide)
end
end L2
namespace RM
open PySem L2
def fN (aR:List D->FR):SF:=(aG (a9 1 [] (cA ag))
 (aG (dh (.nm 2) ([] ++ []) (bz (f2 (gv 0) (cst (.int 0)) cZ))
 (a9 1 ([] ++ (([] ++ []) ++ [0,2])) (f2 (gv 1) (aL 1 [0,2] (.nm 0) (bz (f2 (gv 0) (cst (.int 0)) cZ)) (mI (aE aR (aa (gv 1) (aa (gv 2) (aa (gv 0) ag))))) (bh (aa (gv 2) (aa (gv 0) ag)))) gx)))
 (vm 1)))
def eQ:SF:=(aG (kR 2 [] (cA ag))
 (aG (dh (.nm 3) [] (bz (gv 0))
 (dh (.nm 4) [] (bz (gv 0))
 (aG (a9 5 ([] ++ []) (aL 1 [3,4] (.nm 0) (bS (gv 1)) (df (f2 (k9 (gv 0) (gv 1)) (k9 (gv 0) (gv 2)) DB)) (cst (.int 1))))
 (kB (([] ++ []) ++ ([] ++ [])) (zW (df (f2 (gv 3) (gv 4) (de true))) (df (f2 (gv 5) (cA ag) (de false))))
 (ml 2 ([3] ++ ([4] ++ [])) (bh (aa (gv 3) (aa (gv 4) ag))))
 mC))))
 (bY (f1 (gv 2) gY))))
noncomputable def fI (aA aC:List D->Int->FB):SF:=(aG (a9 1 ([] ++ ([] ++ [])) (f2 (cst (.int 3)) (gS 0 aA (aa (cst (.int 2)) ag)) bK))
 (aG (a9 2 (([] ++ []) ++ []) (gS 0 aC (aa (f1 (f2 (cst (.int 2)) (gv 1) b5) bJ) ag)))
 (aG (a9 3 [] (cA ag))
 (aG (dh (.nm 4) [] (bz (gv 1))
 (aG (a9 5 ([] ++ []) (aL 1 [4,2,1] (.nm 0) (bz (gv 1)) (df (f2 (gv 0) (gv 1) (de true))) (f2 (gv 2) (f2 (gv 3) (gv 0) bK) cZ)))
 (a9 3 ([] ++ ([] ++ [])) (f2 (gv 3) (aL 1 [2,4] (.nm 0) (bS (gv 5)) mn (bh (aa (f2 (gv 1) (gv 2) cZ) (aa (gv 0) ag)))) gx))))
 (bY (bh (aa (f2 (cst (.int 2)) (gv 1) b5) (aa (f1 (f1 (gv 3) fY) gY) ag))))))))
def cK (dc:List D->FR)(aA cJ aC cH:List D->Int->FB):SF:=(aG (a9 2 ([] ++ []) (gS 0 aA (aa (cst (.int 5)) ag)))
 (aG (kB ([] ++ []) (df (f2 (gv 2) (cst (.int 4)) (de false)))
 (bY (gS 0 cJ ag))
 mC)
 (aG (kB ([] ++ []) (df (f2 (gv 2) (cst (.int 3)) (de false)))
 (aG (a9 3 ([] ++ ([1] ++ [])) (f2 (cst (.int 1)) (gS 0 aA (aa (gv 1) ag)) bK))
 (aG (a9 4 ([] ++ []) (aL 1 [0,3] (.nm 0) (bz (cst (.int 2))) mn (f1 (gS 1 aC (aa (f1 (gv 2) bJ) ag)) gY)))
 (bY (bh (aa (gv 3) (aa (aE dc (aa (gv 3) (aa (gv 4) ag))) ag))))))
 mC)
 (bY (gS 0 cH (aa (gv 1) ag))))))
end RM
namespace PySem
open Sem (wp)
namespace F
def pF:typeLookup (.type "list") "keys"=pure none:=by rw[typeLookup_type,Jq];kernel_rfl
end F
section
variable {prog:Program}{w:World}{A:Around}{E:Value->Shared->Prop}{h:Heap}{g:Array GenState}{d:Drawn}{t:Nat}{os:OsState}{a:Addr}{o:Obj}
def l9 {tk:Tok}{Q:Fin->Shared->Prop}{items:Array Value}{n:Nat}{sl:Array (Option Value)}(hx:h.get? a=some {cls:=.type "list",dict:=none,data:=.seq items n,slots:=sl})(hh:A.handled=none)
  (hq:∀h' t' e,(∀b q,h.get? b=some q->h'.get? b=some q)->(∃q,h'.get? e=some q/\q.cls=.type "AttributeError")->E (.ref e) ⟨h',g,d,t',os⟩) :
  wpAny (model prog w) A (Builtin.«object.__getattribute__» ⟨[.ref a,.str "keys" tk],[]⟩) Q E ⟨h,g,d,t,os⟩:=by
 have hT:(⟨h,g,d,t,os⟩:Shared).TypeIs (.ref a) "list":=⟨_,hx,rfl⟩
 have f4:=F.pF
 repeat (any_goals (first |assumption |wp_step))
 have hm:(Str.ofString (toString "'" ++ toString ((Manifest.find? "list").elim "list" λx=>x.tpName) ++ toString "' object has no attribute '") ++ Str.ofString "keys" ++ Str.ofString "'").length<=sizeLine:=by decide +kernel
 generalize (Str.ofString (toString "'" ++ toString ((Manifest.find? "list").elim "list" λx=>x.tpName) ++ toString "' object has no attribute '") ++ Str.ofString "keys" ++ Str.ofString "'")=msg at hm
 unfold raiseAttrError
 refine GS (wpAny_mkStr (GS ?_) hm)
 unfold newExc newTuple
 refine GS (IJ ?_)
 refine GS (m:=firstArgMember _ _) (wpAny_of_eq (a:=Value.none) (by first |rfl |kernel_rfl) ?_)
 refine IJ ?_
 dsimp only
 obtain⟨e,he⟩:∃e,(h.push {cls:=.type "tuple",data:=.seq #[Value.str msg t]}).objs.size=e:=⟨_,rfl⟩
 have hk:∀b q,h.get? b=some q->((h.push {cls:=.type "tuple",data:=.seq #[Value.str msg t]}).push {cls:=.type "AttributeError",data:=.fields (#[.ref h.objs.size,.none,.none,.none,.bool false,.none] ++ ownMembersOf (.type "AttributeError") [Value.str msg t])}).get? b=some q:=λb q hb=>GV _ (GV _ hb)
 have hv:=Hf (h.push {cls:=.type "tuple",data:=.seq #[Value.str msg t]}) (o:={cls:=.type "AttributeError",data:=.fields (#[.ref h.objs.size,.none,.none,.none,.bool false,.none] ++ ownMembersOf (.type "AttributeError") [Value.str msg t])}) rfl
 generalize ((h.push {cls:=.type "tuple",data:=.seq #[Value.str msg t]}).push {cls:=.type "AttributeError",data:=.fields (#[.ref h.objs.size,.none,.none,.none,.bool false,.none] ++ ownMembersOf (.type "AttributeError") [Value.str msg t])})=h1 at hk hv
 rw[he] at hv ⊢
 have hv:h1.get? e=some {cls:=.type "AttributeError",data:=.fields #[.ref h.objs.size,.none,.none,.none,.bool false,.none,unsetMember,unsetMember]}:=hv
 have hn:h.get? e=none:=Heap.get?_none_of_le (by rw[<-he,Je];omega)
 have hTe:∀t',(⟨h1,g,d,t',os⟩:Shared).TypeIs (.ref e) "AttributeError":=λt'=>⟨_,hv,rfl⟩
 have hTe2:=hTe (t + 1 + 1)
 have f5:isSubtype (.type "AttributeError") (.type "AttributeError")=pure true:=by rw[IQ];kernel_rfl
 refine GS (wpAny_mkText ?_)
 dsimp only
 clear hTe hT f4 hx
 unfold noteAttr
 repeat (any_goals (first |assumption |wp_step))
 unfold raiseNew
 refine GS (wpAny_handled ?_)
 rw[hh]
 first
  |refine wpAny_throw ?_
  |refine GS (GX (wpAny_throw ?_))
 refine hq _ _ _ (λb q hb=>?_) ?_
 ·rw[HY h1 (a:=e) (b:=b) _ (λz=>by rw[<-z,hn] at hb;cases hb)];exact hk b q hb
 ·exact⟨_,HQ _ hv rfl,rfl⟩
def m9 {tk:Tok}{E':Result->Shared->Prop}{items:Array Value}{n:Nat}{sl:Array (Option Value)}(hx:h.get? a=some {cls:=.type "list",dict:=none,data:=.seq items n,slots:=sl})(hh:A.handled=none)
  (hq:∀h' t' e,(∀b q,h.get? b=some q->h'.get? b=some q)->(∃q,h'.get? e=some q/\q.cls=.type "AttributeError")->E' (.error (.ref e)) ⟨h',g,d,t',os⟩) :
  codeAny (model prog w) A (.call (.builtin "list.__getattribute__") ⟨[.ref a,.str "keys" tk],[]⟩) E' ⟨h,g,d,t,os⟩:=
 codeAny_call_builtin Ji.plain F.entry_list_ga (Ji.check _ _ _ _ _ _ _ _ (show (⟨h,g,d,t,os⟩:Shared).TypeIs (.ref a) "list" from⟨_,hx,rfl⟩) (F.args_list_getattribute_2 _ _) (l9 hx hh hq))
def qD {tk:Tok}{Q:Value->Shared->Prop}{items:Array Value}{n:Nat}{sl:Array (Option Value)}(hx:h.get? a=some {cls:=.type "list",dict:=none,data:=.seq items n,slots:=sl})(hh:A.handled=none)
  (hq:∀h' t' e,(∀b q,h.get? b=some q->h'.get? b=some q)->(∃q,h'.get? e=some q/\q.cls=.type "AttributeError")->E (.ref e) ⟨h',g,d,t',os⟩) :
  wpAny (model prog w) A (getAttrBy (.ref a) (.str "keys" tk) false) Q E ⟨h,g,d,t,os⟩:=by
 have hT:(⟨h,g,d,t,os⟩:Shared).TypeIs (.ref a) "list":=⟨_,hx,rfl⟩
 have f2:=Ji.lookup
 have f3:=Ji.bind (.ref a)
 repeat (any_goals (first |assumption |wp_step))
 refine m9 hx hh λh' t' e hk hv=>?_
 have hT2:(⟨h',g,d,t',os⟩:Shared).TypeIs (.ref e) "AttributeError":=hv
 have f5:isSubtype (.type "AttributeError") (.type "AttributeError")=pure true:=by rw[IQ];kernel_rfl
 have f6:typeLookup (.type "list") "__getattr__"=pure none:=by rw[typeLookup_type,Jq];kernel_rfl
 have hq2:=hq h' t' e hk hv
 clear hq hT f2 f3
 dsimp only
 unfold getattributeRaised hookBehind hookOrError attributeErrorLeaves
 repeat (any_goals (first |assumption |wp_step))
def wq {Q:Option Value->Shared->Prop}{items:Array Value}{n:Nat}{sl:Array (Option Value)}(hx:h.get? a=some {cls:=.type "list",dict:=none,data:=.seq items n,slots:=sl})(hh:A.handled=none)
  (hq:∀h' t',(∀b q,h.get? b=some q->h'.get? b=some q)->Q none ⟨h',g,d,t',os⟩):wpAny (model prog w) A (getAttr? (.ref a) "keys") Q E ⟨h,g,d,t,os⟩:=by
 unfold getAttr? getAttrBy?
 refine GS (wpAny_mkText (GS (wpAny_attempt (qD hx hh λh' t' e hk hv=>?_))))
 have hT2:(⟨h',g,d,t',os⟩:Shared).TypeIs (.ref e) "AttributeError":=hv
 have f5:isSubtype (.type "AttributeError") (.type "AttributeError")=pure true:=by rw[IQ];kernel_rfl
 have hq2:=hq h' t' hk
 dsimp only
 repeat (any_goals (first |assumption |wp_step))
end
end PySem
section
namespace PySem
namespace F
def jt:entryFor table "dict.update.loop"=some Builtin.«dict.update.loop»:=entryFor_of_tree (by kernel_rfl)
def dz:plainId "dict.update.loop"=true:=by decide +kernel
end F
end PySem
namespace L2
open PySem PyProof.Rows
section
variable {X:Cx}{pins:List (Addr×Obj)}{σ:St}{H:Hp}{s:Shared}{a b d l it:Addr}{A:Around}{E:Value->Shared->Prop}
def wN {kvs:List (List Key×V)}{k:List Key}{v:V}{r:Value}{Q:Unit->Shared->Prop}(hu:A.units < cLine)(I:Inv X pins σ H s)(e:H a=some (.dT kvs))(eb:Rd H b (.tup (k.map kV)))(lk:kvs.length < sizeLine)(rv:RelV v r)
  (h:∀h' t',Heap.SameBut a s.heap h'->Inv X pins σ (upd H a (.dT (putK kvs k v))) {s with heap:=h',toks:=t'}->Q () {s with heap:=h',toks:=t'}) :
  wpAny (model X.prog X.w) A (dictSet a (.ref b) r) Q E s:=by
 obtain⟨z,hd,xs,rel,dd⟩:=EM I.hok e
 have hz:xs.length<=sizeLine:=by rw[<-Paired.length rel];exact z
 have hl:(putK kvs k v).length<=sizeLine:=by have:=lP kvs k v;omega
 refine wpAny_dictSet_heap (knd:=tupleKind (bV X.prog X.w)) (hsz:=hz) hu (lh I.hok eb) dd λh' dd' hs=>h _ _ hs ?_
 obtain⟨q,es,ep,hq,h2,h3,h4,_,h5⟩:=dd'
 refine BG I (by rw[e];exact True.intro) hs ⟨q,hq⟩ ⟨hl,hd,_,(rel.put k eb rv).keeps λc ys ec=>?_,q,es,ep,hq,h2,h3,h4,h5⟩
 exact ec.imp (λec=>by rw[au (uW ec e (λz=>nomatch z))];exact ec) λ⟨o,ec⟩=>⟨o,by rw[au (uW ec e (λz=>nomatch z))];exact ec⟩
theorem q8 {result:Value}{R:Result->Shared->Prop}{xs:List V}(hh:A.handled=none)(hu:A.units + 1 < cLine)(hnd:it≠d)(hl:∀o,fB X.K (upd H d o) l xs)(hf:∀o,mi X pins (upd H d o) it) :
  ∀(rest:List (Addr×Addr×List Key×V)) (i:Nat) (j:Int) (kvs:List (List Key×V)) (s:Shared),Inv X pins σ (upd H d (.dT kvs)) s->s.heap.IsListIter it l i->xs.drop i=rest.map (λq=>V.ref q.1)->
   (∀q,q∈rest->∀o,dH X.K (upd H d o) q.1 [V.ref q.2.1,q.2.2.2]/\Rd (upd H d o) q.2.1 (.tup (q.2.2.1.map kV)))->kvs.length + rest.length<=sizeLine->
   (∀h' t',Inv X pins σ (upd H d (.dT (rest.foldl (λa q=>putK a q.2.2.1 q.2.2.2) kvs))) {s with heap:=h',toks:=t'}->R (.ok (.ret result)) {s with heap:=h',toks:=t'})->
   codeAny (model X.prog X.w) A (.builtin "dict.update.loop" ⟨[.ref d,.ref it,rawInt j,result],[]⟩) R s
 | [],i,j,kvs,s,I,hi,hx,_,_,hR=>by
  obtain⟨its,rv,pl,_⟩:=I.list (hl _)
  have hlen:its.length=xs.length:=rv.length.symm
  have hx:its.toArray[i]? =none:=by
   have:xs.length<=i:=by
    have:=congrArg List.length hx
    rw[List.length_drop] at this
    simp at this
    omega
   simp;omega
  refine IG F.jt ?_
  rw[Iw F.dz _]
  show wpAny _ A.in1 (pyNext (.ref it) >>= _) _ _ s
  refine GS (wpAny_pyNext_list_end hh hi pl.isList hx λh' hk=>?_)
  have I':=I.turnedL (t':=s.toks) (ch:=[it]) (h':=h') (λb o hb e=>hk b o (λz=>hb (by simp[z])) e) (λb hb=>by rw[HF] at hb;exact hb▸hf _)
  refine GS (GX ?_)
  exact GX (hR h' s.toks I')
 |q :: rest,i,j,kvs,s,I,hi,hx,hq,hz,hR=>by
  obtain⟨its,rv,pl,_⟩:=I.list (hl _)
  have hxi:xs[i]? =some (V.ref q.1):=by
   have:=congrArg List.head? hx
   rwa [List.head?_drop,Hx,List.head?_cons] at this
  obtain⟨u,hu2,ru⟩:∃u,its[i]? =some u/\RelV (V.ref q.1) u:=Vals.get rv hxi
  cases ru
  refine IG F.jt ?_
  rw[Iw F.dz _]
  show wpAny _ A.in1 (pyNext (.ref it) >>= _) _ _ s
  refine GS (wpAny_pyNext_list_item hi pl.isList (x:=.ref q.1) (by simpa using hu2) λh' hi' hk=>?_)
  have I':=I.turnedL (t':=s.toks) (ch:=[it]) (h':=h') (λb o hb e=>(hk.2 b (λz=>hb (by simp[z]))).trans e) (λb hb=>by rw[HF] at hb;exact hb▸hf _)
  obtain⟨ht,hkey⟩:=hq q (G6 ..) (.dT kvs)
  obtain⟨ps,rp,tp,_⟩:=I'.tuple ht
  show wpAny _ A.in1 (holding [Value.ref q.1] _ >>= _) _ _ _
  refine GS (Im ?_)
  obtain⟨u,w,rfl,ru,rw'⟩:∃u w,ps= [u,w]/\RelV (V.ref q.2.1) u/\RelV q.2.2.2 w:=by
   cases rp with
   |cons h1 r=>cases r with |cons h2 r=>cases r;exact⟨_,_,rfl,h1,h2⟩
  cases ru
  obtain⟨o,ho,hoc,n,hod⟩:=tp
  have hT:({s with heap:=h'}:Shared).TypeIs (.ref q.1) "tuple":=⟨o,ho,hoc⟩
  refine GS (wpAny_tryCatch ?_)
  unfold Builtin.Dict.pairItems
  refine GS (wpAny_typeOf hT ?_)
  rw[GW (by decide)]
  refine GS (wpAny_seqItems ho hod (GX ?_))
  show wpAny _ A.in1 (holding [Value.ref q.2.1,w] (dictSet d (.ref q.2.1) w)) _ _ _
  refine Im ?_
  rw[Hr] at hz
  refine wN hu I' av hkey (by omega) rw' λh2 t2 hs2 I2=>?_
  have eH:upd (upd H d (.dT kvs)) d (.dT (putK kvs q.2.2.1 q.2.2.2))=upd H d (.dT (putK kvs q.2.2.1 q.2.2.2)):=by
   funext c;unfold upd;by_cases z:c=d <;> simp[z]
  rw[eH] at I2
  refine GX ⟨Jx F.dz _,q8 hh hu hnd hl hf rest (i + 1) (j + 1) _ _ I2 ?_ ?_ (λq' hq'=>hq q' (GY _ hq')) ?_ λh3 t3 I3=>hR h3 t3 I3⟩
  ·exact Heap.IsListIter.extBut hi' hs2.extBut hnd
  ·rw[<-List.tail_drop,hx];rfl
  ·have:=lP kvs q.2.2.1 q.2.2.2;omega
end
end L2
end
namespace L2
open PySem PyProof.Rows
section
variable {X:Cx}{K:Frag}{pins:List V}{σ:St}{H:Hp}{s:Shared}{E:XK}
def zA (K:Frag):List V->Hp->VK->Prop:=λxs H Q=>∃l,∃rest:List (Addr×Addr×List Key×V),xs= [.ref l]/\fB K H l (rest.map λq=>V.ref q.1)/\(∀q,q∈rest->dH K H q.1 [V.ref q.2.1,q.2.2.2]/\Rd H q.2.1 (.tup (q.2.2.1.map kV)))/\
 ∀d,H d=none->Q (.ref d) (upd H d (.dT (rest.foldl (λa q=>putK a q.2.2.1 q.2.2.2) [])))
def fB.up {l d:Addr}{xs:List V}{o:HO}(h:fB K H l xs)(hd:H d=none):fB K (upd H d o) l xs:=by
 have s:ah H (upd H d o):=ah.new hd
 rcases h with h |h
 ·exact .inl (h.mono s)
 ·exact .inr h
def dH.up {l d:Addr}{xs:List V}{o:HO}(h:dH K H l xs)(hd:H d=none):dH K (upd H d o) l xs:=by
 have s:ah H (upd H d o):=ah.new hd
 rcases h with h |h
 ·exact .inl (h.mono s)
 ·exact .inr h
def ue (hc:X.calm=true)(hu:X.A.units + 2 < cLine):cw X (.type "dict") (zA X.K):=by
 intro pins s σ H xs us Q I r h
 obtain⟨l,rest,rfl,hl,hq,k⟩:=h
 obtain⟨u,rfl,rx⟩:=vals1 r
 cases rx
 have hh:=I.ok.hd hc
 have hd0:H s.heap.objs.size=none:=I.hok.fresh (GZ _)
 refine callType_codes (Q₁:=λobj s₁=>obj=.ref s.heap.objs.size/\s₁={s with heap:=s.heap.push {cls:=.type "dict",data:=.dict #[]}}) F.kt_called_dict (F.kt_typeCall_dict_1 _) F.entry_dict_init (kt_code_dict_new _ ⟨rfl,rfl⟩) ?_
 rintro obj s₁ ⟨rfl,rfl⟩
 have hnew:(s.heap.push {cls:=.type "dict",data:=.dict #[]}).DictOf (bV X.prog X.w) s.heap.objs.size []:=Heap.DictOf.new s.heap
 have hsm:(s.heap.objs.size == sysModules)=false:=by
  have:=I.big
  rw[beq_eq_false_iff_ne];exact Nat.ne_of_gt this
 have I1:Inv X pins σ (upd H s.heap.objs.size (.dT [])) {s with heap:=s.heap.push {cls:=.type "dict",data:=.dict #[]},toks:=s.toks}:=I.laid (t':=s.toks) (λ_ _=>GV _) (GZ _) ⟨HK _,hsm,[],.nil,_,_,_,Hf _ rfl,by trivial,rfl,rfl,Jp⟩
 refine⟨hnew.typeIs,F.args_dict_init_2 _ _,?_⟩
 unfold Builtin.«dict.__init__»
 refine GS ?_
 unfold Builtin.Dict.selfAndRest
 refine GS (wpAny_notOrdered_dict hnew.typeIs ?_)
 show wpAny _ _ (pure (s.heap.objs.size,[Value.ref l])) _ _ _
 refine GX ?_
 show wpAny _ _ (Builtin.Dict.updateFrom "dict.__init__" s.heap.objs.size (.ref l) [] .none) _ _ _
 unfold Builtin.Dict.updateFrom
 obtain⟨its,rv,pl,hz⟩:=I1.list (hl.up hd0)
 obtain⟨⟨cls,dd,data,sl⟩,n,ho,hoc,hod,hodd⟩:=id pl
 simp only at hoc hod hodd
 subst hoc hod hodd
 refine GS (wpAny_typeOf (T:="list") ⟨_,ho,rfl⟩ ?_)
 rw[GW (by decide)]
 refine GS (wq ho hh λh1 t1 hk1=>?_)
 have I2:=I1.kept (t':=t1) hk1
 obtain⟨its2,rv2,pl2,_⟩:=I2.list (hl.up hd0)
 rw[GW (by rfl)]
 have hdl:s.heap.objs.size < h1.objs.size:=by
  obtain⟨o,e⟩:∃o,h1.get? s.heap.objs.size=some o:=⟨_,hk1 _ _ (Hf _ rfl)⟩
  exact G9 e
 have hnd:h1.objs.size≠s.heap.objs.size:=Nat.ne_of_gt hdl
 have hfi:H h1.objs.size=none:=by
  have:=I2.hok.fresh (GZ h1.objs.size)
  rwa [au hnd] at this
 refine GS (wpAny_rule ?_)
 refine GS (I0 pl2.isList ?_)
 have I3:Inv X pins σ (upd H s.heap.objs.size (.dT [])) {s with heap:=h1.push {cls:=.type "list_iterator",data:=.fields #[.ref l,.int 0 0]},toks:=t1}:=I2.kept (λ_ _=>GV _)
 refine GX ⟨Jx F.dz _,q8 (A:=X.A.in1) (H:=H) (l:=l) (xs:=rest.map λq=>V.ref q.1) hh (by show X.A.units + 1 + 1 < cLine;exact hu) hnd (λo=>hl.up hd0) (λo=>I2.fpOk (GZ _) (by rw[au hnd];exact hfi)) rest 0 0 [] _ I3 ⟨_,Hf _ rfl,rfl,rfl⟩ rfl (λq hq' o=>⟨(hq q hq').1.up hd0,(hq q hq').2.mono (ah.new hd0)⟩) (by rw[Hd] at hz;simpa using hz) λh' t' I4=>?_⟩
 exact⟨rfl,.ref _,_,I4,rfl,k _ hd0⟩
end
section
variable {X:Cx}{K:Frag}{σ:St}{G H:Hp}{s:Shared}{E:XK}
def sE (K:Frag):Bool:=K.all λp=>match p.2.cls,p.2.data with
 | .type "tuple",.seq its _=>match its.toList with
  | [.int _ _,.int _ _]=>false
  |_=>true
 |_,_=>true
theorem yP {α:Type}{a:Addr}{o:α}:∀{L:List (Addr×α)},L.lookup a=some o->(a,o)∈L
 | (b,u) :: L,h=>by
  rw[Jv] at h
  cases c:a == b with
  |true=>rw[c] at h;cases h;rw[eq_of_beq c];exact G6 ..
  |false=>rw[c] at h;exact GY _ (yP h)
def uS {a:Addr}{i j:Int}(hn:sE K=true)(h:dH K G a [.int i,.int j]):Rd G a (.tup [.int i,.int j]):=by
 rcases h with h | ⟨o,its,n,hk,hc,hd,hz,r,_⟩
 ·exact h
 ·exfalso
  unfold sE at hn
  rw[Iv] at hn
  have hm:(a,o)∈K:=yP hk
  have:=hn _ hm
  simp only[hc,hd] at this
  generalize its.toList=us at r this
  cases r with
  |cons h1 r=>cases r with
   |cons h2 r=>
    cases r
    obtain⟨t1,rfl⟩:=h1
    obtain⟨t2,rfl⟩:=h2
    simp at this
def kP (p:Int×Int):List Key:=[.inl p.1,.inl p.2]
def pw {p q:Int×Int}:kP p=kP q↔p=q:=by
 unfold kP
 constructor
 ·intro h
  simp at h
  exact Prod.ext h.1 h.2
 ·intro h;rw[h]
def sX (acc:List ((Int×Int)×D))(p:Int×Int)(d:D):List ((Int×Int)×D):=
 if (acc.any λkv=>decide (kv.1=p))=true then acc.map λkv=>if kv.1=p then (kv.1,d) else kv else acc ++ [(p,d)]
abbrev KP (K:Frag)(G:Hp):List (List Key×V)->List ((Int×Int)×D)->Prop:=Paired λa b=>a.1=kP b.1/\Rp K G a.2 b.2
theorem KP.any {kvs:List (List Key×V)}{acc:List ((Int×Int)×D)}(h:KP K G kvs acc)(p:Int×Int):(kvs.any λkv=>decide (kv.1=kP p))=acc.any λkv=>decide (kv.1=p):=by
 induction h with
 |nil=>rfl
 |cons h _ ih=>
  rw[IZ,IZ,ih,h.1]
  congr 1
  rw[decide_eq_decide];exact pw
theorem KP.repl {p:Int×Int}{v:V}{d:D}(hv:Rp K G v d):∀{kvs:List (List Key×V)} {acc:List ((Int×Int)×D)},KP K G kvs acc->KP K G (kvs.map λkv=>if kv.1=kP p then (kv.1,v) else kv) (acc.map λkv=>if kv.1=p then (kv.1,d) else kv)
 |_,_,.nil=>.nil
 | (a,_) :: _,(b,_) :: _,.cons h1 t=>by
  rw[Hx,Hx]
  refine .cons ?_ (KP.repl hv t)
  obtain⟨e,h1⟩:=h1
  simp only at e h1
  subst e
  by_cases c:b=p
  ·simp only[GW (pw.mpr c),GW c];exact⟨trivial,hv⟩
  ·simp only[G8 (λz=>c (pw.mp z)),G8 c];exact⟨trivial,h1⟩
theorem KP.snoc {p:Int×Int}{v:V}{d:D}(hv:Rp K G v d):∀{kvs:List (List Key×V)} {acc:List ((Int×Int)×D)},KP K G kvs acc->KP K G (kvs ++ [(kP p,v)]) (acc ++ [(p,d)])
 |_,_,.nil=>.cons ⟨rfl,hv⟩ .nil
 |_,_,.cons h1 t=>.cons h1 (KP.snoc hv t)
def KP.put {kvs:List (List Key×V)}{acc:List ((Int×Int)×D)}(h:KP K G kvs acc)(p:Int×Int){v:V}{d:D}(hv:Rp K G v d):KP K G (putK kvs (kP p) v) (sX acc p d):=by
 unfold putK sX
 rw[h.any p]
 split
 ·exact h.repl hv
 ·exact h.snoc hv
theorem KP.rp {kvs:List (List Key×V)}{acc:List ((Int×Int)×D)}(h:KP K G kvs acc):uw K G kvs (acc.map λx=>(.tuple [.int x.1.1,.int x.1.2],x.2)):=by
 induction h with
 |nil=>exact .nil
 | @cons a b _ _ h _ ih=>
  obtain⟨k,v⟩:=a
  obtain⟨e,h⟩:=h
  simp only at e h
  subst e
  exact .cons h ih
def EZ:D->Option ((Int×Int)×D)
 | .tuple [.tuple [.int a,.int b],v]=>some ((a,b),v)
 |_=>none
def z5:List D->Option (List ((Int×Int)×D))
 | []=>some []
 |d :: ds=>match EZ d,z5 ds with
  |some x,some L=>some (x :: L)
  |_,_=>none
def C1 {d:D}{x:(Int×Int)×D}(h:EZ d=some x):d=.tuple [.tuple [.int x.1.1,.int x.1.2],x.2]:=by
 unfold EZ at h
 split at h
 ·cases h;rfl
 ·cases h
abbrev Gs (K:Frag)(G:Hp):List (Addr×Addr×List Key×V)->List ((Int×Int)×D)->Prop:=Paired λq x=>q.2.2.1=kP x.1/\Rp K G q.2.2.2 x.2
theorem uU (hn:sE K=true):∀{ds:List D} {xs:List V} {L:List ((Int×Int)×D)},ck K G xs ds->z5 ds=some L->∃rest:List (Addr×Addr×List Key×V),xs=rest.map (λq=>V.ref q.1)/\Gs K G rest L/\∀q,q∈rest->dH K G q.1 [V.ref q.2.1,q.2.2.2]/\Rd G q.2.1 (.tup (q.2.2.1.map kV))
 | [],_,L,.nil,h=>by cases h;exact⟨[],rfl,.nil,(λq hq=>by cases hq)⟩
 |d :: ds,_,L,.cons (x:=x) h t,e=>by
  unfold z5 at e
  cases e1:EZ d with
  |none=>rw[e1] at e;cases e
  |some y=>
   cases e2:z5 ds with
   |none=>rw[e1,e2] at e;cases e
   |some M=>
    rw[e1,e2] at e
    cases e
    obtain⟨rest,rfl,h1,h2⟩:=uU hn t e2
    rw[C1 e1] at h
    cases h with
    | @tup a zs _ hq r=>
     cases r with
     | @cons z _ _ _ r1 r=>cases r with
      | @cons w _ _ _ r2 r=>
       cases r
       cases r1 with
       | @tup b ws _ hq2 r3=>
        have hw:ws= [V.int y.1.1,V.int y.1.2]:=by
         cases r3 with
         |cons a1 r3=>cases r3 with
          |cons a2 r3=>cases r3;cases a1;cases a2;rfl
        subst hw
        refine⟨(a,b,kP y.1,w) :: rest,rfl,.cons ⟨rfl,r2⟩ h1,λq hq'=>?_⟩
        rcases G7.mp hq' with rfl |hq'
        ·exact⟨hq,uS hn hq2⟩
        ·exact h2 q hq'
def uf:D->Option D
 | .list ds=>(z5 ds).map λL=>.dict ((L.foldl (λa x=>sX a x.1 x.2) []).map λx=>(.tuple [.int x.1.1,.int x.1.2],x.2))
 |_=>none
theorem KP.fold:∀{rest:List (Addr×Addr×List Key×V)} {L:List ((Int×Int)×D)} {kvs:List (List Key×V)} {acc:List ((Int×Int)×D)},Gs K G rest L->KP K G kvs acc->KP K G (rest.foldl (λa q=>putK a q.2.2.1 q.2.2.2) kvs) (L.foldl (λa x=>sX a x.1 x.2) acc)
 |_,_,_,_,.nil,h=>h
 |q :: _,_,_,_,.cons h1 t,h=>by
  rw[IY,IY]
  refine KP.fold t ?_
  rw[h1.1]
  exact h.put _ h1.2
theorem AR (hn:sE K=true):w8 K (λx=>zA K [x]) uf .v:=by
 intro B G H x dx d Q s hB bx e k
 cases dx with
 |list ds=>
  have e:((z5 ds).map λL=>PyData.dict ((L.foldl (λa x=>sX a x.1 x.2) []).map λx=>(.tuple [.int x.1.1,.int x.1.2],x.2)))=some d:=e
  cases e1:z5 ds with
  |none=>rw[e1] at e;cases e
  |some L=>
   rw[e1] at e
   cases e
   obtain⟨p,xs,rfl,hq,r⟩:=bx.list s
   obtain⟨rest,rfl,hR,h2⟩:=uU hn r e1
   refine⟨p,rest,rfl,.inl hq,λq hq=>⟨(h2 q hq).1.grow s.grow,(h2 q hq).2.mono s⟩,λd hd=>?_⟩
   have xn:=Ext.new s (o:=.dT (rest.foldl (λa q=>putK a q.2.2.1 q.2.2.2) [])) hd
   exact k _ _ _ xn (.dT av ((KP.fold hR .nil).rp.mono xn.gg))
 |_=>cases e
end
section
variable {X:Cx}{K:Frag}{σ:St}{G H:Hp}{s:Shared}{E:XK}
def wX (neg:Bool):R2:=λx y H Q=>∃a o,y=.ref a/\(pK H a x o\/(o=none/\Rd H a (.dK [])/\∃b,∃k:List Key,x=.ref b/\Rd H b (.tup (k.map kV))))/\Q (.bl (if neg then !o.isSome else o.isSome)) H
def zi {P:Program}{w:World}{a:Addr}{g:Heap}(h:g.DictOf (bV P w) a []):g.DictOfH (tupleKind (bV P w)) a []:=by
 obtain⟨o,es,ep,h1,h2,h3,h4,h5,_⟩:=h
 exact⟨o,es,ep,h1,h2,h3,by generalize es.toList=q at h5 ⊢;cases h5;rfl,(λx hx=>by cases hx),Jp⟩
def Cq (hu:X.A.units + 100 < cLine):kX X (compareOp .In) (wX false):=by
 intro pins s σ H x y v u Q I rx ry h
 obtain⟨a,o,rfl,hg,q⟩:=h
 cases ry
 rcases hg with hg | ⟨rfl,hd,b,k,rfl,hb⟩
 ·exact Gk (by omega) I hg rx λs' I'=>⟨.bl o.isSome,H,I',rfl,q⟩
 ·cases rx
  obtain⟨z,hs,vs,rel,dd⟩:=vR I.hok hd
  cases rel
  exact wpAny_in_heap (JE (by omega)) (lh I.hok hb) hs (zi dd) ⟨.bl false,H,I.tok _,rfl,q⟩
def oz (hu:X.A.units + 100 < cLine):kX X (compareOp .NotIn) (wX true):=by
 intro pins s σ H x y v u Q I rx ry h
 obtain⟨a,o,rfl,hg,q⟩:=h
 cases ry
 rcases hg with hg | ⟨rfl,hd,b,k,rfl,hb⟩
 ·exact A8 (by omega) I hg rx λs' I'=>⟨.bl (!o.isSome),H,I',rfl,q⟩
 ·cases rx
  obtain⟨z,hs,vs,rel,dd⟩:=vR I.hok hd
  cases rel
  exact wpAny_notIn_heap (JE (by omega)) (lh I.hok hb) hs (zi dd) ⟨.bl true,H,I.tok _,rfl,q⟩
def zI:List (D×D)->Option (List (Int×Int))
 | []=>some []
 | (.tuple [.int a,.int b],_) :: ds=>(zI ds).map λL=>(a,b) :: L
 |_=>none
def tD (neg:Bool):D->D->Option D
 | .tuple [.int a,.int b],.dict ds=>(zI ds).map λL=>.bool (if neg then !decide ((a,b)∈L) else decide ((a,b)∈L))
 |_,_=>none
theorem uK:∀{kvs:List (List Key×V)} {ds:List (D×D)} {L:List (Int×Int)} (p:Int×Int),uw K G kvs ds->zI ds=some L->(lA kvs (kP p)).isSome=decide (p∈L)
 |_,_,L,p,.nil,h=>by cases h;rfl
 |_,_,L,p,.cons (k:=k) (x:=x) (xs:=xs) (d:=d) (ds:=ds) hx t,h=>by
  unfold zI at h
  split at h
  ·rename_i e;cases e
  ·rename_i a b d' ds' e
   injection e with e1 e2
   injection e1 with e1 _
   subst e2
   cases e3:zI ds with
   |none=>rw[e3] at h;cases h
   |some M=>
    rw[e3] at h
    cases h
    have ih:=uK p t e3
    have hk:k=kP (a,b):=by
     injection e1 with e1
     match k,e1 with
     | [.inl i,.inl j],e1=>simp[kD] at e1;rw[e1.1,e1.2];rfl
     | [.inl i,.inr j],e1=>simp[kD] at e1
     | [.inr i,_],e1=>simp[kD] at e1
     | [],e1=>simp at e1
     | [_],e1=>simp at e1
     |_ :: _ :: _ :: _,e1=>simp at e1
    subst hk
    by_cases c:p=(a,b)
    ·subst c
     rw[kL rfl]
     simp
    ·rw[kM (λz=>c (pw.mp z).symm),ih]
     simp[c]
  ·cases h
theorem AX {kvs:List (Key×V)}{ds:List (D×D)}{L:List (Int×Int)}(r:vg K G kvs ds)(h:zI ds=some L):kvs= []/\L= []:=by
 cases r with
 |nil=>cases h;exact⟨rfl,rfl⟩
 | @cons k x xs d ds _ _=>cases k <;> (simp[zI,kD] at h)
def xH {neg:Bool}(hn:sE K=true):mj K (wX neg) (tD neg) .v:=by
 intro B G H x y dx dy d Q s hB bx by' e k
 unfold tD at e
 split at e
 ·rename_i a b ds
  cases e1:zI ds with
  |none=>rw[e1] at e;cases e
  |some L=>
   rw[e1] at e
   cases e
   obtain⟨p,xs,rfl,hq,r⟩:=bx.tuple s
   have hw:xs= [V.int a,V.int b]:=by
    cases r with
    |cons a1 r=>cases r with
     |cons a2 r=>cases r;cases a1;cases a2;rfl
   subst hw
   have hk:Rd H p (.tup ((kP (a,b)).map kV)):=uS hn hq
   have fin:∀c o,y=.ref c->(pK H c (.ref p) o\/(o=none/\Rd H c (.dK [])/\∃b,∃k:List Key,V.ref p=.ref b/\Rd H b (.tup (k.map kV))))->o.isSome=decide ((a,b)∈L)->wX neg (.ref p) y H Q:=λc o hy hg ho=>⟨c,o,hy,hg,by rw[ho];exact k _ G H (Ext.refl s) (.bl _)⟩
   have dT:∀c kvs,y=.ref c->H c=some (.dT kvs)->uw K G kvs ds->wX neg (.ref p) y H Q:=λc kvs hy hc r=>fin c _ hy (.inl (pK.t hc hk)) (uK (a,b) r e1)
   have dK:∀c kvs,y=.ref c->H c=some (.dK kvs)->vg K G kvs ds->wX neg (.ref p) y H Q:=λc kvs hy hc r=>by
    obtain⟨rfl,rfl⟩:=AX r e1
    exact fin c none hy (.inr ⟨rfl,.inl hc,p,_,rfl,hk⟩) rfl
   rcases by' with h | ⟨c,rfl,_,h⟩
   ·cases h with
    |scr h=>cases e1
    |dK h r=>exact dK _ _ rfl (s _ _ h) r
    |dT h r=>exact dT _ _ rfl (s _ _ h) r
   ·rcases h with⟨kvs,h,r⟩ | ⟨kvs,h,r⟩
    ·exact dK _ _ rfl h r
    ·exact dT _ _ rfl h r
 ·cases e
def dk.u2 {k:Nat}{A:Around}(r:dk k A):A.units + 2 < cLine:=by have:=r.units;omega
end
end L2
namespace RM
open PySem L2
def jv (bG bg:List D->FR):SF:=(bY (dX (aE bG (aa (gv 0) (aa (f2 (gv 1) (cst (.int 0)) cZ) ag))) (aE bg (aa (gv 1) (aa (f2 (gv 0) (cst (.int 0)) cZ) (aa (f2 (gv 0) (cst (.int 1)) cZ) ag))))))
noncomputable def dt:SF:=(aG (a9 3 ([] ++ []) (f2 (gv 2) (cst (.int 0)) cZ))
 (aG (a9 4 ([] ++ []) (f2 (gv 2) (cst (.int 1)) cZ))
 (aG (a9 5 ([] ++ [4]) (aL 1 [4,0] (.nm 0) (bz (gv 1)) (zW (df (f2 (gv 0) (gv 1) (de true))) (df (f2 (bh (aa (gv 1) (aa (gv 0) ag))) (gv 2) (tD true)))) (gv 0)))
 (aG (a9 6 ([] ++ [3]) (aL 1 [3,0] (.nm 0) (bz (gv 1)) (zW (df (f2 (gv 0) (gv 1) (de true))) (df (f2 (bh (aa (gv 1) (aa (gv 0) ag))) (gv 2) (tD true)))) (gv 0)))
 (aG (a9 7 (([] ++ [3]) ++ ([] ++ [4])) (f2 (aL 1 [3] (.nm 0) (bS (gv 5)) mn (bh (aa (gv 1) (aa (gv 0) ag)))) (aL 1 [4] (.nm 0) (bS (gv 6)) mn (bh (aa (gv 0) (aa (gv 1) ag)))) gx))
 (jQ (f1 (aL 1 [0] (.nm 0) (bS (gv 7)) (df (f2 (gv 0) (gv 1) (tD false))) (gv 0)) fY)))))))
def iG (jx:List D->FR):SF:=(bY (f1 (aL 1 [] (.nm 0) (bS (aE jx (aa (gv 0) ag))) mn (bh (aa (gv 0) (aa (cst (.bool true)) ag)))) uf))
def kl (a8 fS bZ cC:List D->FR):SF:=(aG (oW ([0] ++ []) (aE a8 (aa (gv 0) ag)))
 (aG (kB ([1] ++ ([0] ++ [])) (vP (mI (aE fS (aa (gv 1) (aa (gv 0) ag)))))
 (λenv β=>toS ((aa (cst (.str "this is no turn of the order")) ag) (vl env) β) λds _=>if ds.length<=sizeLine then .exc "NoTurns" else .bad)
 mC)
 (jQ (nq bZ (aa (aE cC (aa (gv 0) ag)) (aa (f2 (gv 0) (cst (.int 0)) cZ) (aa (gv 1) ag)))))))
def eM (aR:List D->FR):SF:=(aG (sH (.two 3 4) [1] (gv 1))
 (aG (sH (.two 5 6) [2] (gv 2))
 (aG (kB (([] ++ []) ++ ([] ++ [])) (zW (df (f2 (gv 3) (gv 5) (de false))) (df (f2 (gv 4) (gv 6) (de true))))
 (bY (f1 (aE aR (aa (gv 0) (aa (gv 4) (aa (gv 6) ag)))) pG))
 mC)
 (bY (dX (f2 (gv 4) (gv 6) (de false)) (dX (f2 (gv 3) (gv 5) (de true)) (f1 (aE aR (aa (gv 0) (aa (gv 3) (aa (gv 5) ag)))) pG)))))))
def vc (eB cF cg fV:List D->FR)(bA:List D->Int->FB):SF:=(aG (dh (.nm 1) ([] ++ ([] ++ [])) (bz (f2 (cst (.int 1)) (f2 (f1 (gv 0) gQ) (cst (.int 4)) (vp λi j=>.int (if j < i then j else i))) (vp λi j=>.int (if j > i then j else i))))
 (aG (a9 2 ([0] ++ ([1] ++ [])) (E1 (nq eB (aa (gv 0) (aa (gv 1) ag))) bA 8))
 (aG (a9 3 ([2] ++ []) (aE cF (aa (gv 2) ag)))
 (dh (.nm 4) [3] (bS (gv 3))
 (aG (a9 5 ([] ++ [2,4]) (aL 1 [2,4] (.nm 0) (bS (gv 3)) (mI (aE cg (aa (gv 1) (aa (gv 2) (aa (gv 0) ag))))) (gv 0)))
 (aG (dh (.nm 6) [] (bz (cst (.int 2)))
 (aG (kR 7 ([2] ++ ([4] ++ [])) (nq fV (aa (gv 2) (aa (gv 4) ag))))
 (aG (kB ([] ++ ([] ++ [])) (qH (vP (mI (f1 (gv 7) (jr "list")))) (df (f2 (f1 (gv 7) nM) (f1 (gv 5) nM) (C0 true))))
 (bY (cst (.bool false)))
 mC)
 (ml 7 [] (cst (.int 0))))))
 (dh (.nm 8) (([] ++ []) ++ []) (bS (EL (gv 5) (λ_ β=>.ok none β) (Eh (cst (.int 2)))))
 (kB ([] ++ ([2] ++ ([8] ++ []))) (df (f2 (gv 4) (aE fV (aa (gv 2) (aa (gv 8) ag))) (xl true)))
 (bY (cst (.bool false)))
 mC))))))))
 (bY (cst (.bool true))))
end RM
namespace RQ
open PySem L2 RM
def top (i:Nat):Stmt:=PySem.Challenge.pw_rowsorder_k33_what_a_turn_forces.main.body.getD i (.Pass ⟨0,0,0,0⟩)
section
variable {P:Program}{w:World}{K:Frag}{mg:Str->Option Value}{base:Heap}{ca:Str->Addr}
abbrev iD:Stmt:=top 2
def sU:aH ["thing"] ["thing"] (ar iD):=⟨rfl,rfl,rfl,by decide +kernel,rfl,by decide +kernel,by decide +kernel⟩
def qc {f:Addr}{fd:FuncData}(F:jL K mg "is_whole" iD ["thing"] f fd)(B:jM mg):dI P w K mg base ca "is_whole" ["thing"] 1 (bb 1 1 (nj)):=
 ⟨⟨f,fd,F.mg,F.F.kp,F.b,aX (N:=["thing"]) (k:=0) F.F sU λcdv A outer s H G E hr=>
  (az (aZ (fx (k6 "int" (by decide) rfl rfl B.isinstance rfl B.int (by decide +kernel) (af 0)) (iC (qg (k6 "bool" (by decide) rfl rfl B.isinstance rfl B.bool (by decide +kernel) (af 0)))) (λ_ _=>rfl))))⟩,λds h=>aQ ds h⟩
abbrev iM:Stmt:=top 3
def rz:aH ["thing","bound"] ["thing","bound"] (ar iM):=⟨rfl,rfl,rfl,by decide +kernel,rfl,by decide +kernel,by decide +kernel⟩
def qz {f:Addr}{fd:FuncData}{bB:List D->FR}(F:jL K mg "is_below" iM ["thing","bound"] f fd)(B:jM mg)(dS:dI P w K mg base ca "is_whole" ["thing"] 1 bB):dI P w K mg base ca "is_below" ["thing","bound"] 2 (bb 2 2 (nS bB)):=
 ⟨⟨f,fd,F.mg,F.F.kp,F.b,aX (N:=["thing","bound"]) (k:=1) F.F rz λcdv A outer s H G E hr=>
  (az (aZ (fx (aO dS (hr.mono (by decide)) aW rfl rfl (ae (aw 0 rfl) aq)) (iC (sd ya BV CN El ax (af 0) (af 1))) (λ_ _=>rfl))))⟩,λds h=>aQ ds h⟩
abbrev jI:Stmt:=top 4
def t7:aH ["thing"] ["thing"] (ar jI):=⟨rfl,rfl,rfl,by decide +kernel,rfl,by decide +kernel,by decide +kernel⟩
def sr {f:Addr}{fd:FuncData}{bB:List D->FR}(F:jL K mg "is_many" jI ["thing"] f fd)(B:jM mg)(dS:dI P w K mg base ca "is_whole" ["thing"] 1 bB){oj:Tok}(gX:mg "MOST_THINGS"=some (.int 8 oj)):dI P w K mg base ca "is_many" ["thing"] 2 (bb 1 1 (pf bB)):=
 ⟨⟨f,fd,F.mg,F.F.kp,F.b,aX (N:=["thing"]) (k:=1) F.F t7 λcdv A outer s H G E hr=>
  (az (aZ (fx (aO dS (hr.mono (by decide)) aW rfl rfl (ae (aw 0 rfl) aq)) (iC (sd ya ya CN CN ax (af 0) (AW (by rfl) gX))) (λ_ _=>rfl))))⟩,λds h=>aQ ds h⟩
abbrev jH:Stmt:=top 5
def t8:aH ["thing","many"] ["thing","many"] (ar jH):=⟨rfl,rfl,rfl,by decide +kernel,rfl,by decide +kernel,by decide +kernel⟩
def l0 {f:Addr}{fd:FuncData}{c8:List D->FR}(F:jL K mg "is_pair" jH ["thing","many"] f fd)(B:jM mg)(gu:dI P w K mg base ca "is_below" ["thing","bound"] 2 c8):dI P w K mg base ca "is_pair" ["thing","many"] 3 (bb 2 2 (hZ c8)):=
 ⟨⟨f,fd,F.mg,F.F.kp,F.b,aX (N:=["thing","many"]) (k:=2) F.F t8 λcdv A outer s H G E hr=>
  (ao (fZ (tf.t (vE (ju (fW rfl (k6 "tuple" (by decide) rfl rfl B.isinstance rfl B.tuple (by decide +kernel) (af 0)))) (qx (bC (fu hr.units) gy (bN gk ni rfl B.len Jf (af 0)) ax (bp _))) (λ_ _=>rfl)))
  (az (aZ lQ))
  c5)
  (az (aZ (fx (aO gu (hr.mono (by decide)) aW rfl rfl (ae (cm bt fP (af 0) ax (λ_ _=>rfl)) (ae (aw 1 rfl) aq))) (iC (aO gu (hr.mono (by decide)) aW rfl rfl (ae (cm bt fP (af 0) ax (λ_ _=>rfl)) (ae (aw 1 rfl) aq)))) (λ_ _=>rfl)))))⟩,λds h=>aQ ds h⟩
abbrev dE:Stmt:=top 6
def oq:aH ["many"] ["many"] (ar dE):=⟨rfl,rfl,rfl,by decide +kernel,rfl,by decide +kernel,by decide +kernel⟩
def mV {f:Addr}{fd:FuncData}(F:jL K mg "every_pair" dE ["many"] f fd)(B:jM mg):dI P w K mg base ca "every_pair" ["many"] 1 (bb 1 1 (fJ)):=
 ⟨⟨f,fd,F.mg,F.F.kp,F.b,aX (N:=["many"]) (k:=0) F.F oq λcdv A outer s H G E hr=>
  (az (jE (du (NB:=["number","many"]) (own:=1) (ixs:=[0]) [] rfl (cv (by kernel_rfl)) (λ_ _=>rfl) (gC rfl B.range (bo gW iE (af 0) (af 0))) (λH0 G0 par br bx C ex s3 H3 pn=>(b9 (i:=0) (show (["number","many"]:List Str).Nodup by decide +kernel))) (λH0 G0 par br bx C ex s3 H3 pn hB1=>gM) (λH0 G0 par br bx C ex s3 H3 pn hB1=>(b7 (ae (bo kU Ai (af 0) (af 1)) (ae (bo j7 oM (af 0) (af 1)) aq)))))))⟩,λds h=>aQ ds h⟩
abbrev iL:Stmt:=top 14
def sW:aH ["pairs"] ["pairs"] (ar iL):=⟨rfl,rfl,rfl,by decide +kernel,rfl,by decide +kernel,by decide +kernel⟩
def p4 {f:Addr}{fd:FuncData}(F:jL K mg "has_ring" iL ["pairs"] f fd)(B:jM mg):dI P w K mg base ca "has_ring" ["pairs"] 1 (bb 1 1 (mU)):=
 ⟨⟨f,fd,F.mg,F.F.kp,F.b,aX (N:=["pairs"]) (k:=0) F.F sW λcdv A outer s H G E hr=>
  (az (aZ (bN (yn rfl) uX rfl B.any (by decide +kernel) (du (NB:=["a","b"]) (own:=2) (ixs:=[]) [] rfl (cv (by kernel_rfl)) (λ_ _=>rfl) (ny rfl (af 0)) (λH0 G0 par br bx C ex s3 H3 pn=>(lu (i:=0) (j:=1) (show (["a","b"]:List Str).Nodup by decide +kernel))) (λH0 G0 par br bx C ex s3 H3 pn hB1=>gM) (λH0 G0 par br bx C ex s3 H3 pn hB1=>(g7 (hE hr.units) gy (af 0) (af 1) (bp _)))))))⟩,λds h=>aQ ds h⟩
abbrev iW:Stmt:=top 12
def jd:aH ["thing","many","pairs"] ["thing"] (ar iW):=⟨rfl,rfl,rfl,by decide +kernel,rfl,by decide +kernel,by decide +kernel⟩
def qJ {f:Addr}{fd:FuncData}{fT bG hU eG:List D->FR}(F:jL K mg "is_order" iW ["thing"] f fd)(B:jM mg)(lH:dI P w K mg base ca "is_many" ["thing"] 2 fT)(h9:dI P w K mg base ca "is_pair" ["thing","many"] 3 bG)(m6:dI P w K mg base ca "closed" ["many","pairs"] 3 hU)(jY:dI P w K mg base ca "has_ring" ["pairs"] 1 eG):dI P w K mg base ca "is_order" ["thing"] 4 (bb 3 1 (gi fT bG hU eG)):=
 ⟨⟨f,fd,F.mg,F.F.kp,F.b,aX (N:=["thing","many","pairs"]) (k:=3) F.F jd λcdv A outer s H G E hr=>
  (ao (fZ (tf.t (vE (ju (fW rfl (k6 "tuple" (by decide) rfl rfl B.isinstance rfl B.tuple (by decide +kernel) (af 0)))) (qx (bC (fu hr.units) gy (bN gk ni rfl B.len Jf (af 0)) ax (bp _))) (λ_ _=>rfl)))
  (az (aZ lQ))
  c5)
  (ao (aU (i:=1) (cm bt fP (af 0) ax (λ_ _=>rfl)) jd.nd)
  (ao (aU (i:=2) (cm bt fP (af 0) ax (λ_ _=>rfl)) jd.nd)
  (ao (fZ (tf.t (vE (ju (fW rfl (aO lH (hr.mono (by decide)) aW rfl rfl (ae (aw 1 rfl) aq)))) (qx (ju (fW rfl (k6 "tuple" (by decide) rfl rfl B.isinstance rfl B.tuple (by decide +kernel) (af 2))))) (λ_ _=>rfl)))
  (az (aZ lQ))
  c5)
  (ao (fZ (ju (fW rfl (bN (xZ rfl) uX rfl B.all (by decide +kernel) (du (NB:=["pair","many"]) (own:=1) (ixs:=[1]) [1] rfl (cv (by kernel_rfl)) (λ_ _=>rfl) (ny rfl (af 2)) (λH0 G0 par br bx C ex s3 H3 pn=>(b9 (i:=0) (show (["pair","many"]:List Str).Nodup by decide +kernel))) (λH0 G0 par br bx C ex s3 H3 pn hB1=>gM) (λH0 G0 par br bx C ex s3 H3 pn hB1=>(aO h9 (hr.mono (by decide)) sC rfl rfl (ae (aw 0 (hB1 0 (by decide))) (ae (aw 1 (hB1 1 (by decide))) aq))))))))
  (az (aZ lQ))
  c5)
  (az (aZ (fx (g7 (hE hr.units) gy (af 2) (aO m6 (hr.mono (by decide)) aW rfl rfl (ae (aw 1 rfl) (ae (aw 2 rfl) aq))) (bp _)) (iC (qg (aO jY (hr.mono (by decide)) aW rfl rfl (ae (aw 2 rfl) aq)))) (λ_ _=>rfl)))))))))⟩,λds h=>aQ ds h⟩
abbrev fE:Stmt:=top 15
def n0:aH ["thing"] ["thing"] (ar fE):=⟨rfl,rfl,rfl,by decide +kernel,rfl,by decide +kernel,by decide +kernel⟩
def nI {f:Addr}{fd:FuncData}{dN:List D->FR}(F:jL K mg "need_order" fE ["thing"] f fd)(B:jM mg)(j8:dI P w K mg base ca "is_order" ["thing"] 4 dN)(ic:Exc K mg ca "NoOrder"):dI P w K mg base ca "need_order" ["thing"] 5 (bb 1 1 (fC dN)):=
 ⟨⟨f,fd,F.mg,F.F.kp,F.b,aX (N:=["thing"]) (k:=4) F.F n0 λcdv A outer s H G E hr=>
  (az (fZ (ju (fW rfl (aO j8 (hr.mono (by decide)) aW rfl rfl (ae (aw 0 rfl) aq))))
  (az (rT ic.ex ic.ca rfl ic.mg (ae yQ aq)))
  c5))⟩,λds h=>aQ ds h⟩
abbrev gL:Stmt:=top 16
def pB:aH ["order","a","b"] ["order","a","b"] (ar gL):=⟨rfl,rfl,rfl,by decide +kernel,rfl,by decide +kernel,by decide +kernel⟩
def og {f:Addr}{fd:FuncData}(F:jL K mg "are_apart" gL ["order","a","b"] f fd)(B:jM mg):dI P w K mg base ca "are_apart" ["order","a","b"] 1 (bb 3 3 (lT)):=
 ⟨⟨f,fd,F.mg,F.F.kp,F.b,aX (N:=["order","a","b"]) (k:=0) F.F pB λcdv A outer s H G E hr=>
  (az (aZ (fx (g7 (fu hr.units) gy (af 1) (af 2) (bp _)) (fx (g7 (ik hr.u1) yE (b7 (ae (aw 1 rfl) (ae (aw 2 rfl) aq))) (cm bt fP (af 0) ax (λ_ _=>rfl)) (by with_unfolding_all rfl)) (iC (g7 (ik hr.u1) yE (b7 (ae (aw 2 rfl) (ae (aw 1 rfl) aq))) (cm bt fP (af 0) ax (λ_ _=>rfl)) (by with_unfolding_all rfl))) (λ_ _=>rfl)) (λ_ _=>rfl))))⟩,λds h=>aQ ds h⟩
abbrev mz:Stmt:=top 18
def zO:aH ["order"] ["order"] (ar mz):=⟨rfl,rfl,rfl,by decide +kernel,rfl,by decide +kernel,by decide +kernel⟩
def we {f:Addr}{fd:FuncData}{a8 b8 bg:List D->FR}(F:jL K mg "turns" mz ["order"] f fd)(B:jM mg)(cD:dI P w K mg base ca "need_order" ["thing"] 5 a8)(i0:dI P w K mg base ca "every_pair" ["many"] 1 b8)(di:dI P w K mg base ca "are_apart" ["order","a","b"] 1 bg):dI P w K mg base ca "turns" ["order"] 6 (bb 1 1 (mD a8 b8 bg)):=
 ⟨⟨f,fd,F.mg,F.F.kp,F.b,aX (N:=["order"]) (k:=5) F.F zO λcdv A outer s H G E hr=>
  (ao (u4 (aO cD (hr.mono (by decide)) aW rfl rfl (ae (aw 0 rfl) aq)))
  (az (jE (du (NB:=["a","b","order"]) (own:=2) (ixs:=[0]) [0] rfl (cv (by kernel_rfl)) (λ_ _=>rfl) (ny rfl (aO i0 (hr.mono (by decide)) aW rfl rfl (ae (cm bt fP (af 0) ax (λ_ _=>rfl)) aq))) (λH0 G0 par br bx C ex s3 H3 pn=>(lu (i:=0) (j:=1) (show (["a","b","order"]:List Str).Nodup by decide +kernel))) (λH0 G0 par br bx C ex s3 H3 pn hB1=>(fO (fW rfl (aO di (hr.mono (by decide)) sC rfl rfl (ae (aw 2 (hB1 2 (by decide))) (ae (aw 0 (hB1 0 (by decide))) (ae (aw 1 (hB1 1 (by decide))) aq))))))) (λH0 G0 par br bx C ex s3 H3 pn hB1=>(b7 (ae (aw 0 (hB1 0 (by decide))) (ae (aw 1 (hB1 1 (by decide))) aq))))))))⟩,λds h=>aQ ds h⟩
abbrev jG:Stmt:=top 19
def tj:aH ["thing","order"] ["thing","order"] (ar jG):=⟨rfl,rfl,rfl,by decide +kernel,rfl,by decide +kernel,by decide +kernel⟩
def rY {f:Addr}{fd:FuncData}{bG bg:List D->FR}(F:jL K mg "is_turn" jG ["thing","order"] f fd)(B:jM mg)(h9:dI P w K mg base ca "is_pair" ["thing","many"] 3 bG)(di:dI P w K mg base ca "are_apart" ["order","a","b"] 1 bg):dI P w K mg base ca "is_turn" ["thing","order"] 4 (bb 2 2 (jv bG bg)):=
 ⟨⟨f,fd,F.mg,F.F.kp,F.b,aX (N:=["thing","order"]) (k:=3) F.F tj λcdv A outer s H G E hr=>
  (az (aZ (fx (aO h9 (hr.mono (by decide)) aW rfl rfl (ae (aw 0 rfl) (ae (cm bt fP (af 1) ax (λ_ _=>rfl)) aq))) (iC (aO di (hr.mono (by decide)) aW rfl rfl (ae (aw 1 rfl) (ae (cm bt fP (af 0) ax (λ_ _=>rfl)) (ae (cm bt fP (af 0) ax (λ_ _=>rfl)) aq))))) (λ_ _=>rfl))))⟩,λds h=>aQ ds h⟩
abbrev dv:Stmt:=top 23
def bH:aH ["table","many","turn","a","b","seconds","firsts","found"] ["table","many","turn"] (ar dv):=⟨rfl,rfl,rfl,by decide +kernel,rfl,by decide +kernel,by decide +kernel⟩
def lq {f:Addr}{fd:FuncData}(F:jL K mg "forced_among" dv ["table","many","turn"] f fd)(B:jM mg)(hn:sE K=true):dI P w K mg base ca "forced_among" ["table","many","turn"] 1 (bb 8 3 (dt)):=
 ⟨⟨f,fd,F.mg,F.F.kp,F.b,aX (N:=["table","many","turn","a","b","seconds","firsts","found"]) (k:=0) F.F bH λcdv A outer s H G E hr=>
  (ao (aU (i:=3) (cm bt fP (af 2) ax (λ_ _=>rfl)) bH.nd)
  (ao (aU (i:=4) (cm bt fP (af 2) ax (λ_ _=>rfl)) bH.nd)
  (ao (jF (i:=5) (NB:=["c","b","table"]) (own:=1) (ixs:=[4,0]) [4] rfl (cv (by kernel_rfl)) (λ_ _=>rfl) (gC rfl B.range (af 1)) (λH0 G0 par br bx C ex s3 H3 pn=>(b9 (i:=0) (show (["c","b","table"]:List Str).Nodup by decide +kernel))) (λH0 G0 par br bx C ex s3 H3 pn hB1=>(fO (tf.t (qK (bC (fu hr.units) gy (af 0) (af 1) (bp _)) (mG (bC (oz hr.u1) (xH hn) (b7 (ae (aw 1 (hB1 1 (by decide))) (ae (aw 0 (hB1 0 (by decide))) aq))) (af 2) (by with_unfolding_all rfl))) (λi hi=>hB1 i (by revert i hi;decide)))))) (λH0 G0 par br bx C ex s3 H3 pn hB1=>(aw 0 (hB1 0 (by decide)))) bH.nd)
  (ao (jF (i:=6) (NB:=["c","a","table"]) (own:=1) (ixs:=[3,0]) [3] rfl (cv (by kernel_rfl)) (λ_ _=>rfl) (gC rfl B.range (af 1)) (λH0 G0 par br bx C ex s3 H3 pn=>(b9 (i:=0) (show (["c","a","table"]:List Str).Nodup by decide +kernel))) (λH0 G0 par br bx C ex s3 H3 pn hB2=>(fO (tf.t (qK (bC (fu hr.units) gy (af 0) (af 1) (bp _)) (mG (bC (oz hr.u1) (xH hn) (b7 (ae (aw 1 (hB2 1 (by decide))) (ae (aw 0 (hB2 0 (by decide))) aq))) (af 2) (by with_unfolding_all rfl))) (λi hi=>hB2 i (by revert i hi;decide)))))) (λH0 G0 par br bx C ex s3 H3 pn hB2=>(aw 0 (hB2 0 (by decide)))) bH.nd)
  (ao (aU (i:=7) (SE.wv (bo ki rk (du (NB:=["c","a"]) (own:=1) (ixs:=[3]) [3] rfl (cv (by kernel_rfl)) (λ_ _=>rfl) (ny rfl (af 5)) (λH0 G0 par br bx C ex s3 H3 pn=>(b9 (i:=0) (show (["c","a"]:List Str).Nodup by decide +kernel))) (λH0 G0 par br bx C ex s3 H3 pn hB3=>gM) (λH0 G0 par br bx C ex s3 H3 pn hB3=>(b7 (ae (aw 1 (hB3 1 (by decide))) (ae (aw 0 (hB3 0 (by decide))) aq))))) (du (NB:=["c","b"]) (own:=1) (ixs:=[4]) [4] rfl (cv (by kernel_rfl)) (λ_ _=>rfl) (ny rfl (af 6)) (λH0 G0 par br bx C ex s3 H3 pn=>(b9 (i:=0) (show (["c","b"]:List Str).Nodup by decide +kernel))) (λH0 G0 par br bx C ex s3 H3 pn hB4=>gM) (λH0 G0 par br bx C ex s3 H3 pn hB4=>(b7 (ae (aw 0 (hB4 0 (by decide))) (ae (aw 1 (hB4 1 (by decide))) aq))))))) bH.nd)
  (az (jE (bN lR vT rfl B.sorted (by decide +kernel) (du (NB:=["other","table"]) (own:=1) (ixs:=[0]) [] rfl (cv (by kernel_rfl)) (λ_ _=>rfl) (ny rfl (af 7)) (λH0 G0 par br bx C ex s3 H3 pn=>(b9 (i:=0) (show (["other","table"]:List Str).Nodup by decide +kernel))) (λH0 G0 par br bx C ex s3 H3 pn hB5=>(fO (bC (Cq hr.u1) (xH hn) (af 0) (af 1) (by with_unfolding_all rfl)))) (λH0 G0 par br bx C ex s3 H3 pn hB5=>(aw 0 (hB5 0 (by decide)))))))))))))⟩,λds h=>aQ ds h⟩
abbrev fK:Stmt:=top 22
def nX:aH ["order"] ["order"] (ar fK):=⟨rfl,rfl,rfl,by decide +kernel,rfl,by decide +kernel,by decide +kernel⟩
def nz {f:Addr}{fd:FuncData}{jx:List D->FR}(F:jL K mg "turn_table" fK ["order"] f fd)(B:jM mg)(qB:dI P w K mg base ca "turns" ["order"] 6 jx)(hn:sE K=true):dI P w K mg base ca "turn_table" ["order"] 7 (bb 1 1 (iG jx)):=
 ⟨⟨f,fd,F.mg,F.F.kp,F.b,aX (N:=["order"]) (k:=6) F.F nX λcdv A outer s H G E hr=>
  (az (aZ (iu (ue rfl hr.u2) (AR hn) rfl B.dict (by decide +kernel) (du (NB:=["turn"]) (own:=1) (ixs:=[]) [] rfl (cv (by kernel_rfl)) (λ_ _=>rfl) (ny rfl (aO qB (hr.mono (by decide)) aW rfl rfl (ae (aw 0 rfl) aq))) (λH0 G0 par br bx C ex s3 H3 pn=>(b9 (i:=0) (show (["turn"]:List Str).Nodup by decide +kernel))) (λH0 G0 par br bx C ex s3 H3 pn hB1=>gM) (λH0 G0 par br bx C ex s3 H3 pn hB1=>(b7 (ae (aw 0 (hB1 0 (by decide))) (ae lQ aq))))))))⟩,λds h=>aQ ds h⟩
abbrev kn:Stmt:=top 21
def wI:aH ["order","turn"] ["order","turn"] (ar kn):=⟨rfl,rfl,rfl,by decide +kernel,rfl,by decide +kernel,by decide +kernel⟩
def uC {f:Addr}{fd:FuncData}{a8 fS bZ cC:List D->FR}(F:jL K mg "forced" kn ["order","turn"] f fd)(B:jM mg)(cD:dI P w K mg base ca "need_order" ["thing"] 5 a8)(lF:dI P w K mg base ca "is_turn" ["thing","order"] 4 fS)(gc:dI P w K mg base ca "forced_among" ["table","many","turn"] 1 bZ)(iR:dI P w K mg base ca "turn_table" ["order"] 7 cC)(ig:Exc K mg ca "NoTurns"):dI P w K mg base ca "forced" ["order","turn"] 8 (bb 2 2 (kl a8 fS bZ cC)):=
 ⟨⟨f,fd,F.mg,F.F.kp,F.b,aX (N:=["order","turn"]) (k:=7) F.F wI λcdv A outer s H G E hr=>
  (ao (u4 (aO cD (hr.mono (by decide)) aW rfl rfl (ae (aw 0 rfl) aq)))
  (ao (fZ (ju (fW rfl (aO lF (hr.mono (by decide)) aW rfl rfl (ae (aw 1 rfl) (ae (aw 0 rfl) aq)))))
  (az (rT ig.ex ig.ca rfl ig.mg (ae yQ aq)))
  c5)
  (az (jE (nE gc (hr.mono (by decide)) aW rfl rfl (ae (aO iR (hr.mono (by decide)) aW rfl rfl (ae (aw 0 rfl) aq)) (ae (cm bt fP (af 0) ax (λ_ _=>rfl)) (ae (aw 1 rfl) aq))))))))⟩,λds h=>aQ ds h⟩
abbrev gJ:Stmt:=top 25
def qM:aH ["script","k"] ["script","k"] (ar gJ):=⟨rfl,rfl,rfl,by decide +kernel,rfl,by decide +kernel,by decide +kernel⟩
def ot {f:Addr}{fd:FuncData}(F:jL K mg "_law_cell" gJ ["script","k"] f fd)(B:jM mg):dI P w K mg base ca "_law_cell" ["script","k"] 1 (bb 2 2 (fj)):=
 ⟨⟨f,fd,F.mg,F.F.kp,F.b,aX (N:=["script","k"]) (k:=0) F.F qM λcdv A outer s H G E hr=>
  (ao (fZ (bC BV El (af 1) (bN gk ni rfl B.len Jf (af 0)) (bp _))
  (az (aZ (cm bt fP (af 0) (af 1) (λ_ _=>rfl))))
  c5)
  (az (aZ ax)))⟩,λds h=>aQ ds h⟩
abbrev dQ:Stmt:=top 26
def gE:aH ["cell","k","some","stir"] ["cell","k"] (ar dQ):=⟨rfl,rfl,rfl,by decide +kernel,rfl,by decide +kernel,by decide +kernel⟩
def qC:∃(es:List Expr) (p1 p2 p3:Pos),cq dQ=.Assign [.Name "some" p1] (.List es p2) p3 :: (cq dQ).drop 1/\constsOf es=some [48271,69621,16807,39373,30269,40014,40692,50021,61687,71993,83869,95561,30307]:=⟨_,_,_,_,rfl,by kernel_rfl⟩
def pR {f:Addr}{fd:FuncData}(F:jL K mg "_law_mix" dQ ["cell","k"] f fd)(B:jM mg):dI P w K mg base ca "_law_mix" ["cell","k"] 1 (bb 4 2 (iA)):=by
 obtain⟨es,p1,p2,p3,hb,hes⟩:=qC
 refine⟨⟨f,fd,F.mg,F.F.kp,F.b,aX (N:=["cell","k","some","stir"]) (k:=0) F.F gE λcdv A outer s H G E hr=>?_⟩,λds h=>aQ ds h⟩
 rw[hb]
 exact (ao (aU (i:=2) (SE.wv (fq (oJ hes))) gE.nd) (ao (aU (i:=3) (bo hG gZ (bo hG gZ (bo gW iE (bo hG gZ (bo j7 oM (af 0) ax) ax) (cm bt fP (af 2) (bo j7 oM (af 1) ax) (λ_ _=>rfl))) (bo gW iE ax (af 1))) (bo gW iE ax (bo kU Ai (af 1) ax))) gE.nd)
  (ao (aU (i:=3) (bo j7 oM (af 3) ax) gE.nd)
  (az (aZ (bo kU Ai (bo j7 oM (bo hG gZ (bo gW iE (af 3) (af 3)) (bo gW iE ax (af 1))) ax) ax))))))
abbrev iY:Stmt:=top 27
def fg:aH ["script","k","cell","number","j"] ["script","k"] (ar iY):=⟨rfl,rfl,rfl,by decide +kernel,rfl,by decide +kernel,by decide +kernel⟩
def p6 {f:Addr}{fd:FuncData}{dg dY:List D->FR}(F:jL K mg "_law_box" iY ["script","k"] f fd)(B:jM mg)(jq:dI P w K mg base ca "_law_cell" ["script","k"] 1 dg)(j4:dI P w K mg base ca "_law_mix" ["cell","k"] 1 dY):dI P w K mg base ca "_law_box" ["script","k"] 2 (bb 5 2 (iB dg dY)):=
 ⟨⟨f,fd,F.mg,F.F.kp,F.b,aX (N:=["script","k","cell","number","j"]) (k:=1) F.F fg λcdv A outer s H G E hr=>
  (ao (aU (i:=2) (aO jq (hr.mono (by decide)) aW rfl rfl (ae (aw 0 rfl) (ae (aw 1 rfl) aq))) fg.nd)
  (ao (fZ (bC (hE hr.units) gy (bo j7 oM (af 2) ax) ax (bp _))
  (az (jE (fq (ae (bo kU Ai (bN yx D8 rfl B.abs (by decide +kernel) (af 2)) ax) aq))))
  c5)
  (ao (aU (i:=3) ax fg.nd)
  (ao (fy PassesOwn.leaving rfl (gC rfl B.range ax) (b9 (i:=4) fg.nd)
  (az (aU (i:=3) (bo hG gZ (bo gW iE (af 3) ax) (aO j4 (hr.mono (by decide)) aW rfl rfl (ae (aw 2 rfl) (ae (aw 4 rfl) aq)))) fg.nd)))
  (az (jE (fq (ae (aw 3 rfl) aq))))))))⟩,λds h=>aQ ds h⟩
abbrev gA:Stmt:=top 28
def ku:aH ["box","many","left","digit"] ["box","many"] (ar gA):=⟨rfl,rfl,rfl,by decide +kernel,rfl,by decide +kernel,by decide +kernel⟩
def nY {f:Addr}{fd:FuncData}(F:jL K mg "_law_take" gA ["box","many"] f fd)(B:jM mg):jb P w K mg base "_law_take" ["box","many"] 1 bM:=by
 refine⟨⟨f,fd,F.mg,F.F.kp,F.b,?_⟩,λds β h=>?_⟩
 ·refine F.F.xG ku (λvs H Q E h=>?_) (λcdv A outer s H vs Q E hr h=>?_)
  ·obtain⟨b,rest,G,ds,β,rfl,hb,gb,sG,hl,r,_⟩:=h
   rw[Hr,r.len,hl];rfl
  ·obtain⟨b,rest,G,ds,β,rfl,hb,gb,sG,hl,r,h⟩:=h
   obtain⟨m,rfl,h0,h1⟩:=vb (λz=>by rw[z] at h;exact h)
   rw[pP h0 h1] at h
   have kk:∀v G' H',gN (some b) H H'->H' b=some (.lst [.int (β / m)])->ah G G'->ah G' H'->(∀c,Mx H c->G c=none->G' c=none)->FV K H G' H' false (.int (β % m)) v->Q v H':=h
   cases r with
   |cons r1 r2=>
    cases r1
    cases r2
    refine⟨_,fX (mO (jc rX rfl B.divmod (by decide +kernel) (aK (jT fF (pv 0) qU (λ_ _=>rfl)) (aK (pv 1) bq))) (Av (i:=2) (j:=3) ku.nd rfl rfl rfl rfl rfl))
     (fX (mO (pv 2) (tS (pv 0) qU set_list)) (gK (lJ (pv 3)))),?_⟩
    refine⟨_,rfl,b,_,0,.int β,rfl,rfl,.inl (.inl hb),rfl,_,rfl,β,m,rfl,⟨h0,h1⟩,λp hp=>⟨p,_,rfl,.inl (.inl av),rfl,_,_,rfl,_,_,rfl,rfl,?_⟩⟩
    have hbp:b≠p:=aB hb hp
    exact⟨_,rfl,_,rfl,b,[.int β],0,0,rfl,rfl,by rw[au hbp];exact hb,rfl,_,rfl,yg hb sG hp kk gb⟩
 ·obtain⟨m,rfl,_⟩:=vb h
  rfl
abbrev cS:Stmt:=top 29
def dO:aH ["box","some","left","found"] ["box","some"] (ar cS):=⟨rfl,rfl,rfl,by decide +kernel,rfl,by decide +kernel,by decide +kernel⟩
def kG {f:Addr}{fd:FuncData}{aA:List D->Int->FB}(F:jL K mg "_law_mixed_up" cS ["box","some"] f fd)(B:jM mg)(aP:jb P w K mg base "_law_take" ["box","many"] 1 aA):jb P w K mg base "_law_mixed_up" ["box","some"] 2 (mh 4 1 (cT aA)):=
 ⟨⟨f,fd,F.mg,F.F.kp,F.b,kj (ca:=λ_=>0) (N:=["box","some","left","found"]) (k:=1) F.F dO (by decide) λcdv A outer s H G b E hr=>
  (ao (kW (i:=2) (iu qL Cp rfl B.list (by decide +kernel) (af 1)) dO.nd)
  (ao (kW (i:=3) (fq aq) dO.nd)
  (ao (rK 1000 PassesOwn.leaving (bC (fu hr.units) gy (af 2) (fq aq) (bp _))
  (az (wy 3 2 (λ_=>rfl) (i7 0 aP (hr.mono (by decide)) aW rfl rfl (ae (bN gk ni rfl B.len Jf (af 2)) aq)))))
  (az (vB 3)))))⟩,λds β h=>kT ds β h⟩
abbrev eS:Stmt:=top 30
def ba:aH ["pairs","found","size","more","a","b"] ["pairs"] (ar eS):=⟨rfl,rfl,rfl,by decide +kernel,rfl,by decide +kernel,by decide +kernel⟩
def me {f:Addr}{fd:FuncData}(F:jL K mg "_law_closed" eS ["pairs"] f fd)(B:jM mg):dI P w K mg base ca "_law_closed" ["pairs"] 1 (bb 6 1 (eT)):=
 ⟨⟨f,fd,F.mg,F.F.kp,F.b,aX (N:=["pairs","found","size","more","a","b"]) (k:=0) F.F ba λcdv A outer s H G E hr=>
  (ao (aU (i:=1) (SE.wv (mP rfl hr.units rfl rfl B.sorted rfl B.set (af 0))) ba.nd)
  (ao (aU (i:=2) (DJ CL DQ ax) ba.nd)
  (ao (rK 1000 PassesOwn.leaving (bC (fu hr.units) gy (af 2) (bN gk ni rfl B.len Jf (af 1)) (bp _))
  (ao (aU (i:=2) (bN gk ni rfl B.len Jf (af 1)) ba.nd)
  (ao (aU (i:=3) (SE.wv (fq aq)) ba.nd)
  (ao (fy PassesOwn.leaving rfl (C2 rfl (aw 1 rfl)) (lu (i:=4) (j:=5) ba.nd)
  (az (aU (i:=3) (SE.wv (bo ki rk (af 3) (du (NB:=["c","d","b","a"]) (own:=2) (ixs:=[5,4]) [4] rfl (cv (by kernel_rfl)) (λ_ _=>rfl) (ny rfl (af 1)) (λH0 G0 par br bx C ex s3 H3 pn=>(lu (i:=0) (j:=1) (show (["c","d","b","a"]:List Str).Nodup by decide +kernel))) (λH0 G0 par br bx C ex s3 H3 pn hB1=>(fO (bC (hE hr.units) gy (af 0) (af 2) (bp _)))) (λH0 G0 par br bx C ex s3 H3 pn hB1=>(b7 (ae (aw 3 (hB1 3 (by decide))) (ae (aw 1 (hB1 1 (by decide))) aq))))))) ba.nd)))
  (az (aU (i:=1) (SE.wv (mP rfl hr.units rfl rfl B.sorted rfl B.set (bo ki rk (af 1) (af 3)))) ba.nd))))))
  (az (aZ (iu cP mB rfl B.tuple (by decide +kernel) (af 1)))))))⟩,λds h=>aQ ds h⟩
abbrev fD:Stmt:=top 31
def bQ:aH ["box","most","many","names","thin","pairs","i","j"] ["box","most"] (ar fD):=⟨rfl,rfl,rfl,by decide +kernel,rfl,by decide +kernel,by decide +kernel⟩
def nc {f:Addr}{fd:FuncData}{cj:List D->FR}{aA aC:List D->Int->FB}(F:jL K mg "_law_order" fD ["box","most"] f fd)(B:jM mg)(gV:dI P w K mg base ca "_law_closed" ["pairs"] 1 cj)(aP:jb P w K mg base "_law_take" ["box","many"] 1 aA)(aS:jb P w K mg base "_law_mixed_up" ["box","some"] 2 aC):jb P w K mg base "_law_order" ["box","most"] 3 (mh 8 1 (fG cj aA aC)):=
 ⟨⟨f,fd,F.mg,F.F.kp,F.b,kj (ca:=ca) (N:=["box","most","many","names","thin","pairs","i","j"]) (k:=2) F.F bQ (by decide) λcdv A outer s H G b E hr=>
  (ao (aU (i:=2) (bo hG gZ ax (i7 0 aP (hr.mono (by decide)) aW rfl rfl (ae (aw 1 rfl) aq))) bQ.nd)
  (ao (aU (i:=3) (i7 0 aS (hr.mono (by decide)) aW rfl rfl (ae (SE.wv (j3 rfl rfl B.list rfl B.range (af 2))) aq)) bQ.nd)
  (ao (aU (i:=4) (cm bt fP (fq (ae ax (ae ax (ae ax (ae ax aq))))) (i7 0 aP (hr.mono (by decide)) aW rfl rfl (ae ax aq)) (λ_ _=>rfl)) bQ.nd)
  (ao (kW (i:=5) (fq aq) bQ.nd)
  (ao (fy PassesOwn.leaving rfl (gC rfl B.range (af 2)) (b9 (i:=6) bQ.nd)
  (az (fy PassesOwn.leaving rfl (Ea rfl B.range (bo hG gZ (af 6) ax) (af 2)) (b9 (i:=7) bQ.nd)
  (az (fZ (bC (hE hr.units) gy (i7 0 aP (hr.mono (by decide)) aW rfl rfl (ae (aw 4 rfl) aq)) ax (bp _))
  (az (lg 5 (λ_=>rfl) (b7 (ae (cm bt fP (af 3) (af 6) (λ_ _=>rfl)) (ae (cm bt fP (af 3) (af 7) (λ_ _=>rfl)) aq)))))
  c5)))))
  (az (aZ (b7 (ae (aw 2 rfl) (ae (aO gV (hr.mono (by decide)) aW rfl rfl (ae (aw 5 rfl) aq)) aq))))))))))⟩,λds β h=>kT ds β h⟩
abbrev fM:Stmt:=top 32
def ou:aH ["order","a","b"] ["order","a","b"] (ar fM):=⟨rfl,rfl,rfl,by decide +kernel,rfl,by decide +kernel,by decide +kernel⟩
def nF {f:Addr}{fd:FuncData}(F:jL K mg "_law_apart" fM ["order","a","b"] f fd)(B:jM mg):dI P w K mg base ca "_law_apart" ["order","a","b"] 1 (bb 3 3 (kS)):=
 ⟨⟨f,fd,F.mg,F.F.kp,F.b,aX (N:=["order","a","b"]) (k:=0) F.F ou λcdv A outer s H G E hr=>
  (az (aZ (fx (g7 (fu hr.units) gy (af 1) (af 2) (bp _)) (fx (g7 (ik hr.u1) yE (b7 (ae (aw 1 rfl) (ae (aw 2 rfl) aq))) (cm bt fP (af 0) ax (λ_ _=>rfl)) (by with_unfolding_all rfl)) (iC (g7 (ik hr.u1) yE (b7 (ae (aw 2 rfl) (ae (aw 1 rfl) aq))) (cm bt fP (af 0) ax (λ_ _=>rfl)) (by with_unfolding_all rfl))) (λ_ _=>rfl)) (λ_ _=>rfl))))⟩,λds h=>aQ ds h⟩
abbrev fH:Stmt:=top 33
def eN:aH ["order","found","a"] ["order"] (ar fH):=⟨rfl,rfl,rfl,by decide +kernel,rfl,by decide +kernel,by decide +kernel⟩
def nR {f:Addr}{fd:FuncData}{aR:List D->FR}(F:jL K mg "_law_turns" fH ["order"] f fd)(B:jM mg)(b6:dI P w K mg base ca "_law_apart" ["order","a","b"] 1 aR):dI P w K mg base ca "_law_turns" ["order"] 2 (bb 3 1 (fN aR)):=
 ⟨⟨f,fd,F.mg,F.F.kp,F.b,aX (N:=["order","found","a"]) (k:=1) F.F eN λcdv A outer s H G E hr=>
  (ao (aU (i:=1) (SE.wv (fq aq)) eN.nd)
  (ao (fy PassesOwn.leaving rfl (gC rfl B.range (cm bt fP (af 0) ax (λ_ _=>rfl))) (b9 (i:=2) eN.nd)
  (az (aU (i:=1) (SE.wv (bo ki rk (af 1) (du (NB:=["b","order","a"]) (own:=1) (ixs:=[0,2]) [0,2] rfl (cv (by kernel_rfl)) (λ_ _=>rfl) (gC rfl B.range (cm bt fP (af 0) ax (λ_ _=>rfl))) (λH0 G0 par br bx C ex s3 H3 pn=>(b9 (i:=0) (show (["b","order","a"]:List Str).Nodup by decide +kernel))) (λH0 G0 par br bx C ex s3 H3 pn hB1=>(fO (fW rfl (aO b6 (hr.mono (by decide)) sC rfl rfl (ae (aw 1 (hB1 1 (by decide))) (ae (aw 2 (hB1 2 (by decide))) (ae (aw 0 (hB1 0 (by decide))) aq))))))) (λH0 G0 par br bx C ex s3 H3 pn hB1=>(b7 (ae (aw 2 (hB1 2 (by decide))) (ae (aw 0 (hB1 0 (by decide))) aq))))))) eN.nd)))
  (az (vB 1))))⟩,λds h=>aQ ds h⟩
abbrev gB:Stmt:=top 34
def dq:aH ["many","rows","found","a","b","left"] ["many","rows"] (ar gB):=⟨rfl,rfl,rfl,by decide +kernel,rfl,by decide +kernel,by decide +kernel⟩
def oh {f:Addr}{fd:FuncData}(F:jL K mg "_law_told" gB ["many","rows"] f fd)(B:jM mg):dI P w K mg base ca "_law_told" ["many","rows"] 1 (bb 6 2 (eQ)):=
 ⟨⟨f,fd,F.mg,F.F.kp,F.b,aX (N:=["many","rows","found","a","b","left"]) (k:=0) F.F dq λcdv A outer s H G E hr=>
  (ao (kW (i:=2) (fq aq) dq.nd)
  (ao (fy PassesOwn.leaving rfl (gC rfl B.range (af 0)) (b9 (i:=3) dq.nd)
  (az (fy PassesOwn.leaving rfl (gC rfl B.range (af 0)) (b9 (i:=4) dq.nd)
  (ao (jF (i:=5) (NB:=["one","a","b"]) (own:=1) (ixs:=[3,4]) [] rfl (cv (by kernel_rfl)) (λ_ _=>rfl) (ny rfl (af 1)) (λH0 G0 par br bx C ex s3 H3 pn=>(b9 (i:=0) (show (["one","a","b"]:List Str).Nodup by decide +kernel))) (λH0 G0 par br bx C ex s3 H3 pn hB1=>(fO (bC Ew Gb (sL rfl (af 0) (af 1)) (sL rfl (af 0) (af 2)) (bp _)))) (λH0 G0 par br bx C ex s3 H3 pn hB1=>ax) dq.nd)
  (az (fZ (tf.t (qK (bC (fu hr.units) gy (af 3) (af 4) (bp _)) (mG (bC (hE hr.units) gy (af 5) (fq aq) (bp _))) (λ_ _=>rfl)))
  (az (lg 2 (λ_=>rfl) (b7 (ae (aw 3 rfl) (ae (aw 4 rfl) aq)))))
  c5))))))
  (az (aZ (iu cP mB rfl B.tuple (by decide +kernel) (af 2))))))⟩,λds h=>aQ ds h⟩
abbrev eR:Stmt:=top 35
def gm:aH ["order","one","other","a","b","c","d"] ["order","one","other"] (ar eR):=⟨rfl,rfl,rfl,by decide +kernel,rfl,by decide +kernel,by decide +kernel⟩
def mr {f:Addr}{fd:FuncData}{aR:List D->FR}(F:jL K mg "_law_forces" eR ["order","one","other"] f fd)(B:jM mg)(b6:dI P w K mg base ca "_law_apart" ["order","a","b"] 1 aR):dI P w K mg base ca "_law_forces" ["order","one","other"] 2 (bb 7 3 (eM aR)):=
 ⟨⟨f,fd,F.mg,F.F.kp,F.b,aX (N:=["order","one","other","a","b","c","d"]) (k:=1) F.F gm λcdv A outer s H G E hr=>
  (ao (xT (aw 1 rfl) (lu (i:=3) (j:=4) gm.nd))
  (ao (xT (aw 2 rfl) (lu (i:=5) (j:=6) gm.nd))
  (ao (fZ (tf.t (qK (bC (hE hr.units) gy (af 3) (af 5) (bp _)) (mG (bC (fu hr.units) gy (af 4) (af 6) (bp _))) (λ_ _=>rfl)))
  (az (aZ (qg (aO b6 (hr.mono (by decide)) aW rfl rfl (ae (aw 0 rfl) (ae (aw 4 rfl) (ae (aw 6 rfl) aq)))))))
  c5)
  (az (aZ (fx (g7 (hE hr.units) gy (af 4) (af 6) (bp _)) (fx (g7 (fu hr.units) gy (af 3) (af 5) (bp _)) (iC (qg (aO b6 (hr.mono (by decide)) aW rfl rfl (ae (aw 0 rfl) (ae (aw 3 rfl) (ae (aw 5 rfl) aq)))))) (λ_ _=>rfl)) (λ_ _=>rfl)))))))⟩,λds h=>aQ ds h⟩
abbrev fL:Stmt:=top 36
def bP:aH ["box","many","names","pairs","i","others"] ["box"] (ar fL):=⟨rfl,rfl,rfl,by decide +kernel,rfl,by decide +kernel,by decide +kernel⟩
def m8 {f:Addr}{fd:FuncData}{aA aC:List D->Int->FB}(F:jL K mg "_law_crown" fL ["box"] f fd)(B:jM mg)(aP:jb P w K mg base "_law_take" ["box","many"] 1 aA)(aS:jb P w K mg base "_law_mixed_up" ["box","some"] 2 aC):jb P w K mg base "_law_crown" ["box"] 3 (mh 6 0 (fI aA aC)):=
 ⟨⟨f,fd,F.mg,F.F.kp,F.b,kj (ca:=λ_=>0) (N:=["box","many","names","pairs","i","others"]) (k:=2) F.F bP (by decide) λcdv A outer s H G b E hr=>
  (ao (aU (i:=1) (bo hG gZ ax (i7 0 aP (hr.mono (by decide)) aW rfl rfl (ae ax aq))) bP.nd)
  (ao (aU (i:=2) (i7 0 aS (hr.mono (by decide)) aW rfl rfl (ae (SE.wv (j3 rfl rfl B.list rfl B.range (bo gW iE ax (af 1)))) aq)) bP.nd)
  (ao (aU (i:=3) (SE.wv (fq aq)) bP.nd)
  (ao (fy PassesOwn.leaving rfl (gC rfl B.range (af 1)) (b9 (i:=4) bP.nd)
  (ao (jF (i:=5) (NB:=["j","i","names","many"]) (own:=1) (ixs:=[4,2,1]) [] rfl (cv (by kernel_rfl)) (λ_ _=>rfl) (gC rfl B.range (af 1)) (λH0 G0 par br bx C ex s3 H3 pn=>(b9 (i:=0) (show (["j","i","names","many"]:List Str).Nodup by decide +kernel))) (λH0 G0 par br bx C ex s3 H3 pn hB1=>(fO (bC (fu hr.units) gy (af 0) (af 1) (bp _)))) (λH0 G0 par br bx C ex s3 H3 pn hB1=>(cm bt fP (af 2) (bo hG gZ (af 3) (af 0)) (λ_ _=>rfl))) bP.nd)
  (az (aU (i:=3) (SE.wv (bo ki rk (af 3) (du (NB:=["other","names","i"]) (own:=1) (ixs:=[2,4]) [] rfl (cv (by kernel_rfl)) (λ_ _=>rfl) (ny rfl (af 5)) (λH0 G0 par br bx C ex s3 H3 pn=>(b9 (i:=0) (show (["other","names","i"]:List Str).Nodup by decide +kernel))) (λH0 G0 par br bx C ex s3 H3 pn hB2=>gM) (λH0 G0 par br bx C ex s3 H3 pn hB2=>(b7 (ae (cm bt fP (af 1) (af 2) (λ_ _=>rfl)) (ae (aw 0 (hB2 0 (by decide))) aq))))))) bP.nd))))
  (az (aZ (b7 (ae (bo gW iE ax (af 1)) (ae (iu cP mB rfl B.tuple (by decide +kernel) (bN lR vT rfl B.sorted (by decide +kernel) (af 3))) aq)))))))))⟩,λds β h=>kT ds β h⟩
abbrev cL:Stmt:=top 37
def cu:aH ["box","most","kind","many","rows"] ["box","most"] (ar cL):=⟨rfl,rfl,rfl,by decide +kernel,rfl,by decide +kernel,by decide +kernel⟩
def jV {f:Addr}{fd:FuncData}{dc:List D->FR}{aA cJ aC cH:List D->Int->FB}(F:jL K mg "_law_any_order" cL ["box","most"] f fd)(B:jM mg)(jj:dI P w K mg base ca "_law_told" ["many","rows"] 1 dc)(aP:jb P w K mg base "_law_take" ["box","many"] 1 aA)(iV:jb P w K mg base "_law_crown" ["box"] 3 cJ)(aS:jb P w K mg base "_law_mixed_up" ["box","some"] 2 aC)(iQ:jb P w K mg base "_law_order" ["box","most"] 3 cH):jb P w K mg base "_law_any_order" ["box","most"] 4 (mh 5 1 (cK dc aA cJ aC cH)):=
 ⟨⟨f,fd,F.mg,F.F.kp,F.b,kj (ca:=ca) (N:=["box","most","kind","many","rows"]) (k:=3) F.F cu (by decide) λcdv A outer s H G b E hr=>
  (ao (aU (i:=2) (i7 0 aP (hr.mono (by decide)) aW rfl rfl (ae ax aq)) cu.nd)
  (ao (fZ (bC (hE hr.units) gy (af 2) ax (bp _))
  (az (aZ (i7 0 iV (hr.mono (by decide)) aW rfl rfl aq)))
  c5)
  (ao (fZ (bC (hE hr.units) gy (af 2) ax (bp _))
  (ao (aU (i:=3) (bo hG gZ ax (i7 0 aP (hr.mono (by decide)) aW rfl rfl (ae (aw 1 rfl) aq))) cu.nd)
  (ao (jF (i:=4) (NB:=["side","box","many"]) (own:=1) (ixs:=[0,3]) [] rfl (cv (by kernel_rfl)) (λ_ _=>rfl) (gC rfl B.range ax) (λH0 G0 par br bx C ex s3 H3 pn=>(b9 (i:=0) (show (["side","box","many"]:List Str).Nodup by decide +kernel))) (λH0 G0 par br bx C ex s3 H3 pn hB1=>gM) (λH0 G0 par br bx C ex s3 H3 pn hB1=>(iu cP mB rfl B.tuple (by decide +kernel) (i7 1 aS (hr.mono (by decide)) sC rfl rfl (ae (SE.wv (j3 rfl rfl B.list rfl B.range (af 2))) aq)))) cu.nd)
  (az (aZ (b7 (ae (aw 3 rfl) (ae (aO jj (hr.mono (by decide)) aW rfl rfl (ae (aw 3 rfl) (ae (aw 4 rfl) aq))) aq)))))))
  c5)
  (az (aZ (i7 0 iQ (hr.mono (by decide)) aW rfl rfl (ae (aw 1 rfl) aq)))))))⟩,λds β h=>kT ds β h⟩
abbrev jO:Stmt:=top 38
def iF:aH ["script","k","order","every","turn","due","lap","found","other"] ["script"] (ar jO):=⟨rfl,rfl,rfl,by decide +kernel,rfl,by decide +kernel,by decide +kernel⟩
def AI {f:Addr}{fd:FuncData}{eB cF cg fV:List D->FR}{bA:List D->Int->FB}(F:jL K mg "law" jO ["script"] f fd)(B:jM mg)(jX:dI P w K mg base ca "_law_box" ["script","k"] 2 eB)(iK:dI P w K mg base ca "_law_turns" ["order"] 2 cF)(gR:dI P w K mg base ca "_law_forces" ["order","one","other"] 2 cg)(ko:dI P w K mg base ca "forced" ["order","turn"] 8 fV)(dZ:jb P w K mg base "_law_any_order" ["box","most"] 4 bA):fo P w K mg base (lW P w) 9 f fd ["script"] (z8 K ca 1 (bb 9 1 (vc eB cF cg fV bA))):=
 aX (N:=["script","k","order","every","turn","due","lap","found","other"]) (k:=8) F.F iF λcdv A outer s H G E hr=>
  (ao (fy PassesOwn.leaving rfl (gC rfl B.range (sk (xg rfl) Dd rfl B.max (by decide +kernel) ax (sk (v8 rfl) Dk rfl B.min (by decide +kernel) (bN gk ni rfl B.len Jf (af 0)) ax))) (b9 (i:=1) iF.nd)
  (ao (aU (i:=2) (Eu dZ (hr.mono (by decide)) aW rfl rfl (nE jX (hr.mono (by decide)) aW rfl rfl (ae (aw 0 rfl) (ae (aw 1 rfl) aq)))) iF.nd)
  (ao (aU (i:=3) (aO iK (hr.mono (by decide)) aW rfl rfl (ae (aw 2 rfl) aq)) iF.nd)
  (az (fy PassesOwn.leaving rfl (C2 rfl (aw 3 rfl)) (b9 (i:=4) iF.nd)
  (ao (jF (i:=5) (NB:=["other","order","turn"]) (own:=1) (ixs:=[2,4]) [2,4] rfl (cv (by kernel_rfl)) (λ_ _=>rfl) (ny rfl (af 3)) (λH0 G0 par br bx C ex s3 H3 pn=>(b9 (i:=0) (show (["other","order","turn"]:List Str).Nodup by decide +kernel))) (λH0 G0 par br bx C ex s3 H3 pn hB1=>(fO (fW rfl (aO gR (hr.mono (by decide)) sC rfl rfl (ae (aw 1 (hB1 1 (by decide))) (ae (aw 2 (hB1 2 (by decide))) (ae (aw 0 (hB1 0 (by decide))) aq))))))) (λH0 G0 par br bx C ex s3 H3 pn hB1=>(aw 0 (hB1 0 (by decide)))) iF.nd)
  (ao (fy PassesOwn.leaving rfl (gC rfl B.range ax) (b9 (i:=6) iF.nd)
  (ao (kW (i:=7) (nE ko (hr.mono (by decide)) aW rfl rfl (ae (aw 2 rfl) (ae (aw 4 rfl) aq))) iF.nd)
  (ao (fZ (tf.t (vE (ju (fW rfl (k6 "list" (by decide) rfl rfl B.isinstance rfl B.list (by decide +kernel) (af 7)))) (qx (bC Er EC (bN (oU hr.gd hr.u1) zv rfl B.repr (by decide +kernel) (af 7)) (bN (oU hr.gd hr.u1) zv rfl B.repr (by decide +kernel) (af 5)) (bp _))) (λ_ _=>rfl)))
  (az (aZ lQ))
  c5)
  (az (lg 7 (λ_=>rfl) ax)))))
  (az (fy PassesOwn.leaving rfl (C2 rfl (SE.wv (xK rfl (af 5) BE (A3 ax)))) (b9 (i:=8) iF.nd)
  (az (fZ (bC (ik hr.u1) yE (af 4) (aO ko (hr.mono (by decide)) aW rfl rfl (ae (aw 2 rfl) (ae (aw 8 rfl) aq))) (by with_unfolding_all rfl))
  (az (aZ lQ))
  c5)))))))))))
  (az (aZ lQ)))
end
end RQ
namespace RM
open PySem L2
theorem uc {t u:VF Bool}{vs:List Nv}{β:Int}{a b:Bool}(h:t vs β=.ok a β)(h':u vs β=.ok b β):zW t u vs β=.ok (a && b) β:=by
 rw[CI,h];dsimp only[R.bnd]
 cases a with
 |true=>rw[GW rfl,h'];rfl
 |false=>rfl
def nH {t:VF Bool}{vs:List Nv}{β:Int}{a:Bool}(h:t vs β=.ok a β):vP t vs β=.ok (!a) β:=by rw[pI,h];rfl
def Cj (n:Nat):(gz n).Pairwise (· < ·):=by
 unfold gz
 rw[HM]
 exact List.pairwise_lt_range.imp λ{a b} h=>by omega
def upTo (n:Nat)(f:Pr->Bool)(i k:Nat):List Pr:=(OM.bO n).filter λp=>(decide (p.1 < i) || (decide (p.1=i) && decide (p.2 < k))) && f p
def yf {n:Nat}(f:Pr->Bool)(i k:Nat)(h8:n<=8):(upTo n f i k).length<=64:=by
 have h1:(upTo n f i k).length<=(OM.bO n).length:=HR _ _
 rw[dD] at h1
 have:n * n<=64:=Ik h8 h8
 omega
def v9 (n:Nat)(f:Pr->Bool):upTo n f 0 0= []:=by
 unfold upTo
 rw[List.filter_eq_nil_iff]
 intro p hp
 have:=OM.aY.mp hp
 rw[Hh (by omega),Hh (p:=p.2 < ((0:Nat):Int)) (by omega)];simp
def zp (n:Nat)(f:Pr->Bool):upTo n f n 0=(OM.bO n).filter f:=by
 unfold upTo
 refine JJ λp hp=>?_
 have:=(OM.aY.mp hp).1.2
 rw[Hb this];simp
def yH (n:Nat)(f:Pr->Bool)(i:Nat):upTo n f i n=upTo n f (i + 1) 0:=by
 unfold upTo
 refine JJ λp hp=>?_
 have h:=OM.aY.mp hp
 congr 1
 rw[HZ]
 simp only[Bool.or_eq_true,Hl,Ho]
 omega
def pj {n i k:Nat}(f:Pr->Bool)(hi:i < n)(hk:k < n):upTo n f i (k + 1)=upTo n f i k ++ if f ((i:Int),(k:Int))=true then [((i:Int),(k:Int))] else []:=by
 refine OM.dw (OM.cy _ (OM.eZ n)) ?_ λx=>?_
 ·show List.Pairwise OM.z6 _
  rw[List.pairwise_append]
  refine⟨OM.cy _ (OM.eZ n),?_,λp hp q hq=>?_⟩
  ·split <;> simp
  ·unfold upTo at hp
   have h1:=(Hk.mp hp).2
   simp only[Bool.or_eq_true,Hl,Ho] at h1
   split at hq
   ·have:q=((i:Int),(k:Int)):=by simpa using hq
    subst this
    show p.1 < (i:Int)\/(p.1=(i:Int)/\p.2 < (k:Int))
    exact h1.1
   ·cases hq
 ·rw[Hu]
  unfold upTo
  rw[Hk,Hk,OM.aY]
  simp only[Bool.or_eq_true,Hl,Ho]
  constructor
  ·rintro⟨h1,h2,h3⟩
   by_cases z:x.1=i/\x.2=k
   ·obtain⟨xa,xb⟩:=x
    simp only at z h3
    obtain⟨rfl,rfl⟩:=z
    rw[GW h3]
    exact .inr (HF.mpr rfl)
   ·exact .inl ⟨h1,by omega,h3⟩
  ·rintro (⟨h1,h2,h3⟩ |h)
   ·exact⟨h1,by omega,h3⟩
   ·split at h
    ·rename_i hf
     have:x=((i:Int),(k:Int)):=by simpa using h
     subst this
     exact⟨⟨⟨by show (0:Int)<=(i:Int);omega,by show (i:Int) < n;omega⟩,by show (0:Int)<=(k:Int);omega,by show (k:Int) < n;omega⟩,.inr ⟨rfl,by show (k:Int) < ((k + 1:Nat):Int);omega⟩,hf⟩
    ·cases h
def tupI (r:List Int):D:=.tuple (r.map int)
def vK {fa fb:VF D}{vs:List Nv}{β:Int}{r:List Int}{k:Int}(h:fa vs β=.ok (tupI r) β)(h':fb vs β=.ok (.int k) β)(hk:k∈r):k9 fa fb vs β=.ok (.int (r.idxOf k:Nat)) β:=by
 unfold k9
 rw[h]
 dsimp only[R.bnd]
 rw[GW (by rfl),h']
 dsimp only[R.bnd,AJ,tupI]
 rw[jD]
 dsimp only
 rw[GW hk];rfl
def BA {r:List Int}{a b:Int}(ha:a∈r)(hb:b∈r)(h:r.idxOf a=r.idxOf b):a=b:=by
 have h1:=List.getElem_idxOf (Jh.mpr ha)
 have h2:=List.getElem_idxOf (Jh.mpr hb)
 rw[<-h1,<-h2]
 congr 1
def xu {N:Nat}{l:List Pr}(h1:1<=N)(h8:N<=8)(w:OM.Wn N l)(nd:l.Nodup)(irr:∀a,(a,a)∉l):fY (.list (l.map ak))=some (.list ((OM.bu 8 (OM.Mem l)).map ak)):=by
 simp only[fY,cW]
 rw[GW ⟨tE h8 w,nd,uJ h1 h8 w nd irr⟩]
def Aw:D->Bool
 | .tuple _=>true
 |_=>false
theorem AB {d:D}(h:Aw d=true):∃ds,d=.tuple ds:=by
 cases d with
 |tuple ds=>exact⟨ds,rfl⟩
 |_=>cases h
def yh {d:D}(h:dG d=false):jr "tuple" d=some (.bool (Aw d)):=by
 unfold jr;rw[h];cases d <;> rfl
section
variable {fa fb:VF D}{vs:List Nv}{β:Int}
def Ey {d:D}(ha:fa vs β=.ok d β)(h:dG d=false):mI (f1 fa (jr "tuple")) vs β=.ok (Aw d) β:=pk (cN ha (yh h))
def Ec {ds:List D}(ha:fa vs β=.ok (.tuple ds) β):f1 fa gQ vs β=.ok (.int ds.length) β:=cN ha rfl
def Dh {ds:List D}{k:Int}(ha:fa vs β=.ok (.tuple ds) β):df (f2 (f1 fa gQ) (cst (.int k)) (de true)) vs β=.ok (!decide ((ds.length:Int)=k)) β:=cV (neg:=true) (Ec ha) rfl
def Ef {t u:VF Bool}(h:t vs β=.ok true β):qH t u vs β=.ok true β:=by rw[pO,h];rfl
def zr {t u:VF Bool}{c:Bool}(h:t vs β=.ok false β)(h':u vs β=.ok c β):qH t u vs β=.ok c β:=by rw[pO,h];exact h'
end
def Sq (c k:Nat)(d:D):Prop:=d.showable=true/\d.depth<=k/\d.shown.length<=c
theorem xM {c k:Nat}:∀{ds:List D},(∀d,d∈ds->Sq c k d)->PyData.showableAll ds=true/\PyData.depthAll ds<=k/\(∀t,t∈PyData.shownAll ds->t.length<=c)/\(PyData.shownAll ds).length=ds.length
 | [],_=>⟨by simp[PyData.showableAll],by simp[PyData.depthAll],λt h=>by simp[PyData.shownAll] at h,by simp[PyData.shownAll]⟩
 |d :: ds,h=>by
  obtain⟨h1,h2,h3,h4⟩:=xM λx hx=>h x (GY _ hx)
  obtain⟨q1,q2,q3⟩:=h d (G6 ..)
  refine⟨?_,?_,λt ht=>?_,?_⟩
  ·rw[PyData.showableAll,q1,h1];rfl
  ·rw[PyData.depthAll];omega
  ·rw[PyData.shownAll] at ht
   rcases G7.mp ht with rfl |ht
   ·exact q3
   ·exact h3 t ht
  ·rw[PyData.shownAll,Hr,Hr,h4]
theorem rE {c:Nat}:∀{ts:List Str},(∀t,t∈ts->t.length<=c)->(Str.join ", " ts).length<=(c + 2) * ts.length
 | [],_=>by show (Str.join ", " []).length<=_;exact HK _
 | [x],h=>by
  have:=h x (G6 ..)
  show x.length<=(c + 2) * 1
  omega
 |x :: y :: r,h=>by
  have ih:=rE (ts:=y :: r) λt ht=>h t (GY _ ht)
  have:=h x (G6 ..)
  show (x ++ ", " ++ Str.join ", " (y :: r)).length<=_
  rw[Jl,Jl]
  have e2:((", ":String):Str).length=2:=rfl
  rw[e2]
  have e:(c + 2) * (x :: y :: r).length=(c + 2) * (y :: r).length + (c + 2):=by rw[Hr,Nat.mul_succ]
  omega
def CU {c k:Nat}{ds:List D}(h:∀d,d∈ds->Sq c k d):Sq (3 + (c + 2) * ds.length) (k + 1) (.tuple ds):=by
 obtain⟨h1,h2,h3,h4⟩:=xM h
 refine⟨by rw[PyData.showable];exact h1,by rw[PyData.depth];omega,?_⟩
 rw[PyData.shown]
 unfold tupleText
 rw[Jl,Jl]
 have j:=rE h3
 rw[h4] at j
 have e1:((("(":String):Str)).length=1:=rfl
 have e3:((if (PyData.shownAll ds).length == 1 then ",)" else ")":String):Str).length<=2:=by split <;> exact by decide
 rw[e1]
 omega
def Bf (d:D):Prop:=D6 d=true
theorem yu:∀{ds:List D},(∀d,d∈ds->Bf d)->y7 ds=true
 | [],_=>rfl
 |d :: ds,h=>by
  have h1:=yu λx hx=>h x (GY _ hx)
  have q1:D6 d=true:=h d (G6 ..)
  rw[y7,q1,h1];rfl
def Dm {ds:List D}(h:∀d,d∈ds->Bf d):Bf (.tuple ds):=by show D6 (.tuple ds)=true;rw[D6];exact yu h
section
variable {vs:List Nv}{β β1 β2:Int}{fa:VF D}{fr:VF (List D)}{d:D}{ds:List D}
def ac {fa:VF D}{fr:VF (List D)}(h:fa vs β=.ok d β)(h':fr vs β=.ok ds β):aa fa fr vs β=.ok (d :: ds) β:=by rw[bf,h];dsimp only[R.bnd];rw[h']
def an:ag vs β=.ok [] β:=rfl
def tp (h:fr vs β=.ok ds β)(hz:ds.length<=1000:=by simp):bh fr vs β=.ok (.tuple ds) β:=iZ h hz
def lp (h:fr vs β=.ok ds β)(hz:ds.length<=1000:=by simp):cA fr vs β=.ok (.list ds) β:=cU h hz
end
def AA {P:D->Prop}{x y:D}(hx:P x)(hy:P y):∀d,d∈ [x,y]->P d:=λd hd=>by
 rcases G7.mp hd with rfl |hd
 ·exact hx
 ·rw[HF] at hd;subst hd;exact hy
def dF (n:Nat)(l:List Pr)(i:Nat):List Pr:=(OM.bO n).filter λp=>decide (p.1 < i) && mK l p
def vY (n:Nat)(l:List Pr):dF n l n=dA n l:=by
 unfold dF dA
 refine JJ λp hp=>?_
 have:=(OM.aY.mp hp).1.2
 rw[Hb this,Bool.true_and]
def yZ {n i:Nat}(l:List Pr)(hi:i < n):dF n l (i + 1)=dF n l i ++ ((gz n).filter λb=>mK l ((i:Int),b)).map λb=>((i:Int),b):=by
 refine OM.dw (OM.cy _ (OM.eZ n)) ?_ λx=>?_
 ·show List.Pairwise OM.z6 _
  rw[List.pairwise_append]
  refine⟨OM.cy _ (OM.eZ n),?_,λp hp q hq=>?_⟩
  ·rw[HM]
   exact ((Cj n).filter _).imp λ{a b} h=>.inr ⟨rfl,h⟩
  ·unfold dF at hp
   have h1:=(Hk.mp hp).2
   rw[Hl,Ho] at h1
   obtain⟨b,_,rfl⟩:=Ha.mp hq
   exact .inl h1.1
 ·rw[Hu]
  unfold dF
  rw[Hk,Hk,Ha,OM.aY]
  simp only[Hl,Ho]
  constructor
  ·rintro⟨h1,h2,h3⟩
   by_cases z:x.1 < i
   ·exact .inl ⟨h1,z,h3⟩
   ·have e:x.1=i:=by omega
    obtain⟨xa,xb⟩:=x
    simp only at e h1 h3
    subst e
    exact .inr ⟨xb,Hk.mpr ⟨dr.mpr h1.2,h3⟩,rfl⟩
  ·rintro (⟨h1,h2,h3⟩ | ⟨b,hb,rfl⟩)
   ·exact⟨h1,by omega,h3⟩
   ·obtain⟨hb1,hb2⟩:=Hk.mp hb
    have:=dr.mp hb1
    exact⟨⟨⟨by omega,by omega⟩,this⟩,by omega,hb2⟩
def wz {n:Nat}(l:List Pr)(i:Nat)(h8:n<=8):(dF n l i).length<=64:=by
 have h1:(dF n l i).length<=(OM.bO n).length:=HR _ _
 rw[dD] at h1
 have:n * n<=64:=Ik h8 h8
 omega
def qp:List D->FR:=bb 3 1 (fN qi)
def y6 {n:Nat}{l:List Pr}(O:OM.Ord n l):qp [aF n l]=.ok (.list ((dA n l).map ak)) false:=by
 have h8:=O.hi
 show fin (fN qi [.fz (aF n l),.no,.no] 0)=_
 unfold fN
 rw[ay (env':=[.fz (aF n l),.fz (.list []),.no]) (β':=0) ?g1]
 case g1=>rw[gO,cU (ds:=[]) rfl (by simp)];rfl
 have er:∀(s t:Sl),bz (f2 (gv 0) (cst (.int 0)) cZ) [.da (aF n l),s.val,t.val] 0=.ok (b4 0 n) 0:=λs t=>cx (n:=n) (GL (n:=n) (l:=l) rfl) (by omega)
 obtain⟨env',β',ef,s,rfl,rfl⟩:=cQ (t:=.nm 2) (m:=a9 1 ([] ++ (([] ++ []) ++ [0,2])) (f2 (gv 1) (aL 1 [0,2] (.nm 0) (bz (f2 (gv 0) (cst (.int 0)) cZ)) (mI (aE qi (aa (gv 1) (aa (gv 2) (aa (gv 0) ag))))) (bh (aa (gv 2) (aa (gv 0) ag)))) gx)) (ds:=b4 0 n) (k:=0)
  (λi env β=>∃s:Sl,env= [.fz (aF n l),.fz (.list ((dF n l i).map ak)),s]/\β=0)
  (env:=[.fz (aF n l),.fz (.list []),.no]) (β:=0) ⟨.no,by
   have:dF n l 0= []:=by
    unfold dF
    rw[List.filter_eq_nil_iff]
    intro p hp
    have:=(OM.aY.mp hp).1.1
    rw[Hh (by omega)];simp
   rw[this];rfl,rfl⟩ (by
   rintro i d env β hi ⟨s,rfl,rfl⟩
   obtain⟨hin,rfl⟩:=gf hi
   refine⟨[.fz (aF n l),.fz (.list ((dF n l (0 + i)).map ak)),.fz (.int (0 + (i:Int)))],rfl,?_⟩
   rw[HW,Ip]
   have ec:aL 1 [0,2] (.nm 0) (bz (f2 (gv 0) (cst (.int 0)) cZ)) (mI (aE qi (aa (gv 1) (aa (gv 2) (aa (gv 0) ag))))) (bh (aa (gv 2) (aa (gv 0) ag))) [.da (aF n l),.da (.list ((dF n l i).map ak)),.da (.int i)] 0=.ok (.list (((gz n).filter λb=>mK l ((i:Int),b)).map λb=>ak ((i:Int),b))) 0:=by
    refine cz (l:=gz n) (e:=int) (λb=>mK l ((i:Int),b)) (λb=>ak ((i:Int),b)) ?_ (by rw[eJ];omega) λb hb=>⟨_,rfl,pk (aN (ds:=[aF n l,.int i,.int b]) rfl (yi n l i b)),λ_=>cR rfl rfl⟩
    rw[<-kY]
    exact er (.fz _) (.fz _)
   have ew:f2 (gv 1) (aL 1 [0,2] (.nm 0) (bz (f2 (gv 0) (cst (.int 0)) cZ)) (mI (aE qi (aa (gv 1) (aa (gv 2) (aa (gv 0) ag))))) (bh (aa (gv 2) (aa (gv 0) ag)))) gx [.da (aF n l),.da (.list ((dF n l i).map ak)),.da (.int i)] 0=.ok (.list ((dF n l (i + 1)).map ak)) 0:=by
    refine aJ (x:=.list ((dF n l i).map ak)) rfl ec ?_
    rw[kF]
    ·rw[yZ l hin,Il,Ih];rfl
    ·rw[Hd,Hd]
     have h1:=wz l i h8
     have h2:((gz n).filter λb=>mK l ((i:Int),b)).length<=(gz n).length:=HR _ _
     rw[eJ] at h2
     omega
   refine⟨[.fz (aF n l),.fz (.list ((dF n l (i + 1)).map ak)),.fz (.int i)],0,?_,_,rfl,rfl⟩
   rw[gO]
   show toS (f2 (gv 1) (aL 1 [0,2] (.nm 0) (bz (f2 (gv 0) (cst (.int 0)) cZ)) (mI (aE qi (aa (gv 1) (aa (gv 2) (aa (gv 0) ag))))) (bh (aa (gv 2) (aa (gv 0) ag)))) gx [.da (aF n l),.da (.list ((dF n l i).map ak)),.da (.int i)] 0) _=_
   rw[ew];rfl)
 rw[dP,HW,vY] at ef
 rw[ay (env':=[.fz (aF n l),.fz (.list ((dA n l).map ak)),s]) (β':=0) ?g2]
 case g2=>
  rw[gn (env:=[.fz (aF n l),.fz (.list []),.no]) (er (.fz (.list [])) .no)]
  exact ef
 rfl
def Ge (e:D):Prop:=dG e=false/\∀es,e=.tuple es->es.length<=100/\∀x,x∈es->dG x=false
def E5 (n:Int):D->Bool
 | .tuple [x,y]=>lI x n && lI y n
 |_=>false
def ES:List D->FR:=bb 2 2 (hZ dW)
theorem tK {es:List D}:(decide ((es.length:Int)=2)=false/\∀n,E5 n (.tuple es)=false)\/∃x y,es= [x,y]:=by
 match es with
 | []=>exact .inl ⟨rfl,λ_=>rfl⟩
 | [_]=>exact .inl ⟨rfl,λ_=>rfl⟩
 | [x,y]=>exact .inr ⟨x,y,rfl⟩
 |_ :: _ :: _ :: _=>exact .inl ⟨Hh (by simp;omega),λ_=>rfl⟩
theorem Fw {d:D}{n:Int}(h:Ge d):ES [d,.int n]=.ok (.bool (E5 n d)) false:=by
 show fin (hZ dW [.fz d,.fz (.int n)] 0)=_
 unfold hZ
 have g0:gv 0 (vl [.fz d,.fz (.int n)]) 0=.ok d 0:=rfl
 have t1:=Ey g0 h.1
 cases hy:Aw d with
 |false=>
  rw[hy] at t1
  rw[jB (d:=.bool false) (b:=false) (β':=0) ?a]
  ·cases d <;> first |rfl |cases hy
  case a=>rw[kx (Ef (nH t1))];rfl
 |true=>
  obtain⟨es,rfl⟩:=AB hy
  rw[hy] at t1
  have t2:=Dh (k:=2) g0
  rcases tK (es:=es) with⟨q,z⟩ | ⟨x,y,rfl⟩
  ·rw[q] at t2
   rw[z n,jB (d:=.bool false) (b:=false) (β':=0) (by rw[kx (zr (nH t1) t2)];rfl)];rfl
  ·rw[ay (env':=[.fz (.tuple [x,y]),.fz (.int n)]) (β':=0) (by rw[i5 (zr (nH t1) t2)];rfl)]
   have hx:=(h.2 _ rfl).2 x (G6 ..)
   have hy':=(h.2 _ rfl).2 y (GY _ (G6 ..))
   have e1:aE dW (aa (f2 (gv 0) (cst (.int 0)) cZ) (aa (gv 1) ag)) (vl [.fz (.tuple [x,y]),.fz (.int n)]) 0=.ok (.bool (lI x n)) 0:=aN (ds:=[x,.int n]) rfl (p8 hx)
   have e2:aE dW (aa (f2 (gv 0) (cst (.int 1)) cZ) (aa (gv 1) ag)) (vl [.fz (.tuple [x,y]),.fz (.int n)]) 0=.ok (.bool (lI y n)) 0:=aN (ds:=[y,.int n]) rfl (p8 hy')
   rw[jA,jw e1 e2];rfl
def Sp (p:Pr):Prop:=(0<=p.1/\p.1<=8)/\(0<=p.2/\p.2<=8)
def xY {es:List D}(hl:es.length<=100)(h:∀x,x∈es->dG x=false):Ge (.tuple es):=⟨rfl,λes' e=>by cases e;exact⟨hl,h⟩⟩
def zf {fa fb:VF D}{vs:List Nv}{β:Int}{ds:List D}{i:Nat}(ha:fa vs β=.ok (.list ds) β)(hb:fb vs β=.ok (.int ((i:Nat):Int)) β):EL fa (λ_ β=>.ok none β) (Eh fb) vs β=.ok (.list (ds.take i)) β:=by
 unfold EL Eh
 rw[ha];dsimp only[R.bnd]
 rw[hb];dsimp only[R.bnd]
 congr 2
 unfold cutD
 rw[HT.yT,HT.AE]
 by_cases h:i<=ds.length
 ·rw[Nat.min_eq_left h];rfl
 ·rw[Nat.min_eq_right (by omega),IS (show ds.length<=i by omega)];simp
end RM
namespace RM
open PySem PySem.Spec L2 PyProof.Rows
theorem jD:∀r:List Int,jU (r.map int)=some r
 | []=>rfl
 |x :: r=>by
  have:=jD r
  simp only[Hx,jU,this]
  try rfl
end RM
namespace RM
open PySem L2
def Gt (d:D):Prop:=dG d=false/\∀ds,d=.list ds->ds.length<=100/\∀e,e∈ds->Ge e
def xN (l:List Pr)(r:List Int)(x:Int):List Int:=(l.filter λp=>decide (p.2=x) && !decide (p.1∈r)).map (·.1)
def kr {l:List Pr}{r:List Int}{x a:Int}:a∈xN l r x↔(a,x)∈l/\a∉r:=by
 unfold xN
 rw[Ha]
 constructor
 ·rintro⟨p,hp,rfl⟩
  have:=Hk.mp hp
  simp only[Hl,Ho,Ia,HU] at this
  obtain⟨pa,pb⟩:=p
  obtain⟨h1,h2,h3⟩:=this
  simp only at h2 h3
  subst h2
  exact⟨h1,h3⟩
 ·rintro⟨h1,h2⟩
  exact⟨(a,x),Hk.mpr ⟨h1,by simp[h2]⟩,rfl⟩
def wt {n:Nat}{l:List Pr}(O:OM.Ord n l)(r:List Int)(x:Int):(xN l r x).Nodup:=by
 unfold xN
 rw[Iq,HM]
 refine Ij (λ{a b} ha hb h e=>h ?_) (Iq.mp ((OM.fQ O.ris).filter _))
 have h1:=(Hk.mp ha).2
 have h2:=(Hk.mp hb).2
 simp only[Hl,Ho] at h1 h2
 exact Prod.ext e (h1.1.trans h2.1.symm)
theorem least {n:Nat}{l:List Pr}(O:OM.Ord n l)(r:List Int):∀(k:Nat) (x:Int),(0<=x/\x < n)->x∉r->(xN l r x).length<=k->∃y:Int,(0<=y/\y < n)/\y∉r/\xN l r y= []
 | 0,x,hx,hr,hk=>⟨x,hx,hr,List.length_eq_zero_iff.mp (by omega)⟩
 |k + 1,x,hx,hr,hk=>by
  by_cases he:xN l r x= []
  ·exact⟨x,hx,hr,he⟩
  ·obtain⟨a,ha⟩:=List.exists_mem_of_ne_nil _ he
   obtain⟨h1,h2⟩:=kr.mp ha
   refine least O r k a (O.wn _ h1).1 h2 ?_
   have nd:(a :: xN l r a).Nodup:=HJ.mpr ⟨λq=>O.irr a (kr.mp q).1,wt O r a⟩
   have:=L2.ST.bF nd (m:=xN l r x) λy hy=>by
    rcases G7.mp hy with rfl |hy
    ·exact ha
    ·obtain⟨q1,q2⟩:=kr.mp hy
     exact kr.mpr ⟨O.tr _ _ _ q1 h1,q2⟩
   rw[Hr] at this
   omega
structure FN (n:Nat)(l:List Pr)(r:List Int):Prop where
 nd:r.Nodup
 inn:∀x,x∈r->0<=x/\x < (n:Int)
 fit:∀p,p∈l->p.2∈r->p.1∈r/\r.idxOf p.1 < r.idxOf p.2
def BM (l:List Pr)(r:List Int)(x:Int):Bool:= !decide (x∈r) && decide (xN l r x= [])
def FN.more {n:Nat}{l:List Pr}{r:List Int}{x:Int}(B:FN n l r)(hx:0<=x/\x < (n:Int))(hf:BM l r x=true):FN n l (r ++ [x]):=by
 unfold BM at hf
 rw[Hl,Ia,HU,Ho] at hf
 obtain⟨h1,h2⟩:=hf
 refine⟨?_,λy hy=>?_,λp hp hm=>?_⟩
 ·rw[JK]
  refine⟨B.nd,HJ.mpr ⟨by simp,Jp⟩,λa ha b hb=>?_⟩
  rw[HF] at hb
  subst hb
  exact λq=>h1 (q▸ha)
 ·rcases Hu.mp hy with hy |hy
  ·exact B.inn y hy
  ·rw[HF] at hy;subst hy;exact hx
 ·rcases Hu.mp hm with hm |hm
  ·obtain⟨q1,q2⟩:=B.fit p hp hm
   refine⟨IF _ q1,?_⟩
   rw[JL,JL,GW q1,GW hm]
   exact q2
  ·rw[HF] at hm
   have hp1:p.1∈r:=by
    by_cases z:p.1∈r
    ·exact z
    ·have:p.1∈xN l r x:=kr.mpr ⟨by rw[<-hm];exact hp,z⟩
     rw[h2] at this;cases this
   refine⟨IF _ hp1,?_⟩
   rw[JL,JL,GW hp1,G8 (by rw[hm];exact h1)]
   have:=Jh.mpr hp1
   omega
def jJ (rows:List (List Int))(p:Pr):Bool:= !decide (p.1=p.2) && (rows.filter λr=>decide (r.idxOf p.1 > r.idxOf p.2)).isEmpty
def sM:List D->FR:=bb 6 2 eQ
def Co {n:Nat}{rows:List (List Int)}(h8:n<=8)(hr:rows.length<=100)(hp:∀r,r∈rows->r.Perm (gz n)):sM [.int n,.list (rows.map tupI)]=.ok (.tuple (((OM.bO n).filter (jJ rows)).map ak)) false:=by
 show fin (eQ [.fz (.int n),.fz (.list (rows.map tupI)),.no,.no,.no,.no] 0)=_
 unfold eQ
 rw[ay (env':=[.fz (.int n),.fz (.list (rows.map tupI)),.ow (.list []),.no,.no,.no]) (β':=0) ?g1]
 case g1=>rw[yw,cU (ds:=[]) rfl (by simp)];rfl
 obtain⟨env',β',ef,s,t,u,rfl,rfl⟩:=cQ (t:=.nm 3) (m:=dh (.nm 4) [] (bz (gv 0))
   (aG (a9 5 ([] ++ []) (aL 1 [3,4] (.nm 0) (bS (gv 1)) (df (f2 (k9 (gv 0) (gv 1)) (k9 (gv 0) (gv 2)) DB)) (cst (.int 1))))
   (kB (([] ++ []) ++ ([] ++ [])) (zW (df (f2 (gv 3) (gv 4) (de true))) (df (f2 (gv 5) (cA ag) (de false))))
   (ml 2 ([3] ++ ([4] ++ [])) (bh (aa (gv 3) (aa (gv 4) ag))))
   mC))) (ds:=b4 0 n) (k:=0)
  (λi env β=>∃s t u:Sl,env= [.fz (.int n),.fz (.list (rows.map tupI)),.ow (.list ((upTo n (jJ rows) i 0).map ak)),s,t,u]/\β=0)
  (env:=[.fz (.int n),.fz (.list (rows.map tupI)),.ow (.list []),.no,.no,.no]) (β:=0) ⟨.no,.no,.no,by rw[v9];rfl,rfl⟩ (by
   rintro i d env β hi ⟨s,t,u,rfl,rfl⟩
   obtain⟨hin,rfl⟩:=gf hi
   refine⟨[.fz (.int n),.fz (.list (rows.map tupI)),.ow (.list ((upTo n (jJ rows) (0 + i) 0).map ak)),.fz (.int (0 + (i:Int))),t,u],rfl,?_⟩
   rw[HW,Ip]
   obtain⟨env',β',ef,t2,u2,rfl,rfl⟩:=cQ (t:=.nm 4) (m:=aG (a9 5 ([] ++ []) (aL 1 [3,4] (.nm 0) (bS (gv 1)) (df (f2 (k9 (gv 0) (gv 1)) (k9 (gv 0) (gv 2)) DB)) (cst (.int 1))))
     (kB (([] ++ []) ++ ([] ++ [])) (zW (df (f2 (gv 3) (gv 4) (de true))) (df (f2 (gv 5) (cA ag) (de false))))
     (ml 2 ([3] ++ ([4] ++ [])) (bh (aa (gv 3) (aa (gv 4) ag))))
     mC)) (ds:=b4 0 n) (k:=0)
    (λk env β=>∃t u:Sl,env= [.fz (.int n),.fz (.list (rows.map tupI)),.ow (.list ((upTo n (jJ rows) i k).map ak)),.fz (.int i),t,u]/\β=0)
    (env:=[.fz (.int n),.fz (.list (rows.map tupI)),.ow (.list ((upTo n (jJ rows) i 0).map ak)),.fz (.int i),t,u]) (β:=0) ⟨t,u,rfl,rfl⟩ (by
     rintro k d env β hk ⟨t,u,rfl,rfl⟩
     obtain⟨hkn,rfl⟩:=gf hk
     refine⟨[.fz (.int n),.fz (.list (rows.map tupI)),.ow (.list ((upTo n (jJ rows) i (0 + k)).map ak)),.fz (.int i),.fz (.int (0 + (k:Int))),u],rfl,?_⟩
     rw[HW,Ip]
     have ec:aL 1 [3,4] (.nm 0) (bS (gv 1)) (df (f2 (k9 (gv 0) (gv 1)) (k9 (gv 0) (gv 2)) DB)) (cst (.int 1)) [.da (.int n),.da (.list (rows.map tupI)),.da (.list ((upTo n (jJ rows) i k).map ak)),.da (.int i),.da (.int k),u.val] 0=.ok (.list ((rows.filter λr=>decide (r.idxOf (i:Int) > r.idxOf (k:Int))).map λ_=>int 1)) 0:=by
      refine cz (l:=rows) (e:=tupI) (λr=>decide (r.idxOf (i:Int) > r.idxOf (k:Int))) (λ_=>int 1) rfl (by omega) λr hr=>⟨_,rfl,?_,λ_=>rfl⟩
      have hp:=hp r hr
      refine iw _ _ _ _ (aJ (vK (r:=r) (k:=i) rfl rfl (hp.mem_iff.mpr (dr.mpr ⟨by omega,by omega⟩))) (vK (r:=r) (k:=k) rfl rfl (hp.mem_iff.mpr (dr.mpr ⟨by omega,by omega⟩))) ?_)
      show some (PyData.bool (decide (((r.idxOf (i:Int):Nat):Int) > ((r.idxOf (k:Int):Nat):Int))))=_
      congr 2
      rw[HZ,Ho,Ho]
      omega
     rw[ay (env':=[.fz (.int n),.fz (.list (rows.map tupI)),.ow (.list ((upTo n (jJ rows) i k).map ak)),.fz (.int i),.fz (.int k),.fz (.list ((rows.filter λr=>decide (r.idxOf (i:Int) > r.idxOf (k:Int))).map λ_=>int 1))]) (β':=0) ?g]
     case g=>
      rw[gO]
      show toS (aL 1 [3,4] (.nm 0) (bS (gv 1)) (df (f2 (k9 (gv 0) (gv 1)) (k9 (gv 0) (gv 2)) DB)) (cst (.int 1)) [.da (.int n),.da (.list (rows.map tupI)),.da (.list ((upTo n (jJ rows) i k).map ak)),.da (.int i),.da (.int k),u.val] 0) _=_
      rw[ec];rfl
     generalize hL:(rows.filter λr=>decide (r.idxOf (i:Int) > r.idxOf (k:Int)))=L
     have et:zW (df (f2 (gv 3) (gv 4) (de true))) (df (f2 (gv 5) (cA ag) (de false))) (vl [.fz (.int n),.fz (.list (rows.map tupI)),.ow (.list ((upTo n (jJ rows) i k).map ak)),.fz (.int i),.fz (.int k),.fz (.list (L.map λ_=>int 1))]) 0=.ok (jJ rows ((i:Int),(k:Int))) 0:=by
      have h1:df (f2 (gv 5) (cA ag) (de false)) (vl [.fz (.int n),.fz (.list (rows.map tupI)),.ow (.list ((upTo n (jJ rows) i k).map ak)),.fz (.int i),.fz (.int k),.fz (.list (L.map λ_=>int 1))]) 0=.ok L.isEmpty 0:=by
       refine iw _ _ _ _ (aJ (x:=.list (L.map λ_=>int 1)) (y:=.list []) rfl (cU (ds:=[]) rfl (by simp)) ?_)
       have e9:(L.map λ_=>int 1)=(L.map λ_=>(1:Int)).map int:=by rw[Ih];rfl
       rw[e9,show ([]:List D)=([]:List Int).map int from rfl,rP]
       congr 2
       cases L <;> simp
      have:=uc (cV (neg:=true) (fa:=gv 3) (fb:=gv 4) (vs:=vl [.fz (.int n),.fz (.list (rows.map tupI)),.ow (.list ((upTo n (jJ rows) i k).map ak)),.fz (.int i),.fz (.int k),.fz (.list (L.map λ_=>int 1))]) (β:=0) (i:=i) (j:=k) rfl rfl) h1
      rw[this]
      unfold jJ
      rw[hL];rfl
     cases c:jJ rows ((i:Int),(k:Int)) with
     |true=>
      rw[c] at et
      refine⟨[.fz (.int n),.fz (.list (rows.map tupI)),.ow (.list ((upTo n (jJ rows) i (k + 1)).map ak)),.fz (.int i),.fz (.int k),.fz (.list (L.map λ_=>int 1))],0,?_,_,_,rfl,rfl⟩
      rw[kx et]
      have:=pE (i:=2) (L:=[3] ++ ([4] ++ [])) (env:=[.fz (.int n),.fz (.list (rows.map tupI)),.ow (.list ((upTo n (jJ rows) i k).map ak)),.fz (.int i),.fz (.int k),.fz (.list (L.map λ_=>int 1))]) (ds:=(upTo n (jJ rows) i k).map ak) (β:=0) (by rfl) (cR (fa:=gv 3) (fb:=gv 4) (a:=i) (b:=k) rfl rfl) (by rfl) (by rw[Hd];have:=yf (jJ rows) i k h8;omega)
      rw[pj _ hin hkn,GW c,Il]
      exact this
     |false=>
      rw[c] at et
      refine⟨[.fz (.int n),.fz (.list (rows.map tupI)),.ow (.list ((upTo n (jJ rows) i (k + 1)).map ak)),.fz (.int i),.fz (.int k),.fz (.list (L.map λ_=>int 1))],0,?_,_,_,rfl,rfl⟩
      have e8:=pj (jJ rows) hin hkn
      rw[G8 (by rw[c];exact Ht),IV] at e8
      rw[i5 et,e8];rfl)
   rw[dP,HW,yH] at ef
   refine⟨[.fz (.int n),.fz (.list (rows.map tupI)),.ow (.list ((upTo n (jJ rows) (i + 1) 0).map ak)),.fz (.int i),t2,u2],0,?_,_,_,_,rfl,rfl⟩
   rw[gn (env:=[.fz (.int n),.fz (.list (rows.map tupI)),.ow (.list ((upTo n (jJ rows) i 0).map ak)),.fz (.int i),t,u]) (cx (n:=n) rfl (by omega))]
   exact ef)
 rw[dP,HW,zp] at ef
 rw[ay (env':=[.fz (.int n),.fz (.list (rows.map tupI)),.ow (.list (((OM.bO n).filter (jJ rows)).map ak)),s,t,u]) (β':=0) ?g2]
 case g2=>
  rw[gn (env:=[.fz (.int n),.fz (.list (rows.map tupI)),.ow (.list []),.no,.no,.no]) (cx (n:=n) rfl (by omega))]
  exact ef
 rw[jA,cN (x:=.list (((OM.bO n).filter (jJ rows)).map ak)) (d:=.tuple (((OM.bO n).filter (jJ rows)).map ak)) (β1:=0) rfl ?g3]
 case g3=>rfl
 rfl
def mF {rows:List (List Int)}{p:Pr}:jJ rows p=true↔p.1≠p.2/\∀r,r∈rows->r.idxOf p.1<=r.idxOf p.2:=by
 unfold jJ
 rw[Hl,Ia,HU,List.isEmpty_iff,List.filter_eq_nil_iff]
 simp only[Ho,Nat.not_lt,gt_iff_lt]
def xV {n:Nat}{rows:List (List Int)}(h1:1<=n)(h8:n<=8)(hne:rows≠ [])(hp:∀r,r∈rows->r.Perm (gz n)):OM.Ord n ((OM.bO n).filter (jJ rows)):=by
 refine⟨h1,h8,λp hm=>OM.aY.mp (Hk.mp hm).1,OM.cy _ (OM.eZ n),λa h=>?_,λa b c hab hbc=>?_⟩
 ·exact (mF.mp (Hk.mp h).2).1 rfl
 ·obtain⟨g1,t1⟩:=Hk.mp hab
  obtain⟨g2,t2⟩:=Hk.mp hbc
  have g1:=OM.aY.mp g1
  have g2:=OM.aY.mp g2
  obtain⟨n1,q1⟩:=mF.mp t1
  obtain⟨n2,q2⟩:=mF.mp t2
  refine Hk.mpr ⟨OM.aY.mpr ⟨g1.1,g2.2⟩,mF.mpr ⟨λe=>?_,λr hr=>Ie (q1 r hr) (q2 r hr)⟩⟩
  simp only at e n1 q1 q2
  subst e
  cases rows with
  |nil=>exact hne rfl
  |cons r rest=>
   have hr:r∈r :: rest:=G6 ..
   have pm:=hp r hr
   exact n1 (BA (pm.mem_iff.mpr (dr.mpr g1.1)) (pm.mem_iff.mpr (dr.mpr g1.2)) (Nat.le_antisymm (q1 r hr) (q2 r hr)))
noncomputable def pz:List D->Int->FB:=mh 6 0 (fI bM cX)
def Gv (ms:List Int)(m i:Nat)(ps:List Pr):Prop:=ps.Nodup/\ps.length<=4 * i/\∀p,p∈ps->∃i' j:Nat,i' < i/\j < m/\ms[i']? =some p.1/\ms[m + j]? =some p.2
def Ah {ms:List Int}{m i:Nat}{ps:List Pr}(h3:3<=m)(h4:m<=4)(hi:i<=m)(hp:ms.Perm (gz (2 * m)))(h:Gv ms m i ps):OM.Ord (2 * m) (OM.bu 8 (OM.Mem ps))/\ps.all Cb=true/\ps.length < 64:=by
 obtain⟨nd,hl,hc⟩:=h
 have ndm:ms.Nodup:=hp.nodup_iff.mpr (jy _)
 have wn:OM.Wn (2 * m) ps:=λp hm=>by
  obtain⟨i',j,_,_,e1,e2⟩:=hc p hm
  exact⟨dr.mp (hp.mem_iff.mp (Hi e1)),dr.mp (hp.mem_iff.mp (Hi e2))⟩
 rw[BP (by omega) wn]
 refine⟨⟨by omega,by omega,OM.mH _ _,OM.bX _ _,λa h=>?_,λa b c h k=>?_⟩,tE (by omega) wn,by omega⟩
 ·obtain⟨i',j,hi',_,e1,e2⟩:=hc _ (OM.aM.mp h).2
  have:=gj ndm e1 e2
  omega
 ·obtain⟨i',j,hi',_,e1,e2⟩:=hc _ (OM.aM.mp h).2
  obtain⟨i2,j2,hi2,_,e3,e4⟩:=hc _ (OM.aM.mp k).2
  have:=gj ndm e2 e3
  omega
def AK (β:Int):∃(n:Nat) (l:List Pr) (β':Int),pz [] β=.ok (aF n l) false β'/\OM.Ord n l:=by
 obtain⟨j,hj,ej⟩:=il (m:=2) (by omega) (by omega) β
 show ∃(n:Nat) (l:List Pr) (β':Int),sY (fI bM cX [.bx,.no,.no,.no,.no,.no] β)=.ok (aF n l) false β'/\OM.Ord n l
 unfold fI
 generalize hβ1:β / ((2:Nat):Int)=β1 at ej
 have e1:f2 (cst (.int 3)) (gS 0 bM (aa (cst (.int 2)) ag)) bK [Nv.bx,.no,.no,.no,.no,.no] β=.ok (.int ((3 + j:Nat):Int)) β1:=by
  refine aJ (x:=.int 3) rfl (fw (by rfl) rfl ej) ?_
  show some (int (3 + (j:Int)))=_
  rw[show ((3 + j:Nat):Int)=3 + (j:Int) by omega]
 rw[ay (env':=[.bx,.fz (.int ((3 + j:Nat):Int)),.no,.no,.no,.no]) (β':=β1) ?g1]
 case g1=>
  show toS (f2 (cst (.int 3)) (gS 0 bM (aa (cst (.int 2)) ag)) bK [Nv.bx,.no,.no,.no,.no,.no] β) _=_
  rw[e1];rfl
 have h3:3<=3 + j:=by omega
 have h4:3 + j<=4:=by omega
 generalize hm:3 + j=m at h3 h4
 obtain⟨ms,β2,em,hp⟩:=mJ (gz (2 * m)) (by rw[eJ];omega) β1
 have hml:ms.length=2 * m:=by rw[hp.length_eq,eJ]
 have g2:b5 (.int 2) (.int m)=some (.int ((2 * m:Nat):Int)):=by rw[kc ⟨by omega,by omega⟩];congr 2
 have e2:gS 0 cX (aa (f1 (f2 (cst (.int 2)) (gv 1) b5) bJ) ag) [Nv.bx,.da (.int m),.no,.no,.no,.no] β1=.ok (.list (ms.map int)) β2:=by
  refine fw (ds:=[.list ((gz (2 * m)).map int)]) (b:=true) (β1:=β1) (by rfl) ?_ em
  rw[bf,cN (x:=.int ((2 * m:Nat):Int)) (d:=.list ((gz (2 * m)).map int)) (β1:=β1) (aJ rfl rfl g2) (jf (by omega))];rfl
 rw[ay (env':=[.bx,.fz (.int m),.fz (.list (ms.map int)),.no,.no,.no]) (β':=β2) ?g2]
 case g2=>
  show toS (gS 0 cX (aa (f1 (f2 (cst (.int 2)) (gv 1) b5) bJ) ag) [Nv.bx,.da (.int m),.no,.no,.no,.no] β1) _=_
  rw[e2];rfl
 rw[ay (env':=[.bx,.fz (.int m),.fz (.list (ms.map int)),.fz (.list []),.no,.no]) (β':=β2) ?g3]
 case g3=>rw[gO,cU (ds:=[]) rfl (by simp)];rfl
 have ndm:ms.Nodup:=hp.nodup_iff.mpr (jy _)
 obtain⟨env',β',ef,ps,s,t,rfl,rfl,hC⟩:=cQ (t:=.nm 4) (m:=aG (a9 5 ([] ++ []) (aL 1 [4,2,1] (.nm 0) (bz (gv 1)) (df (f2 (gv 0) (gv 1) (de true))) (f2 (gv 2) (f2 (gv 3) (gv 0) bK) cZ)))
   (a9 3 ([] ++ ([] ++ [])) (f2 (gv 3) (aL 1 [2,4] (.nm 0) (bS (gv 5)) mn (bh (aa (f2 (gv 1) (gv 2) cZ) (aa (gv 0) ag)))) gx))) (ds:=b4 0 m) (k:=0)
  (λi env β=>∃(ps:List Pr) (s t:Sl),env= [.bx,.fz (.int m),.fz (.list (ms.map int)),.fz (.list (ps.map ak)),s,t]/\β=β2/\Gv ms m i ps)
  (env:=[.bx,.fz (.int m),.fz (.list (ms.map int)),.fz (.list []),.no,.no]) (β:=β2) ⟨[],.no,.no,rfl,rfl,Jp,by simp,λp hp=>by cases hp⟩ (by
   rintro i d env β hi ⟨ps,s,t,rfl,rfl,nd,hl,hc⟩
   obtain⟨hin,rfl⟩:=gf hi
   refine⟨[.bx,.fz (.int m),.fz (.list (ms.map int)),.fz (.list (ps.map ak)),.fz (.int (0 + (i:Int))),t],rfl,?_⟩
   rw[HW,Ip]
   rw[HW] at hl hc
   have him:i < ms.length:=by omega
   have ec:aL 1 [4,2,1] (.nm 0) (bz (gv 1)) (df (f2 (gv 0) (gv 1) (de true))) (f2 (gv 2) (f2 (gv 3) (gv 0) bK) cZ) [.bx,.da (.int m),.da (.list (ms.map int)),.da (.list (ps.map ak)),.da (.int i),t.val] β=.ok (.list ((((List.range m).filter λ(j:Nat)=> !decide ((j:Int)=(i:Int))).map λ(j:Nat)=>ms.getD (m + j) 0).map int)) β:=by
    rw[Ih]
    refine cz (l:=List.range m) (e:=λ(k:Nat)=>int (0 + (k:Int))) (λ(j:Nat)=> !decide ((j:Int)=(i:Int))) (λj=>int (ms.getD (m + j) 0)) (cx (n:=m) rfl (by omega)) (by rw[IK];omega) λj hj=>⟨_,rfl,?_,λ_=>?_⟩
    ·rw[Ip];exact cV (neg:=true) (i:=j) (j:=i) rfl rfl
    ·have hj:=Hn.mp hj
     have hjm:m + j < ms.length:=by omega
     refine aJ (x:=.list (ms.map int)) (y:=.int ((m + j:Nat):Int)) rfl (aJ (x:=.int m) (y:=.int (0 + (j:Int))) rfl rfl ?_) ?_
     ·show some (int ((m:Int) + (0 + (j:Int))))=_
      congr 2;omega
     ·show j9 (ms.map int) ((m + j:Nat):Int)=_
      rw[iS,ll hjm,Hy,GU hjm];rfl
   rw[ay (env':=[.bx,.fz (.int m),.fz (.list (ms.map int)),.fz (.list (ps.map ak)),.fz (.int i),.fz (.list ((((List.range m).filter λ(j:Nat)=> !decide ((j:Int)=(i:Int))).map λ(j:Nat)=>ms.getD (m + j) 0).map int))]) (β':=β) ?g]
   case g=>
    rw[gO]
    show toS (aL 1 [4,2,1] (.nm 0) (bz (gv 1)) (df (f2 (gv 0) (gv 1) (de true))) (f2 (gv 2) (f2 (gv 3) (gv 0) bK) cZ) [.bx,.da (.int m),.da (.list (ms.map int)),.da (.list (ps.map ak)),.da (.int i),t.val] β) _=_
    rw[ec];rfl
   generalize hO:((List.range m).filter λ(j:Nat)=> !decide ((j:Int)=(i:Int)))=js
   have hjs:∀j,j∈js->j < m:=λj hj=>by rw[<-hO] at hj;exact Hn.mp (Hk.mp hj).1
   have hjn:js.Nodup:=by rw[<-hO];exact IP.filter _
   have hjl:js.length<=m:=by rw[<-hO];have:=HR (λ(j:Nat)=> !decide ((j:Int)=(i:Int))) (List.range m);rw[IK] at this;exact this
   have ed:aL 1 [2,4] (.nm 0) (bS (gv 5)) mn (bh (aa (f2 (gv 1) (gv 2) cZ) (aa (gv 0) ag))) [.bx,.da (.int m),.da (.list (ms.map int)),.da (.list (ps.map ak)),.da (.int i),.da (.list ((js.map λ(j:Nat)=>ms.getD (m + j) 0).map int))] β=.ok (.list ((js.map λ(j:Nat)=>((ms.getD i 0,ms.getD (m + j) 0):Pr)).map ak)) β:=by
    rw[Ih,Ih]
    refine c9 (l:=js) (e:=λj=>int (ms.getD (m + j) 0)) (λj=>ak (ms.getD i 0,ms.getD (m + j) 0)) rfl (by omega) λj hj=>⟨_,rfl,?_⟩
    refine cR (aJ (x:=.list (ms.map int)) (y:=.int i) rfl rfl ?_) rfl
    show j9 (ms.map int) (i:Int)=_
    rw[iS,ll him,Hy,GU him];rfl
   refine⟨[.bx,.fz (.int m),.fz (.list (ms.map int)),.fz (.list ((ps ++ js.map λ(j:Nat)=>((ms.getD i 0,ms.getD (m + j) 0):Pr)).map ak)),.fz (.int i),.fz (.list ((js.map λ(j:Nat)=>ms.getD (m + j) 0).map int))],β,?_,_,_,_,rfl,rfl,?_,?_,?_⟩
   ·rw[gO]
    show toS (f2 (gv 3) (aL 1 [2,4] (.nm 0) (bS (gv 5)) mn (bh (aa (f2 (gv 1) (gv 2) cZ) (aa (gv 0) ag)))) gx [.bx,.da (.int m),.da (.list (ms.map int)),.da (.list (ps.map ak)),.da (.int i),.da (.list ((js.map λ(j:Nat)=>ms.getD (m + j) 0).map int))] β) _=_
    rw[aJ (x:=.list (ps.map ak)) rfl ed (kF (by rw[Hd,Hd,Hd];omega)),<-Il];rfl
   ·have hd:∀j,j < m->ms[m + j]? =some (ms.getD (m + j) 0):=λj hj=>by rw[Hy,GU (by omega)];rfl
    have hdi:ms[i]? =some (ms.getD i 0):=by rw[Hy,GU him];rfl
    refine JK.mpr ⟨nd,?_,λp hp q hq e=>?_⟩
    ·rw[Iq,HM]
     refine Ij (λ{a b} ha hb h e=>?_) (Iq.mp hjn)
     have e2:=(Prod.mk.inj e).2
     have:=gj ndm (hd a (hjs a ha)) (by rw[e2];exact hd b (hjs b hb))
     omega
    ·subst e
     obtain⟨j,hj,rfl⟩:=Ha.mp hq
     obtain⟨i',j',h1,h2,h3,h4⟩:=hc _ hp
     have:=gj ndm h3 hdi
     omega
   ·rw[HN,Hd];omega
   ·intro p hp
    rcases Hu.mp hp with hp |hp
    ·obtain⟨i',j',h1,h2,h3,h4⟩:=hc _ hp
     exact⟨i',j',by omega,h2,h3,h4⟩
    ·obtain⟨j,hj,rfl⟩:=Ha.mp hp
     refine⟨i,j,by omega,hjs j hj,?_,?_⟩
     ·show ms[i]? =some (ms.getD i 0)
      rw[Hy,GU him];rfl
     ·have:=hjs j hj
      show ms[m + j]? =some (ms.getD (m + j) 0)
      rw[Hy,GU (by omega)];rfl)
 rw[dP,HW] at hC
 rw[ay (env':=[.bx,.fz (.int m),.fz (.list (ms.map int)),.fz (.list (ps.map ak)),s,t]) (β':=β') ?g5]
 case g5=>
  rw[gn (env:=[.bx,.fz (.int m),.fz (.list (ms.map int)),.fz (.list []),.no,.no]) (cx (n:=m) rfl (by omega))]
  exact ef
 obtain⟨O,hsm,hl⟩:=Ah h3 h4 (GZ m) hp hC
 refine⟨2 * m,OM.bu 8 (OM.Mem ps),β',?_,O⟩
 have g9:fY (.list (ps.map ak))=some (.list ((OM.bu 8 (OM.Mem ps)).map ak)):=by
  unfold fY
  dsimp only
  rw[cW]
  dsimp only
  rw[GW ⟨hsm,hC.1,hl⟩]
 have e9:bh (aa (f2 (cst (.int 2)) (gv 1) b5) (aa (f1 (f1 (gv 3) fY) gY) ag)) [Nv.bx,.da (.int m),.da (.list (ms.map int)),.da (.list (ps.map ak)),s.val,t.val] β'=.ok (aF (2 * m) (OM.bu 8 (OM.Mem ps))) β':=by
  refine iZ (ds:=[.int ((2 * m:Nat):Int),.tuple ((OM.bu 8 (OM.Mem ps)).map ak)]) ?_ (by simp)
  rw[bf,aJ (x:=.int 2) (y:=.int m) rfl rfl g2]
  dsimp only[R.bnd]
  rw[bf,cN (cN (x:=.list (ps.map ak)) rfl g9) (by rfl)];rfl
 rw[jA]
 show sY (toS (bh (aa (f2 (cst (.int 2)) (gv 1) b5) (aa (f1 (f1 (gv 3) fY) gY) ag)) [Nv.bx,.da (.int m),.da (.list (ms.map int)),.da (.list (ps.map ak)),s.val,t.val] β') _)=_
 rw[e9];rfl
noncomputable def anyF:List D->Int->FB:=mh 5 1 (cK sM bM pz cX mL)
def wW {t:Tg}{fe:VF D}{vs vs0 vs1:List Nv}{d0 d1 x0 x1:D}{β β1 β2:Int}(h0:nQ t d0 vs=some vs0)(e0:fe vs0 β=.ok x0 β1)(h1:nQ t d1 vs=some vs1)(e1:fe vs1 β1=.ok x1 β2):fm t mn fe vs [d0,d1] β=.ok [x0,x1] β2:=by
 have q1:fm t mn fe vs [d1] β1=.ok [x1] β2:=by
  unfold fm
  rw[h1]
  dsimp only[mn,R.okb]
  rw[GW rfl,e1];rfl
 unfold fm
 rw[h0]
 dsimp only[mn,R.okb]
 rw[GW rfl,e0]
 dsimp only
 rw[q1]
def EH (β:Int):∃(n:Nat) (l:List Pr) (β':Int),anyF [.int 8] β=.ok (aF n l) false β'/\OM.Ord n l:=by
 obtain⟨j,hj,ej⟩:=il (m:=5) (by omega) (by omega) β
 show ∃(n:Nat) (l:List Pr) (β':Int),sY (cK sM bM pz cX mL [.bx,.fz (.int 8),.no,.no,.no] β)=.ok (aF n l) false β'/\OM.Ord n l
 unfold cK
 generalize hβ1:β / ((5:Nat):Int)=β1 at ej
 have e1:gS 0 bM (aa (cst (.int 5)) ag) [Nv.bx,.da (.int 8),.no,.no,.no] β=.ok (.int j) β1:=fw (by rfl) rfl ej
 rw[ay (env':=[.bx,.fz (.int 8),.fz (.int j),.no,.no]) (β':=β1) ?g1]
 case g1=>
  show toS (gS 0 bM (aa (cst (.int 5)) ag) [Nv.bx,.da (.int 8),.no,.no,.no] β) _=_
  rw[e1];rfl
 have t4:df (f2 (gv 2) (cst (.int 4)) (de false)) (vl [.bx,.fz (.int 8),.fz (.int j),.no,.no]) β1=.ok (decide ((j:Int)=4)) β1:=cV (neg:=false) (i:=j) (j:=4) rfl rfl
 have t3:df (f2 (gv 2) (cst (.int 3)) (de false)) (vl [.bx,.fz (.int 8),.fz (.int j),.no,.no]) β1=.ok (decide ((j:Int)=3)) β1:=cV (neg:=false) (i:=j) (j:=3) rfl rfl
 by_cases c4:(j:Int)=4
 ·rw[Hb c4] at t4
  obtain⟨n,l,β',ec,O⟩:=AK β1
  refine⟨n,l,β',?_,O⟩
  rw[jB (d:=aF n l) (b:=false) (β':=β') ?g]
  case g=>
   rw[kx t4,jA]
   show toS (gS 0 pz ag [Nv.bx,.da (.int 8),.da (.int j),.no,.no] β1) _=_
   rw[fw (by rfl) rfl ec];rfl
  rfl
 rw[Hh c4] at t4
 rw[ay (env':=[.bx,.fz (.int 8),.fz (.int j),.no,.no]) (β':=β1) ?g2]
 case g2=>rw[i5 t4];rfl
 by_cases c3:(j:Int)=3
 ·rw[Hb c3] at t3
  obtain⟨q,hq,eq⟩:=il (m:=8) (by omega) (by omega) β1
  generalize hβ2:β1 / ((8:Nat):Int)=β2 at eq
  have e2:f2 (cst (.int 1)) (gS 0 bM (aa (gv 1) ag)) bK [Nv.bx,.da (.int 8),.da (.int j),.no,.no] β1=.ok (.int ((1 + q:Nat):Int)) β2:=by
   refine aJ (x:=.int 1) rfl (fw (by rfl) rfl eq) ?_
   show some (int (1 + (q:Int)))=_
   rw[show ((1 + q:Nat):Int)=1 + (q:Int) by omega]
  have n1:1<=1 + q:=by omega
  have n8:1 + q<=8:=by omega
  generalize hn:1 + q=n at n1 n8 e2
  obtain⟨r0,β3,em0,hp0⟩:=mJ (gz n) (by rw[eJ];omega) β2
  obtain⟨r1,β4,em1,hp1⟩:=mJ (gz n) (by rw[eJ];omega) β3
  have hrow:∀(i:Int) (b b':Int) (r:List Int),cX [.list ((gz n).map int)] b=.ok (.list (r.map int)) true b'->f1 (gS 1 cX (aa (f1 (gv 2) bJ) ag)) gY [Nv.da (.int i),.bx,.da (.int n)] b=.ok (tupI r) b':=by
   intro i b b' r em
   refine cN (x:=.list (r.map int)) (fw (ds:=[.list ((gz n).map int)]) (b:=true) (β1:=b) (by rfl) ?_ em) (by rfl)
   rw[bf,cN (x:=.int n) (d:=.list ((gz n).map int)) (β1:=b) rfl (jf (by omega))];rfl
  have ec:aL 1 [0,3] (.nm 0) (bz (cst (.int 2))) mn (f1 (gS 1 cX (aa (f1 (gv 2) bJ) ag)) gY) [Nv.bx,.da (.int 8),.da (.int j),.da (.int n),.no] β2=.ok (.list ([r0,r1].map tupI)) β4:=by
   unfold aL
   rw[cx (n:=2) (β1:=β2) rfl (by omega)]
   dsimp only[R.bnd]
   rw[GW (sz _ (by rw[dP];omega))]
   have q2:b4 0 2= [.int 0,.int 1]:=rfl
   rw[q2,wW (vs0:=[.da (.int 0),.bx,.da (.int n)]) (vs1:=[.da (.int 1),.bx,.da (.int n)]) rfl (hrow 0 _ _ _ em0) rfl (hrow 1 _ _ _ em1)];rfl
  have hP:∀r,r∈ [r0,r1]->r.Perm (gz n):=λr hr=>by
   rcases G7.mp hr with z |z
   ·rw[z];exact hp0
   ·rw[HF.mp z];exact hp1
  refine⟨n,(OM.bO n).filter (jJ [r0,r1]),β4,?_,xV n1 n8 (by simp) hP⟩
  rw[jB (d:=aF n ((OM.bO n).filter (jJ [r0,r1]))) (b:=false) (β':=β4) ?g]
  case g=>
   rw[kx t3]
   rw[ay (env':=[.bx,.fz (.int 8),.fz (.int j),.fz (.int n),.no]) (β':=β2) ?k1]
   case k1=>
    rw[gO]
    show toS (f2 (cst (.int 1)) (gS 0 bM (aa (gv 1) ag)) bK [Nv.bx,.da (.int 8),.da (.int j),.no,.no] β1) _=_
    rw[e2];rfl
   rw[ay (env':=[.bx,.fz (.int 8),.fz (.int j),.fz (.int n),.fz (.list ([r0,r1].map tupI))]) (β':=β4) ?k2]
   case k2=>
    rw[gO]
    show toS (aL 1 [0,3] (.nm 0) (bz (cst (.int 2))) mn (f1 (gS 1 cX (aa (f1 (gv 2) bJ) ag)) gY) [Nv.bx,.da (.int 8),.da (.int j),.da (.int n),.no] β2) _=_
    rw[ec];rfl
   rw[jA]
   show toS (bh (aa (gv 3) (aa (aE sM (aa (gv 3) (aa (gv 4) ag))) ag)) [Nv.bx,.da (.int 8),.da (.int j),.da (.int n),.da (.list ([r0,r1].map tupI))] β4) _=_
   have a1:aE sM (aa (gv 3) (aa (gv 4) ag)) [Nv.bx,.da (.int 8),.da (.int j),.da (.int n),.da (.list ([r0,r1].map tupI))] β4=.ok (.tuple (((OM.bO n).filter (jJ [r0,r1])).map ak)) β4:=aN rfl (Co n8 (by simp) hP)
   rw[iZ (ds:=[.int n,.tuple (((OM.bO n).filter (jJ [r0,r1])).map ak)]) (β1:=β4) ?k3 (by simp)]
   case k3=>
    rw[bf]
    show (R.ok (int n) β4).bnd _=_
    dsimp only[R.bnd]
    rw[bf,a1];rfl
   rfl
  rfl
 rw[Hh c3] at t3
 rw[ay (env':=[.bx,.fz (.int 8),.fz (.int j),.no,.no]) (β':=β1) ?g3]
 case g3=>rw[i5 t3];rfl
 obtain⟨n,l,β',eo,O,_⟩:=yG (most:=8) (by omega) (by omega) β1
 refine⟨n,l,β',?_,O⟩
 rw[jA]
 show sY (toS (gS 0 mL (aa (gv 1) ag) [Nv.bx,.da (.int 8),.da (.int j),.no,.no] β1) _)=_
 rw[fw (by rfl) rfl eo];rfl
structure WP (r:SO)(Q:SO->Prop):Prop where
 out:Q r
section
variable {m m' m1 m2:SF}{env env1:En}{β β1 β2 z:Int}{Q:SO->Prop}{f fa fb:VF D}{t:VF Bool}{d e:D}{L La Lb:List Nat}{i j:Nat}{c:Bool}
def wp_at (env1:En)(e:env=env1)(k:WP (m env1 β) Q):WP (m env β) Q:=by rw[e];exact k
def wp_seq (h:m env β=.nx env1 β1)(k:WP (m' env1 β1) Q):WP (aG m m' env β) Q:=by rw[ay h];exact k
theorem ug (h:WP (aG m mC env β) Q):WP (m env β) Q:=by
 obtain⟨h⟩:=h
 unfold aG at h
 cases e:m env β with
 |_=>rw[e] at h;exact⟨h⟩
def vv (q:Q (.nx env β)):WP (mC env β) Q:=⟨q⟩
def ja (h:f (vl env) β=.ok d β1)(k:WP (m' ((a7 L env).set i (.fz d)) β1) Q):WP (aG (a9 i L f) m' env β) Q:=wp_seq (by unfold a9;rw[h];rfl) k
def Bk (h:f (vl env) β=.ok d β1)(k:WP (m' ((a7 L env).set i (.ow d)) β1) Q):WP (aG (kR i L f) m' env β) Q:=wp_seq (by unfold kR;rw[h];rfl) k
def AM (h:f (vl env) β=.ok d β1)(k:WP (m' (a7 L env) β1) Q):WP (aG (oW L f) m' env β) Q:=wp_seq (by unfold oW;rw[h];rfl) k
def wp_bind {t:Tg}(h:f (vl env) β=.ok d β1)(hb:dJ t d (a7 L env)=some env1)(k:WP (m' env1 β1) Q):WP (aG (sH t L f) m' env β) Q:=wp_seq (by unfold sH;rw[h];dsimp only[toS];rw[hb]) k
def Cu {ds:List D}(hi:env[i]? =some (.ow (.list ds)))(h:f (vl env) β=.ok d β1)(hL:(a7 L env)[i]? =some (.ow (.list ds)))(hz:ds.length<=1000)(k:WP (m' ((a7 L env).set i (.ow (.list (ds ++ [d])))) β1) Q):WP (aG (ml i L f) m' env β) Q:=wp_seq (pE hi h hL hz) k
def qj (h:t (vl env) β=.ok false β1)(k:WP (m' (a7 L env) β1) Q):WP (aG (kB L t m1 mC) m' env β) Q:=wp_seq (by rw[i5 h];rfl) k
def BB (h:t (vl env) β=.ok true β1)(k:WP (aG m1 m' (a7 L env) β1) Q):WP (aG (kB L t m1 m2) m' env β) Q:=by
 have:aG (kB L t m1 m2) m' env β=aG m1 m' (a7 L env) β1:=by unfold aG;rw[kx h]
 rw[this];exact k
def Fi (h:t (vl env) β=.ok false β1)(k:WP (m2 (a7 L env) β1) Q):WP (kB L t m1 m2 env β) Q:=by rw[i5 h];exact k
def pV (h:f (vl env) β=.ok d β1)(q:Q (.rt d false β1)):WP (bY f env β) Q:=⟨by unfold bY;rw[h];exact q⟩
def Bh (h:f (vl env) β=.ok d β1)(q:Q (.rt d false β1)):WP (aG (bY f) m' env β) Q:=⟨by unfold aG bY;rw[h];exact q⟩
def u6 (h:f (vl env) β=.ok d β1)(q:Q (.rt d true β1)):WP (jQ f env β) Q:=⟨by unfold jQ;rw[h];exact q⟩
def lM {R:FR}(h:WP (m env β) λr=>fin r=R):fin (m env β)=R:=h.out
def qN {t:Tg}{fi:VF (List D)}{ds:List D}(I:Nat->En->Int->Prop)(hi:fi (vl env) β=.ok ds β1)(h0:I 0 (a7 L env) β1)
  (hs:∀i d env β,ds[i]? =some d->I i env β->∃env1,dJ t d env=some env1/\WP (m env1 β) λr=>∃env2 β2,r=.nx env2 β2/\I (i + 1) env2 β2)
  (k:∀env β,I ds.length env β->WP (m' env β) Q):WP (aG (dh t L fi m) m' env β) Q:=by
 obtain⟨env',β',e,h⟩:=cQ (t:=t) (m:=m) I (ds:=ds) (k:=0) h0 λi d env β hd h=>by
  rw[HW] at h
  obtain⟨env1,e1,⟨env2,β2,e2,h2⟩⟩:=hs i d env β hd h
  exact⟨env1,e1,env2,β2,e2,by rw[HW];exact h2⟩
 rw[HW] at h
 exact wp_seq ((gn hi).trans e) (k _ _ h)
end
def yF (c:Int)(hc:0<=c/\c<=100)(ns:List Int)(vs:List Nv)(β:Int)(h:gv 0 vs β=.ok (bW ns) β):∃m:Nat,m<=101/\bz (f2 (cst (.int 1)) (f2 (f1 (gv 0) gQ) (cst (.int c)) (vp λi j=>.int (if j < i then j else i))) (vp λi j=>.int (if j > i then j else i))) vs β=.ok (b4 0 m) β:=by
 have e1:f2 (cst (.int 1)) (f2 (f1 (gv 0) gQ) (cst (.int c)) (vp λi j=>.int (if j < i then j else i))) (vp λi j=>.int (if j > i then j else i)) vs β=.ok (.int (if (if c < ((ns.map int).length:Int) then c else ((ns.map int).length:Int)) > 1 then (if c < ((ns.map int).length:Int) then c else ((ns.map int).length:Int)) else 1)) β:=
  aJ (x:=.int 1) rfl (aJ (x:=.int (ns.map int).length) (y:=.int c) (cN h rfl) rfl rfl) rfl
 generalize ((ns.map int).length:Nat)=k at e1
 refine⟨(if (if c < (k:Int) then c else (k:Int)) > 1 then (if c < (k:Int) then c else (k:Int)) else 1).toNat,?_,cx (e1.trans ?_) ?_⟩
 ·split <;> split <;> omega
 ·congr 2
  split <;> split <;> omega
 ·split <;> split <;> omega
def It (d:D):Prop:=dG d=false/\Sq 400 8 d/\Bf d
def Th (d:D):Prop:=Ge d/\Sq 10000 9 d/\Bf d
def Ap (P:D->Prop)(k:Nat)(es:List D):Prop:=es.length<=k/\∀x,x∈es->P x
abbrev Al:Nat->List D->Prop:=Ap It
def zj {ds:List D}{k:Nat}(h:k < ds.length):∃d,ds[k]? =some d/\d∈ds/\j9 ds (k:Int)=some d:=⟨ds[k],GU h,Iu h,qQ (GU h)⟩
def DP {fa fb:VF D}{vs:List Nv}{β β1 β2:Int}{a b:List D}(h1:fa vs β=.ok (.list a) β1)(h2:fb vs β1=.ok (.list b) β2)(hz:a.length + b.length<=1000):f2 fa fb gx vs β=.ok (.list (a ++ b)) β2:=aJ h1 h2 (kF (by omega))
def kJ (ps:List Pr):D:=.dict (ps.map λp=>(ak p,.bool true))
theorem yC:∀ps:List Pr,z5 (ps.map λp=>PyData.tuple [ak p,.bool true])=some (ps.map λp=>(p,PyData.bool true))
 | []=>rfl
 |p :: ps=>by
  rw[Hx]
  unfold z5
  rw[yC ps];rfl
theorem sQ:∀{L acc:List (Pr×D)},((acc ++ L).map (·.1)).Nodup->L.foldl (λa x=>sX a x.1 x.2) acc=acc ++ L
 | [],acc,_=>by rw[IV];rfl
 |x :: L,acc,h=>by
  rw[IY]
  have e:sX acc x.1 x.2=acc ++ [x]:=by
   unfold sX
   rw[G8]
   rw[Bool.not_eq_true,List.any_eq_false]
   intro y hy
   rw[Ho]
   intro z
   rw[Il,JK] at h
   exact h.2.2 y.1 (Ha.mpr ⟨y,hy,rfl⟩) x.1 (Ha.mpr ⟨x,G6 ..,rfl⟩) z
  rw[e,sQ (by rw[IA];exact h),IA];rfl
def za {ps:List Pr}(nd:ps.Nodup):uf (.list (ps.map λp=>PyData.tuple [ak p,.bool true]))=some (kJ ps):=by
 show (z5 (ps.map λp=>PyData.tuple [ak p,.bool true])).map _=_
 rw[yC,Option.map_some,sQ (by rw[nil_append,Ih];simpa[Function.comp_def] using nd),nil_append,Ih];rfl
theorem yR:∀ps:List Pr,zI (ps.map λp=>(ak p,PyData.bool true))=some ps
 | []=>rfl
 |p :: ps=>by
  rw[Hx]
  show (zI (ps.map λp=>(ak p,PyData.bool true))).map _=_
  rw[yR ps];rfl
def vA (neg:Bool)(p:Pr)(ps:List Pr):tD neg (ak p) (kJ ps)=some (.bool (if neg then !decide (p∈ps) else decide (p∈ps))):=by
 show (zI (ps.map λp=>(ak p,PyData.bool true))).map _=_
 rw[yR];rfl
noncomputable def Gd:List D->FR:=bb 1 1 (iG tJ)
def CB (n:Nat)(l:List Pr):(dA n l).Nodup:=OM.fQ (u5 n l)
def FZ {n:Nat}{l:List Pr}(O:OM.Ord n l):Gd [aF n l]=.ok (kJ (dA n l)) false:=by
 show fin (iG tJ [.fz (aF n l)] 0)=_
 have hz:(dA n l).length<=64:=vH O.hi
 refine lM (pV (β1:=0) (cN (β1:=0) (c9 (l:=dA n l) (e:=ak) (λp=>PyData.tuple [ak p,.bool true]) ?_ (by omega) λp hp=>⟨[.da (ak p)],rfl,tp (ds:=[ak p,.bool true]) rfl⟩) (za (CB n l))) rfl)
 unfold bS
 rw[aN (ds:=[aF n l]) rfl (Ay O)];rfl
def A6 (l:List Pr)(p q:Pr):Bool:=if p.1=q.1/\p.2≠q.2 then !mK l (p.2,q.2) else decide (p.2=q.2) && (!decide (p.1=q.1) && !mK l (p.1,q.1))
def c7 (n:Nat)(l:List Pr)(p:Pr):List Pr:=(dA n l).filter (A6 l p)
def kK (n:Nat)(l:List Pr)(b:Int):List Int:=(gz n).filter λc=> !decide (c=b) && !decide (((b,c):Pr)∈dA n l)
noncomputable def FG:List D->FR:=bb 8 3 dt
def yV {n:Nat}{l:List Pr}{b:Int}{i:Nat}{vs:List Nv}{β:Int}(h8:n<=8)(h1:gv 1 vs β=.ok (.int n) β)(hi:vs[i]? =some (.da (.int b)))(h0:vs[0]? =some (.da (kJ (dA n l)))):aL 1 [i,0] (.nm 0) (bz (gv 1)) (zW (df (f2 (gv 0) (gv 1) (de true))) (df (f2 (bh (aa (gv 1) (aa (gv 0) ag))) (gv 2) (tD true)))) (gv 0) vs β=.ok (.list ((kK n l b).map int)) β:=by
 have hb:fA 1 [i,0] vs= [.no,.da (.int b),.da (kJ (dA n l))]:=by simp[fA,hi,h0]
 refine cz (l:=gz n) (e:=int) _ int ?_ (by rw[eJ];omega) λc hc=>⟨[.da (.int c),.da (.int b),.da (kJ (dA n l))],by rw[hb];rfl,uc (cV (neg:=true) (i:=c) (j:=b) rfl rfl) (iw _ _ _ _ (aJ (cR (a:=b) (b:=c) rfl rfl) rfl (vA true (b,c) (dA n l)))),λ_=>rfl⟩
 rw[<-kY];exact cx (n:=n) h1 (by omega)
def zQ (l:List Pr)(a b:Int):mK l (a,b)=mK l (b,a):=by
 unfold mK
 rw[HZ]
 simp only[Hl,Ia,HU]
 exact⟨λ⟨h1,h2,h3⟩=>⟨λz=>h1 z.symm,h3,h2⟩,λ⟨h1,h2,h3⟩=>⟨λz=>h1 z.symm,h3,h2⟩⟩
def kA {n:Nat}{l:List Pr}{p q:Pr}:q∈c7 n l p↔q∈dA n l/\A6 l p q=true:=Hk
def kN {n:Nat}{l:List Pr}{b c:Int}(hb:0<=b/\b < n):c∈kK n l b↔(0<=c/\c < n)/\c≠b/\mK l (b,c)=false:=by
 unfold kK
 rw[Hk,dr,Hl,Ia,Ia,HU,HU]
 constructor
 ·rintro⟨h1,h2,h3⟩
  refine⟨h1,h2,?_⟩
  cases e:mK l (b,c) with
  |false=>rfl
  |true=>exact absurd (eO.mpr ⟨⟨hb,h1⟩,e⟩) h3
 ·rintro⟨h1,h2,h3⟩
  exact⟨h1,h2,λz=>by have:=(eO.mp z).2;rw[h3] at this;cases this⟩
def nO (n:Nat)(l:List Pr)(p:Pr):List Pr:=((kK n l p.2).map λc=>(p.1,c)) ++ (kK n l p.1).map λc=>(c,p.2)
def Cf {n:Nat}{l:List Pr}{p:Pr}(hp:p∈dA n l):(nO n l p).Nodup:=by
 obtain⟨hr,_⟩:=eO.mp hp
 have nd:∀b,(kK n l b).Nodup:=λb=>(jy n).sublist List.filter_sublist
 unfold nO
 rw[JK]
 refine⟨List.Pairwise.map _ (λa b h z=>h (by cases z;rfl)) (nd _),List.Pairwise.map _ (λa b h z=>h (by cases z;rfl)) (nd _),λx hx y hy z=>?_⟩
 obtain⟨c,hc,rfl⟩:=Ha.mp hx
 obtain⟨e,he,rfl⟩:=Ha.mp hy
 exact ((kN hr.2).mp hc).2.1 (congrArg Prod.snd z)
def Bd {n:Nat}{l:List Pr}{p q:Pr}(hp:p∈dA n l):(q∈nO n l p/\q∈dA n l)↔q∈c7 n l p:=by
 obtain⟨hr,_⟩:=eO.mp hp
 rw[kA]
 unfold nO A6
 rw[Hu,Ha,Ha]
 constructor
 ·rintro⟨h |h,ht⟩
  ·obtain⟨c,hc,rfl⟩:=h
   obtain⟨_,h2,h3⟩:=(kN hr.2).mp hc
   refine⟨ht,?_⟩
   rw[GW ⟨rfl,λz=>h2 z.symm⟩,h3];rfl
  ·obtain⟨c,hc,rfl⟩:=h
   obtain⟨_,h2,h3⟩:=(kN hr.1).mp hc
   refine⟨ht,?_⟩
   rw[G8 (λz=>h2 z.1.symm),h3]
   simp
   exact λz=>h2 z.symm
 ·rintro⟨ht,h⟩
  obtain⟨hq,_⟩:=eO.mp ht
  refine⟨?_,ht⟩
  split at h
  ·rename_i c
   rw[Ia] at h
   exact .inl ⟨q.2,(kN hr.2).mpr ⟨hq.2,λz=>c.2 z.symm,h⟩,by rw[c.1]⟩
  ·simp only[Hl,Ho,Ia,HU] at h
   exact .inr ⟨q.1,(kN hr.1).mpr ⟨hq.1,λz=>h.2.1 z.symm,h.2.2⟩,by rw[h.1]⟩
def AV {n:Nat}{l:List Pr}{p:Pr}(O:OM.Ord n l)(hp:p∈dA n l):fY (.list (((nO n l p).filter λq=>decide (q∈dA n l)).map ak))=some (.list ((c7 n l p).map ak)):=by
 have hm:∀q,q∈(nO n l p).filter (λq=>decide (q∈dA n l))↔q∈c7 n l p:=λq=>by rw[Hk,Ho,Bd hp]
 have hw:∀q,q∈c7 n l p->q∈dA n l:=λq h=>(kA.mp h).1
 rw[xu (N:=n) O.lo O.hi (λq hq=>(eO.mp (hw q ((hm q).mp hq))).1) ((Cf hp).sublist List.filter_sublist) (λa ha=>by
  have:=(eO.mp (hw _ ((hm _).mp ha))).2
  unfold mK at this
  simp at this)]
 congr 3
 refine OM.dw (OM.bX _ _) (OM.cy _ (u5 n l)) λq=>?_
 rw[OM.aM]
 show (_/\OM.Mem _ q.1 q.2)↔q∈c7 n l p
 rw[<-hm q]
 constructor
 ·exact λh=>h.2
 ·intro h
  have:=(eO.mp (hw q ((hm q).mp h))).1
  have h8:=O.hi
  exact⟨⟨⟨this.1.1,by omega⟩,this.2.1,by omega⟩,h⟩
def FH {n:Nat}{l:List Pr}{p:Pr}(O:OM.Ord n l)(hp:p∈dA n l):FG [kJ (dA n l),.int n,ak p]=.ok (.list ((c7 n l p).map ak)) true:=by
 have h8:=O.hi
 show fin (dt [.fz (kJ (dA n l)),.fz (.int n),.fz (ak p),.no,.no,.no,.no,.no] 0)=_
 refine lM ?_
 unfold dt
 have hsl:∀b,(kK n l b).length<=8:=λb=>Ie (HR ..) (by rw[eJ];exact h8)
 have hfl:(nO n l p).length<=16:=by have h1:=hsl p.1;have h2:=hsl p.2;unfold nO;rw[HN,Hd,Hd];omega
 refine ja (d:=.int p.1) (β1:=0) rfl (ja (d:=.int p.2) (β1:=0) rfl (wp_at [.fz (kJ (dA n l)),.fz (.int n),.fz (ak p),.fz (.int p.1),.fz (.int p.2),.no,.no,.no] rfl ?_))
 refine ja (yV (n:=n) (l:=l) (b:=p.2) h8 rfl rfl rfl) (wp_at [.fz (kJ (dA n l)),.fz (.int n),.fz (ak p),.fz (.int p.1),.fz (.int p.2),.fz (.list ((kK n l p.2).map int)),.no,.no] rfl ?_)
 refine ja (yV (n:=n) (l:=l) (b:=p.1) h8 rfl rfl rfl) (wp_at [.fz (kJ (dA n l)),.fz (.int n),.fz (ak p),.fz (.int p.1),.fz (.int p.2),.fz (.list ((kK n l p.2).map int)),.fz (.list ((kK n l p.1).map int)),.no] rfl ?_)
 have e1:=hsl p.1
 have e2:=hsl p.2
 have hf:((nO n l p).map ak)=((kK n l p.2).map λc=>ak (p.1,c)) ++ (kK n l p.1).map λc=>ak (c,p.2):=by unfold nO;rw[Il,Ih,Ih];rfl
 have hsr:=AV O hp
 generalize kK n l p.2=S at *
 generalize kK n l p.1=T at *
 refine ja (β1:=0) (DP (β1:=0) (c9 (l:=S) (e:=int) (λc=>ak (p.1,c)) rfl (by omega) λc hc=>⟨[.da (.int c),.da (.int p.1)],rfl,cR rfl rfl⟩) (c9 (l:=T) (e:=int) (λc=>ak (c,p.2)) rfl (by omega) λc hc=>⟨[.da (.int c),.da (.int p.2)],rfl,cR rfl rfl⟩) (by rw[Hd,Hd];omega)) ?_
 rw[<-hf]
 exact u6 (β1:=0) (cN (β1:=0) (cz (l:=nO n l p) (e:=ak) (λq=>decide (q∈dA n l)) ak rfl (by omega) λq hq=>⟨[.da (ak q),.da (kJ (dA n l))],rfl,iw _ _ _ _ (aJ (x:=ak q) (y:=kJ (dA n l)) rfl rfl (vA false q (dA n l))),λ_=>rfl⟩) hsr) rfl
noncomputable def Gi:List D->FR:=bb 2 2 (jv ES Cw)
def Gf {n:Nat}{l:List Pr}{p:Pr}(h:p∈dA n l):Gi [ak p,aF n l]=.ok (.bool true) false:=by
 obtain⟨hr,ha⟩:=eO.mp h
 show fin (jv ES Cw [.fz (ak p),.fz (aF n l)] 0)=_
 unfold jv
 have hb:E5 n (ak p)=true:=by show (decide (0<=p.1/\p.1 < (n:Int)) && decide (0<=p.2/\p.2 < (n:Int)))=true;rw[Hb hr.1,Hb hr.2];rfl
 have e1:ES [ak p,.int n]=.ok (.bool (E5 n (ak p))) false:=Fw (n:=n) (xY (es:=[.int p.1,.int p.2]) (by simp) (AA rfl rfl))
 rw[hb] at e1
 have e2:=CH n l p.1 p.2
 rw[show mK l (p.1,p.2)=true from ha] at e2
 exact lM (pV (β1:=0) (jw (aN (ds:=[ak p,.int n]) rfl e1) (aN (ds:=[aF n l,.int p.1,.int p.2]) rfl e2)) rfl)
noncomputable def FT:List D->FR:=bb 2 2 (kl jP Gi FG Gd)
def DS {n:Nat}{l:List Pr}{p:Pr}(O:OM.Ord n l)(h:p∈dA n l):FT [aF n l,ak p]=.ok (.list ((c7 n l p).map ak)) true:=by
 show fin (kl jP Gi FG Gd [.fz (aF n l),.fz (ak p)] 0)=_
 refine lM ?_
 unfold kl
 refine AM (aN (ds:=[aF n l]) rfl (ux O)) (qj (nH (pk (aN (ds:=[ak p,aF n l]) rfl (Gf h)))) ?_)
 exact u6 (nu (ds:=[kJ (dA n l),.int n,ak p]) (ac (aN (ds:=[aF n l]) rfl (FZ O)) rfl) (FH O h)) rfl
def Fh:List D->FR:=bb 7 3 (eM qi)
def FY (n:Nat)(l:List Pr)(p q:Pr):Fh [aF n l,ak p,ak q]=.ok (.bool (A6 l p q)) false:=by
 show fin (eM qi [.fz (aF n l),.fz (ak p),.fz (ak q),.no,.no,.no,.no] 0)=_
 refine lM ?_
 unfold eM
 refine wp_bind (d:=ak p) (β1:=0) rfl (env1:=[.fz (aF n l),.fz (ak p),.fz (ak q),.fz (.int p.1),.fz (.int p.2),.no,.no]) rfl (wp_bind (d:=ak q) (β1:=0) rfl (env1:=[.fz (aF n l),.fz (ak p),.fz (ak q),.fz (.int p.1),.fz (.int p.2),.fz (.int q.1),.fz (.int q.2)]) rfl ?_)
 have t:=uc (cV (neg:=false) (fa:=gv 3) (fb:=gv 5) (vs:=vl [.fz (aF n l),.fz (ak p),.fz (ak q),.fz (.int p.1),.fz (.int p.2),.fz (.int q.1),.fz (.int q.2)]) (β:=0) (i:=p.1) (j:=q.1) rfl rfl) (cV (neg:=true) (fa:=gv 4) (fb:=gv 6) (vs:=vl [.fz (aF n l),.fz (ak p),.fz (ak q),.fz (.int p.1),.fz (.int p.2),.fz (.int q.1),.fz (.int q.2)]) (β:=0) (i:=p.2) (j:=q.2) rfl rfl)
 unfold A6
 by_cases c:p.1=q.1/\p.2≠q.2
 ·rw[GW c]
  rw[Hb c.1,Hh c.2] at t
  exact BB t (Bh (β1:=0) (cN (g:=pG) (x:=.bool (mK l (p.2,q.2))) (aN (ds:=[aF n l,.int p.2,.int q.2]) rfl (yi n l p.2 q.2)) (by cases mK l (p.2,q.2) <;> rfl)) rfl)
 ·rw[G8 c]
  have hc:((if false=true then !decide (p.1=q.1) else decide (p.1=q.1)) && (if true=true then !decide (p.2=q.2) else decide (p.2=q.2)))=false:=by
   simp
   simpa using c
  rw[hc] at t
  refine qj t (pV (β1:=0) (jw (aJ (x:=.int p.2) (y:=.int q.2) rfl rfl (pA false p.2 q.2)) (jw (aJ (x:=.int p.1) (y:=.int q.1) rfl rfl (pA true p.1 q.1)) (cN (g:=pG) (x:=.bool (mK l (p.1,q.1))) (d:=.bool (!mK l (p.1,q.1))) (aN (ds:=[aF n l,.int p.1,.int q.1]) rfl (yi n l p.1 q.1)) (by cases mK l (p.1,q.1) <;> rfl)))) rfl)
def C4 {n:Nat}{l:List Pr}{p q:Pr}(h:A6 l p q=true):A6 l q p=true:=by
 unfold A6 at *
 by_cases c:p.1=q.1/\p.2≠q.2
 ·rw[GW c] at h
  rw[GW ⟨c.1.symm,λz=>c.2 z.symm⟩,zQ];exact h
 ·rw[G8 c] at h
  simp only[Hl,Ho,Ia,HU] at h
  rw[G8 (λz=>h.2.1 z.1.symm)]
  simp only[Hl,Ho,Ia,HU]
  exact⟨h.1.symm,λz=>h.2.1 z.symm,by rw[zQ];exact h.2.2⟩
noncomputable def CZ:List D->FR:=bb 9 1 (vc CM qp Fh FT anyF)
theorem D1 (ns:List Int):CZ [bW ns]=.ok (.bool true) false:=by
 show fin (vc CM qp Fh FT anyF [.fz (bW ns),.no,.no,.no,.no,.no,.no,.no,.no] 0)=_
 refine lM ?_
 obtain⟨m,hm,em⟩:=yF 4 (by omega) ns (vl [.fz (bW ns),.no,.no,.no,.no,.no,.no,.no,.no]) 0 rfl
 unfold vc
 refine qN (λ_ env b=>b=0/\∃s1 s2 s3 s4 s5 s6 s7 s8,env= [.fz (bW ns),s1,s2,s3,s4,s5,s6,s7,s8]) em ⟨rfl,_,_,_,_,_,_,_,_,rfl⟩ ?_ λenv β ⟨_,s1,s2,s3,s4,s5,s6,s7,s8,e⟩=>pV (d:=.bool true) rfl rfl
 rintro i d env β hi ⟨rfl,s1,s2,s3,s4,s5,s6,s7,s8,rfl⟩
 obtain⟨_,rfl⟩:=gf hi
 rw[Ip]
 refine⟨[.fz (bW ns),.fz (.int i),s2,s3,s4,s5,s6,s7,s8],rfl,?_⟩
 obtain⟨z,ez⟩:=D9 ns i
 obtain⟨n,l,β1,eo,O⟩:=EH z
 have hz:(dA n l).length<=64:=vH O.hi
 have h8:=O.hi
 have hs:∀q,q∈dA n l->Sm q:=λq hq=>by obtain⟨⟨⟨a,b⟩,c,d⟩,_⟩:=eO.mp hq;exact⟨⟨a,by omega⟩,c,by omega⟩
 refine ja (CY (z:=z) (nu (ds:=[bW ns,.int i]) rfl ez) eo) (wp_at [.fz (bW ns),.fz (.int i),.fz (aF n l),s3,s4,s5,s6,s7,s8] rfl ?_)
 refine ja (aN (ds:=[aF n l]) rfl (y6 O)) (wp_at [.fz (bW ns),.fz (.int i),.fz (aF n l),.fz (.list ((dA n l).map ak)),s4,s5,s6,s7,s8] rfl ?_)
 refine ug (qN (ds:=(dA n l).map ak) (β1:=0) (λ_ env b=>b=0/\∃s4 s5 s6 s7 s8,env= [.fz (bW ns),.fz (.int i),.fz (aF n l),.fz (.list ((dA n l).map ak)),s4,s5,s6,s7,s8]) rfl ⟨rfl,_,_,_,_,_,rfl⟩ ?_ λenv β ⟨e0,s4,s5,s6,s7,s8,e⟩=>vv ⟨_,_,rfl,e0,_,_,_,_,_,_,_,_,e⟩)
 rintro j d env β hj ⟨rfl,s4,s5,s6,s7,s8,rfl⟩
 rw[He] at hj
 cases hp:(dA n l)[j]? with
 |none=>rw[hp] at hj;cases hj
 |some p=>
  rw[hp] at hj
  cases hj
  have hpm:=Hi hp
  have hdl:(c7 n l p).length<=64:=Ie (HR ..) hz
  have hds:∀q,q∈c7 n l p->q∈dA n l:=λq h=>(kA.mp h).1
  refine⟨[.fz (bW ns),.fz (.int i),.fz (aF n l),.fz (.list ((dA n l).map ak)),.fz (ak p),s5,s6,s7,s8],rfl,?_⟩
  refine ja (β1:=0) (cz (l:=dA n l) (e:=ak) (A6 l p) ak rfl (by omega) λq hq=>⟨[.da (ak q),.da (aF n l),.da (ak p)],rfl,pk (aN (ds:=[aF n l,ak p,ak q]) rfl (FY n l p q)),λ_=>rfl⟩) (wp_at [.fz (bW ns),.fz (.int i),.fz (aF n l),.fz (.list ((dA n l).map ak)),.fz (ak p),.fz (.list ((c7 n l p).map ak)),s6,s7,s8] rfl ?_)
  have hrep:nM (.list ((c7 n l p).map ak))=some (.str (PyData.shown (.list ((c7 n l p).map ak)))):=wB (by omega) λq hq=>hs q (hds q hq)
  refine qN (β1:=0) (λ_ env b=>b=0/\∃s6 s7,env= [.fz (bW ns),.fz (.int i),.fz (aF n l),.fz (.list ((dA n l).map ak)),.fz (ak p),.fz (.list ((c7 n l p).map ak)),s6,s7,s8]) (cx (n:=2) rfl (by omega)) ⟨rfl,_,_,rfl⟩ ?_ ?_
  ·rintro k d env β hk ⟨rfl,s6,s7,rfl⟩
   refine⟨[.fz (bW ns),.fz (.int i),.fz (aF n l),.fz (.list ((dA n l).map ak)),.fz (ak p),.fz (.list ((c7 n l p).map ak)),.fz d,s7,s8],rfl,?_⟩
   refine Bk (nu (ds:=[aF n l,ak p]) rfl (DS O hpm)) (wp_at [.fz (bW ns),.fz (.int i),.fz (aF n l),.fz (.list ((dA n l).map ak)),.fz (ak p),.fz (.list ((c7 n l p).map ak)),.fz d,.ow (.list ((c7 n l p).map ak)),s8] rfl ?_)
   refine qj (zr (c:=false) (nH (a:=true) (pk (c:=true) (cN (x:=.list ((c7 n l p).map ak)) rfl rfl))) (iw _ _ _ _ (aJ (cN (x:=.list ((c7 n l p).map ak)) rfl hrep) (cN (x:=.list ((c7 n l p).map ak)) rfl hrep) (by simp[C0])))) ?_
   exact ug (Cu (ds:=(c7 n l p).map ak) (d:=.int 0) (β1:=0) rfl rfl rfl (by rw[Hd];omega) (vv ⟨_,_,rfl,rfl,_,_,rfl⟩))
  rintro env β ⟨rfl,s6,s7,rfl⟩
  have es:bS (EL (gv 5) (λ_ β=>.ok none β) (Eh (cst (.int 2)))) (vl [.fz (bW ns),.fz (.int i),.fz (aF n l),.fz (.list ((dA n l).map ak)),.fz (ak p),.fz (.list ((c7 n l p).map ak)),s6,s7,s8]) 0=.ok (((c7 n l p).take 2).map ak) 0:=by
   have:=zf (fa:=gv 5) (fb:=cst (.int 2)) (vs:=vl [.fz (bW ns),.fz (.int i),.fz (aF n l),.fz (.list ((dA n l).map ak)),.fz (ak p),.fz (.list ((c7 n l p).map ak)),s6,s7,s8]) (β:=0) (ds:=(c7 n l p).map ak) (i:=2) rfl rfl
   unfold bS
   rw[this,List.map_take];rfl
  refine ug (qN (λ_ env b=>b=0/\∃s8,env= [.fz (bW ns),.fz (.int i),.fz (aF n l),.fz (.list ((dA n l).map ak)),.fz (ak p),.fz (.list ((c7 n l p).map ak)),s6,s7,s8]) es ⟨rfl,_,rfl⟩ ?_ λenv β ⟨e0,s8,e⟩=>vv ⟨_,_,rfl,e0,_,_,_,_,_,e⟩)
  rintro k d env β hk ⟨rfl,s8,rfl⟩
  rw[He] at hk
  cases hq:((c7 n l p).take 2)[k]? with
  |none=>rw[hq] at hk;cases hk
  |some q=>
   rw[hq] at hk
   cases hk
   have hqm:=Jd (Hi hq)
   have hpq:p∈c7 n l q:=kA.mpr ⟨hpm,C4 (n:=n) (kA.mp hqm).2⟩
   refine⟨[.fz (bW ns),.fz (.int i),.fz (aF n l),.fz (.list ((dA n l).map ak)),.fz (ak p),.fz (.list ((c7 n l p).map ak)),s6,s7,.fz (ak q)],rfl,?_⟩
   have ein:=BD true p (c7 n l q)
   rw[GW rfl,Hb hpq] at ein
   exact Fi (iw _ _ _ _ (aJ (x:=ak p) (y:=.list ((c7 n l q).map ak)) rfl (aN (ds:=[aF n l,ak q]) rfl (DS O (hds q hqm))) ein)) (vv ⟨_,_,rfl,rfl,_,rfl⟩)
end RM
namespace RO
open PySem L2
abbrev iN:Stmt:=RQ.dE
abbrev kQ:Stmt:=RQ.top 13
abbrev Fn (K:Frag)(mg:Str->Option Value)(x:Str)(st:Stmt)(ps:List Str)(f:Addr)(fd:FuncData):Prop:=jL K mg x st ps f fd
abbrev Bt (mg:Str->Option Value):Prop:=jM mg
end RO
section
namespace L2
open PySem PySem.Spec PyProof.Rows
section
variable {K:Frag}{H H':Hp}{a:Addr}
theorem aI.snoc {x y:Int}(q:dH K H a [.int x,.int y]):∀{vs:List V} {ps:List (Int×Int)},aI K H vs ps->aI K H (vs ++ [.ref a]) (ps ++ [(x,y)])
 |_,_,.nil=>.cons ⟨a,rfl,q⟩ .nil
 |_,_,.cons r t=>.cons r (aI.snoc q t)
def aI.len {vs:List V}{ps:List (Int×Int)}(h:aI K H vs ps):vs.length=ps.length:=Paired.length h
def aI.same {vs:List V}{ps:List (Int×Int)}(h:aI K H vs ps)(s:ah H H'):aI K H' vs ps:=h.grow s.grow
def aI.at {vs:List V}{ps:List (Int×Int)}{i:Nat}{v:V}(h:aI K H vs ps)(e:vs[i]? =some v):∃p:Int×Int,ps[i]? =some p/\∃b,v=.ref b/\dH K H b [.int p.1,.int p.2]:=Paired.getP h e
def ah.put {o:HO}(s:ah H H')(h:H a=none):ah H (L2.upd H' a o):=λb u e=>by rw[au (aB e h)];exact s b u e
end
end L2
namespace RO
open PySem L2
def zu (N:List Str)(sc:Scope)(NB:List Str)(own:Nat)(ixs:List Nat)(scope:Scope):Bool:=
 decide (scope.kind=.function) && (scope.names.all λy=>decide (y.2≠.cell)) && (scope.names.all λy=>decide (scope.names.lookup y.1=some y.2)) &&
 (scope.names.all λy=>decide (y.2=.free->(sc.names.lookup y.1=some .cell\/sc.names.lookup y.1=some .free))) && decide NB.Nodup && decide (NB.length=own + ixs.length) &&
 ((List.range ixs.length).all λk=>decide (NB[own + k]? =N[ixs.getD k 0]?) && (match NB[own + k]? with |some x=>decide ((x,NameKind.free)∈scope.names) |none=>true))
def lE {X:Cx}{NB:List Str}{own:Nat}{ixs:List Nat}{scope:Scope}(h:zu X.N X.env.scope NB own ixs scope=true):cI X NB own ixs scope:=by
 unfold zu at h
 simp only[Hl,Iv,Ho,Hn] at h
 obtain⟨⟨⟨⟨⟨⟨h1,h2⟩,h3⟩,h4⟩,h5⟩,h6⟩,h7⟩:=h
 refine⟨h1,h2,h3,h4,h5,h6,λk hk=>⟨(h7 k hk).1,λx hx=>?_⟩⟩
 have:=(h7 k hk).2
 rw[hx] at this
 simpa using this
section
variable {X:Cx}{tg l:Expr}{tl:TE}{K:Frag}{H H1:Hp}{a:Addr}{xs:List V}{σ:St}
def E8 (K:Frag)(tl:TE):TI:=λσ H R=>tl σ H λx H1=>∃a xs,x=.ref a/\((fB K H1 a xs/\R (wc K a) H1)\/(dH K H1 a xs/\R (B5 K a) H1))
end
def Gw (K:Frag){X:Cx}(h:X.K=K:=by rfl):yr X (Cm K):=by subst h;exact fF
def CK (K:Frag)(i j:Nat){X:Cx}{x y:Str}{px py pos:Pos}{k:Nat}(hN:X.N.Nodup)(hi:X.N[i]? =some x)(hj:X.N[j]? =some y)(hx:X.env.scope.names.lookup x=some .local)(hy:X.env.scope.names.lookup y=some .local)(hc:X.calm=true)(hK:X.K=K) :
  PG X (.Tuple [.Name x px,.Name y py] k pos) (Au K 2 (mS (jS i) (mS (jS j) AZ))):=by
 subst hK
 exact nG hc (cO (cn hN hi (Or.inl hx) (Or.inr hx)) (cO (cn hN hj (Or.inl hy) (Or.inr hy)) ky))
section
open PySem.Spec PyProof.Rows
variable {X:Cx}{tg l:Expr}{tl:TE}
def Ci (hl:PE X l tl):PI X tg l (E8 X.K tl):=by
 intro pins s σ H R I h
 refine cf (hl pins s σ H _ I h) λv s1 ⟨x,H1,I1,r1,q1⟩=>?_
 obtain⟨a,xs,e,q⟩:=q1
 subst e
 cases r1
 rcases q with⟨hq,q⟩ | ⟨hq,q⟩
 ·obtain⟨its,rv,p,hz⟩:=I1.list hq
  refine I0 p.isList ?_
  refine⟨s1.heap.objs.size,[s1.heap.objs.size],_,_,H1,rfl,I1.kept (t':=s1.toks) λb o e=>GV _ e,lr a _,⟨_,Hf _ rfl,rfl,rfl⟩,λb hb=>?_,q⟩
  have e:b=s1.heap.objs.size:=by simpa using hb
  subst e
  exact I1.fpOk (GZ _) (I1.hok.fresh (GZ _))
 ·obtain⟨its,rv,p,hz⟩:=I1.tuple hq
  refine wpAny_pyIter_tuple (show s1.heap.IsTuple a its.toArray from p) ?_
  refine⟨s1.heap.objs.size,[s1.heap.objs.size],_,_,H1,rfl,I1.kept (t':=s1.toks) λb o e=>GV _ e,mT a _,⟨_,Hf _ rfl,rfl,rfl⟩,λb hb=>?_,q⟩
  have e:b=s1.heap.objs.size:=by simpa using hb
  subst e
  exact I1.fpOk (GZ _) (I1.hok.fresh (GZ _))
end
section
variable {K:Frag}{H H1 H':Hp}{a:Addr}{xs:List V}{σ:St}
abbrev D5 (J:It)(g:TG)(tb:TS)(D:Ends)(σ:St)(H:Hp):Prop:=∃W:Nat->Nat->St->Hp->Prop,(∃m,W 0 m σ H)/\∀i m σ H,W i m σ H->
   (J.stop i H/\D.nx σ H)\/(J.go i H/\∃N:St->Hp->Prop,(∀σ' H',N σ' H'->∃m',m' < m/\W (i + 1) m' σ' H')/\∀x H',J.yld i H x H'->g x σ H' λσ2 H2=>tb {D with nx:=N,ct:=N,bk:=D.nx} σ2 H2)
def Ag (s:ah H1 H')(hq:fB K H1 a xs\/dH K H1 a xs):fB K H' a xs\/dH K H' a xs:=hq.elim (λq=>.inl (s.seq q)) λq=>.inr (q.grow s.grow)
def Bx {g:TG}{tb:TS}{D:Ends}(hq:fB K H1 a xs\/dH K H1 a xs)(Pv:Nat->St->Hp->Prop)(h0:Pv 0 σ H)(hl:∀i σ H',Pv i σ H'->ah H1 H')
  (hs:∀i x σ H,xs[i]? =some x->Pv i σ H->g x σ H λσ2 H2=>tb {D with nx:=Pv (i + 1),ct:=Pv (i + 1),bk:=D.nx} σ2 H2) (hd:∀σ H,Pv xs.length σ H->D.nx σ H) :
  (fB K H a xs/\D5 (wc K a) g tb D σ H)\/(dH K H a xs/\D5 (B5 K a) g tb D σ H):=
 hq.elim (λq=>.inl ⟨(hl _ _ _ h0).seq q,rB Pv h0 (λi σ H' _ p=>(hl i σ H' p).seq q) hs hd⟩) λq=>.inr ⟨q.grow (hl _ _ _ h0).grow,Bs Pv h0 (λi σ H' _ p=>q.grow (hl i σ H' p).grow) hs hd⟩
def vQ (J:It)(own:Nat)(ixs:List Nat)(g:TG)(tt:TT)(te:TE)(Q:VK)(D:Addr)(σ:St)(H:Hp):Prop:=∃W:Nat->Nat->St->Hp->Prop,(∃m,W 0 m (qO own ixs σ) (upd H D (.lst [])))/\∀i m σ' H',W i m σ' H'->
   (J.stop i H'/\(∃acc,H' D=some (.lst acc))/\Q (.ref D) H')\/
   (J.go i H'/\∃N:St->Hp->Prop,(∀σ2 H2,N σ2 H2->∃m',m' < m/\W (i + 1) m' σ2 H2)/\∀x H2,J.yld i H' x H2->dB g tt te D x σ' H2 N)
structure si (own:Nat)(ixs:List Nat)(wi:TI)(g:TG)(tt:TT)(te:TE)(σ:St)(H:Hp)(Q:VK):Prop where
 out:wi σ H λJ H1=>∀D,H1 D=none->vQ J own ixs g tt te Q D σ H1
def uq {own:Nat}{ixs:List Nat}{wi:TI}{g:TG}{tt:TT}{te:TE}{Q:VK}(h:wi σ H λJ H1=>∀D,H1 D=none->vQ J own ixs g tt te Q D σ H1):si own ixs wi g tt te σ H Q:=⟨h⟩
def pQ {X:Cx}{NB:List Str}{own:Nat}{ixs:List Nat}{scope:Scope}{tg iter elt:Expr}{ifs:List Expr}{wi:TI}{g:TG}{tt:TT}{te:TE}{pos:Pos}(hc:X.calm=true)(S:cI X NB own ixs scope)(hi:PI X tg iter wi)
  (hg:∀C ex s3 H3 pn,PG (g8 X NB scope C ex s3 H3 pn) tg g) (ht:∀C ex s3 H3 pn,zo (g8 X NB scope C ex s3 H3 pn) ifs tt) (he:∀C ex s3 H3 pn,PE (g8 X NB scope C ex s3 H3 pn) elt te)
  (hs:∀x,foldedSetIterable iter X.env x=pure x:=by intro _;rfl):PE X (.ListComp elt [⟨tg,iter,ifs,0⟩] scope pos) (si own ixs wi g tt te):=
 λpins s σ H Q I h=>sx hc S hi hg ht he hs pins s σ H Q I h.out
section
variable {own:Nat}{ixs:List Nat}{g:TG}{tt:TT}{te:TE}{Q:VK}{D:Addr}
def A0 (Pv:Nat->St->Hp->Prop)(h0:Pv 0 (qO own ixs σ) (upd H D (.lst [])))(hl:∀i σ H,i<=xs.length->Pv i σ H->fB K H a xs)
  (hs:∀i x σ H,xs[i]? =some x->Pv i σ H->dB g tt te D x σ H (Pv (i + 1))) (hd:∀σ H,Pv xs.length σ H->(∃acc,H D=some (.lst acc))/\Q (.ref D) H):vQ (wc K a) own ixs g tt te Q D σ H:=v3 Pv h0 hl hs hd
def rb {lo:Int}{n:Nat}(Pv:Nat->St->Hp->Prop)(h0:Pv 0 (qO own ixs σ) (upd H D (.lst [])))
  (hs:∀i σ H,i < n->Pv i σ H->dB g tt te D (.int (lo + i)) σ H (Pv (i + 1))) (hd:∀σ H,Pv n σ H->(∃acc,H D=some (.lst acc))/\Q (.ref D) H):vQ (wZ lo n) own ixs g tt te Q D σ H:=tM Pv h0 hs hd
end
def sF {i:Nat}{te:TE}{D:Addr}{x:V}{N:St->Hp->Prop}(h:te (σ.set i (some x)) H λv H5=>∃acc,H5 D=some (.lst acc)/\acc.length < sizeLine/\N (σ.set i (some x)) (upd H5 D (.lst (acc ++ [v])))):dB (jS i) Dz te D x σ H N:=by
 unfold dB jS Dz
 exact rH h
def zT {i j:Nat}{x y:V}{Q:St->Hp->Prop}(h:dH K H a [x,y])(q:Q ((σ.set i (some x)).set j (some y)) H):Au K 2 (mS (jS i) (mS (jS j) AZ)) (.ref a) σ H Q:=⟨a,_,rfl,h,rfl,x,_,rfl,y,_,rfl,rfl,q⟩
def Fg {c A B:Prop}[Decidable c](h:c)(a:A):if c then A else B:=by rw[GW h];exact a
def FX {c A B:Prop}[Decidable c](h:¬c)(b:B):if c then A else B:=by rw[G8 h];exact b
def take_snoc {α:Type}{l:List α}{i:Nat}{x:α}(h:l[i]? =some x):l.take (i + 1)=l.take i ++ [x]:=by
 rw[Ja,h];rfl
def take_all {α:Type}(l:List α):l.take l.length=l:=IS (GZ _)
end
def dD (n:Nat):(OM.bO n).length=n * n:=by unfold OM.bO;simp
def Bj {n i:Nat}(h:i < n * n):(OM.bO n)[i]? =some (((i / n:Nat):Int),((i % n:Nat):Int)):=by
 unfold OM.bO
 rw[He,List.getElem?_range h];rfl
def Gr {n:Nat}(h:n<=8):n * n<=64:=Ik h h
section
variable {P:Program}{w:World}{K:Frag}{mg:Str->Option Value}{base:Heap}
def uP (K:Frag):Sp:=λvs H Q _=>∃n:Nat,vs= [.int n]/\1<=n/\n<=8/\∀H' l ws,ah H H'->H l=none->H' l=some (.lst ws)->aI K H' ws (OM.bO n)->Q (.ref l) H'
def AD:aH ["many"] ["many"] (ar iN):=⟨rfl,rfl,rfl,by decide +kernel,rfl,by decide +kernel,by decide +kernel⟩
def EF:(["number","many"]:List Str).Nodup:=by decide +kernel
def xO {f:Addr}{fd:FuncData}(F:Fn K mg "every_pair" iN ["many"] f fd)(B:Bt mg):fo P w K mg base Dx 1 f fd ["many"] (uP K):=by
 refine F.F.ok AD (λvs H Q E h=>?_) (λcdv A outer s H vs Q E hr h=>?_)
 ·obtain⟨n,rfl,_⟩:=h;rfl
 ·obtain⟨n,rfl,h1,h8,k⟩:=h
  refine⟨_,gK (lJ (pQ (NB:=["number","many"]) (own:=1) (ixs:=[0]) rfl (lE (by kernel_rfl)) (jz rfl B.range (aK (rf gW (pv 0) (pv 0)) bq))
   (λC ex s3 H3 pn=>cn (i:=0) EF rfl (Or.inl rfl) (hf:=Or.inr rfl)) (λC ex s3 H3 pn=>pS)
   (λC ex s3 H3 pn=>tG (aK (rf kU (pv 0) (pv 1)) (aK (rf j7 (pv 0) (pv 1)) bq))))),?_⟩
  have hn:=Gr h8
  have e0:((n:Int) * (n:Int))=((n * n:Nat):Int):=by rw[Int.natCast_mul]
  refine uq ⟨_,rfl,_,rfl,_,_,rfl,rfl,.inl ⟨by omega,by omega⟩,_,rfl,by rw[e0];omega,by rw[e0];omega,λD hD=>?_⟩
  rw[e0,HV]
  refine rb (λi σ' H'=>(∃v,σ'= [v,some (.int n)])/\ah H H'/\∃vs,H' D=some (.lst vs)/\aI K H' vs ((OM.bO n).take i)) ⟨⟨none,rfl⟩,(ah.refl H).put hD,[],av,.nil⟩ ?_ ?_
  ·rintro i σ' H' hi ⟨⟨v,rfl⟩,s1,vs,hv,hp⟩
   have hn0:(0:Int) < (n:Int):=by omega
   refine sF ⟨_,rfl,_,rfl,_,_,rfl,rfl,⟨hn0,by omega⟩,_,rfl,_,rfl,_,_,rfl,rfl,hn0,by show 2<=sizeLine;rw[HB];omega,λp hp0=>?_⟩
   have hpD:D≠p:=aB hv hp0
   have hl:=hp.len
   refine⟨vs,by rw[au hpD];exact hv,?_,⟨_,rfl⟩,?_,vs ++ [.ref p],av,?_⟩
   ·rw[hl,Ir,HB];rw[dD];omega
   ·exact (s1.put (s1.free hp0)).put hD
   ·rw[take_snoc (Bj hi)]
    have g1:fU H' (upd H' p (.tup [.int ((0 + (i:Int)) / n),.int ((0 + (i:Int)) % n)])):=fU.new hp0
    have g2:∀o,fU (upd H' p (.tup [.int ((0 + (i:Int)) / n),.int ((0 + (i:Int)) % n)])) (upd (upd H' p (.tup [.int ((0 + (i:Int)) / n),.int ((0 + (i:Int)) % n)])) D o):=λo=>fU.list (by rw[au hpD];exact hv)
    refine aI.snoc ?_ (hp.grow (g1.trans (g2 _)))
    refine (dH.grow ?_ (g2 _))
    refine .inl (.inl ?_)
    rw[av,Ip];rfl
  ·rintro σ' H' ⟨_,s1,vs,hv,hp⟩
   refine⟨⟨_,hv⟩,k H' D vs s1 hD hv ?_⟩
   rw[<-dD n,take_all] at hp
   exact hp
end
end RO
end
namespace RO
open PySem L2
structure TabAt (n:Nat)(M:OM.Tb)(L:Addr)(r:Nat->Addr)(H:Hp):Prop where
 top:H L=some (.lst ((List.range n).map λi=>V.ref (r i)))
 row:∀i,i < n->H (r i)=some (.lst ((List.range n).map λj=>V.bl (M i j)))
 inj:∀i j,i < n->j < n->r i=r j->i=j
 ne:∀i,i < n->r i≠L
def vi {n x:Nat}(h:x < n):xC n (x:Int)=some x:=by
 unfold xC;rw[GW (by omega),GW (by omega)];simp
def zj {α:Type}{xs:List α}{x:Nat}(h:x < xs.length):j9 xs (x:Int)=xs[x]?:=by
 unfold j9;rw[vi h];rfl
def fk {f:Nat->V}{n x:Nat}(h:x < n):j9 ((List.range n).map f) (x:Int)=some (f x):=by
 rw[zj (by simpa using h),He,List.getElem?_range h];rfl
def oV {f:Nat->V}{n x:Nat}(h:x < n):xC ((List.range n).map f).length (x:Int)=some x:=by
 rw[Hd,IK];exact vi h
def xt {f:Nat->V}{n y:Nat}{v:V}:((List.range n).map f).set y v=(List.range n).map λj=>if j=y then v else f j:=by
 apply JI
 intro i
 by_cases hi:i < n
 ·by_cases e:y=i
  ·subst e;simp[List.getElem?_set,hi]
  ·have e':¬i=y:=λz=>e z.symm
   simp[List.getElem?_set,hi,e,e']
 ·rw[List.getElem?_eq_none (by simp;omega),List.getElem?_eq_none (by simp;omega)]
section
variable {n:Nat}{M:OM.Tb}{L:Addr}{r:Nat->Addr}{H H':Hp}
def TabAt.set (T:TabAt n M L r H){x y:Nat}(hx:x < n):TabAt n (M.set x y) L r (upd H (r x) (.lst (((List.range n).map λj=>V.bl (M x j)).set y (.bl true)))):=by
 refine⟨by rw[au (T.ne x hx).symm];exact T.top,λi hi=>?_,T.inj,T.ne⟩
 by_cases e:i=x
 ·subst e
  rw[av,xt]
  refine congrArg _ (congrArg _ (IM λj _=>?_))
  unfold OM.Tb.set
  by_cases c:j=y
  ·simp[c]
  ·simp[c]
 ·rw[au (λz=>e (T.inj i x hi hx z)),T.row i hi]
  refine congrArg _ (congrArg _ (IM λj _=>?_))
  unfold OM.Tb.set;simp[e]
def TabAt.same (T:TabAt n M L r H)(s:ah H H'):TabAt n M L r H':=⟨s _ _ T.top,λi hi=>s _ _ (T.row i hi),T.inj,T.ne⟩
end
def qu {n:Nat}{ps:List (Int×Int)}(w:OM.Wn n ps){p:Int×Int}(h:p∈ps):∃u v:Nat,p=((u:Int),(v:Int))/\u < n/\v < n:=by
 obtain⟨x,y⟩:=p
 have q:=w _ h
 simp only at q
 exact⟨x.toNat,y.toNat,by rw[Int.toNat_of_nonneg q.1.1,Int.toNat_of_nonneg q.2.1],by omega,by omega⟩
def gF {M0 M:OM.Tb}{m:Nat}{D D':Nat->Nat->Prop}(P:OM.Phase M0 M m D)(h:∀a b,D a b↔D' a b):OM.Phase M0 M m D':=λa b=>by rw[P a b,h a b]
def jC {l:List (Int×Int)}{u v a b:Nat}:(((a:Int),(b:Int))∈l\/(a=u/\b=v))↔((a:Int),(b:Int))∈l ++ [((u:Int),(v:Int))]:=by
 rw[Hu,HF,Prod.mk.injEq]
 constructor
 ·rintro (h | ⟨h1,h2⟩)
  ·exact .inl h
  ·exact .inr ⟨by omega,by omega⟩
 ·rintro (h | ⟨h1,h2⟩)
  ·exact .inl h
  ·exact .inr ⟨by omega,by omega⟩
def Aq {M:OM.Tb}{u v a b:Nat}:M.set u v a b=true↔M a b=true\/(a=u/\b=v):=by
 unfold OM.Tb.set
 by_cases c:a=u/\b=v
 ·simp[c]
 ·rw[G8 c];exact⟨.inl,λh=>h.resolve_right c⟩
def DF (n:Nat)(x:V):(List.replicate n [x]).flatten=(List.range n).map λ_=>x:=by
 rw[List.flatten_replicate_singleton,List.map_const',IK]
section
variable {P:Program}{w:World}{K:Frag}{mg:Str->Option Value}{base:Heap}
def yc (K:Frag):Sp:=λvs H Q _=>∃(n:Nat) (a:Addr) (xs:List V) (ps:List (Int×Int)),vs= [.int n,.ref a]/\1<=n/\n<=8/\(fB K H a xs\/dH K H a xs)/\aI K H xs ps/\OM.Wn n ps/\
 ∀H' t ws,ah H H'->H t=none->H' t=some (.tup ws)->aI K H' ws (OM.bu n (OM.Tr (OM.Mem ps)))->Q (.ref t) H'
def eV:aH ["many","pairs","corners","leads","a","b","middle"] ["many","pairs"] (ar kQ):=⟨rfl,rfl,rfl,by decide +kernel,rfl,by decide +kernel,by decide +kernel⟩
def Ei:(["start","many"]:List Str).Nodup:=by decide +kernel
def Ck:(["a","b","leads"]:List Str).Nodup:=by decide +kernel
set_option maxHeartbeats 1000000 in
theorem vW {f g:Addr}{fd gd:FuncData}(F:Fn K mg "closed" kQ ["many","pairs"] f fd)(G:Fn K mg "every_pair" iN ["many"] g gd)(GE:fo P w K mg base Dx 1 g gd ["many"] (uP K))(B:Bt mg):fo P w K mg base Dx 2 f fd ["many","pairs"] (yc K):=by
 refine F.F.ok eV (λvs H Q E h=>?_) (λcdv A outer s H vs Q E hr h=>?_)
 ·obtain⟨n,a,xs,ps,rfl,_⟩:=h;rfl
 ·obtain⟨n,a,xs,ps,rfl,h1,h8,hq,hp,wn,k⟩:=h
  refine⟨_,fX (qt (i:=2) eV.nd rfl (Or.inl rfl) (kH GE hr rfl G.mg G.F.kp G.b .nil Ep (aK (pv 0) bq)))
   (fX (qt (i:=3) eV.nd rfl (Or.inr rfl) (pQ (NB:=["start","many"]) (own:=1) (ixs:=[0]) rfl (lE (by kernel_rfl)) (jz rfl B.range (aK (pv 0) bq))
    (λC ex s3 H3 pn=>cn (i:=0) Ei rfl (Or.inl rfl) (hf:=Or.inr rfl)) (λC ex s3 H3 pn=>pS) (λC ex s3 H3 pn=>rf CG (ze (aK vG bq)) (pv 1))))
   (fX (qE PassesOwn.never rfl (Ci (pv 1)) (nG rfl (cO (cn (i:=4) eV.nd rfl (Or.inl rfl)) (cO (cn (i:=5) eV.nd rfl (Or.inl rfl)) ky)))
    (gK (mO vG (tS (jT fF (pv 3) (pv 4) (λ_ _=>rfl)) (pv 5) set_list))))
   (fX (qE PassesOwn.never rfl (jz rfl B.range (aK (pv 0) bq)) (cn (i:=6) eV.nd rfl (Or.inl rfl))
    (gK (qE PassesOwn.never rfl (ve (pv 2)) (nG rfl (cO (cn (i:=4) eV.nd rfl (Or.inl rfl)) (cO (cn (i:=5) eV.nd rfl (Or.inl rfl)) ky)))
     (gK (BK (PW.pt (zg (tZ (jT fF (jT fF (pv 3) (pv 4) (λ_ _=>rfl)) (pv 6) (λ_ _=>rfl))) (vh (tZ (jT fF (jT fF (pv 3) (pv 6) (λ_ _=>rfl)) (pv 5) (λ_ _=>rfl))))))
      (gK (mO vG (tS (jT fF (pv 3) (pv 4) (λ_ _=>rfl)) (pv 5) set_list))) vC)))))
   (gK (lJ (hW cP rfl B.tuple (by decide +kernel) (aK (pQ (NB:=["a","b","leads"]) (own:=2) (ixs:=[3]) rfl (lE (by kernel_rfl)) (ve (pv 2))
    (λC ex s3 H3 pn=>CK K 0 1 Ck rfl rfl rfl rfl rfl rfl)
    (λC ex s3 H3 pn=>vD (tZ (jT (Gw K) (jT (Gw K) (pv 2) (pv 0) (λ_ _=>rfl)) (pv 1) (λ_ _=>rfl)))) (λC ex s3 H3 pn=>tG (aK (pv 0) (aK (pv 1) bq)))) bq))))))),?_⟩
  have hn:=Gr h8
  have hn0:(0:Int)<=(n:Int):=by omega
  refine⟨_,rfl,n,rfl,h1,h8,λH1 c ws s1 hc0 hc hw=>?_⟩
  have hwl:ws.length=n * n:=by rw[hw.len,dD]
  have gw:OM.Wn n (OM.bO n):=λp hp=>OM.aY.mp hp
  refine uq ?_
  refine⟨_,rfl,n,rfl,by omega,by omega,λD hD=>?_⟩
  rw[HV]
  refine rb (λi σ' H'=>(∃v,σ'= [v,some (.int n)])/\ah H1 H'/\∃r:Nat->Addr,H' D=some (.lst ((List.range i).map λk=>V.ref (r k)))/\
   (∀k,k < i->H' (r k)=some (.lst ((List.range n).map λ_=>V.bl false))/\H1 (r k)=none/\r k≠D)/\∀j k,j < i->k < i->r j=r k->j=k)
   ?_ ?_ ?_
  ·exact⟨⟨none,rfl⟩,(ah.refl H1).put hD,λ_=>0,av,λk hk=>absurd hk (Nat.not_lt_zero _),λj k hj=>absurd hj (Nat.not_lt_zero _)⟩
  ·rintro i σ' H' hi ⟨⟨v,rfl⟩,s2,r,hr0,hr1,hr2⟩
   refine sF ⟨by show 1<=sizeLine;rw[HB];omega,λp hp0=>⟨_,rfl,p,n,[.bl false],rfl,rfl,av,by omega,by omega,by show 1 * (n:Int).toNat<=sizeLine;rw[HB];omega,λq hq0=>?_⟩⟩
   have hqp:q≠p:=by intro e;subst e;rw[av] at hq0;cases hq0
   have hq1:H' q=none:=by rw[au hqp] at hq0;exact hq0
   have hDp:D≠p:=aB hr0 hp0
   have hDq:D≠q:=aB hr0 hq1
   rw[HV,DF]
   refine⟨_,by rw[au hDq,au hDp];exact hr0,by rw[Hd,IK,HB];omega,⟨_,rfl⟩,((s2.put (s2.free hp0)).put (s2.free hq1)).put hD,λk=>if k=i then q else r k,?_,λk hk=>?_,λj k hj hk e=>?_⟩
   ·have e:(List.range i).map (λk=>V.ref (r k))=(List.range i).map (λk=>V.ref (if k=i then q else r k)):=IM λk hk=>by
     have:=Hn.mp hk
     rw[G8 (by omega)]
    rw[av,List.range_succ,Il,e]
    simp
   ·dsimp only
    by_cases e:k=i
    ·rw[GW e]
     exact⟨by rw[au hDq.symm,av],s2.free hq1,hDq.symm⟩
    ·rw[G8 e]
     obtain⟨a1,a2,a3⟩:=hr1 k (by omega)
     exact⟨by rw[au a3,au (aB a1 hq1),au (aB a1 hp0)];exact a1,a2,a3⟩
   ·dsimp only at e
    by_cases ej:j=i
    ·by_cases ek:k=i
     ·omega
     ·rw[GW ej,G8 ek] at e
      exact absurd e.symm (aB (hr1 k (by omega)).1 hq1)
    ·by_cases ek:k=i
     ·rw[G8 ej,GW ek] at e
      exact absurd e (aB (hr1 j (by omega)).1 hq1)
     ·rw[G8 ej,G8 ek] at e
      exact hr2 j k (by omega) (by omega) e
  rintro σ2 H2 ⟨_,s2,r,hr0,hr1,hr2⟩
  refine⟨⟨_,hr0⟩,?_⟩
  have sep:∀i,i < n->H1 (r i)=none:=λi hi=>(hr1 i hi).2.1
  have T0:TabAt n (λ_ _=>false) D r H2:=⟨hr0,λi hi=>(hr1 i hi).1,hr2,λi hi=>(hr1 i hi).2.2⟩
  refine⟨_,rfl,a,xs,rfl,Bx (H1:=H1) (Ag s1 hq) (λi σ' H'=>(∃x y,σ'= [some (.int n),some (.ref a),some (.ref c),some (.ref D),x,y,none])/\ah H1 H'/\∃M,TabAt n M D r H'/\∀u v:Nat,M u v=true↔((u:Int),(v:Int))∈ps.take i)
   ⟨⟨none,none,rfl⟩,s2,_,T0,λu v=>by simp⟩ (λi σ' H' q=>q.2.1) ?_ ?_⟩
  ·rintro i x σ' H' hx ⟨⟨_,_,rfl⟩,s3,M,T,hM⟩
   obtain⟨p,hpi,b,rfl,hb⟩:=(hp.same (s1.trans s3)).at hx
   obtain⟨u,v,rfl,hu,hv⟩:=qu wn (Hi hpi)
   refine zT hb ?_
   refine⟨_,rfl,_,rfl,D,_,u,_,rfl,rfl,.inl (.inl T.top),fk hu,_,rfl,r u,_,v,v,rfl,rfl,T.row u hu,oV hv,⟨_,_,rfl⟩,s3.put (sep u hu),_,T.set hu,λx y=>?_⟩
   rw[take_snoc hpi,<-jC,Aq,hM]
  rintro σ3 H3 ⟨⟨x3,y3,rfl⟩,s3,M3,T3,hM3⟩
  rw[hp.len,take_all] at hM3
  refine⟨_,rfl,n,rfl,by omega,by omega,?_⟩
  rw[HV]
  refine wa (λm σ' H'=>(∃x y z,σ'= [some (.int n),some (.ref a),some (.ref c),some (.ref D),x,y,z])/\ah H1 H'/\∃M,TabAt n M D r H'/\OM.Tab n ps M/\OM.AN M m)
   ⟨⟨_,_,_,rfl⟩,s3,M3,T3,⟨λa b h=>by have:=wn _ ((hM3 a b).mp h);simp only at this;omega,λa b h=>(hM3 a b).mpr h,λa b h=>.one ((hM3 a b).mp h)⟩,λk a b hk=>absurd hk (Nat.not_lt_zero _)⟩ ?_ ?_
  ·rintro m σ' H' hm ⟨⟨_,_,_,rfl⟩,s4,M,T,TT,Th⟩
   rw[Ip]
   refine⟨_,rfl,c,rfl,⟨ws,.inl (.inl (s4 _ _ hc))⟩,rB (xs:=ws) (λi σ' H'=>(∃x y,σ'= [some (.int n),some (.ref a),some (.ref c),some (.ref D),x,y,some (.int m)])/\ah H1 H'/\∃M',TabAt n M' D r H'/\OM.Phase M M' m λu v=>((u:Int),(v:Int))∈(OM.bO n).take i)
    ⟨⟨_,_,rfl⟩,s4,M,T,gF (OM.Phase.start M m) λa b=>by simp⟩ (λi σ' H' _ q=>.inl (.inl (q.2.1 _ _ hc))) ?_ ?_⟩
   ·rintro i x σ' H' hx ⟨⟨_,_,rfl⟩,s5,M',T',Ph⟩
    obtain⟨p,hpi,b,rfl,hb⟩:=(hw.same s5).at hx
    obtain⟨u,v,rfl,hu,hv⟩:=qu gw (Hi hpi)
    refine zT hb ?_
    have st:=Ph.step u v
    refine⟨_,rfl,_,rfl,D,_,u,_,rfl,rfl,.inl (.inl T'.top),fk hu,_,rfl,r u,_,m,_,rfl,rfl,.inl (.inl (T'.row u hu)),fk hm,_,rfl,?_⟩
    by_cases c1:M' u m=true
    ·refine Fg c1 ?_
     refine⟨_,rfl,_,rfl,D,_,m,_,rfl,rfl,.inl (.inl T'.top),fk hm,_,rfl,r m,_,v,_,rfl,rfl,.inl (.inl (T'.row m hm)),fk hv,_,rfl,?_⟩
     by_cases c2:M' m v=true
     ·refine Fg c2 ?_
      rw[GW ⟨c1,c2⟩] at st
      refine⟨_,rfl,_,rfl,D,_,u,_,rfl,rfl,.inl (.inl T'.top),fk hu,_,rfl,r u,_,v,v,rfl,rfl,T'.row u hu,oV hv,⟨_,_,rfl⟩,s5.put (sep u hu),_,T'.set hu,gF st λa b=>?_⟩
      rw[take_snoc hpi];exact jC
     ·refine FX c2 ?_
      rw[G8 λz=>c2 z.2] at st
      refine⟨⟨_,_,rfl⟩,s5,_,T',gF st λa b=>?_⟩
      rw[take_snoc hpi];exact jC
    ·refine FX c1 ?_
     rw[G8 λz=>c1 z.1] at st
     refine rl ⟨⟨_,_,rfl⟩,s5,_,T',gF st λa b=>?_⟩
     rw[take_snoc hpi];exact jC
   ·rintro σ' H' ⟨⟨_,_,rfl⟩,s5,M',T',Ph⟩
    rw[hw.len,take_all] at Ph
    have dn:=Ph.done (n:=n) (λa b ha hb=>OM.aY.mpr ⟨⟨by simp,by simp;omega⟩,by simp,by simp;omega⟩) TT.inn Th
    exact⟨⟨_,_,_,rfl⟩,s5,M',T',TT.phase Ph,dn.1⟩
  rintro σ4 H4 ⟨⟨x4,y4,z4,rfl⟩,s4,M,T,TT,Th⟩
  refine uq ⟨_,rfl,c,rfl,⟨ws,.inl (.inl (s4 _ _ hc))⟩,λD' hD'=>A0 (xs:=ws) (λi σ' H'=>(∃x y,σ'= [x,y,some (.ref D)])/\ah H4 H'/\∃vs,H' D'=some (.lst vs)/\aI K H' vs (((OM.bO n).take i).filter λp=>M p.1.toNat p.2.toNat))
   ⟨⟨_,_,rfl⟩,(ah.refl H4).put hD',[],av,.nil⟩ (λi σ' H' _ q=>.inl (.inl (q.2.1 _ _ (s4 _ _ hc)))) ?_ ?_⟩
  ·rintro i x σ' H' hx ⟨⟨_,_,rfl⟩,s5,vs,hv,hpv⟩
   obtain⟨p,hpi,b,rfl,hb⟩:=(hw.same (s4.trans s5)).at hx
   obtain⟨u,v,rfl,hu,hv'⟩:=qu gw (Hi hpi)
   refine zT hb ?_
   have T':=T.same s5
   refine⟨_,rfl,_,rfl,D,_,u,_,rfl,rfl,.inl (.inl T'.top),fk hu,_,rfl,r u,_,v,_,rfl,rfl,.inl (.inl (T'.row u hu)),fk hv',_,rfl,?_⟩
   by_cases c1:M u v=true
   ·refine Fg c1 ?_
    refine⟨_,rfl,_,rfl,by show 2<=sizeLine;rw[HB];omega,λp hp0=>?_⟩
    have hpD:D'≠p:=aB hv hp0
    refine⟨vs,by rw[au hpD];exact hv,?_,⟨_,_,rfl⟩,(s5.put (s5.free hp0)).put hD',_,av,?_⟩
    ·rw[hpv.len]
     refine Nat.lt_of_le_of_lt (HR ..) ?_
     rw[Ir,dD,HB];omega
    ·rw[take_snoc hpi,List.filter_append,List.filter_cons_of_pos (by simpa using c1),List.filter_nil]
     have g1:fU H' (upd H' p (.tup [.int u,.int v])):=fU.new hp0
     have g2:∀o,fU (upd H' p (.tup [.int u,.int v])) (upd (upd H' p (.tup [.int u,.int v])) D' o):=λo=>fU.list (by rw[au hpD];exact hv)
     refine aI.snoc ?_ (hpv.grow (g1.trans (g2 _)))
     exact dH.grow (.inl (.inl av)) (g2 _)
   ·refine FX c1 ?_
    refine⟨⟨_,_,rfl⟩,s5,vs,hv,?_⟩
    rw[take_snoc hpi,List.filter_append,List.filter_cons_of_neg (by simpa using c1),List.filter_nil,IV]
    exact hpv
  ·rintro σ' H' ⟨_,s5,vs,hv,hpv⟩
   rw[hw.len,take_all] at hpv
   refine⟨⟨_,hv⟩,D',vs,rfl,.inl ⟨.inl (.inl hv),λt ht=>?_⟩⟩
   have sA:ah H H':=(s1.trans s4).trans s5
   refine k _ t vs (sA.put (sA.free ht)) (sA.free ht) av ?_
   have e:((OM.bO n).filter λp=>M p.1.toNat p.2.toNat)=OM.bu n (OM.Tr (OM.Mem ps)):=by
    unfold OM.bu
    refine JJ λp hp=>?_
    obtain⟨u,v,rfl,hu,hv⟩:=qu gw hp
    have:=TT.all wn Th u v
    simp only[HV]
    rw[HZ,this]
    simp
   rw[e] at hpv
   exact hpv.grow (fU.new ht)
end
end RO
namespace RO
open PySem L2 RM
section
variable {P:Program}{w:World}{K:Frag}{mg:Str->Option Value}{base:Heap}{ca:Str->Addr}
def GO {k:Nat}{f:Addr}{fd:FuncData}{ps:List Str}{sp:Sp}(F:fo P w K mg base Dx k f fd ps sp):fo P w K mg base (lW P w) k f fd ps sp:=
 ⟨F.len,λA outer s H args us vs Q E hr he hb hv hs=>JB (F.run A outer s H args us vs Q E hr he hb hv hs) λr s' h=>by
  cases r with
  |ok x=>cases x <;> exact h
  |error e=>exact h.elim⟩
def tu {G H:Hp}(s:ah G H){ws:List V}{ps:List Pr}(h:aI K H ws ps):aI K (kO G H) ws ps:=Paired.mapP h λv p ⟨a,e,q⟩=>⟨a,e,kq s q⟩
def nW {ds:List D}(h:cG ds≠.bad):∃(n:Nat) (d:D) (ps:List Pr),ds= [.int n,d]/\jk d=some (ps.map ak)/\1<=n/\n<=8/\OM.Wn n ps/\cG ds=.ok (.tuple ((OM.bu n (OM.Tr (OM.Mem ps))).map ak)) false:=by
 unfold cG at h
 split at h
 ·rename_i n d
  cases q:jk d with
  |none=>rw[q] at h;exact absurd rfl h
  |some es=>
   rw[q] at h
   dsimp only at h
   cases q2:dM es with
   |none=>rw[q2] at h;exact absurd rfl h
   |some ps=>
    rw[q2] at h
    dsimp only at h
    by_cases c:1<=n/\n<=8/\OM.Wn n.toNat ps
    ·have e:((n.toNat:Nat):Int)=n:=by omega
     refine⟨n.toNat,d,ps,by rw[e],by rw[q,ip q2],by omega,by omega,c.2.2,?_⟩
     unfold cG
     dsimp only
     rw[q]
     dsimp only
     rw[q2]
     dsimp only
     rw[GW c]
    ·rw[G8 c] at h;exact absurd rfl h
 ·exact absurd rfl h
def tH {f g:Addr}{fd gd:FuncData}(F:jL K mg "closed" kQ ["many","pairs"] f fd)(E:jL K mg "every_pair" iN ["many"] g gd)(B:jM mg):dI P w K mg base ca "closed" ["many","pairs"] 3 cG:=by
 refine⟨⟨f,fd,F.mg,F.F.kp,F.b,((GO (vW F E (xO E B) B)).mono (by decide)).imp ?_⟩,λds h=>?_⟩
 ·rintro vs H Q X ⟨G,ds,s,hl,r,h⟩
  have hb:cG ds≠.bad:=λz=>by rw[z] at h;exact h
  obtain⟨n,d,ps,rfl,hd,h1,h8,wn,e⟩:=nW hb
  rw[e] at h
  cases r with
  |cons r1 r=>
   cases r with
   |cons r2 r=>
    cases r
    cases r1
    obtain⟨a,xs,rfl,hq,hr⟩:=(j6.seq (B:=none) (G:=G) (H:=G) (.inl r2) hd (ah.refl _))
    refine⟨n,a,xs,ps,rfl,h1,h8,hq.elim (λq=>.inl (s.seq q)) (λq=>.inr (q.grow s.grow)),(hr.pairs).grow s.grow,wn,λH' t ws hh ht ht' hp=>?_⟩
    have s2:=s.trans hh
    refine h (.ref t) (kO G H') H' hh oO (sR s2) (λb m hb=>by rw[vt hh m];exact hb) ?_
    exact .tup (kq s2 (.inl (.inl ht'))) (aI.rps (tu s2 hp))
 ·obtain⟨n,d,ps,rfl,_⟩:=nW h
  rfl
end
end RO
namespace HD
open PySem PySem.W
noncomputable abbrev zF:=@PySem.W.Fast.tw10156331382660048174
noncomputable abbrev Ca:=@PySem.W.Fast.tw11892475500146522536
noncomputable abbrev F0:=@PySem.W.Fast.tw6613529449190102663
noncomputable abbrev CD:=@PySem.W.Fast.tw14364793385576792824
noncomputable abbrev B4:=@PySem.W.Fast.tw17154629097778926822
noncomputable abbrev zq:=@PySem.W.Fast.tw12822647523644345616
noncomputable def zE (p:Program):Thread:=
 ⟨do
  let code <-B4 p.main
  let frame <-zq code mainNs mainNs
  let _ <-run (.body (behindTheImports p) {scope:=p.main.scope,locals:=mainNs,globals:=mainNs,cells:=[],code,frame:=some frame})
  ret .none,
  .builtin "claim.caller" {},default,[]⟩
def ye (p:Program):topStub p=zE p:=by
 unfold topStub zE B4 zq
 rw[<-PySem.W.Fast.te17154629097778926822,<-PySem.W.Fast.te12822647523644345616]
noncomputable def mE (p:Program)(w:World)(n₀:Nat)(ann:Option Value):Nat->SharedT->Thread->Option SharedT
 | 0,_,_=>none
 |n + 1,s,t=>match through t with
  |true=>some s
  |false=>match F0 n₀ ann t with
   |false=>none
   |true=>match zF (Ca CD) p w s t with
    |some (s',t')=>mE p w n₀ ann n s' t'
    |none=>none
theorem oD {p:Program}{w:World}{n₀:Nat}{ann:Option Value}:∀{n:Nat} {s s':SharedT} {t:Thread},mE p w n₀ ann n s t=some s'->topRun treeTable p w n₀ ann n s.abs t=some s'.abs
 | 0,_,_,_,h=>by cases h
 |n + 1,s,s',t,h=>by
  unfold mE at h
  unfold topRun
  cases ht:through t with
  |true=>rw[ht] at h;cases h;rfl
  |false=>
   rw[ht] at h
   have hq:F0 n₀ ann t=stepOk n₀ ann t:=by unfold F0;rw[<-PySem.W.Fast.te6613529449190102663]
   dsimp only at h
   rw[hq] at h
   cases hk:stepOk n₀ ann t with
   |false=>rw[hk] at h;cases h
   |true=>
    rw[hk] at h
    have hq:zF (Ca CD) p w s t=stepT (denote treeTable) p w s t:=by unfold zF Ca CD;rw[<-PySem.W.Fast.te10156331382660048174,<-PySem.W.Fast.te11892475500146522536,<-PySem.W.Fast.te14364793385576792824]
    dsimp only at h
    rw[hq] at h
    cases hs:stepT (denote treeTable) p w s t with
    |none=>rw[hs] at h;cases h
    |some r=>obtain⟨s₂,t₂⟩:=r;rw[hs] at h;rw[stepT_spec hs];exact oD h
def treeOf (l:List Obj):BT:=(l.foldl (λ(x:BT×Nat) o=>(x.1.ins x.2 o,x.2 + 1)) (.nil,0)).1
noncomputable def x6 (P:Params):BT:=treeOf (boot_heap P).objs.toList
abbrev rD:Nat:=11
abbrev yI:Life:={}
def boot_abs (P:Params):absHeap (x6 P) rD yI=boot_heap P:=by kernel_rfl
def wL (w:World):((boot_heap w.params).isNs mainGlobals && (Array.mk ([]:List GenState)).size == 0,(boot_heap w.params).objs.size,(boot_heap w.params).nsMap mainGlobals "__annotations__")=(true,rD,some (.ref 6)):=by kernel_rfl
noncomputable def yv (w:World)(os:OsState):SharedT:=⟨x6 w.params,rD,yI,Array.mk [],boot_drawn,boot_toks,os⟩
noncomputable def BU (p:Program)(w:World)(s:Shared):Bool:=staticsOk (importedModules p.main.body) (boot_heap w.params) s.heap && namesBound p s.heap && gensDone s && laidKept (boot_heap w.params) s.heap
def A4 {p q:Program}{loose:List Str}{Xt:Shared->Bool}{α:Type}{Yf:Shared->α}{Ya:World->α}{N:Nat}{g0:Bool}
  (e:opening p=plainProg p.main.scope.names) (hN:Nat.ble 600 N=true) (f:∀s,fenceModules? p s=some s)
  (run:∀(w:World) (os:OsState),(mE p w rD (some (.ref 6)) N (yv w os) (zE p)).map (λs=>(BU p w s.abs,openSeen q loose (importedModules p.main.body) Xt g0 s.abs,Yf s.abs))=some (true,openGood q loose,Ya w)):LeftO p q loose Xt Yf Ya N g0:=λw=>by
 obtain⟨⟨h,gs,d,k,os⟩,e,e'⟩:=Option.map_eq_some_iff.mp (boot_open e hN f w)
 obtain⟨rfl,rfl,rfl,rfl⟩:h=boot_heap w.params/\gs=Array.mk []/\d=boot_drawn/\k=boot_toks:=by simpa using e'
 obtain⟨z1,z2,z3⟩:_/\_/\_:=by simpa only [Prod.mk.injEq] using wL w
 obtain⟨s',r,ls⟩:=Option.map_eq_some_iff.mp (run w os)
 obtain⟨l1,l2,l3⟩:_/\_/\_:=by simpa only [Prod.mk.injEq] using ls
 have r:=oD r
 have ha:(yv w os).abs=⟨boot_heap w.params,Array.mk [],boot_drawn,boot_toks,os⟩:=by
  show Shared.mk (absHeap (x6 w.params) rD yI) _ _ _ _=_
  rw[boot_abs]
  rfl
 rw[ha,<-ye] at r
 have t:topFrom treeTable p w N ⟨boot_heap w.params,Array.mk [],boot_drawn,boot_toks,os⟩=some s'.abs:=by
  unfold topFrom
  dsimp only
  rw[z1,z2,z3,r]
  show (match BU p w s'.abs with |true=>_ |false=>_)=_
  rw[l1]
 unfold openEnds
 rw[e]
 show (topFrom treeTable p w N _).map _=_
 rw[t]
 exact congrArg some (Prod.ext l2 l3)
end HD
section
namespace RO
open PySem L2 RM
def u7 (K:Frag):Sp:=λvs H Q _=>∃(a:Addr) (ns:List Int),vs= [.ref a]/\fB K H a (ns.map V.int)/\∀H',ah H H'->Q (.bl true) H'
def Ce {K:Frag}{ca:Str->Addr}(vs:List V)(H:Hp)(Q:VK)(E:XK)(h:u7 K vs H Q E):z8 K ca 1 CZ vs H Q E:=by
 obtain⟨a,ns,rfl,hS,q⟩:=h
 refine⟨H,[bW ns],ah.refl _,rfl,.cons (.scr hS) .nil,?_⟩
 rw[D1]
 intro v G' H' s1 s2 s3 s4 fv
 have fv:Rp K G' v (.bool true):=fv
 cases fv
 exact q H' s1
def tW:aV "is_whole" RQ.iD ["thing"]:=λ_ _ _ _ _ _=>xB λ_=>rfl
def uv:aV "is_below" RQ.iM ["thing","bound"]:=λ_ _ _ _ _ _=>ln2 λ_ _=>rfl
def wA:aV "is_many" RQ.jI ["thing"]:=λ_ _ _ _ _ _=>xB λ_=>rfl
def xj:aV "is_pair" RQ.jH ["thing","many"]:=λ_ _ _ _ _ _=>ln2 λ_ _=>rfl
def qG:aV "every_pair" RQ.dE ["many"]:=λ_ _ _ _ _ _=>xB λ_=>rfl
def yX:aV "closed" kQ ["many","pairs"]:=λ_ _ _ _ _ _=>ln2 λ_ _=>rfl
def uo:aV "has_ring" RQ.iL ["pairs"]:=λ_ _ _ _ _ _=>xB λ_=>rfl
def uk:aV "is_order" RQ.iW ["thing"]:=λ_ _ _ _ _ _=>xB λ_=>rfl
def pD:aV "need_order" RQ.fE ["thing"]:=λ_ _ _ _ _ _=>xB λ_=>rfl
def rG:aV "are_apart" RQ.gL ["order","a","b"]:=λ_ _ _ _ _ _=>EY λ_ _ _=>rfl
def BC:aV "turns" RQ.mz ["order"]:=λ_ _ _ _ _ _=>xB λ_=>rfl
def wJ:aV "is_turn" RQ.jG ["thing","order"]:=λ_ _ _ _ _ _=>ln2 λ_ _=>rfl
def ng:aV "forced_among" RQ.dv ["table","many","turn"]:=λ_ _ _ _ _ _=>EY λ_ _ _=>rfl
def qe:aV "turn_table" RQ.fK ["order"]:=λ_ _ _ _ _ _=>xB λ_=>rfl
def yp:aV "forced" RQ.kn ["order","turn"]:=λ_ _ _ _ _ _=>ln2 λ_ _=>rfl
def rJ:aV "_law_cell" RQ.gJ ["script","k"]:=λ_ _ _ _ _ _=>ln2 λ_ _=>rfl
def tw:aV "_law_mix" RQ.dQ ["cell","k"]:=λ_ _ _ _ _ _=>ln2 λ_ _=>rfl
def uz:aV "_law_box" RQ.iY ["script","k"]:=λ_ _ _ _ _ _=>ln2 λ_ _=>rfl
def sS:aV "_law_take" RQ.gA ["box","many"]:=λ_ _ _ _ _ _=>ln2 λ_ _=>rfl
def l7:aV "_law_mixed_up" RQ.cS ["box","some"]:=λ_ _ _ _ _ _=>ln2 λ_ _=>rfl
def oo:aV "_law_closed" RQ.eS ["pairs"]:=λ_ _ _ _ _ _=>xB λ_=>rfl
def pX:aV "_law_order" RQ.fD ["box","most"]:=λ_ _ _ _ _ _=>ln2 λ_ _=>rfl
def qV:aV "_law_apart" RQ.fM ["order","a","b"]:=λ_ _ _ _ _ _=>EY λ_ _ _=>rfl
def pY:aV "_law_turns" RQ.fH ["order"]:=λ_ _ _ _ _ _=>xB λ_=>rfl
def su:aV "_law_told" RQ.gB ["many","rows"]:=λ_ _ _ _ _ _=>ln2 λ_ _=>rfl
def n6:aV "_law_forces" RQ.eR ["order","one","other"]:=λ_ _ _ _ _ _=>EY λ_ _ _=>rfl
def qS:aV "_law_crown" RQ.fL ["box"]:=λ_ _ _ _ _ _=>xB λ_=>rfl
def lK:aV "_law_any_order" RQ.cL ["box","most"]:=λ_ _ _ _ _ _=>ln2 λ_ _=>rfl
def all_mk {l:PySem.W.OpenLaw}{w:World}{K:Frag}{h:Heap}{mg:Str->Option Value}{fa f29 x0 x1:Addr}(X:K.In h)(G:h.Ns mainGlobals mg)(hfa:mg "law"=some (.ref fa))
  {od29 an29:Option Addr} {sl29:Array (Option Value)} {oc29 kV29 dc29 pm29 cd29 ct29:Value} {tMOST_THINGS:Tok}
  (F1:Fo K mg "is_whole" RQ.iD ["thing"])
  (F2:Fo K mg "is_below" RQ.iM ["thing","bound"])
  (F3:Fo K mg "is_many" RQ.jI ["thing"])
  (F4:Fo K mg "is_pair" RQ.jH ["thing","many"])
  (F5:Fo K mg "every_pair" RQ.dE ["many"])
  (F6:Fo K mg "closed" kQ ["many","pairs"])
  (F7:Fo K mg "has_ring" RQ.iL ["pairs"])
  (F8:Fo K mg "is_order" RQ.iW ["thing"])
  (F9:Fo K mg "need_order" RQ.fE ["thing"])
  (F10:Fo K mg "are_apart" RQ.gL ["order","a","b"])
  (F11:Fo K mg "turns" RQ.mz ["order"])
  (F12:Fo K mg "is_turn" RQ.jG ["thing","order"])
  (F13:Fo K mg "forced_among" RQ.dv ["table","many","turn"])
  (F14:Fo K mg "turn_table" RQ.fK ["order"])
  (F15:Fo K mg "forced" RQ.kn ["order","turn"])
  (F16:Fo K mg "_law_cell" RQ.gJ ["script","k"])
  (F17:Fo K mg "_law_mix" RQ.dQ ["cell","k"])
  (F18:Fo K mg "_law_box" RQ.iY ["script","k"])
  (F19:Fo K mg "_law_take" RQ.gA ["box","many"])
  (F20:Fo K mg "_law_mixed_up" RQ.cS ["box","some"])
  (F21:Fo K mg "_law_closed" RQ.eS ["pairs"])
  (F22:Fo K mg "_law_order" RQ.fD ["box","most"])
  (F23:Fo K mg "_law_apart" RQ.fM ["order","a","b"])
  (F24:Fo K mg "_law_turns" RQ.fH ["order"])
  (F25:Fo K mg "_law_told" RQ.gB ["many","rows"])
  (F26:Fo K mg "_law_forces" RQ.eR ["order","one","other"])
  (F27:Fo K mg "_law_crown" RQ.fL ["box"])
  (F28:Fo K mg "_law_any_order" RQ.cL ["box","most"])
  (a29:PySem.W.nsIn K mainGlobals "law"=some (some (.ref f29))) (l29:K.lookup f29=some ⟨oc29,od29,.func (PySem.W.fnOf "law" "law" (gH RQ.jO) (cq RQ.jO) (ar RQ.jO) .none kV29 dc29 pm29 an29 cd29 ct29),sl29⟩) (c29:PySem.W.codeIn K cd29 "law"=true) (k29:PySem.W.keepIn K (.ref f29)=true)
  (zB:FD K=true)
  (yMOST_THINGS:PySem.W.nsIn K mainGlobals "MOST_THINGS"=some (some (.int 8 tMOST_THINGS)))
  (m0:PySem.W.nsIn K mainGlobals "NoOrder"=some (some (.ref x0)))
  (e0:PySem.W.excIn K x0 [.type "ValueError",.type "Exception",.type "BaseException",.type "object"] "ValueError.__new__"=true)
  (m1:PySem.W.nsIn K mainGlobals "NoTurns"=some (some (.ref x1)))
  (e1:PySem.W.excIn K x1 [.type "ValueError",.type "Exception",.type "BaseException",.type "object"] "ValueError.__new__"=true)
  (np:sE K=true)
  :∃fd:FuncData,(∀(s:Shared) (v:Value),BindsTo s fd ⟨[v],[]⟩ [("script",v)])/\∀base:Heap,K.In base->base.Ns mainGlobals mg->fo l.prog w K mg base (lW l.prog w) 9 fa fd ["script"] (u7 K):=by
 have e:=hfa.symm.trans (Jy X G a29)
 cases e
 have B:jM mg:=DH X G zB
 have gX:=Jy X G yMOST_THINGS
 obtain⟨f1,d1,bB⟩:=F1.ex
 obtain⟨f2,d2,c8⟩:=F2.ex
 obtain⟨f3,d3,fT⟩:=F3.ex
 obtain⟨f4,d4,bG⟩:=F4.ex
 obtain⟨f5,d5,b8⟩:=F5.ex
 obtain⟨f6,d6,hU⟩:=F6.ex
 obtain⟨f7,d7,eG⟩:=F7.ex
 obtain⟨f8,d8,dN⟩:=F8.ex
 obtain⟨f9,d9,a8⟩:=F9.ex
 obtain⟨f10,d10,bg⟩:=F10.ex
 obtain⟨f11,d11,jx⟩:=F11.ex
 obtain⟨f12,d12,fS⟩:=F12.ex
 obtain⟨f13,d13,bZ⟩:=F13.ex
 obtain⟨f14,d14,cC⟩:=F14.ex
 obtain⟨f15,d15,fV⟩:=F15.ex
 obtain⟨f16,d16,dg⟩:=F16.ex
 obtain⟨f17,d17,dY⟩:=F17.ex
 obtain⟨f18,d18,eB⟩:=F18.ex
 obtain⟨f19,d19,aA⟩:=F19.ex
 obtain⟨f20,d20,aC⟩:=F20.ex
 obtain⟨f21,d21,cj⟩:=F21.ex
 obtain⟨f22,d22,cH⟩:=F22.ex
 obtain⟨f23,d23,aR⟩:=F23.ex
 obtain⟨f24,d24,cF⟩:=F24.ex
 obtain⟨f25,d25,dc⟩:=F25.ex
 obtain⟨f26,d26,cg⟩:=F26.ex
 obtain⟨f27,d27,cJ⟩:=F27.ex
 obtain⟨f28,d28,bA⟩:=F28.ex
 have U29:=uy (st:=RQ.jO) l29 c29 k29
 have EE:jL K mg "law" RQ.jO ["script"] fa _:=⟨Jy X G a29,U29,U29.binds (ps:=["script"]) λ_ _ _ _ _ _=>xB λ_=>rfl⟩
 obtain⟨ca,hca⟩:∃ca:Str->Addr,ca "NoOrder"=x0/\ca "NoTurns"=x1:=⟨λs=>if s="NoOrder" then x0 else if s="NoTurns" then x1 else 0,by first |rfl |decide |simp,by first |rfl |decide |simp⟩
 have ic:Exc K mg ca "NoOrder":=⟨by rw[hca.1];exact Jy X G m0,by rw[hca.1];exact e0⟩
 have ig:Exc K mg ca "NoTurns":=⟨by rw[hca.2];exact Jy X G m1,by rw[hca.2];exact e1⟩
 refine⟨PySem.W.fnOf "law" "law" (gH RQ.jO) (cq RQ.jO) (ar RQ.jO) .none kV29 dc29 pm29 an29 cd29 ct29,λs v=>.of_eq rfl,λbase _ _=>?_⟩
 have dS:=(RQ.qc (P:=l.prog) (w:=w) (base:=base) (ca:=ca) bB B).imp Ac
 have gu:=(RQ.qz (P:=l.prog) (w:=w) (base:=base) (ca:=ca) c8 B dS).imp Ab
 have lH:=(RQ.sr (P:=l.prog) (w:=w) (base:=base) (ca:=ca) fT B dS gX).imp C3
 have uh:=RQ.l0 (P:=l.prog) (w:=w) (base:=base) (ca:=ca) bG B gu
 have h9:=(RQ.l0 (P:=l.prog) (w:=w) (base:=base) (ca:=ca) bG B gu).imp CJ
 have i0:=RQ.mV (P:=l.prog) (w:=w) (base:=base) (ca:=ca) b8 B
 have m6:=tH (P:=l.prog) (w:=w) (base:=base) (ca:=ca) hU b8 B
 have jY:=(RQ.p4 (P:=l.prog) (w:=w) (base:=base) (ca:=ca) eG B).imp B8
 have j8:=(RQ.qJ (P:=l.prog) (w:=w) (base:=base) (ca:=ca) dN B lH h9 m6 jY).imp uB
 have cD:=(RQ.nI (P:=l.prog) (w:=w) (base:=base) (ca:=ca) a8 B j8 ic).imp Ae
 have di:=RQ.og (P:=l.prog) (w:=w) (base:=base) (ca:=ca) bg B
 have qB:=RQ.we (P:=l.prog) (w:=w) (base:=base) (ca:=ca) jx B cD i0 di
 have lF:=RQ.rY (P:=l.prog) (w:=w) (base:=base) (ca:=ca) fS B uh di
 have gc:=RQ.lq (P:=l.prog) (w:=w) (base:=base) (ca:=ca) bZ B np
 have iR:=RQ.nz (P:=l.prog) (w:=w) (base:=base) (ca:=ca) cC B qB np
 have ko:=RQ.uC (P:=l.prog) (w:=w) (base:=base) (ca:=ca) fV B cD lF gc iR ig
 have jq:=RQ.ot (P:=l.prog) (w:=w) (base:=base) (ca:=ca) dg B
 have j4:=RQ.pR (P:=l.prog) (w:=w) (base:=base) (ca:=ca) dY B
 have jX:=RQ.p6 (P:=l.prog) (w:=w) (base:=base) (ca:=ca) eB B jq j4
 have aP:=RQ.nY (P:=l.prog) (w:=w) (base:=base) aA B
 have aS:=RQ.kG (P:=l.prog) (w:=w) (base:=base) aC B aP
 have gV:=RQ.me (P:=l.prog) (w:=w) (base:=base) (ca:=ca) cj B
 have iQ:=RQ.nc (P:=l.prog) (w:=w) (base:=base) (ca:=ca) cH B gV aP aS
 have b6:=RQ.nF (P:=l.prog) (w:=w) (base:=base) (ca:=ca) aR B
 have iK:=RQ.nR (P:=l.prog) (w:=w) (base:=base) (ca:=ca) cF B b6
 have jj:=RQ.oh (P:=l.prog) (w:=w) (base:=base) (ca:=ca) dc B
 have gR:=RQ.mr (P:=l.prog) (w:=w) (base:=base) (ca:=ca) cg B b6
 have iV:=RQ.m8 (P:=l.prog) (w:=w) (base:=base) cJ B aP aS
 have dZ:=RQ.jV (P:=l.prog) (w:=w) (base:=base) (ca:=ca) bA B jj aP iV aS iQ
 have ED:=RQ.AI (P:=l.prog) (w:=w) (base:=base) (ca:=ca) EE B jX iK gR ko dZ
 exact fo.imp (sp:=z8 K ca 1 CZ) ED Ce
def walk {l:PySem.W.OpenLaw}{q:Program}{loose:List Str}{XP:(Str->Option Value)->Heap->Prop}{YP:World->Heap->Prop}{d:DefRec}{K:Params->Frag}(hn:l.most=some 63)(hdf:d.params.defaults= [])(hi:PyProof.Rows.importsNone q=true)
  (hY:∀(w:World) (h:Heap),YP w h->(K w.params).In h)
  (F:∀(w:World) (mg:Str->Option Value) (fa:Addr) (h:Heap),(K w.params).In h->h.Ns mainGlobals mg->mg d.name=some (.ref fa)->
   ∃fd:FuncData,(∀(s:Shared) (u:Value),BindsTo s fd ⟨[u],[]⟩ [("script",u)])/\∀base:Heap,(K w.params).In base->base.Ns mainGlobals mg->fo l.prog w (K w.params) mg base (lW l.prog w) 9 fa fd ["script"] (u7 (K w.params))) :
  PySem.W.WalkO q loose XP YP l.row.toRowW d [] (λf vs=>PySem.call f vs):=
 L2.Am (n:=63) (k:=9) (x:="script") (CX:=λw=>lW l.prog w) (sp:=λw=>u7 (K w.params)) hn (by decide) hdf hi ⟨rfl,by decide,by decide,rfl⟩ hY F (λ_ _ a ns hl _ hS=>⟨a,ns,rfl,hS,λ_ _=>rfl⟩) λ_ _ _ _ _ z=>by
  obtain⟨_,_,_,_,_,_,_,_,_,z⟩:=z
  exact z
end RO
namespace HD
noncomputable def vw:PySem.Program:=PySem.W.view PySem.Challenge.pw_rowsorder_k33_what_a_turn_forces [1,2,3,4,5,6,8,9,10,12,13,14,15,16,18,19,21,22,23,25,26,27,28,29,30,31,32,33,34,35,36,37,38]
def Eg:PySem.Challenge.rw_rowsorder_k33_what_a_turn_forces.wellSaid=true:=by kernel_rfl
end HD
local macro_rules | `(tactic|o_head $H)=>`(tactic| (
 refine PySem.W.holds_open (q:=HD.vw) (loose:=[]) (Xt:=λs=>PySem.W.xlAt HD.vw [] s && PySem.W.recOk (PySem.W.RowW.records _) s) (XP:=PySem.W.XL HD.vw []) (Yf:=PySem.W.Hook.obs $H) (Ya:=PySem.W.Hook.val $H) (YP:=PySem.W.Hook.says $H) (N:=3150) ?hl (PySem.W.Hook.of $H) (PySem.W.Hook.keeps $H) (λs e=>PySem.W.xl_of s (Bool.and_eq_true_iff.mp e).1) PySem.W.XL.keeps (by rfl) (by rfl) (by rfl) (λs e=>PySem.W.recFacts_of (Bool.and_eq_true_iff.mp e).2) (by rfl) (by first |assumption |decide +kernel) (by decide +kernel) ⟨rfl,rfl,rfl,rfl,rfl,by decide +kernel⟩ ?hw ?hc
 case hl=>exact HD.A4 (by kernel_rfl) (by kernel_rfl) (λs=>by kernel_rfl) (λw os=>by kernel_rfl)))
open PySem PySem.W PyProof.Rows L2
set_option maxRecDepth 100000 in
set_option maxHeartbeats 0 in
theorem PySem.Challenge.cw_rowsorder_k33_what_a_turn_forces_holds : PySem.Challenge.rw_rowsorder_k33_what_a_turn_forces.Holds := by
 w_on;(refine holds_law HD.Eg λEg=>?_);k_head;(case hw=>w_witness2)
 k_fill
 refine RO.walk (l:=PySem.Challenge.rw_rowsorder_k33_what_a_turn_forces) rfl rfl ?hi (λw h Y=>PySem.W.kIn_of Y) ?F
 case hi=>kernel_rfl
 case F=>
  intro w mg fa h KX G hmg
  refine' RO.all_mk KX G hmg ?F1 ?F2 ?F3 ?F4 ?F5 ?F6 ?F7 ?F8 ?F9 ?F10 ?F11 ?F12 ?F13 ?F14 ?F15 ?F16 ?F17 ?F18 ?F19 ?F20 ?F21 ?F22 ?F23 ?F24 ?F25 ?F26 ?F27 ?F28 ?a29 ?l29 ?c29 ?k29 ?zB ?yMOST_THINGS ?m0 ?e0 ?m1 ?e1 ?np
  case F1=>refine' bR KX G RO.tW ?a ?l ?c ?k;(case a=>k_is);(case l=>k_is);(case c=>k_is);(case k=>k_is)
  case F2=>refine' bR KX G RO.uv ?a ?l ?c ?k;(case a=>k_is);(case l=>k_is);(case c=>k_is);(case k=>k_is)
  case F3=>refine' bR KX G RO.wA ?a ?l ?c ?k;(case a=>k_is);(case l=>k_is);(case c=>k_is);(case k=>k_is)
  case F4=>refine' bR KX G RO.xj ?a ?l ?c ?k;(case a=>k_is);(case l=>k_is);(case c=>k_is);(case k=>k_is)
  case F5=>refine' bR KX G RO.qG ?a ?l ?c ?k;(case a=>k_is);(case l=>k_is);(case c=>k_is);(case k=>k_is)
  case F6=>refine' bR KX G RO.yX ?a ?l ?c ?k;(case a=>k_is);(case l=>k_is);(case c=>k_is);(case k=>k_is)
  case F7=>refine' bR KX G RO.uo ?a ?l ?c ?k;(case a=>k_is);(case l=>k_is);(case c=>k_is);(case k=>k_is)
  case F8=>refine' bR KX G RO.uk ?a ?l ?c ?k;(case a=>k_is);(case l=>k_is);(case c=>k_is);(case k=>k_is)
  case F9=>refine' bR KX G RO.pD ?a ?l ?c ?k;(case a=>k_is);(case l=>k_is);(case c=>k_is);(case k=>k_is)
  case F10=>refine' bR KX G RO.rG ?a ?l ?c ?k;(case a=>k_is);(case l=>k_is);(case c=>k_is);(case k=>k_is)
  case F11=>refine' bR KX G RO.BC ?a ?l ?c ?k;(case a=>k_is);(case l=>k_is);(case c=>k_is);(case k=>k_is)
  case F12=>refine' bR KX G RO.wJ ?a ?l ?c ?k;(case a=>k_is);(case l=>k_is);(case c=>k_is);(case k=>k_is)
  case F13=>refine' bR KX G RO.ng ?a ?l ?c ?k;(case a=>k_is);(case l=>k_is);(case c=>k_is);(case k=>k_is)
  case F14=>refine' bR KX G RO.qe ?a ?l ?c ?k;(case a=>k_is);(case l=>k_is);(case c=>k_is);(case k=>k_is)
  case F15=>refine' bR KX G RO.yp ?a ?l ?c ?k;(case a=>k_is);(case l=>k_is);(case c=>k_is);(case k=>k_is)
  case F16=>refine' bR KX G RO.rJ ?a ?l ?c ?k;(case a=>k_is);(case l=>k_is);(case c=>k_is);(case k=>k_is)
  case F17=>refine' bR KX G RO.tw ?a ?l ?c ?k;(case a=>k_is);(case l=>k_is);(case c=>k_is);(case k=>k_is)
  case F18=>refine' bR KX G RO.uz ?a ?l ?c ?k;(case a=>k_is);(case l=>k_is);(case c=>k_is);(case k=>k_is)
  case F19=>refine' bR KX G RO.sS ?a ?l ?c ?k;(case a=>k_is);(case l=>k_is);(case c=>k_is);(case k=>k_is)
  case F20=>refine' bR KX G RO.l7 ?a ?l ?c ?k;(case a=>k_is);(case l=>k_is);(case c=>k_is);(case k=>k_is)
  case F21=>refine' bR KX G RO.oo ?a ?l ?c ?k;(case a=>k_is);(case l=>k_is);(case c=>k_is);(case k=>k_is)
  case F22=>refine' bR KX G RO.pX ?a ?l ?c ?k;(case a=>k_is);(case l=>k_is);(case c=>k_is);(case k=>k_is)
  case F23=>refine' bR KX G RO.qV ?a ?l ?c ?k;(case a=>k_is);(case l=>k_is);(case c=>k_is);(case k=>k_is)
  case F24=>refine' bR KX G RO.pY ?a ?l ?c ?k;(case a=>k_is);(case l=>k_is);(case c=>k_is);(case k=>k_is)
  case F25=>refine' bR KX G RO.su ?a ?l ?c ?k;(case a=>k_is);(case l=>k_is);(case c=>k_is);(case k=>k_is)
  case F26=>refine' bR KX G RO.n6 ?a ?l ?c ?k;(case a=>k_is);(case l=>k_is);(case c=>k_is);(case k=>k_is)
  case F27=>refine' bR KX G RO.qS ?a ?l ?c ?k;(case a=>k_is);(case l=>k_is);(case c=>k_is);(case k=>k_is)
  case F28=>refine' bR KX G RO.lK ?a ?l ?c ?k;(case a=>k_is);(case l=>k_is);(case c=>k_is);(case k=>k_is)
  case a29=>k_is
  case l29=>k_is
  case c29=>k_is
  case k29=>k_is
  case zB=>kernel_rfl
  case yMOST_THINGS=>k_is
  case m0=>k_is
  case e0=>kernel_rfl
  case m1=>k_is
  case e1=>kernel_rfl
  case np=>kernel_rfl
end
