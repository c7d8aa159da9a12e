import PyProof.Rows.All
import Wide.All
import OpenK.AllK
import Wide.FinOn
import Lean
import PyProof.EqAt
import PyProof.EqKinds
import PyProof.TupleCall
import PySem.SetOps
import PyProof.SetKind
import PyProof.TupleKey
import PyProof.DictKinds
import PyProof.Rows.SetFrom
import PyProof.WalksMore
import KE.KSortTup
import PyProof.CollectWalk
import PyProof.ExcArgsOwn
import PyProof.Rows.CountFlat
import PyProof.Rows.SeqMore2
import PyProof.Rows.FStr
import PyProof.Rows.StrWeight2
import PyProof.Rows.StrNews
import PyProof.StrLawsTight
import PyProof.ExcBaseAll.ValueError
import PyProof.ZipIter
import PyProof.CallFns
import PyProof.Draws
import PyProof.EnumMake
import PyProof.SetRoads
import PyProof.Rows.SortWalk
import PyProof.SeqI3
import PyProof.Rows.SortShell
import PyProof.Rows.Range3
import KE.KStateDown
import PyProof.Rows.SumAny
import PyProof.ListRange
import PyProof.MaxThree
import PyProof.IsiH_list
import PyProof.RaisesAny
import KE.KDictOf
import PySem.Challenge.RW_rowsorder_k16_most_apart
set_option Elab.async false
set_option linter.all false
set_option maxRecDepth 100000
set_option maxHeartbeats 1000000
def ED:=@List.getElem?_eq_getElem
def EE:=@PySem.wpAny_bind
def EF:=@PySem.Heap.get?_push_of_some
def EG:=@Nat.le_refl
def EH:=@List.mem_cons
def EI:=@if_pos
def EJ:=@PySem.wpAny_pure
def EK:=@List.mem_cons_of_mem
def EL:=@List.mem_cons_self
def EM:=@List.length_map
def EN:=@if_neg
def EO:=@PySem.Heap.lt_size
def ER:=@List.mem_map
def ES:=@List.getElem?_map
def ET:=@decide_eq_true
def EU:=@Bool.false_eq_true
def EV:=@List.getElem?_eq_some_iff
def EW:=@PySem.Heap.get?_push_size
def EX:=@List.mem_of_getElem?
def EY:=@List.size_toArray
def EZ:=@List.length_cons
def E1:=@List.getElem?_set_ne
def E2:=@List.mem_range
def E3:=@decide_eq_false
def E4:=@List.mem_singleton
def E5:=@List.getElem?_set_self
def E6:=@List.mem_append
def E7:=@Nat.lt_of_lt_of_le
def E8:=@Bool.false_ne_true
def E9:=@Array.getElem?_eq_getElem
def Fb:=@List.getD_eq_getElem?_getD
def Fc:=@List.mem_append_right
def Fd:=@Nat.ne_of_lt
def Fe:=@Nat.lt_irrefl
def Ff:=@PySem.Heap.get?_update_other
def Fg:=@List.mem_iff_getElem
def Fh:=@if_false
def Fi:=@Array.getD_eq_getD_getElem?
def Fj:=@Nat.zero_le
def Fl:=@PySem.sizeLine_eq
def Fm:=@List.getElem?_append_right
def Fp:=@Bool.and_eq_true
def Fq:=@List.nodup_cons
def Fs:=@List.length_append
def Ft:=@List.getElem?_append_left
def Fu:=@PySem.Heap.get?_update_self
def Fv:=@List.mem_filter
def Fw:=@List.map_cons
def Fy:=@PySem.W.kia_one
def FA:=@List.map_append
def FC:=@Array.getElem?_eq_some_iff
def FD:=@PySem.wpAny_setState_of
def FE:=@List.pairwise_append
def FF:=@PySem.Around.under_plainId
def FG:=@List.length_take
def FH:=@if_true
def FI:=@List.pairwise_map
def FJ:=@Int.toNat_natCast
def FK:=@Nat.le_trans
def FL:=@Nat.lt_or_ge
def FN:=@List.getElem_mem
def FO:=@List.length_range
def FP:=@List.Pairwise.imp_of_mem
def FQ:=@PySem.codeAny_builtin
def FT:=@List.mem_append_left
def FU:=@PySem.wpAny_holding
def FW:=@PySem.F.plain_min_loop
def FX:=@PySem.wpAny_truthy_bool
def FY:=@Bool.eq_iff_iff
def FZ:=@List.length_filter_le
def F0:=@List.map_map
def Ga:=@List.all_eq_true
def Gb:=@List.getElem?_replicate
def Gd:=@List.pairwise_singleton
def Gf:=@decide_eq_true_eq
def Gg:=@List.toList_toArray
def Gh:=@List.map_congr_left
def Gi:=@PySem.wpAny_mono
def Gj:=@PySem.plainId_quiet
def Gk:=@List.mem_filterMap
def Gm:=@Array.getElem?_toList
def Gn:=@Nat.mul_le_mul
def Gp:=@PySem.boot_len
def Gq:=@List.drop_eq_getElem_cons
def Gr:=@Nat.zero_add
def Gs:=@List.set_eq_of_length_le
def Gu:=@PySem.Value.isInt_shape
def Gv:=@List.any_cons
def Gw:=@List.filter_cons_of_pos
def Gx:=@List.filter_cons_of_neg
def Gy:=@PySem.mem_of_lookup
def Gz:=@PySem.Heap.size_push
def GA:=@List.dropLast_concat_getLast
def GB:=@List.pairwise_cons
def GC:=@PyProof.Rows.F.plain_set_update_loop
def GD:=@PySem.wpAny_passesOwn
def GF:=@List.length_replicate
def GG:=@List.length_set
def GH:=@List.nodup_iff_pairwise_ne
def GI:=@PySem.wpAny_pyIter_list
def GJ:=@List.append_assoc
def GK:=@List.take_add_one
def GL:=@PySem.wpAny_newObj_type
def GN:=@Array.mem_toList_iff
def GO:=@List.pairwise_iff_getElem
def GP:=@List.mem_of_mem_take
def GQ:=@List.nodup_range
def GR:=@PySem.F.called_set
def GS:=@List.replicate_succ
def GU:=@Bool.not_true
def GV:=@PySem.strLen_append
def GW:=@List.length_pos_of_mem
def GX:=@List.take_of_length_le
def GY:=@Array.getElem?_eq_none
def GZ:=@PySem.SeqAt.canLay_of_shaped
def G6:=@List.take_append_drop
def G7:=@PySem.wpAny_setField
def G8:=@Int.zero_add
def G9:=@PyProof.Rows.callWith_type1
def Ha:=@PySem.wpAny_askSetting
def Hb:=@PySem.wpAny_call_entry
def Hd:=@Bool.and_self
def He:=@List.filterMap_cons
def Hf:=@Array.length_toList
def Hg:=@List.length_nil
def Hh:=@List.append_nil
def Hi:=@PySem.wpAny_updateSeq
def Hj:=@PySem.codeAny_mono
def Hl:=@List.length_erase_of_mem
def Hm:=@PySem.wpAny_pyIter_tuple
def Hn:=@List.eq_of_mem_replicate
def Ho:=@Nat.lt_of_le_of_lt
def Hq:=@List.filter_append
def Hr:=@PySem.wpAny_seqItems
def Hs:=@PySem.isSubtype_type
def Ht:=@List.flatten_cons
def Hu:=@Nat.lt_trichotomy
def Hv:=@List.ext_getElem?
def Hw:=@Nat.lt_succ_of_lt
def Hx:=@List.idxOf_append
open List (foldl_cons lookup_cons set_set)
open PySem.W (Frag)
open PySem.PyData (int)
section
set_option Elab.async false
namespace L2
open PySem PySem.Spec PyProof.Rows
abbrev Key:=Sum Int Str
def z7:Key->Value->Bool
 | .inl k,v=>Value.isInt k v
 | .inr x,v=>Value.isStrOf x v
def DK (w:World):Key->Int
 | .inl k=>hashInt k
 | .inr x=>hashStr w x
theorem bg:∀{k:Key} {v:Value},z7 k v=true->(∃i t,k=Sum.inl i/\v=Value.int i t)\/(∃x t,k=Sum.inr x/\v=Value.str x t)
 | .inl i,v,h=>by
  obtain⟨t,e⟩:=Gu (k:=i) (v:=v) h
  exact .inl ⟨i,t,rfl,e⟩
 | .inr x,v,h=>by
  obtain⟨t,e⟩:=Value.isStrOf_shape (x:=x) (v:=v) h
  exact .inr ⟨x,t,rfl,e⟩
def Bs (a b:Int):decide ((Sum.inl a:Key)=Sum.inl b)=(a == b):=by
 by_cases e:a=b
 ·subst e;simp
 ·have h:¬(Sum.inl a:Key)=Sum.inl b:=λq=>e (Sum.inl.inj q)
  rw[E3 h]
  exact (beq_eq_false_iff_ne.mpr e).symm
def Bi (a b:Str):decide ((Sum.inr a:Key)=Sum.inr b)=decide (a=b):=by
 by_cases e:a=b
 ·subst e;simp
 ·have h:¬(Sum.inr a:Key)=Sum.inr b:=λq=>e (Sum.inr.inj q)
  rw[E3 h,E3 e]
def By (a:Int)(b:Str):decide ((Sum.inl a:Key)=Sum.inr b)=false:=E3 (λq=>nomatch q)
def Bg (a:Str)(b:Int):decide ((Sum.inr a:Key)=Sum.inl b)=false:=E3 (λq=>nomatch q)
def nu (prog:Program)(w:World):PySem.KeyKind prog w Key where
 is:=z7
 hash:=DK w
 inj:=λv a b ha hb=>by
  rcases bg ha with⟨i,t,rfl,rfl⟩ | ⟨x,t,rfl,rfl⟩
  ·rcases bg hb with⟨j,u,rfl,e⟩ | ⟨y,u,rfl,e⟩
   ·injection e with e1 _;rw[e1]
   ·exact nomatch e
  ·rcases bg hb with⟨j,u,rfl,e⟩ | ⟨y,u,rfl,e⟩
   ·exact nomatch e
   ·injection e with e1 _;rw[e1]
 byValue:=λk v h=>by
  rcases bg h with⟨i,t,rfl,rfl⟩ | ⟨x,t,rfl,rfl⟩ <;> rfl
 pyHash:=λhv h=>by
  rcases bg hv with⟨i,t,rfl,rfl⟩ | ⟨x,t,rfl,rfl⟩
  ·exact wpAny_pyHash_int h
  ·exact wpAny_pyHash_str h
 eqBool:=λhu hv h=>by
  rcases bg hu with⟨i,t,rfl,rfl⟩ | ⟨x,t,rfl,rfl⟩
  ·rcases bg hv with⟨j,u,rfl,rfl⟩ | ⟨y,u,rfl,rfl⟩
   ·rw[Bs] at h;exact wpAny_eqBool_int h
   ·rw[By] at h;exact SeqAt.EqAt.int_str i t y u _ _ _ _ h
  ·rcases bg hv with⟨j,u,rfl,rfl⟩ | ⟨y,u,rfl,rfl⟩
   ·rw[Bg] at h;exact SeqAt.EqAt.str_int x t j u _ _ _ _ h
   ·rw[Bi] at h;exact wpAny_eqBool_str h
 «strs»:=λk x t v h=>by
  rcases bg h with⟨i,u,rfl,e⟩ | ⟨y,u,rfl,e⟩
  ·exact nomatch e
  ·injection e with e1 _
   subst e1
   cases v <;> rfl
inductive V where
 |non |bl (b:Bool) |int (i:Int) |str (x:Str) |byt (b:Array UInt8) |flt (b:UInt64) |ref (a:Addr) |ty (n:String)
 deriving DecidableEq
def RelV:V->Value->Prop
 | .non,u=>u=Value.none
 | .bl b,u=>u=Value.bool b
 | .int i,u=>∃t,u=Value.int i t
 | .str x,u=>∃t,u=Value.str x t
 | .byt b,u=>∃t,u=Value.bytes b t
 | .flt b,u=>∃t,u=Value.float b t
 | .ref a,u=>u=Value.ref a
 | .ty n,u=>u=Value.type n
abbrev Vals:List V->List Value->Prop:=Paired RelV
def Vals.length {xs:List V}{us:List Value}(r:Vals xs us):xs.length=us.length:=Paired.length r
theorem Vals.get:∀{xs:List V} {us:List Value} {i:Nat} {x:V},Vals xs us->xs[i]? =some x->∃u,us[i]? =some u/\RelV x u
 |_,_,_,_,.nil,e=>by simp at e
 |_,_,0,_,.cons r _,e=>by simp at e;subst e;exact⟨_,rfl,r⟩
 |_,_,i + 1,x,.cons _ t,e=>by
  obtain⟨u,h1,h2⟩:=Vals.get (i:=i) (x:=x) t (by simpa using e)
  exact⟨u,by simpa using h1,h2⟩
theorem Vals.set {x:V}{u:Value}(r:RelV x u):∀{xs:List V} {us:List Value} (i:Nat),Vals xs us->Vals (xs.set i x) (us.set i u)
 |_,_,_,.nil=>.nil
 |_,_,0,.cons _ t=>.cons r t
 |_,_,i + 1,.cons q t=>.cons q (Vals.set r i t)
theorem Vals.append:∀{xs ys:List V} {us ws:List Value},Vals xs us->Vals ys ws->Vals (xs ++ ys) (us ++ ws)
 |_,_,_,_,.nil,s=>s
 |_,_,_,_,.cons r t,s=>.cons r (Vals.append t s)
theorem Vals.take:∀{xs:List V} {us:List Value} (n:Nat),Vals xs us->Vals (xs.take n) (us.take n)
 |_,_,0,_=>.nil
 |_,_,_ + 1,.nil=>.nil
 |_,_,n + 1,.cons r t=>.cons r (Vals.take n t)
theorem Vals.drop:∀{xs:List V} {us:List Value} (n:Nat),Vals xs us->Vals (xs.drop n) (us.drop n)
 |_,_,0,r=>r
 |_,_,_ + 1,.nil=>.nil
 |_,_,n + 1,.cons _ t=>Vals.drop n t
def AW:Option V->Option Value->Prop
 |some v,some u=>RelV v u
 |none,none=>True
 |_,_=>False
def KV {κ:Type}:List (κ×V)->List (κ×Value)->Prop:=Paired λ(p:κ×V) (q:κ×Value)=>p.1=q.1/\RelV p.2 q.2
def kV:Key->V
 | .inl i=>.int i
 | .inr x=>.str x
inductive HO where
 |lst (xs:List V)
 |tup (xs:List V)
 |dK (kvs:List (Key×V)) |dT (kvs:List (List Key×V))
 |set (S:Int->Bool) (n:Nat)
 |ins (C dx:Addr) (fs:List (Str×V))
 |own (x:Addr)
 |xd (fs:List (Str×V))
 |met (f x:Addr)
 |j8 (lo hi:Int)
 |aL (o:Obj) (u:HO)
 |tbl (ps:Array Value)
 |ext (φ:Heap->Prop)
abbrev Hp:=Addr->Option HO
def upd (H:Hp)(a:Addr)(o:HO):Hp:=λb=>if b=a then some o else H b
def ao {H:Hp}{a:Addr}{o:HO}:upd H a o a=some o:=by unfold upd;rw[EI rfl]
def ag {H:Hp}{a b:Addr}{o:HO}(h:b≠a):upd H a o b=H b:=by unfold upd;rw[EN h]
def Ai {H:Hp}{a b:Addr}{o u:HO}(h:H a=some o)(h':H b=some u)(d:o≠u):a≠b:=by
 intro e;subst e;rw[h] at h';exact d (Option.some.inj h')
def au {H:Hp}{a b:Addr}{o:HO}(h:H a=some o)(h':H b=none):a≠b:=by
 intro e;subst e;rw[h] at h';cases h'
section
variable (P:Program)(w:World)
def rV (h:Heap)(a:Addr)(items:Array Value):Prop:=∃o,h.get? a=some o/\o.cls=.type "tuple"/\∃n,o.data=.seq items n/\o.dict=none
def rV.isTup {h:Heap}{a:Addr}{items:Array Value}(x:rV h a items):IsTup h a items:=let ⟨o,e,c,n,d,_⟩:=x;⟨o,e,c,n,d⟩
def rV.new (h:Heap)(items:Array Value):rV (h.push {cls:=.type "tuple",data:=.seq items}) h.objs.size items:=⟨_,EW _ rfl,rfl,_,rfl,rfl⟩
def bF (H:Hp)(h:Heap)(a:Addr):HO->Prop
 | .lst xs=>xs.length<=sizeLine/\∃(its:List Value) (n:Nat),Vals xs its/\h.get? a=some {cls:=.type "list",data:=.seq its.toArray n}
 | .tup xs=>xs.length<=sizeLine/\∃its:List Value,Vals xs its/\rV h a its.toArray
 | .dK kvs=>kvs.length<=sizeLine/\(a == sysModules)=false/\∃vs,KV kvs vs/\h.DictOf (nu P w) a vs
 | .dT kvs=>kvs.length<=sizeLine/\(a == sysModules)=false/\∃xs:List (List Key×Addr×Value),
   Paired (λ(p:List Key×V) (q:List Key×Addr×Value)=>p.1=q.1/\(H q.2.1=some (.tup (p.1.map kV))\/∃o,H q.2.1=some (.aL o (.tup (p.1.map kV))))/\RelV p.2 q.2.2) kvs xs/\
   ∃o es ep,h.get? a=some o/\o.ExactDict/\o.data=.dict es ep/\es.toList=xs.map (entryOfKey (tupleKind (nu P w)))/\(xs.map (·.1)).Nodup
 | .set S n=>h.SetOf (intKind P w) a S n
 | .ins C dx fs=>H dx=some (.own a)/\fs.length<=1000/\dx≠a/\h.get? a=some (PySem.W.instObj C dx)/\
   ∃mA,h.Ns1 dx mA/\(∀f,AW (fs.lookup f) (mA f))/\PySem.Within mA (fs.map (·.1))
 | .own _=>∃o,h.get? a=some o
 | .xd fs=>∃mA,h.Ns1 a mA/\∀f,AW (fs.lookup f) (mA f)
 | .j8 lo hi=>∃t u v,h.get? a=some {cls:=.type "range",data:=.fields #[.int lo t,.int hi u,.int 1 v]}
 | .aL o u=>h.get? a=some o/\bF H h a u
 | .tbl ps=>h.get? a=some {cls:=.none,data:=.fields ps}
 | .met f x=>h.get? a=some (PySem.W.methodObj (.ref f) (.ref x))
 | .ext φ=>φ h/\(∃o,h.get? a=some o)/\∀h1 h2:Heap,φ h1->(∀o,h1.get? a=some o->h2.get? a=some o)->φ h2
def iO (H:Hp)(h:Heap):Prop:=∀a o,H a=some o->bF P w H h a o
end
section
variable {P:Program}{w:World}{H H':Hp}{h h':Heap}{a:Addr}{o:HO}
theorem bF.lt (x:bF P w H h a o):a < h.objs.size:=by
 cases o with
 |lst xs=>obtain⟨_,_,_,_,e⟩:=x;exact EO e
 |tup xs=>obtain⟨_,_,_,p⟩:=x;exact p.isTup.lt
 |dK kvs=>obtain⟨_,_,_,_,o,_,_,e,_⟩:=x;exact EO e
 |dT kvs=>obtain⟨_,_,_,_,o,_,_,e,_⟩:=x;exact EO e
 |set S n=>obtain⟨o,_,_,_,e,_⟩:=x;exact EO e
 |ins C dx fs=>obtain⟨_,_,_,e,_⟩:=x;exact EO e
 |own y=>obtain⟨_,e⟩:=x;exact EO e
 |xd fs=>obtain⟨_,⟨_,_,_,e,_⟩,_⟩:=x;exact EO e
 |j8 lo hi=>obtain⟨_,_,_,e⟩:=x;exact EO e
 |aL ob u=>obtain⟨e,_⟩:=x;exact EO e
 |tbl ps=>exact EO (show h.get? a=some _ from x)
 |met f y=>exact EO (show h.get? a=some _ from x)
 |ext φ=>obtain⟨_,⟨_,e⟩,_⟩:=x;exact EO e
theorem Paired.mapP {α β:Type}{F G:α->β->Prop}:∀{l₁:List α} {l₂:List β},Paired F l₁ l₂->(∀a b,F a b->G a b)->Paired G l₁ l₂
 |_,_,.nil,_=>.nil
 |_,_,.cons r t,f=>.cons (f _ _ r) (Paired.mapP t f)
theorem bF.stay (x:bF P w H h a o)(k:∀b u,(b=a\/H b=some (.own a))->h.get? b=some u->h'.get? b=some u)
  (ho:∀b,H b=some (.own a)->H' b=some (.own a)) (ht:∀b xs,(H b=some (.tup xs)\/∃o,H b=some (.aL o (.tup xs)))->(H' b=some (.tup xs)\/∃o,H' b=some (.aL o (.tup xs)))):bF P w H' h' a o:=by
 induction o with
 |lst xs=>obtain⟨z,its,n,r,e⟩:=x;exact⟨z,its,n,r,k _ _ (.inl rfl) e⟩
 |tup xs=>obtain⟨z,its,r,ob,e,c⟩:=x;exact⟨z,its,r,ob,k _ _ (.inl rfl) e,c⟩
 |dK kvs=>obtain⟨z,y,vs,r,ob,es,ep,e,c⟩:=x;exact⟨z,y,vs,r,ob,es,ep,k _ _ (.inl rfl) e,c⟩
 |dT kvs=>
  obtain⟨z,y,xs,r,ob,es,ep,e,c⟩:=x
  exact⟨z,y,xs,Paired.mapP r λp q z=>⟨z.1,ht _ _ z.2.1,z.2.2⟩,ob,es,ep,k _ _ (.inl rfl) e,c⟩
 |set S n=>obtain⟨ob,es,ep,t,e,c⟩:=x;exact⟨ob,es,ep,t,k _ _ (.inl rfl) e,c⟩
 |ins C dx fs=>
  obtain⟨d,z,ne,e,mA,⟨od,es,ep,e2,c⟩,r⟩:=x
  exact⟨ho _ d,z,ne,k _ _ (.inl rfl) e,mA,⟨od,es,ep,k _ _ (.inr d) e2,c⟩,r⟩
 |own y=>obtain⟨ob,e⟩:=x;exact⟨ob,k _ _ (.inl rfl) e⟩
 |xd fs=>obtain⟨mA,⟨od,es,ep,e,c⟩,r⟩:=x;exact⟨mA,⟨od,es,ep,k _ _ (.inl rfl) e,c⟩,r⟩
 |j8 lo hi=>obtain⟨t,u,v,e⟩:=x;exact⟨t,u,v,k _ _ (.inl rfl) e⟩
 |aL ob u ih=>obtain⟨e,q⟩:=x;exact⟨k _ _ (.inl rfl) e,ih q⟩
 |tbl ps=>
  have e:h.get? a=some {cls:=.none,data:=.fields ps}:=x
  show h'.get? a=some {cls:=.none,data:=.fields ps}
  exact k a _ (.inl rfl) e
 |met f y=>
  have e:h.get? a=some (PySem.W.methodObj (.ref f) (.ref y)):=x
  show h'.get? a=some (PySem.W.methodObj (.ref f) (.ref y))
  exact k a _ (.inl rfl) e
 |ext φ=>obtain⟨p,⟨o,e⟩,st⟩:=x;exact⟨st _ _ p λo q=>k _ _ (.inl rfl) q,⟨o,k _ _ (.inl rfl) e⟩,st⟩
def iO.lt (x:iO P w H h)(e:H a=some o):a < h.objs.size:=(x a o e).lt
theorem iO.fresh (x:iO P w H h)(e:h.objs.size<=a):H a=none:=by
 cases q:H a with
 |none=>rfl
 |some u=>exact absurd (E7 (x.lt q) e) (Fe _)
def iO.kept (x:iO P w H h)(k:∀b u,h.get? b=some u->h'.get? b=some u):iO P w H h':=λa o e=>
 (x a o e).stay (λb u _ q=>k b u q) (λ_ q=>q) λ_ _ q=>q
def iO.laid (x:iO P w H h)(k:∀b u,h.get? b=some u->h'.get? b=some u)(hp:h.objs.size<=a)(new:bF P w (upd H a o) h' a o):iO P w (upd H a o) h':=λb u e=>by
 have hn:=x.fresh hp
 by_cases hb:b=a
 ·subst hb;rw[ao] at e;cases e;exact new
 ·rw[ag hb] at e
  exact (x b u e).stay (λc v _ q=>k c v q) (λc q=>by rw[ag (au q hn)];exact q) λc xs q=>q.imp (λq=>by rw[ag (au q hn)];exact q) λ⟨o,q⟩=>⟨o,by rw[ag (au q hn)];exact q⟩
end
def Rd (H:Hp)(a:Addr)(u:HO):Prop:=H a=some u\/∃o,H a=some (.aL o u)
def Rd.ok {P:Program}{w:World}{H:Hp}{h:Heap}{a:Addr}{u:HO}(r:Rd H a u)(x:iO P w H h):bF P w H h a u:=by
 rcases r with r | ⟨o,r⟩
 ·exact x a u r
 ·obtain⟨_,q⟩:=x a _ r
  exact q
def C8:Option HO->Prop
 |some (.lst _)=>True
 |some (.dK _)=>True
 |some (.dT _)=>True
 |some (.set _ _)=>True
 |some (.ins _ _ _)=>True
 |some (.ext _)=>True
 |_=>False
section
variable {P:Program}{w:World}{H:Hp}{h h':Heap}{x e:Addr}{o':HO}
def iO.write (ok:iO P w H h)(mu:C8 (H x))(he:e=x\/H e=some (.own x))(k:∀b u,b≠e->h.get? b=some u->h'.get? b=some u)(heo:∃u,h'.get? e=some u)
  (new:bF P w (upd H x o') h' x o'):iO P w (upd H x o') h':=λb u q=>by
 have nown:∀c y,H c=some (.own y)->c≠x:=λc y r z=>by subst z;rw[r] at mu;exact mu
 have ntup:∀c xs,H c=some (.tup xs)->c≠x:=λc xs r z=>by subst z;rw[r] at mu;exact mu
 by_cases hb:b=x
 ·subst hb;rw[ao] at q;cases q;exact new
 ·rw[ag hb] at q
  by_cases hbe:b=e
  ·have q':H b=some (.own x):=by
    rcases he with z |z
    ·exact absurd (hbe.trans z) hb
    ·rw[hbe];exact z
   rw[q] at q';cases q'
   obtain⟨v,hv⟩:=heo
   exact⟨v,by rw[hbe];exact hv⟩
  ·refine (ok b u q).stay (λc v hc r=>k c v ?_ r) (λc r=>by rw[ag (nown c b r)];exact r) λc xs r=>r.imp (λr=>by rw[ag (ntup c xs r)];exact r) λ⟨o,r⟩=>⟨o,by rw[ag (λz=>by subst z;rw[r] at mu;exact mu)];exact r⟩
   rcases hc with rfl |hc
   ·exact hbe
   ·rintro rfl
    rcases he with z |z
    ·exact nown c b hc z
    ·rw[hc] at z;cases z;exact hb rfl
end
structure Un (fs ex:List Addr)(H H':Hp)(h h':Heap):Prop where
 keep:∀b o,h.get? b=some o->H b=none->b∉fs->b∉ex->h'.get? b=some o
 slot:∀b o,h.get? b=some o->H b=none->b∈fs->b∉ex->∃sl,h'.get? b=some {o with slots:=sl}
 free:∀b o,h.get? b=some o->H b=none->b∉ex->H' b=none
 there:∀b o,h.get? b=some o->b∉ex->∃o',h'.get? b=some o'
 tups:∀b xs,H b=some (.tup xs)->H' b=some (.tup xs)
 frzs:∀b o u,H b=some (.aL o u)->H' b=some (.aL o u)
 tbls:∀b ps,H b=some (.tbl ps)->∃more,H' b=some (.tbl (ps ++ more))
section
variable {fs fs' ex ex':List Addr}{H H1 H2:Hp}{h h1 h2 h':Heap}{a x e:Addr}{o:HO}
def Un.any (u:Un fs ex H H1 h h1){b:Addr}{ob:Obj}(q:h.get? b=some ob)(n:H b=none)(hx:b∉ex):∃sl,h1.get? b=some {ob with slots:=sl}:=by
 by_cases hb:b∈fs
 ·exact u.slot b ob q n hb hx
 ·exact⟨ob.slots,u.keep b ob q n hb hx⟩
def Un.kept (k:∀b u,h.get? b=some u->h'.get? b=some u):Un fs ex H H h h':=
 ⟨λb ob q _ _ _=>k b ob q,λb ob q _ _ _=>⟨ob.slots,k b ob q⟩,λ_ _ _ n _=>n,λb ob q _=>⟨ob,k b ob q⟩,λ_ _ q=>q,λ_ _ _ q=>q,λ_ ps q=>⟨#[],by rw[q];simp⟩⟩
def Un.refl:Un fs ex H H h h:=Un.kept λ_ _ q=>q
def Un.laid (k:∀b u,h.get? b=some u->h'.get? b=some u)(hp:h.objs.size<=a)(hn:H a=none):Un fs ex H (upd H a o) h h' where
 keep:=λb u q _ _ _=>k b u q
 slot:=λb u q _ _ _=>⟨u.slots,k b u q⟩
 free:=λb u q n _=>by rw[ag (Fd (E7 (EO q) hp))];exact n
 there:=λb u q _=>⟨u,k b u q⟩
 tups:=λb xs q=>by rw[ag (au q hn)];exact q
 frzs:=λb u xs q=>by rw[ag (au q hn)];exact q
 tbls:=λb ps q=>⟨#[],by rw[ag (au q hn),q];simp⟩
def Un.write (mu:C8 (H x))(he:e=x\/H e=some (.own x))(k:∀b u,b≠e->h.get? b=some u->h'.get? b=some u)(heo:∃u,h'.get? e=some u):Un fs ex H (upd H x o) h h':=by
 have hx:∀b,H b=none->b≠x:=λb n z=>by subst z;rw[n] at mu;exact mu
 have hb:∀b,H b=none->b≠e:=λb n z=>by
  subst z
  rcases he with r |r
  ·exact hx b n r
  ·rw[n] at r;cases r
 have hm:∀b u,H b=some u->¬C8 (some u)->b≠x:=λb u q nm z=>by subst z;rw[q] at mu;exact nm mu
 refine⟨λb u q n _ _=>k b u (hb b n) q,λb u q n _ _=>⟨u.slots,k b u (hb b n) q⟩,λb u q n _=>by rw[ag (hx b n)];exact n,λb u q _=>?_,
  λb xs q=>by rw[ag (hm b _ q λz=>z)];exact q,λb u xs q=>by rw[ag (hm b _ q λz=>z)];exact q,λb ps q=>⟨#[],by rw[ag (hm b _ q λz=>z),q];simp⟩⟩
 by_cases hbe:b=e
 ·subst hbe;exact heo
 ·exact⟨u,k b u hbe q⟩
end
def C3 (h:Heap)(H:Hp):List Addr:=(List.range h.objs.size).filter λa=>(H a).isSome
def ng (h:Heap)(H:Hp):Heap:=PySem.W.hideAll h (C3 h H)
def t5 (h:Heap)(H:Hp):(ng h H).objs.size=h.objs.size:=PySem.W.hideAll_size _ _
def v5 {h:Heap}{H:Hp}{b:Addr}{o:Obj}(e:h.get? b=some o)(n:H b=none):(ng h H).get? b=some o:=
 PySem.W.hideAll_get _ e λhm=>by
  have q:(H b).isSome=true:=(Fv.mp hm).2
  rw[n] at q;simp at q
theorem y1 {h:Heap}{H:Hp}{b:Addr}{o:Obj}(e:(ng h H).get? b=some o):h.get? b=some o/\H b=none:=by
 have e':h.get? b=some o:=PySem.W.of_hideAll (C3 h H) e
 refine⟨e',?_⟩
 cases q:H b with
 |none=>rfl
 |some x=>
  have hm:b∈C3 h H:=Fv.mpr ⟨E2.mpr (EO e'),by simp[q]⟩
  have z:(ng h H).get? b=none:=PySem.W.hideAll_none (C3 h H) hm
  rw[z] at e;cases e
def y6 (g h:Heap)(L:Addr):List (Addr×Obj):=(List.range h.objs.size).filterMap λa=>if a=L\/(g.get? a).isSome=true then none else (h.get? a).map λo=>(a,o)
def rest (g h:Heap)(L d:Addr):List (Addr×Obj):=(y6 g h L).filter λp=>decide (p.1≠d)
structure Mod (K:Frag)(mg:Str->Option Value)(base:Heap):Prop where
 kin:K.In base
 glob:base.Ns mainGlobals mg
 blt:∃mb,base.Ns builtinsNs mb/\∀x:Str,x≠"__name__"->mb x=bootBuiltins x
 nolimit:base.NoLimit
 sys:∃mm,base.Ns sysModules mm
structure Cx where
 prog:Program
 w:World
 K:Frag
 mg:Str->Option Value
 base:Heap
 A:Around
 N:List Str
 s₀:Shared
 H₀:Hp
 env:Env
 outer:List Env
 stack:List Env
 ex:List Addr
 fn:Str->Bool
 calm:Bool
 pn:List (Addr×Obj)
 xe:Value->Shared->Prop
def fx (l:List Env):List Addr:=l.filterMap (·.frame)
abbrev Cx.fs (X:Cx):List Addr:=fx X.outer
def xi (sc:Scope)(x:Str):Prop:=sc.names.lookup x=some .local\/sc.names.lookup x=some .cell\/sc.names.lookup x=some .free
def Loc (sc:Scope)(x:Str):Prop:=sc.names.lookup x=some .local\/sc.names.lookup x=some .cell
def Look (env:Env)(h:Heap)(m:Str->Option Value)(x:Str)(u:Value):Prop:=
 (env.kindOf x=some .local/\m x=some u)\/((env.kindOf x=some .cell\/env.kindOf x=some .free)/\∃c,env.cells.lookup x=some c/\h.IsCell c (some u))
structure Cx.Ok (X:Cx):Prop where
 mod:Mod X.K X.mg X.base
 kind:X.env.scope.kind=.function
 glob:X.env.globals=mainGlobals
 blt:X.env.builtins=builtinsNs
 above:X.s₀.heap.objs.size<=X.env.locals
 inj:∀x y c,X.env.cells.lookup x=some c->X.env.cells.lookup y=some c->x=y
 has:∀x,(X.env.kindOf x=some .cell\/X.env.kindOf x=some .free)->∃c,X.env.cells.lookup x=some c
 cab:∀x c,X.fn x=true->X.env.cells.lookup x=some c->X.s₀.heap.objs.size<=c
 hd:X.calm=true->X.A.handled=none
 frames:X.A.frames=some X.stack
 stk:X.stack=X.outer\/(X.stack=X.env :: X.outer/\X.env.frame=some X.env.locals)
 exf:∀b∈X.ex,b≠X.env.locals/\∀x c,X.env.cells.lookup x=some c->c≠b
 bs:∀b o,X.base.get? b=some o->X.s₀.heap.get? b=some o/\X.H₀ b=none
 bsz:X.base.objs.size<=X.s₀.heap.objs.size
 noex:∀b o,X.base.get? b=some o->b∉X.ex
 exfs:∀b∈X.ex,b∉X.fs
 funs:X.s₀.heap.FunFrames X.base X.outer
 frf:∀b∈X.fs,X.H₀ b=none
structure Inv (X:Cx)(pins:List (Addr×Obj))(σ:List (Option V))(H:Hp)(s:Shared):Prop where
 ok:X.Ok
 os:s.os=X.s₀.os
 bare:AllBare s.gens
 base:Un X.fs X.ex X.H₀ H X.s₀.heap s.heap
 loc:∃m,s.heap.Ns X.env.locals m/\∀(i:Nat) (x:Str) (v:V),X.N[i]? =some x->σ[i]? =some (some v)->xi X.env.scope x->∃u,RelV v u/\Look X.env s.heap m x u
 cell:∀x c,X.env.cells.lookup x=some c->∃v,s.heap.IsCell c v
 free:H X.env.locals=none
 freeC:∀x c,X.env.cells.lookup x=some c->H c=none
 pin:∀p∈X.pn ++ pins,s.heap.get? p.1=some p.2/\H p.1=none/\p.1≠X.env.locals/\p.1∉X.fs/\∀v,p.2.data≠.cell v
 hok:iO X.prog X.w H s.heap
 len:σ.length=X.N.length
section
variable {X:Cx}{pins:List (Addr×Obj)}{σ:List (Option V)}{H H':Hp}{s:Shared}{h':Heap}
def Cx.Ok.nofr (ok:X.Ok){b:Addr}{o:Obj}(e:X.base.get? b=some o):b∉X.fs:=λhb=>by
 have:=(ok.funs.mem hb).1
 rw[e] at this;cases this
def Inv.bs (I:Inv X pins σ H s):∀b o,X.base.get? b=some o->s.heap.get? b=some o/\H b=none:=λb o e=>
 ⟨I.base.keep b o (I.ok.bs b o e).1 (I.ok.bs b o e).2 (I.ok.nofr e) (I.ok.noex b o e),I.base.free b o (I.ok.bs b o e).1 (I.ok.bs b o e).2 (I.ok.noex b o e)⟩
def Inv.bk (I:Inv X pins σ H s):∀b o,X.base.get? b=some o->s.heap.get? b=some o:=λb o e=>(I.bs b o e).1
def Inv.mod (I:Inv X pins σ H s):Mod X.K X.mg X.base:=I.ok.mod
def Inv.kIn (I:Inv X pins σ H s):X.K.In s.heap:=I.ok.mod.kin.keeps I.bk
def Inv.lt (I:Inv X pins σ H s):X.env.locals < s.heap.objs.size:=let ⟨_,hn,_⟩:=I.loc;hn.lt
def Inv.sz (I:Inv X pins σ H s):X.s₀.heap.objs.size<=s.heap.objs.size:=FK I.ok.above (Nat.le_of_lt I.lt)
def Inv.nofs (I:Inv X pins σ H s){a:Addr}(h:s.heap.objs.size<=a):a∉X.fs:=λhb=>by
 obtain⟨_,o,ho,_⟩:=I.ok.funs.mem hb
 exact absurd (E7 (EO ho) (FK I.sz h)) (Fe _)
def Inv.cne (I:Inv X pins σ H s):∀x c,X.env.cells.lookup x=some c->c≠X.env.locals:=λx c e z=>by
 obtain⟨v,o,ho,hd⟩:=I.cell x c e
 obtain⟨m,⟨o',es,ep,ho',hd',_⟩,_⟩:=I.loc
 rw[z,ho'] at ho;cases ho;rw[hd'] at hd;cases hd
def Inv.funs (I:Inv X pins σ H s):s.heap.FunFrames X.base X.outer:=by
 have all:∀(l:List Env),(∀b∈fx l,b∈X.fs)->X.s₀.heap.FunFrames X.base l->s.heap.FunFrames X.base l:=by
  intro l
  induction l with
  |nil=>intro _ _;trivial
  |cons env r ih=>
   intro hs hl
   obtain⟨hk,⟨L,o,hf,hn,ho,hd⟩,hr⟩:=hl
   have hL:L∈X.fs:=hs L (by unfold fx;rw[He,hf];exact EL)
   obtain⟨sl,e⟩:=I.base.slot L o ho (I.ok.frf L hL) hL λz=>I.ok.exfs L z hL
   exact⟨hk,⟨L,_,hf,hn,e,hd⟩,ih (λb hb=>hs b (by unfold fx;rw[He,hf];exact EK _ hb)) hr⟩
 exact all X.outer (λ_ hb=>hb) I.ok.funs
def Inv.stack (I:Inv X pins σ H s):s.heap.FunFrames X.base X.stack:=by
 rcases I.ok.stk with e | ⟨e,hf⟩
 ·rw[e];exact I.funs
 ·rw[e]
  obtain⟨m,hn,_⟩:=I.loc
  refine .cons (by rw[I.ok.kind];decide) hf hn ?_ I.funs
  exact Heap.get?_none_of_le (FK I.ok.bsz I.ok.above)
def Inv.stkSub (I:Inv X pins σ H s):∀b∈fx X.stack,b∈X.env.locals :: X.fs:=λb hb=>by
 rcases I.ok.stk with e | ⟨e,hf⟩
 ·rw[e] at hb;exact EK _ hb
 ·rw[e] at hb
  unfold fx at hb
  rw[He,hf] at hb
  exact hb
def Inv.stkFree (I:Inv X pins σ H s):∀b∈fx X.stack,H b=none:=λb hb=>by
 rcases EH.mp (I.stkSub b hb) with e |hb
 ·rw[e];exact I.free
 ·obtain⟨_,o,ho,_⟩:=I.ok.funs.mem hb
  exact I.base.free b o ho (I.ok.frf b hb) λz=>I.ok.exfs b z hb
def Inv.step {g':Array GenState}{t':Nat}{d':Drawn}{ch:List Addr}(I:Inv X pins σ H s)
  (hch:∀b∈ch,(b∈X.ex\/X.s₀.heap.objs.size<=b)/\b≠X.env.locals/\(∀x c,X.env.cells.lookup x=some c->c≠b)/\∀p∈X.pn ++ pins,p.1≠b)
  (keep:∀b o,b≠X.env.locals->b∉X.fs->b∉ch->s.heap.get? b=some o->H b=none->h'.get? b=some o)
  (slot:∀b o,b≠X.env.locals->b∈X.fs->b∉ch->s.heap.get? b=some o->H b=none->∃sl,h'.get? b=some {o with slots:=sl}) (free:∀b o,b∉ch->s.heap.get? b=some o->H b=none->H' b=none)
  (there:∀b o,b∉ch->s.heap.get? b=some o->∃o',h'.get? b=some o')
  (tups:∀b xs,H b=some (.tup xs)->H' b=some (.tup xs)) (frzs:∀b o u,H b=some (.aL o u)->H' b=some (.aL o u)) (tbls:∀b ps,H b=some (.tbl ps)->∃more,H' b=some (.tbl (ps ++ more)))
  (ns:∀m,s.heap.Ns X.env.locals m->h'.Ns X.env.locals m) (hok:iO X.prog X.w H' h') (hg:AllBare g') :
  Inv X pins σ H' {s with heap:=h',gens:=g',drawn:=d',toks:=t'}:=by
 have neL:∀b o,X.s₀.heap.get? b=some o->b≠X.env.locals:=λb o e=>Fd (E7 (EO e) I.ok.above)
 have neC:∀b o,X.s₀.heap.get? b=some o->b∉X.ex->b∉ch:=λb o e hx hb=>by
  rcases (hch b hb).1 with z |z
  ·exact hx z
  ·exact absurd (E7 (EO e) z) (Fe _)
 have cellK:∀x c,X.env.cells.lookup x=some c->∀v,s.heap.IsCell c v->h'.IsCell c v:=λx c e v ⟨o,ho,hd⟩=>by
  have nch:c∉ch:=λz=>(hch c z).2.2.1 x c e rfl
  by_cases hc:c∈X.fs
  ·obtain⟨sl,q⟩:=slot c o (I.cne x c e) hc nch ho (I.freeC x c e)
   exact⟨_,q,hd⟩
  ·exact⟨o,keep c o (I.cne x c e) hc nch ho (I.freeC x c e),hd⟩
 refine⟨I.ok,I.os,hg,⟨λb o e n hb hx=>?_,λb o e n hb hx=>?_,λb o e n hx=>?_,λb o e hx=>?_,λb xs e=>tups b xs (I.base.tups b xs e),λb o xs e=>frzs b o xs (I.base.frzs b o xs e),λb ps e=>?_⟩,?_,λx c e=>?_,?_,λx c e=>?_,λp hp=>?_,hok,I.len⟩
 ·exact keep b o (neL b o e) hb (neC b o e hx) (I.base.keep b o e n hb hx) (I.base.free b o e n hx)
 ·obtain⟨sl,e1⟩:=I.base.slot b o e n hb hx
  obtain⟨sl',e2⟩:=slot b _ (neL b o e) hb (neC b o e hx) e1 (I.base.free b o e n hx)
  exact⟨sl',e2⟩
 ·obtain⟨o',e1⟩:=I.base.there b o e hx
  exact free b o' (neC b o e hx) e1 (I.base.free b o e n hx)
 ·obtain⟨o',e1⟩:=I.base.there b o e hx
  exact there b o' (neC b o e hx) e1
 ·obtain⟨m1,e1⟩:=I.base.tbls b ps e
  obtain⟨m2,e2⟩:=tbls b _ e1
  exact⟨m1 ++ m2,by rw[e2,Array.append_assoc]⟩
 ·obtain⟨m,hn,hl⟩:=I.loc
  refine⟨m,ns m hn,λi x v e1 e2 e3=>?_⟩
  obtain⟨u,r,l⟩:=hl i x v e1 e2 e3
  refine⟨u,r,?_⟩
  rcases l with l | ⟨k,c,e,z⟩
  ·exact .inl l
  ·exact .inr ⟨k,c,e,cellK x c e _ z⟩
 ·obtain⟨v,z⟩:=I.cell x c e
  exact⟨v,cellK x c e v z⟩
 ·obtain⟨m,⟨o,_,_,ho,_⟩,_⟩:=I.loc
  exact free _ o (λz=>(hch _ z).2.1 rfl) ho I.free
 ·obtain⟨v,o,ho,hd⟩:=I.cell x c e
  exact free c o (λz=>(hch c z).2.2.1 x c e rfl) ho (I.freeC x c e)
 ·obtain⟨e,n,ne,nf,d⟩:=I.pin p hp
  have nch:p.1∉ch:=λz=>(hch p.1 z).2.2.2 p hp rfl
  exact⟨keep p.1 p.2 ne nf nch e n,free p.1 p.2 nch e n,ne,nf,d⟩
def Inv.un {t':Nat}(I:Inv X pins σ H s)(u:Un X.fs [] H H' s.heap h')(hok:iO X.prog X.w H' h'):Inv X pins σ H' {s with heap:=h',toks:=t'}:=by
 obtain⟨m,⟨o,es,ep,ho,r⟩,_⟩:=id I.loc
 obtain⟨sl,hL⟩:=u.any ho I.free (by simp)
 exact I.step (g':=s.gens) (d':=s.drawn) (ch:=[]) (λ_ z=>nomatch z) (λb o _ hb _ e n=>u.keep b o e n hb (by simp)) (λb o _ hb _ e n=>u.slot b o e n hb (by simp)) (λb o _ e n=>u.free b o e n (by simp)) (λb o _ e=>u.there b o e (by simp)) u.tups u.frzs u.tbls (λm' hm=>by
  obtain⟨o',es',ep',ho',r'⟩:=hm
  rw[ho] at ho';cases ho'
  exact⟨_,es',ep',hL,r'⟩) hok I.bare
def Inv.call {g':Array GenState}{t':Nat}{d':Drawn}{ch:List Addr}(I:Inv X pins σ H s)(u:Un (fx X.stack) ch H H' s.heap h')(hok:iO X.prog X.w H' h')(hg:AllBare g')
  (hch:∀b∈ch,(b∈X.ex\/X.s₀.heap.objs.size<=b)/\b≠X.env.locals/\(∀x c,X.env.cells.lookup x=some c->c≠b)/\∀p∈X.pn ++ pins,p.1≠b) :
  Inv X pins σ H' {s with heap:=h',gens:=g',drawn:=d',toks:=t'}:=by
 obtain⟨m,⟨o,es,ep,ho,r⟩,_⟩:=id I.loc
 obtain⟨sl,hL⟩:=u.any ho I.free λz=>(hch _ z).2.1 rfl
 exact I.step (ch:=ch) hch (λb o hL hb hc e n=>u.keep b o e n (λz=>(EH.mp (I.stkSub b z)).elim hL hb) hc) (λb o _ _ hc e n=>u.any e n hc) (λb o hc e n=>u.free b o e n hc) (λb o hc e=>u.there b o e hc) u.tups u.frzs u.tbls (λm' hm=>by
  obtain⟨o',es',ep',ho',r'⟩:=hm
  rw[ho] at ho';cases ho'
  exact⟨_,es',ep',hL,r'⟩) hok hg
def Inv.turned {t':Nat}{it:Addr}(I:Inv X pins σ H s)(k:∀b o,b≠it->s.heap.get? b=some o->h'.get? b=some o)(hn:H it=none)(hL:it≠X.env.locals)
  (h1:it∈X.ex\/X.s₀.heap.objs.size<=it) (h2:∀x c,X.env.cells.lookup x=some c->c≠it) (h3:∀p∈X.pn ++ pins,p.1≠it):Inv X pins σ H {s with heap:=h',toks:=t'}:=by
 have nit:∀b u,H b=some u->b≠it:=λb u e z=>by rw[z,hn] at e;cases e
 refine I.step (g':=s.gens) (d':=s.drawn) (ch:=[it]) (λb hb=>?_) (λb o _ _ hc e _=>k b o (λz=>hc (by simp[z])) e) (λb o _ _ hc e _=>⟨o.slots,k b o (λz=>hc (by simp[z])) e⟩) (λ_ _ _ _ n=>n)
  (λb o hc e=>⟨o,k b o (λz=>hc (by simp[z])) e⟩) (λ_ _ e=>e) (λ_ _ _ e=>e) (λb ps e=>⟨#[],by rw[e];simp⟩) (λm hm=>?_) (λb u e=>?_) I.bare
 ·have e:b=it:=by simpa using hb
  subst e
  exact⟨h1,hL,h2,h3⟩
 ·obtain⟨o,es,ep,ho,r⟩:=hm
  exact⟨o,es,ep,k _ o (Ne.symm hL) ho,r⟩
 ·refine (I.hok b u e).stay (λc v hc q=>k c v ?_ q) (λ_ q=>q) λ_ _ q=>q
  rcases hc with z |z
  ·rw[z];exact nit b u e
  ·exact nit c _ z
def Inv.tok (I:Inv X pins σ H s)(t:Nat):Inv X pins σ H {s with toks:=t}:=I.un (h':=s.heap) (t':=t) Un.refl I.hok
def Inv.kept {t':Nat}(I:Inv X pins σ H s)(k:∀b u,s.heap.get? b=some u->h'.get? b=some u):Inv X pins σ H {s with heap:=h',toks:=t'}:=I.un (Un.kept k) (I.hok.kept k)
def Inv.laid {a:Addr}{o:HO}{t':Nat}(I:Inv X pins σ H s)(k:∀b u,s.heap.get? b=some u->h'.get? b=some u)(hp:s.heap.objs.size<=a)(new:bF X.prog X.w (upd H a o) h' a o) :
  Inv X pins σ (upd H a o) {s with heap:=h',toks:=t'}:=I.un (Un.laid k hp (I.hok.fresh hp)) (I.hok.laid k hp new)
def Inv.write {x e:Addr}{o:HO}{t':Nat}(I:Inv X pins σ H s)(mu:C8 (H x))(he:e=x\/H e=some (.own x))(k:∀b u,b≠e->s.heap.get? b=some u->h'.get? b=some u)(heo:∃u,h'.get? e=some u)
  (new:bF X.prog X.w (upd H x o) h' x o):Inv X pins σ (upd H x o) {s with heap:=h',toks:=t'}:=I.un (Un.write mu he k heo) (I.hok.write mu he k heo new)
def Inv.pins_of {pins':List (Addr×Obj)}(I:Inv X pins σ H s)(h:∀p∈pins',s.heap.get? p.1=some p.2/\H p.1=none/\p.1≠X.env.locals/\p.1∉X.fs/\∀v,p.2.data≠.cell v):Inv X pins' σ H s:=
 ⟨I.ok,I.os,I.bare,I.base,I.loc,I.cell,I.free,I.freeC,λp hp=>(E6.mp hp).elim (λz=>I.pin p (FT _ z)) (h p),I.hok,I.len⟩
def oZ {N:List Str}(hN:N.Nodup){i j:Nat}{x:Str}(a:N[i]? =some x)(b:N[j]? =some x):i=j:=by
 obtain⟨h1,e1⟩:=EV.mp a
 obtain⟨h2,e2⟩:=EV.mp b
 exact (List.getElem_inj hN).mp (e1.trans e2.symm)
def mG {M:Model}{A:Around}{E:Value->Shared->Prop}{i:Nat}{x:Str}{v:V}{u:Value}{Q:Unit->Shared->Prop}(I:Inv X pins σ H s)(hN:X.N.Nodup)(hi:X.N[i]? =some x)(hx:Loc X.env.scope x)(r:RelV v u)
  (h:∀s',Inv X pins (σ.set i (some v)) H s'->(∃a,Heap.SameBut a s.heap s'.heap/\(a=X.env.locals\/X.env.cells.lookup x=some a))->Q () s') (hf:X.fn x=true\/X.env.scope.names.lookup x=some .local:=by first |exact .inl rfl |exact .inr rfl |assumption):wpAny M A (storeName X.env x u) Q E s:=by
 obtain⟨m,hn,hl⟩:=id I.loc
 have hcls:(X.env.scope.kind == .class || (X.env.scope.kind == .module && X.env.locals != X.env.globals))=false:=by rw[I.ok.kind];rfl
 have hiσ:i < σ.length:=by rw[I.len];exact (EV.mp hi).1
 have cne:=I.cne
 have tracked:∀{a:Addr} {h':Heap},(∃o,s.heap.get? a=some o/\H a=none)->Heap.SameBut a s.heap h'->iO X.prog X.w H h':=λ{a h'} ha hs b ob e=>by
  obtain⟨_,_,hfree⟩:=ha
  refine (I.hok b ob e).stay (λc w' hc q=>(hs.2 c ?_).trans q) (λ_ q=>q) λ_ _ q=>q
  rintro rfl
  rcases hc with rfl |hc
  ·rw[hfree] at e;cases e
  ·rw[hfree] at hc;cases hc
 rcases hx with hk |hk
 ·refine wpAny_storeName_local hk hn (λh' hn' hs=>?_) hcls
  obtain⟨oL,_,_,hoL,_⟩:=id hn
  refine h _ ⟨I.ok,I.os,I.bare,⟨λb o e n hb hx=>?_,λb o e n hb hx=>?_,I.base.free,λb o e hx=>?_,I.base.tups,I.base.frzs,I.base.tbls⟩,⟨_,hn',λj y v' e1 e2 e3=>?_⟩,λy c e=>?_,I.free,I.freeC,λp hp=>?_,tracked ⟨oL,hoL,I.free⟩ hs,by simpa using I.len⟩ ⟨_,hs,.inl rfl⟩
  ·exact (hs.2 b (Fd (E7 (EO e) I.ok.above))).trans (I.base.keep b o e n hb hx)
  ·obtain⟨sl,e1⟩:=I.base.slot b o e n hb hx
   exact⟨sl,(hs.2 b (Fd (E7 (EO e) I.ok.above))).trans e1⟩
  ·obtain⟨o',e1⟩:=I.base.there b o e hx
   exact⟨o',(hs.2 b (Fd (E7 (EO e) I.ok.above))).trans e1⟩
  ·by_cases hj:j=i
   ·subst hj
    rw[hi] at e1;cases e1
    rw[E5 hiσ] at e2
    cases e2
    exact⟨u,r,.inl ⟨hk,by simp⟩⟩
   ·rw[E1 (Ne.symm hj)] at e2
    obtain⟨u',r',q⟩:=hl j y v' e1 e2 e3
    refine⟨u',r',?_⟩
    rcases q with⟨k,e⟩ | ⟨k,c,e,z⟩
    ·refine .inl ⟨k,?_⟩
     have:y≠x:=λe=>hj (oZ hN e1 (e▸hi))
     simp[this,e]
    ·exact .inr ⟨k,c,e,z.sameBut hs (cne y c e)⟩
  ·obtain⟨w',z⟩:=I.cell y c e
   exact⟨w',z.sameBut hs (cne y c e)⟩
  ·obtain⟨e,n,ne,nf,d⟩:=I.pin p hp
   exact⟨(hs.2 p.1 ne).trans e,n,ne,nf,d⟩
 ·have hfn:X.fn x=true:=by
   rcases hf with z |z
   ·exact z
   ·rw[z] at hk;cases hk
  obtain⟨c,hc⟩:=I.ok.has x (.inl hk)
  obtain⟨w',z⟩:=I.cell x c hc
  refine wpAny_storeName_cell I.ok.kind hk hc z (λh' hc' hs=>?_)
  obtain⟨oc,hoc,hocd⟩:=id z
  refine h {s with heap:=h'} ⟨I.ok,I.os,I.bare,⟨λb o e n hb hx=>?_,λb o e n hb hx=>?_,I.base.free,λb o e hx=>?_,I.base.tups,I.base.frzs,I.base.tbls⟩,⟨m,hn.sameBut hs (Ne.symm (cne x c hc)),λj y v' e1 e2 e3=>?_⟩,λy c' e=>?_,I.free,I.freeC,λp hp=>?_,tracked ⟨oc,hoc,I.freeC x c hc⟩ hs,by simpa using I.len⟩ ⟨c,hs,.inr hc⟩
  ·exact (hs.2 b (Fd (E7 (EO e) (I.ok.cab x c hfn hc)))).trans (I.base.keep b o e n hb hx)
  ·obtain⟨sl,e1⟩:=I.base.slot b o e n hb hx
   exact⟨sl,(hs.2 b (Fd (E7 (EO e) (I.ok.cab x c hfn hc)))).trans e1⟩
  ·obtain⟨o',e1⟩:=I.base.there b o e hx
   exact⟨o',(hs.2 b (Fd (E7 (EO e) (I.ok.cab x c hfn hc)))).trans e1⟩
  ·by_cases hj:j=i
   ·subst hj
    rw[hi] at e1;cases e1
    rw[E5 hiσ] at e2
    cases e2
    exact⟨u,r,.inr ⟨.inl hk,c,hc,hc'⟩⟩
   ·rw[E1 (Ne.symm hj)] at e2
    obtain⟨u',r',q⟩:=hl j y v' e1 e2 e3
    refine⟨u',r',?_⟩
    rcases q with q | ⟨k,c',e,z'⟩
    ·exact .inl q
    ·refine .inr ⟨k,c',e,z'.sameBut hs ?_⟩
     rintro rfl
     exact hj (oZ hN e1 (I.ok.inj _ _ _ e hc▸hi))
  ·by_cases hcc:c'=c
   ·subst hcc;exact⟨_,hc'⟩
   ·obtain⟨w2,z2⟩:=I.cell y c' e
    exact⟨w2,z2.sameBut hs hcc⟩
  ·obtain⟨e,n,ne,nf,d⟩:=I.pin p hp
   refine⟨(hs.2 p.1 ?_).trans e,n,ne,nf,d⟩
   intro q
   rw[q,hoc] at e
   have q':oc=p.2:=Option.some.inj e
   exact d w' (by rw[<-q'];exact hocd)
def qp {M:Model}{A:Around}{E:Value->Shared->Prop}{i:Nat}{x:Str}{v:V}{u:Value}{Q:Unit->Shared->Prop}(I:Inv X pins σ H s)(hN:X.N.Nodup)(hi:X.N[i]? =some x)(hx:Loc X.env.scope x)(r:RelV v u)
  (h:∀s',Inv X pins (σ.set i (some v)) H s'->Q () s') (hf:X.fn x=true\/X.env.scope.names.lookup x=some .local:=by first |exact .inl rfl |exact .inr rfl |assumption):wpAny M A (storeName X.env x u) Q E s:=
 mG I hN hi hx r (λs' I' _=>h s' I') hf
def Inv.call' {s':Shared}{ch:List Addr}(I:Inv X pins σ H s)(ho:s'.os=s.os)(u:Un (fx X.stack) ch H H' s.heap s'.heap)(hok:iO X.prog X.w H' s'.heap)(hg:AllBare s'.gens)
  (hch:∀b∈ch,(b∈X.ex\/X.s₀.heap.objs.size<=b)/\b≠X.env.locals/\(∀x c,X.env.cells.lookup x=some c->c≠b)/\∀p∈X.pn ++ pins,p.1≠b):Inv X pins σ H' s':=by
 obtain⟨h',g',d',t',o'⟩:=s'
 have e:o'=s.os:=ho
 subst e
 exact I.call (g':=g') (t':=t') (d':=d') u hok hg hch
end
abbrev XK:=Value->Option Addr->Hp->Prop
abbrev St:=List (Option V)
abbrev VK:=V->Hp->Prop
abbrev TE:=St->Hp->VK->Prop
abbrev TT:=St->Hp->(Bool->Hp->Prop)->Prop
abbrev TA:=St->Hp->(List V->Hp->Prop)->Prop
structure Ends where
 nx:St->Hp->Prop
 rt:VK
 bk:St->Hp->Prop:=λ_ _=>False
 ct:St->Hp->Prop:=λ_ _=>False
abbrev TS:=Ends->St->Hp->Prop
def EP (X:Cx)(pins:List (Addr×Obj))(σ:St)(Q:VK)(u:Value)(s':Shared):Prop:=∃v H',Inv X pins σ H' s'/\RelV v u/\Q v H'
def TP (X:Cx)(pins:List (Addr×Obj))(σ:St)(Q:Bool->Hp->Prop)(b:Bool)(s':Shared):Prop:=∃H',Inv X pins σ H' s'/\Q b H'
def AP (X:Cx)(pins:List (Addr×Obj))(σ:St)(Q:List V->Hp->Prop)(us:List Value)(s':Shared):Prop:=∃vs H',Inv X pins σ H' s'/\Vals vs us/\Q vs H'
def SP (X:Cx)(pins:List (Addr×Obj))(D:Ends)(f:Flow)(s':Shared):Prop:=
 match f with
 | .next=>∃σ' H',Inv X pins σ' H' s'/\D.nx σ' H'
 | .brk=>∃σ' H',Inv X pins σ' H' s'/\D.bk σ' H'
 | .cont=>∃σ' H',Inv X pins σ' H' s'/\D.ct σ' H'
 | .ret u=>∃v σ' H',Inv X pins σ' H' s'/\RelV v u/\D.rt v H'
def PE (X:Cx)(e:Expr)(t:TE):Prop:=
 ∀(pins:List (Addr×Obj)) (s:Shared) (σ:St) (H:Hp) (Q:VK),Inv X pins σ H s->t σ H Q->wpAny (model X.prog X.w) X.A (eval e X.env) (EP X pins σ Q) X.xe s
def PT (X:Cx)(e:Expr)(t:TT):Prop:=
 ∀(pins:List (Addr×Obj)) (s:Shared) (σ:St) (H:Hp) (Q:Bool->Hp->Prop),Inv X pins σ H s->t σ H Q->wpAny (model X.prog X.w) X.A (isTrue e X.env (eval e X.env)) (TP X pins σ Q) X.xe s
def PW (X:Cx)(e:Expr)(t:TT):Prop:=
 ∀(whole:Sem Value) (pins:List (Addr×Obj)) (s:Shared) (σ:St) (H:Hp) (Q:Bool->Hp->Prop),Inv X pins σ H s->t σ H Q->wpAny (model X.prog X.w) X.A (isTrue e X.env whole) (TP X pins σ Q) X.xe s
def PW.pt {X:Cx}{e:Expr}{t:TT}(h:PW X e t):PT X e t:=h _
def PA (X:Cx)(es:List Expr)(t:TA):Prop:=
 ∀(pos:Pos) (pins:List (Addr×Obj)) (s:Shared) (σ:St) (H:Hp) (Q:List V->Hp->Prop),Inv X pins σ H s->t σ H Q->wpAny (model X.prog X.w) X.A (spliced (backTo pos (starEach es X.env))) (AP X pins σ Q) X.xe s
def PS (X:Cx)(st:Stmt)(t:TS):Prop:=
 ∀(pins:List (Addr×Obj)) (s:Shared) (σ:St) (H:Hp) (D:Ends),Inv X pins σ H s->t D σ H->wpAny (model X.prog X.w) X.A (exec st X.env) (SP X pins D) X.xe s
def mS (X:Cx)(st:List Stmt)(t:TS):Prop:=
 ∀(pins:List (Addr×Obj)) (s:Shared) (σ:St) (H:Hp) (D:Ends),Inv X pins σ H s->t D σ H->wpAny (model X.prog X.w) X.A (execs st X.env) (SP X pins D) X.xe s
def bP {α:Type}{t:Sem α}{Q Q':α->Shared->Prop}{M:Model}{A:Around}{E:Value->Shared->Prop}{s:Shared}(h:wpAny M A t Q E s)(hQ:∀a s,Q a s->Q' a s):wpAny M A t Q' E s:=Gi h hQ λ_ _ x=>x
section
variable {X:Cx}
def bin {a b:Expr}{ta tb:TE}(ha:PE X a ta)(hb:PE X b tb){pins:List (Addr×Obj)}{s:Shared}{σ:St}{H:Hp}{R:V->V->Hp->Prop}(I:Inv X pins σ H s)(h:ta σ H λx H1=>tb σ H1 λy H2=>R x y H2)
  {α:Type} {Q:α->Shared->Prop} {f:Value->Value->Sem α}
  (hf:∀v u s2 x y H2,Inv X pins σ H2 s2->RelV x v->RelV y u->R x y H2->wpAny (model X.prog X.w) X.A (f v u) Q X.xe s2) :
  wpAny (model X.prog X.w) X.A (eval a X.env) (λv s₁=>wpAny (model X.prog X.w) X.A (eval b X.env) (λu s₂=>wpAny (model X.prog X.w) X.A (f v u) Q X.xe s₂) X.xe s₁) X.xe s:=by
 refine bP (ha pins s σ H _ I h) λv s1 ⟨x,H1,I1,r1,q1⟩=>?_
 refine bP (hb pins s1 σ H1 _ I1 q1) λu s2 ⟨y,H2,I2,r2,q2⟩=>?_
 exact hf v u s2 x y H2 I2 r1 r2 q2
def zF (i:Nat):TE:=λσ H Q=>∃v,σ[i]? =some (some v)/\Q v H
def tC (v:V):TE:=λ_ H Q=>Q v H
def hE {i:Nat}{x:Str}{pos:Pos}(hN:X.N[i]? =some x)(hv:xi X.env.scope x)(hd:(x == ("__debug__":Str))=false:=by decide)(hcd:(x == ("__classdict__":Str))=false:=by decide):PE X (.Name x pos) (zF i):=by
 intro pins s σ H Q I h
 obtain⟨v,e,h⟩:=h
 obtain⟨m,hn,hl⟩:=I.loc
 obtain⟨u,r,l⟩:=hl i x v hN e hv
 have fin:EP X pins σ Q u s:=⟨v,H,I,r,h⟩
 rcases l with⟨hk,hm⟩ | ⟨hk,c,hc,hcell⟩
 ·exact wpAny_Name (wpAny_loadName_local I.ok.kind hk hn hm fin) hd
 ·rcases hk with hk |hk
  ·exact wpAny_Name (wpAny_loadName_cell I.ok.kind hk hc hcell fin) hd
  ·exact wpAny_Name (wpAny_loadName_free I.ok.kind hk hc hcell fin hcd) hd
def m8 {i j pos}:PE X (.Constant (.int i) j pos) (tC (.int i)):=λ_ _ _ H _ I h=>wpAny_Constant_int ⟨.int i,H,I.tok _,⟨_,rfl⟩,h⟩
def tO {b j pos}:PE X (.Constant (.bool b) j pos) (tC (.bl b)):=λ_ _ _ H _ I h=>Constant_bool ⟨.bl b,H,I,rfl,h⟩
def Br {x j pos}:PE X (.Constant (.str x) j pos) (tC (.str x)):=λ_ _ _ H _ I h=>Calls.Constant_str ⟨.str x,H,I.tok _,⟨_,rfl⟩,h⟩
def Gl (X:Cx)(x:Str):Prop:=X.env.kindOf x=some .globalImplicit
def nE {E:Value->Shared->Prop}{pins:List (Addr×Obj)}{s:Shared}{σ:St}{H:Hp}{x:Str}{u:Value}{pos:Pos}{Q:Value->Shared->Prop}(I:Inv X pins σ H s)(hg:Gl X x)(hm:X.mg x=some u)(h:Q u s)
  (hd:(x == ("__debug__":Str))=false:=by decide):wpAny (model X.prog X.w) X.A (eval (.Name x pos) X.env) Q E s:=
 Calls.Name_function_global I.ok.kind hg (Calls.loadGlobal_global (by rw[I.ok.glob];exact I.mod.glob.keeps I.bk) hm h) hd
def kQ {E:Value->Shared->Prop}{pins:List (Addr×Obj)}{s:Shared}{σ:St}{H:Hp}{x:Str}{u:Value}{pos:Pos}{Q:Value->Shared->Prop}(I:Inv X pins σ H s)(hg:Gl X x)(hm:X.mg x=none)(hv:bootBuiltins x=some u)(h:Q u s)
  (hn:x≠"__name__":=by decide) (hd:(x == ("__debug__":Str))=false:=by decide):wpAny (model X.prog X.w) X.A (eval (.Name x pos) X.env) Q E s:=by
 obtain⟨mb,h1,h2⟩:=I.mod.blt
 exact Calls.Name_function_global I.ok.kind hg (Calls.loadGlobal_builtin (by rw[I.ok.glob];exact I.mod.glob.keeps I.bk) hm (by rw[I.ok.blt];exact h1.keeps I.bk) ((h2 x hn).trans hv) h) hd
def yZ {x:Str}{v:V}{u:Value}{pos:Pos}(hg:Gl X x)(hm:X.mg x=some u)(r:RelV v u)(hd:(x == ("__debug__":Str))=false:=by decide):PE X (.Name x pos) (tC v):=
 λ_ _ _ H _ I h=>nE I hg hm ⟨v,H,I,r,h⟩ hd
def yj {x:Str}{v:V}{u:Value}{pos:Pos}(hg:Gl X x)(hm:X.mg x=none)(hv:bootBuiltins x=some u)(r:RelV v u)(hn:x≠"__name__":=by decide)(hd:(x == ("__debug__":Str))=false:=by decide):PE X (.Name x pos) (tC v):=
 λ_ _ _ H _ I h=>kQ I hg hm hv ⟨v,H,I,r,h⟩ hn hd
variable {a b:Expr}{ta tb:TE}{pos:Pos}
def PC (X:Cx)(op:CmpOp)(a b:Expr)(t:TE):Prop:=
 ∀(pins:List (Addr×Obj)) (s:Shared) (σ:St) (H:Hp) (Q:VK),Inv X pins σ H s->t σ H Q->
  wpAny (model X.prog X.w) X.A (eval a X.env) (λv s₁=>wpAny (model X.prog X.w) X.A (eval b X.env) (λu s₂=>wpAny (model X.prog X.w) X.A (compareOp op v u) (EP X pins σ Q) X.xe s₂) X.xe s₁) X.xe s
def wx (b:Expr){op:CmpOp}(h:op≠.In)(h2:op≠.NotIn):behindInMarks op b=false:=by
 have e1:(op == CmpOp.In)=false:=by cases op <;> first |rfl |exact absurd rfl h
 have e2:(op == CmpOp.NotIn)=false:=by cases op <;> first |rfl |exact absurd rfl h2
 cases b <;> simp[behindInMarks,e1,e2]
def tB (t:TE):TT:=λσ H Q=>t σ H λx H1=>∃c,x=.bl c/\Q c H1
def Dp {op:CmpOp}{t:TE}(h:PC X op a b t)(h1:behindInMarks op b=false:=by first |exact wx _ (by decide) (by decide) |rfl):PT X (.Compare a [op] [b] pos) (tB t):=by
 intro pins s σ H Q I hw
 refine wpAny_isTrue_Compare1 (bP (h pins s σ H _ I hw) λv s1 h1=>bP h1 λu s2 h2=>bP h2 λc s3 ⟨x,H1,I1,r1,q1⟩=>?_) h1
 obtain⟨d,rfl,q⟩:=q1
 cases r1
 exact FX ⟨H1,I1,q⟩
def rH {e:Expr}{t:TE}(h:PE X e t)(he:∀whole,isTrue e X.env whole=(do let v <-whole;standAt e.pos;holding [v] (truthy v)):=by intro _;rfl):PT X e (tB t):=by
 intro pins s σ H Q I hw
 refine isTrue_plain (bP (h pins s σ H _ I hw) λv s1 ⟨x,H1,I1,r1,q1⟩=>?_) (he _)
 obtain⟨d,rfl,q⟩:=q1
 cases r1
 exact FX ⟨H1,I1,q⟩
variable {tA tB':TT}{rest:List Expr}
def DM (t u:TT):TT:=λσ H Q=>t σ H λc H1=>if c=true then u σ H1 Q else Q false H1
def EB (t u:TT):TT:=λσ H Q=>t σ H λc H1=>if c=true then Q true H1 else u σ H1 Q
def D0 (t:TT):TT:=λσ H Q=>t σ H λc H1=>Q (!c) H1
theorem yg (ha:PT X a tA):PW X (.BoolOp .And [a] pos) tA:=by
 intro wh pins s σ H Q I h
 refine isTrue_and (bP (ha pins s σ H Q I h) λc s1 e=>?_)
 cases c with
 |true=>exact isTrue_and_nil e
 |false=>exact e
theorem Az (ha:PT X a tA):PW X (.BoolOp .Or [a] pos) tA:=by
 intro wh pins s σ H Q I h
 refine isTrue_or (bP (ha pins s σ H Q I h) λc s1 e=>?_)
 cases c with
 |false=>exact isTrue_or_nil e
 |true=>exact e
theorem Bm (ha:PT X a tA)(hb:PW X (.BoolOp .And (b :: rest) pos) tB'):PW X (.BoolOp .And (a :: b :: rest) pos) (DM tA tB'):=by
 intro wh pins s σ H Q I h
 refine isTrue_and (bP (ha pins s σ H _ I h) λc s1 ⟨H1,I1,q1⟩=>?_)
 cases c with
 |true=>exact hb wh pins s1 σ H1 Q I1 q1
 |false=>exact⟨H1,I1,q1⟩
theorem CZ (ha:PT X a tA)(hb:PW X (.BoolOp .Or (b :: rest) pos) tB'):PW X (.BoolOp .Or (a :: b :: rest) pos) (EB tA tB'):=by
 intro wh pins s σ H Q I h
 refine isTrue_or (bP (ha pins s σ H _ I h) λc s1 ⟨H1,I1,q1⟩=>?_)
 cases c with
 |true=>exact⟨H1,I1,q1⟩
 |false=>exact hb wh pins s1 σ H1 Q I1 q1
def A2 (ha:PT X a tA):PT X (.UnaryOp .Not a pos) (D0 tA):=by
 intro pins s σ H Q I h
 exact isTrue_not (ha pins s σ H (λc H1=>Q (!c) H1) I h)
def CS (ta tb:TE):TE:=λσ H Q=>ta σ H λx H1=>∃c,x=.bl c/\if c=true then tb σ H1 Q else Q (.bl false) H1
def B3 (ta:TE):TE:=λσ H Q=>ta σ H λx H1=>∃c,x=.bl c/\Q (.bl (!c)) H1
def Ao {op}{t:TE}(h:PE X a t):PE X (.BoolOp op [a] pos) t:=λpins s σ H Q I hw=>BoolOp_one (h pins s σ H Q I hw)
theorem BG (ha:PE X a ta)(hb:PE X (.BoolOp .And (b :: rest) pos) tb):PE X (.BoolOp .And (a :: b :: rest) pos) (CS ta tb):=by
 intro pins s σ H Q I h
 refine BoolOp_and (bP (ha pins s σ H _ I h) λv s1 ⟨x,H1,I1,r1,q1⟩=>?_)
 obtain⟨c,rfl,q1⟩:=q1
 cases r1
 refine FX ?_
 cases c with
 |true=>exact hb pins s1 σ H1 Q I1 q1
 |false=>exact⟨.bl false,H1,I1,rfl,q1⟩
def AV (ha:PE X a ta):PE X (.UnaryOp .Not a pos) (B3 ta):=by
 intro pins s σ H Q I h
 refine UnaryOp_ (bP (ha pins s σ H _ I h) λv s1 ⟨x,H1,I1,r1,q1⟩=>?_)
 obtain⟨c,rfl,q1⟩:=q1
 cases r1
 exact not_of (FX ⟨.bl (!c),H1,I1,rfl,q1⟩)
end
def dS (K:Frag)(H:Hp)(a:Addr)(xs:List V):Prop:=
 Rd H a (.lst xs)\/
  ∃(o:Obj) (its:Array Value) (n:Nat),K.lookup a=some o/\o.cls=.type "list"/\o.dict=none/\o.data=.seq its n/\its.size<=sizeLine/\Vals xs its.toList
def eB (K:Frag)(H:Hp)(a:Addr)(xs:List V):Prop:=
 Rd H a (.tup xs)\/
  ∃(o:Obj) (its:Array Value) (n:Nat),K.lookup a=some o/\o.cls=.type "tuple"/\o.data=.seq its n/\its.size<=sizeLine/\Vals xs its.toList/\o.dict=none
def Di:Value->Option V
 | .none=>some .non
 | .bool b=>some (.bl b)
 | .int i _=>some (.int i)
 | .str x _=>some (.str x)
 | .bytes b _=>some (.byt b)
 | .float b _=>some (.flt b)
 | .ref a=>some (.ref a)
 | .type n=>some (.ty n)
 |_=>none
theorem RelV.abs {x:V}{u:Value}(r:RelV x u):Di u=some x:=by
 cases x with
 |non=>cases r;rfl
 |bl _=>cases r;rfl
 |int _=>obtain⟨t,rfl⟩:=r;rfl
 |str _=>obtain⟨t,rfl⟩:=r;rfl
 |byt _=>obtain⟨t,rfl⟩:=r;rfl
 |flt _=>obtain⟨t,rfl⟩:=r;rfl
 |ref _=>cases r;rfl
 |ty _=>cases r;rfl
def RelV.inj {x y:V}{u:Value}(r:RelV x u)(q:RelV y u):x=y:=Option.some.inj (r.abs.symm.trans q.abs)
theorem Vals.inj:∀{xs ys:List V} {us:List Value},Vals xs us->Vals ys us->xs=ys
 |_,_,_,.nil,.nil=>rfl
 |_,_,_,.cons r t,.cons r' t'=>by rw[r.inj r',Vals.inj t t']
section
variable {X:Cx}{pins:List (Addr×Obj)}{σ:St}{H:Hp}{s:Shared}{a:Addr}{xs ys:List V}
def Inv.list (I:Inv X pins σ H s)(h:dS X.K H a xs):∃its:List Value,Vals xs its/\PlainL s.heap a its.toArray/\xs.length<=sizeLine:=by
 rcases h with h | ⟨o,its,n,hk,hc,hd,hs,hz,r⟩
 ·obtain⟨z,its,n,r,e⟩:=h.ok I.hok
  exact⟨its,r,⟨_,n,e,rfl,rfl,rfl⟩,z⟩
 ·refine⟨its.toList,r,⟨o,n,I.kIn a o hk,hc,hd,by simpa using hs⟩,?_⟩
  have e:=r.length
  simp only[Hf] at e
  omega
def Inv.tuple (I:Inv X pins σ H s)(h:eB X.K H a xs):∃its:List Value,Vals xs its/\IsTup s.heap a its.toArray/\xs.length<=sizeLine:=by
 rcases h with h | ⟨o,its,n,hk,hc,hs,hz,r,_⟩
 ·obtain⟨z,its,r,p⟩:=h.ok I.hok
  exact⟨its,r,p.isTup,z⟩
 ·refine⟨its.toList,r,⟨o,I.kIn a o hk,hc,n,by simpa using hs⟩,?_⟩
  have e:=r.length
  simp only[Hf] at e
  omega
def Inv.list_inj (I:Inv X pins σ H s)(h:dS X.K H a xs)(h':dS X.K H a ys):xs=ys:=by
 obtain⟨its,r,⟨o,n,e,_,_,d⟩,_⟩:=I.list h
 obtain⟨its',r',⟨o',n',e',_,_,d'⟩,_⟩:=I.list h'
 rw[e] at e';cases e'
 rw[d] at d'
 injection d' with d1 _
 have:its=its':=by simpa using congrArg Array.toList d1
 subst this
 exact r.inj r'
def Inv.tuple_inj (I:Inv X pins σ H s)(h:eB X.K H a xs)(h':eB X.K H a ys):xs=ys:=by
 obtain⟨its,r,⟨o,e,_,n,d⟩,_⟩:=I.tuple h
 obtain⟨its',r',⟨o',e',_,n',d'⟩,_⟩:=I.tuple h'
 rw[e] at e';cases e'
 rw[d] at d'
 injection d' with d1 _
 have:its=its':=by simpa using congrArg Array.toList d1
 subst this
 exact r.inj r'
end
abbrev Cx.wish (X:Cx)(E:Value->Shared->Prop):Cx:={X with xe:=E}
abbrev Cx.nox (X:Cx):Cx:=X.wish λ_ _=>False
def Cx.Ok.wish {X:Cx}(ok:X.Ok)(E:Value->Shared->Prop):(X.wish E).Ok:=
 ⟨ok.mod,ok.kind,ok.glob,ok.blt,ok.above,ok.inj,ok.has,ok.cab,ok.hd,ok.frames,ok.stk,ok.exf,ok.bs,ok.bsz,ok.noex,ok.exfs,ok.funs,ok.frf⟩
def Cx.Ok.unwish {X:Cx}{E:Value->Shared->Prop}(ok:(X.wish E).Ok):X.Ok:=
 ⟨ok.mod,ok.kind,ok.glob,ok.blt,ok.above,ok.inj,ok.has,ok.cab,ok.hd,ok.frames,ok.stk,ok.exf,ok.bs,ok.bsz,ok.noex,ok.exfs,ok.funs,ok.frf⟩
section
variable {X:Cx}{pins:List (Addr×Obj)}{σ:St}{H:Hp}{s:Shared}{E:Value->Shared->Prop}
def Inv.wish (I:Inv X pins σ H s)(E:Value->Shared->Prop):Inv (X.wish E) pins σ H s:=⟨I.ok.wish E,I.os,I.bare,I.base,I.loc,I.cell,I.free,I.freeC,I.pin,I.hok,I.len⟩
def Inv.unwish (I:Inv (X.wish E) pins σ H s):Inv X pins σ H s:=⟨I.ok.unwish,I.os,I.bare,I.base,I.loc,I.cell,I.free,I.freeC,I.pin,I.hok,I.len⟩
theorem SP.unwish {D:Ends}{f:Flow}{s':Shared}(h:SP (X.wish E) pins D f s'):SP X pins D f s':=by
 cases f with
 |next=>obtain⟨σ',H',I,q⟩:=h;exact⟨σ',H',I.unwish,q⟩
 |brk=>obtain⟨σ',H',I,q⟩:=h;exact⟨σ',H',I.unwish,q⟩
 |cont=>obtain⟨σ',H',I,q⟩:=h;exact⟨σ',H',I.unwish,q⟩
 |ret u=>obtain⟨v,σ',H',I,r,q⟩:=h;exact⟨v,σ',H',I.unwish,r,q⟩
def mS.nox {st:List Stmt}{t:TS}(h:mS X.nox st t):mS X st t:=λpins s σ H D I hw=>
 Gi (h pins s σ H D (I.wish _) hw) (λ_ _ q=>q.unwish) λ_ _ z=>False.elim z
end
section
variable {X:Cx}{st:Stmt}{rest:List Stmt}{t u:TS}{e:Expr}{te:TE}{pos:Pos}
def CO:TS:=λD σ H=>D.nx σ H
def D6 (t u:TS):TS:=λD σ H=>t {D with nx:=u D} σ H
def tQ:mS X [] CO:=λ_ _ σ H _ I h=>wpAny_execs_nil ⟨σ,H,I,h⟩
theorem dQ (h1:PS X st t)(h2:mS X rest u):mS X (st :: rest) (D6 t u):=by
 intro pins s σ H D I h
 refine wpAny_execs_cons (bP (h1 pins s σ H {D with nx:=u D} I h) λf s1 q=>?_)
 cases f with
 |next=>
  obtain⟨σ',H',I',q⟩:=q
  exact h2 pins s1 σ' H' D I' q
 |ret v=>exact q
 |brk=>exact q
 |cont=>exact q
theorem eY (h1:PS X st t):mS X [st] t:=by
 intro pins s σ H D I h
 refine wpAny_execs_cons (bP (h1 pins s σ H D I h) λf s1 q=>?_)
 cases f with
 |next=>exact wpAny_execs_nil q
 |ret v=>exact q
 |brk=>exact q
 |cont=>exact q
def Inv.quiet {pins:List (Addr×Obj)}{σ:St}{H:Hp}{s:Shared}(I:Inv X pins σ H s):interactive X.env=false:=by simp[interactive,I.ok.kind]
def Cv (te:TE):TS:=λD σ H=>te σ H λ_ H1=>D.nx σ H1
def ou (he:PE X e te)(hs:swapsWith e none pos.line X.env=pure false:=by rfl):PS X (.Expr e pos) (Cv te):=by
 intro pins s σ H D I h
 exact wpAny_Expr_any (bP (he pins s σ H _ I h) λv s1 ⟨x,H1,I1,r1,q1⟩=>⟨σ,H1,I1,q1⟩) I.quiet hs
def DI (te:TE):TS:=λD σ H=>te σ H D.rt
def jG (he:PE X e te):PS X (.Return (some e) pos) (DI te):=by
 intro pins s σ H D I h
 exact wpAny_Return_some (bP (he pins s σ H _ I h) λv s1 ⟨x,H1,I1,r1,q1⟩=>⟨x,σ,H1,I1,r1,q1⟩)
def DX (c:TT)(t u:TS):TS:=λD σ H=>c σ H λb H1=>if b=true then t D σ H1 else u D σ H1
theorem zX {c:Expr}{a b:List Stmt}{tc:TT}(hc:PT X c tc)(ha:mS X a t)(hb:mS X b u):PS X (.If c a b pos) (DX tc t u):=by
 intro pins s σ H D I h
 refine wpAny_If (bP (hc pins s σ H _ I h) λd s1 ⟨H1,I1,q1⟩=>?_)
 cases d with
 |true=>exact ha pins s1 σ H1 D I1 q1
 |false=>exact hb pins s1 σ H1 D I1 q1
end
abbrev TG:=V->St->Hp->(St->Hp->Prop)->Prop
abbrev Be:=List V->St->Hp->(St->Hp->Prop)->Prop
def PG (X:Cx)(target:Expr)(t:TG):Prop:=
 ∀(pins:List (Addr×Obj)) (s:Shared) (σ:St) (H:Hp) (v:V) (u:Value) (Q:St->Hp->Prop),Inv X pins σ H s->RelV v u->t v σ H Q->
  wpAny (model X.prog X.w) X.A (assign target X.env u) (λ_ s'=>∃σ' H',Inv X pins σ' H' s'/\Q σ' H') X.xe s
def C2 (X:Cx)(ts:List Expr)(t:Be):Prop:=
 ∀(pins:List (Addr×Obj)) (s:Shared) (σ:St) (H:Hp) (vs:List V) (us:List Value) (Q:St->Hp->Prop),Inv X pins σ H s->Vals vs us->t vs σ H Q->
  wpAny (model X.prog X.w) X.A (assignInOrder ((assignEach ts X.env).map (·.2)) us) (λ_ s'=>∃σ' H',Inv X pins σ' H' s'/\Q σ' H') X.xe s
abbrev BJ:=V->V->V->Hp->(Hp->Prop)->Prop
def lr (X:Cx)(t:BJ):Prop:=
 ∀(pins:List (Addr×Obj)) (s:Shared) (σ:St) (H:Hp) (o i v:V) (ov iv u:Value) (Q:Hp->Prop),Inv X pins σ H s->RelV o ov->RelV i iv->RelV v u->t o i v H Q->
  wpAny (model X.prog X.w) X.A (setItem ov iv u) (λ_ s'=>∃H',Inv X pins σ H' s'/\Q H') X.xe s
section
variable {X:Cx}{pos:Pos}
def iD (i:Nat):TG:=λv σ H Q=>Q (σ.set i (some v)) H
def bM {i:Nat}{x:Str}(hN:X.N.Nodup)(hi:X.N[i]? =some x)(hx:Loc X.env.scope x)(hf:X.fn x=true\/X.env.scope.names.lookup x=some .local:=by first |exact .inl rfl |exact .inr rfl |assumption):PG X (.Name x pos) (iD i):=by
 intro pins s σ H v u Q I r h
 exact wpAny_assign_Name (qp I hN hi hx r (λs' I'=>⟨_,H,I',h⟩) hf)
def ym:Be:=λvs σ H Q=>vs= []/\Q σ H
def kr (t:TG)(u:Be):Be:=λvs σ H Q=>∃v r,vs=v :: r/\t v σ H λσ' H'=>u r σ' H' Q
def jk:C2 X [] ym:=by
 intro pins s σ H vs us Q I r h
 obtain⟨e,h⟩:=h
 subst e
 cases r
 exact assignInOrder_nil ⟨σ,H,I,h⟩
theorem b8 {e:Expr}{es:List Expr}{t:TG}{u:Be}(h1:PG X e t)(h2:C2 X es u)
  (hs:(assignEach (e :: es) X.env).map (·.2)=assign e X.env :: (assignEach es X.env).map (·.2):=by rfl):C2 X (e :: es) (kr t u):=by
 intro pins s σ H vs us Q I r h
 obtain⟨v,vr,e1,h⟩:=h
 subst e1
 cases r with
 |cons r rr=>
  rw[hs]
  refine assignInOrder_cons (bP (h1 pins s σ H _ _ _ I r h) λ_ s1 ⟨σ1,H1,I1,q1⟩=>?_)
  exact h2 pins s1 σ1 H1 _ _ Q I1 rr q1
def yL (K:Frag)(n:Nat)(t:Be):TG:=λv σ H Q=>∃a xs,v=.ref a/\eB K H a xs/\xs.length=n/\t xs σ H Q
def lq {es:List Expr}{k:Nat}{t:Be}{n:Nat}(hc:X.calm=true)(h:C2 X es t)
  (hn:(assignEach es X.env).length=n:=by rfl) (hst:(assignEach es X.env).findIdx? (·.1)=none:=by rfl):PG X (.Tuple es k pos) (yL X.K n t):=by
 intro pins s σ H v u Q I r hw
 obtain⟨a,xs,e1,hq,hl,hw⟩:=hw
 subst e1
 cases r
 obtain⟨its,rv,ht,hz⟩:=I.tuple hq
 refine assign_Tuple_tuple (I.ok.hd hc) ht (by simp[hn,<-hl,rv.length]) hst λh' hx=>?_
 have I1:Inv X pins σ H {s with heap:=h'}:=I.kept (t':=s.toks) λb o e=>hx b o (Fd (EO e)) e
 exact h pins _ σ H xs _ Q I1 (by simpa using rv) hw
def DV (to ti:TE)(t:BJ):TG:=λv σ H Q=>to σ H λo H1=>ti σ H1 λi H2=>t o i v H2 λH3=>Q σ H3
def rO {o i:Expr}{to ti:TE}{t:BJ}(ho:PE X o to)(hi:PE X i ti)(hs:lr X t)
  (ha:∀v,assign (.Subscript o i pos) X.env v=(do
   let ov <-holding [v] (eval o X.env)
   let iv <-holding [v,ov] (eval i X.env)
   standAt pos
   holding [v,ov,iv] (setItem ov iv v)
   release [v,ov,iv] []):=by intro _;rfl):PG X (.Subscript o i pos) (DV to ti t):=by
 intro pins s σ H v u Q I r h
 rw[ha]
 refine EE (FU (bP (ho pins s σ H _ I h) λov s1 ⟨x,H1,I1,r1,q1⟩=>?_))
 refine EE (FU (bP (hi pins s1 σ H1 _ I1 q1) λiv s2 ⟨y,H2,I2,r2,q2⟩=>?_))
 refine EE (wpAny_standAt (EE (FU (bP (hs pins s2 σ H2 x y v ov iv u _ I2 r1 r2 r q2) λ_ s3 ⟨H3,I3,q3⟩=>?_))))
 exact wpAny_release ⟨σ,H3,I3,q3⟩
def Ct (te:TE)(g:TG):TS:=λD σ H=>te σ H λx H1=>g x σ H1 D.nx
def nV {tg e:Expr}{te:TE}{g:TG}(he:PE X e te)(hg:PG X tg g)(hs:swapsWithSole [tg] e pos.line X.env=pure false:=by rfl)(hw:swappedStores [tg] e X.env=pure none:=by rfl)
  (h1:(assignEach [tg] X.env).map (·.2)= [assign tg X.env]:=by rfl):PS X (.Assign [tg] e pos) (Ct te g):=by
 intro pins s σ H D I h
 refine wpAny_Assign_stores (bP (he pins s σ H _ I h) λv s1 ⟨x,H1,I1,r1,q1⟩=>?_) hs hw
 rw[h1]
 exact bP (hg pins s1 σ H1 x v _ I1 r1 q1) λ_ s2 q=>q
def nZ {i:Nat}{x:Str}{e:Expr}{te:TE}{pos':Pos}(hN:X.N.Nodup)(hi:X.N[i]? =some x)(hx:Loc X.env.scope x)(he:PE X e te)(hs:swapsWith e (some (.Name x pos')) pos.line X.env=pure false:=by rfl)(hf:X.fn x=true\/X.env.scope.names.lookup x=some .local:=by first |exact .inl rfl |exact .inr rfl |assumption) :
  PS X (.Assign [.Name x pos'] e pos) (Ct te (iD i)):=by
 intro pins s σ H D I h
 refine wpAny_Assign_Name (bP (he pins s σ H _ I h) λv s1 ⟨y,H1,I1,r1,q1⟩=>?_) hs
 exact qp I1 hN hi hx r1 (λs2 I2=>⟨_,H1,I2,q1⟩) hf
end
section
variable {X:Cx}{pos:Pos}
def As (c:TT)(tb:TS):TS:=λD σ H=>∃W:Nat->St->Hp->Prop,(∃m,W m σ H)/\∀m σ H,W m σ H->
 c σ H λb H1=>if b=true then ∃N:St->Hp->Prop,(∀σ' H',N σ' H'->∃m',m' < m/\W m' σ' H')/\tb {D with nx:=N,ct:=N,bk:=D.nx} σ H1 else D.nx σ H1
theorem vk {c:Expr}{body:List Stmt}{tc:TT}{tb:TS}(hp:PassesOwn (model X.prog X.w) X.A X.env X.xe)(hc:PT X c tc)(hb:mS X body tb):PS X (.While c body [] pos) (As tc tb):=by
 intro pins s σ H D I h
 obtain⟨W,⟨m0,w0⟩,turn⟩:=h
 refine wpAny_While (codeAny_whileLoop (λn s'=>∃σ' H',Inv X pins σ' H' s'/\W n σ' H') ?_ m0 ⟨σ,H,I,w0⟩)
 rintro n s1 ⟨σ1,H1,I1,w1⟩
 refine GD hp (bP (hc pins s1 σ1 H1 _ I1 (turn n σ1 H1 w1)) λb s2 ⟨H2,I2,q2⟩=>?_)
 cases b with
 |true=>
  obtain⟨N,hN,q2⟩:=q2
  rw[EI rfl]
  refine GD hp (bP (hb pins s2 σ1 H2 _ I2 q2) λf s3 q3=>?_)
  cases f with
  |next=>
   obtain⟨σ3,H3,I3,n3⟩:=q3
   obtain⟨m',hm,w3⟩:=hN σ3 H3 n3
   exact⟨m',hm,σ3,H3,I3,w3⟩
  |cont=>
   obtain⟨σ3,H3,I3,n3⟩:=q3
   obtain⟨m',hm,w3⟩:=hN σ3 H3 n3
   exact⟨m',hm,σ3,H3,I3,w3⟩
  |brk=>exact q3
  |ret v=>exact q3
 |false=>
  rw[EN E8]
  exact wpAny_execs_nil ⟨σ1,H2,I2,q2⟩
end
structure It where
 go:Nat->Hp->Prop
 yld:Nat->Hp->V->Hp->Prop
 stop:Nat->Hp->Prop
def lT (X:Cx)(pins:List (Addr×Obj))(H:Hp)(b:Addr):Prop:=
 H b=none/\b≠X.env.locals/\b∉X.fs/\(b∈X.ex\/X.s₀.heap.objs.size<=b)/\(∀x c,X.env.cells.lookup x=some c->c≠b)/\∀p∈X.pn ++ pins,p.1≠b
def Inv.fpOk {X:Cx}{pins:List (Addr×Obj)}{σ:St}{H H':Hp}{s:Shared}{b:Addr}(I:Inv X pins σ H s)(hb:s.heap.objs.size<=b)(hn:H' b=none):lT X pins H' b:=by
 refine⟨hn,Nat.ne_of_gt (E7 I.lt hb),I.nofs hb,.inr (FK I.sz hb),λx c e z=>?_,λp hp z=>?_⟩
 ·obtain⟨v,q⟩:=I.cell x c e
  exact absurd (E7 q.lt (by rw[z];exact hb)) (Fe _)
 ·exact absurd (E7 (EO (I.pin p hp).1) (by rw[z];exact hb)) (Fe _)
structure Turn (P:Program)(w:World)(K:Frag)(tg:Expr)(J:It)(fp:List Addr)(it:Addr)(tn:Nat->Heap->Prop):Prop where
 mem:it∈fp
 obj:∀i h,tn i h->∀b∈fp,∃o,h.get? b=some o/\∀v,o.data≠.cell v
 keep:∀i h h',tn i h->(∀b∈fp,∀o,h.get? b=some o->h'.get? b=some o)->tn i h'
 item:∀(X:Cx),X.prog=P->X.w=w->X.K=K->X.calm=true->∀(i:Nat) (pins:List (Addr×Obj)) (s:Shared) (σ:St) (H:Hp) (E:Value->Shared->Prop),Inv X pins σ H s->(∀b∈fp,lT X pins H b)->tn i s.heap->J.go i H->
  wpAny (model P w) X.A (pyNext (.ref it)) (λr s1=>∃u,r=some u/\
   wpAny (model P w) X.A (letOwnedTupleGo tg (.ref it) u) (λ_ s2=>∃x H',Inv X pins σ H' s2/\RelV x u/\J.yld i H x H'/\tn (i + 1) s2.heap/\∀b∈fp,H' b=none) E s1) E s
 done:∀(X:Cx),X.prog=P->X.w=w->X.K=K->X.calm=true->∀(i:Nat) (pins:List (Addr×Obj)) (s:Shared) (σ:St) (H:Hp) (E:Value->Shared->Prop),Inv X pins σ H s->(∀b∈fp,lT X pins H b)->tn i s.heap->J.stop i H->
  wpAny (model P w) X.A (pyNext (.ref it)) (λr s1=>r=none/\Inv X pins σ H s1) E s
 self:∀(A:Around) (i:Nat) (s:Shared) (Q:Value->Shared->Prop) (E:Value->Shared->Prop),tn i s.heap->Q (.ref it) s->wpAny (model P w) A (pyIter (.ref it)) Q E s
abbrev TI:=St->Hp->(It->Hp->Prop)->Prop
def Ea (X:Cx)(pins:List (Addr×Obj))(σ:St)(tg:Expr)(R:It->Hp->Prop)(itv:Value)(s2:Shared):Prop:=
 ∃(it:Addr) (fp:List Addr) (tn:Nat->Heap->Prop) (J:It) (H':Hp),itv=.ref it/\Inv X pins σ H' s2/\Turn X.prog X.w X.K tg J fp it tn/\tn 0 s2.heap/\(∀b∈fp,lT X pins H' b)/\R J H'
def PI (X:Cx)(tg iter:Expr)(wi:TI):Prop:=
 ∀(pins:List (Addr×Obj)) (s:Shared) (σ:St) (H:Hp) (R:It->Hp->Prop),Inv X pins σ H s->wi σ H R->
  wpAny (model X.prog X.w) X.A (eval iter X.env) (λv s1=>wpAny (model X.prog X.w) X.A (pyIter v) (Ea X pins σ tg R) X.xe s1) X.xe s
def wD {M:Model}{A:Around}{E:Value->Shared->Prop}{s:Shared}{tg:Expr}{it:Addr}{u:Value}{o:Obj}{n:String}{vs:Array Value}{Q:Unit->Shared->Prop}(ho:s.heap.get? it=some o)(hc:o.cls=.type n)(hd:o.data=.fields vs)
  (hn: ["enumerate","zip","dict_itemiterator","dict_reverseitemiterator","odict_iterator","itertools.zip_longest","itertools.pairwise"].contains n=false) (hQ:Q () s):wpAny M A (letOwnedTupleGo tg (.ref it) u) Q E s:=by
 unfold letOwnedTupleGo
 cases tg <;> first
  |exact EJ hQ
  | (cases u <;> first
    |exact EJ hQ
    | (refine EE (wpAny_load ho ?_)
       rw[hc,hd]
       show wpAny M A (if (["enumerate","zip","dict_itemiterator","dict_reverseitemiterator","odict_iterator","itertools.zip_longest","itertools.pairwise"].contains n && vs[0]? == some (rawInt _))=true then _ else _) Q E s
       rw[EN (by intro h;rw[hn,Bool.false_and] at h;cases h)]
       exact EJ hQ))
def uj (K:Frag)(a:Addr):It:=
 ⟨λi H=>∃xs x,dS K H a xs/\xs[i]? =some x,λi H x H'=>H'=H/\∀xs,dS K H a xs->xs[i]? =some x,λi H=>∃xs,dS K H a xs/\xs.length<=i⟩
def zS (K:Frag)(a:Addr):It:=
 ⟨λi H=>∃xs x,eB K H a xs/\xs[i]? =some x,λi H x H'=>H'=H/\∀xs,eB K H a xs->xs[i]? =some x,λi H=>∃xs,eB K H a xs/\xs.length<=i⟩
def uG (lo:Int)(n:Nat):It:=⟨λi _=>i < n,λi H x H'=>H'=H/\x=.int (lo + i),λi _=>n<=i⟩
def jO {P:Program}{w:World}{K:Frag}{tg:Expr}(a it:Addr):Turn P w K tg (uj K a) [it] it (λi h=>h.IsListIter it a i) where
 mem:=by simp
 obj:=λi h st b hb=>by
  have e:b=it:=by simpa using hb
  subst e
  obtain⟨o,e,c,d⟩:=st
  exact⟨o,e,λv z=>by rw[d] at z;cases z⟩
 keep:=λi h h' st k=>st.at λo e=>k it (by simp) o e
 item:=by
  intro X hP hw hK hc i pins s σ H E I hf st hg
  subst hP hw hK
  obtain⟨xs,x,hq,hx⟩:=hg
  obtain⟨its,rv,p,hz⟩:=I.list hq
  obtain⟨u,hu,ru⟩:=rv.get hx
  obtain⟨f0,f1,f2,f3,f4,f5⟩:=hf it (by simp)
  refine wpAny_pyNext_list_item st p.isList (x:=u) (by simpa using hu) λh' st' sb=>?_
  have I1:Inv X pins σ H {s with heap:=h'}:=I.turned (t':=s.toks) (λb o hb e=>(sb.2 b hb).trans e) f0 f1 f3 f4 f5
  obtain⟨o,e,c,d⟩:=id st'
  exact⟨u,rfl,wD (s:={s with heap:=h'}) e c d (by decide) ⟨x,H,I1,ru,⟨rfl,λys hy=>by rw[I.list_inj hy hq];exact hx⟩,st',λb hb=>(hf b hb).1⟩⟩
 done:=by
  intro X hP hw hK hc i pins s σ H E I hf st hg
  subst hP hw hK
  obtain⟨xs,hq,hx⟩:=hg
  obtain⟨its,rv,p,hz⟩:=I.list hq
  obtain⟨f0,f1,f2,f3,f4,f5⟩:=hf it (by simp)
  have hl:=rv.length
  exact wpAny_pyNext_list_end (I.ok.hd hc) st p.isList (by simp;omega) λh' eb=>⟨rfl,I.turned (t':=s.toks) (λb o hb e=>eb b o hb e) f0 f1 f3 f4 f5⟩
 self:=λ_ _ _ _ _ st h=>wpAny_pyIter_listiter st h
def lJ {P:Program}{w:World}{K:Frag}{tg:Expr}(a it:Addr):Turn P w K tg (zS K a) [it] it (λi h=>h.IsTupleIter it a i) where
 mem:=by simp
 obj:=λi h st b hb=>by
  have e:b=it:=by simpa using hb
  subst e
  obtain⟨o,e,c,d⟩:=st
  exact⟨o,e,λv z=>by rw[d] at z;cases z⟩
 keep:=λi h h' st k=>st.at λo e=>k it (by simp) o e
 item:=by
  intro X hP hw hK hc i pins s σ H E I hf st hg
  subst hP hw hK
  obtain⟨xs,x,hq,hx⟩:=hg
  obtain⟨its,rv,p,hz⟩:=I.tuple hq
  obtain⟨u,hu,ru⟩:=rv.get hx
  obtain⟨f0,f1,f2,f3,f4,f5⟩:=hf it (by simp)
  refine wpAny_pyNext_tuple_item st (show s.heap.IsTuple a its.toArray from p) (x:=u) (by simpa using hu) λh' st' sb=>?_
  have I1:Inv X pins σ H {s with heap:=h'}:=I.turned (t':=s.toks) (λb o hb e=>(sb.2 b hb).trans e) f0 f1 f3 f4 f5
  obtain⟨o,e,c,d⟩:=id st'
  exact⟨u,rfl,wD (s:={s with heap:=h'}) e c d (by decide) ⟨x,H,I1,ru,⟨rfl,λys hy=>by rw[I.tuple_inj hy hq];exact hx⟩,st',λb hb=>(hf b hb).1⟩⟩
 done:=by
  intro X hP hw hK hc i pins s σ H E I hf st hg
  subst hP hw hK
  obtain⟨xs,hq,hx⟩:=hg
  obtain⟨its,rv,p,hz⟩:=I.tuple hq
  obtain⟨f0,f1,f2,f3,f4,f5⟩:=hf it (by simp)
  have hl:=rv.length
  exact wpAny_pyNext_tuple_end (I.ok.hd hc) st (show s.heap.IsTuple a its.toArray from p) (by simp;omega) λh' eb=>⟨rfl,I.turned (t':=s.toks) (λb o hb e=>eb b o hb e) f0 f1 f3 f4 f5⟩
 self:=λ_ _ _ _ _ st h=>wpAny_pyIter_tupleiter st h
def rL {P:Program}{w:World}{K:Frag}{tg:Expr}(it:Addr)(lo:Int)(n:Nat):Turn P w K tg (uG lo n) [it] it (λi h=>IsRangeIter h it (lo + (i:Nat) * 1) ((n:Int) - (i:Nat)) 1) where
 mem:=by simp
 obj:=λi h st b hb=>by
  have e:b=it:=by simpa using hb
  subst e
  exact⟨_,st,λv z=>by
   have z':Data.fields _=Data.cell v:=z
   cases z'⟩
 keep:=λi h h' st k=>k it (by simp) _ st
 item:=by
  intro X hP hw hK hc i pins s σ H E I hf st hg
  subst hP hw hK
  obtain⟨f0,f1,f2,f3,f4,f5⟩:=hf it (by simp)
  have W:=Walks.range (prog:=X.prog) (w:=X.w) (I.ok.hd hc) it lo 1 n
  refine W.item i s _ _ hg st λv h' tk hv st' kk=>?_
  obtain⟨t,rfl⟩:=hv
  have I1:Inv X pins σ H {s with heap:=h',toks:=tk}:=I.turned (λb o hb e=>kk b o (by simpa using hb) e) f0 f1 f3 f4 f5
  refine⟨_,rfl,wD (s:={s with heap:=h',toks:=tk}) (n:="range_iterator") st' rfl rfl (by decide) ⟨.int (lo + i),H,I1,⟨t,?_⟩,⟨rfl,rfl⟩,st',λb hb=>(hf b hb).1⟩⟩
  rw[Int.mul_one]
 done:=by
  intro X hP hw hK hc i pins s σ H E I hf st hg
  subst hP hw hK
  obtain⟨f0,f1,f2,f3,f4,f5⟩:=hf it (by simp)
  exact wpAny_pyNext_range_end (I.ok.hd hc) st (by have:n<=i:=hg;omega) λh' eb=>⟨rfl,I.turned (t':=s.toks) (λb o hb e=>eb b o hb e) f0 f1 f3 f4 f5⟩
 self:=λ_ _ _ _ _ st h=>wpAny_pyIter_rangeiter st h
section
variable {X:Cx}{tg:Expr}
def Cz (K:Frag)(tl:TE):TI:=λσ H R=>tl σ H λx H1=>∃a,x=.ref a/\(∃xs,dS K H1 a xs)/\R (uj K a) H1
def tI {l:Expr}{tl:TE}(hl:PE X l tl):PI X tg l (Cz X.K tl):=by
 intro pins s σ H R I h
 refine bP (hl pins s σ H _ I h) λv s1 ⟨x,H1,I1,r1,q1⟩=>?_
 obtain⟨a,e,⟨xs,hq⟩,q⟩:=q1
 subst e
 cases r1
 obtain⟨its,rv,p,hz⟩:=I1.list hq
 refine GI p.isList ?_
 refine⟨s1.heap.objs.size,[s1.heap.objs.size],_,_,H1,rfl,I1.kept (t':=s1.toks) λb o e=>EF _ e,jO a _,⟨_,EW _ rfl,rfl,rfl⟩,λb hb=>?_,q⟩
 have e:b=s1.heap.objs.size:=by simpa using hb
 subst e
 exact I1.fpOk (EG _) (I1.hok.fresh (EG _))
def pY {pins:List (Addr×Obj)}{σ:St}{H:Hp}{s:Shared}{R:It->Hp->Prop}{E:Value->Shared->Prop}{lo hi:Int}{t u v:Tok}{tk:Nat}(I:Inv X pins σ H s)(h1: -(2 ^ 62)<=lo)(h2:lo < 2 ^ 62)(h3: -(2 ^ 62)<=hi)(h4:hi < 2 ^ 62)
  (q:R (uG lo (hi - lo).toNat) H):wpAny (model X.prog X.w) X.A (pyIter (.ref s.heap.objs.size)) (Ea X pins σ tg R) E {s with heap:=s.heap.push {cls:=.type "range",data:=.fields #[.int lo t,.int hi u,.int 1 v]},toks:=tk}:=by
 refine wpAny_pyIter_range (IsRange.new ..) (small_one h1 h2 h3 h4) ?_
 have I1:Inv X pins σ H {s with heap:=s.heap.push {cls:=.type "range",data:=.fields #[.int lo t,.int hi u,.int 1 v]},toks:=tk}:=I.kept λb o e=>EF _ e
 refine⟨(s.heap.push {cls:=.type "range",data:=.fields #[.int lo t,.int hi u,.int 1 v]}).objs.size,[(s.heap.push {cls:=.type "range",data:=.fields #[.int lo t,.int hi u,.int 1 v]}).objs.size],_,_,H,rfl,
  I1.kept (t':=tk) λb o e=>EF _ e,rL _ lo (hi - lo).toNat,?_,λb hb=>?_,q⟩
 ·have e1:lo + ((0:Nat):Int) * 1=lo:=by simp
  have e2:(((hi - lo).toNat:Nat):Int) - ((0:Nat):Int)=Builtin.Range.rangeSize lo hi 1:=by rw[rangeSize_one];split <;> omega
  show IsRangeIter _ _ (lo + ((0:Nat):Int) * 1) ((((hi - lo).toNat:Nat):Int) - ((0:Nat):Int)) 1
  rw[e1,e2]
  exact EW _ rfl
 ·have e:b=(s.heap.push {cls:=.type "range",data:=.fields #[.int lo t,.int hi u,.int 1 v]}).objs.size:=by simpa using hb
  subst e
  exact I1.fpOk (EG _) (I1.hok.fresh (EG _))
def B4 (ta:TA):TI:=λσ H R=>ta σ H λvs H1=>∃j:Int,vs= [.int j]/\ -(2 ^ 62)<=j/\j < 2 ^ 62/\R (uG 0 j.toNat) H1
def BZ (ta:TA):TI:=λσ H R=>ta σ H λvs H1=>∃i j:Int,vs= [.int i,.int j]/\(-(2 ^ 62)<=i/\i < 2 ^ 62/\ -(2 ^ 62)<=j/\j < 2 ^ 62)/\R (uG i (j - i).toNat) H1
theorem iq {a:Expr}{ta:TA}{p pos:Pos}(hg:Gl X "range")(hm:X.mg "range"=none)(ha:PA X [a] ta)(hs:starEach [a] X.env= [(false,eval a X.env)]:=by rfl):PI X tg (.Call (.Name "range" p) [a] [] pos) (B4 ta):=by
 intro pins s σ H R I h
 refine Call_ (kQ I hg hm boot_range (G9 (bP (ha pos pins s σ H _ I h) λus s1 ⟨vs,H1,I1,r1,q1⟩=>?_) hs rfl))
 obtain⟨j,e,q1,q2,q⟩:=q1
 subst e
 cases r1 with
 |cons r rr=>
  cases rr
  obtain⟨t,rfl⟩:=r
  exact call_range_1 (pY I1 (by omega) (by omega) q1 q2 (by simpa using q))
theorem uX {a b:Expr}{ta:TA}{p pos:Pos}(hg:Gl X "range")(hm:X.mg "range"=none)(ha:PA X [a,b] ta)(hs:starEach [a,b] X.env= [(false,eval a X.env),(false,eval b X.env)]:=by rfl)(hs2:starEach [b] X.env= [(false,eval b X.env)]:=by rfl) :
  PI X tg (.Call (.Name "range" p) [a,b] [] pos) (BZ ta):=by
 intro pins s σ H R I h
 refine Call_ (kQ I hg hm boot_range (G9 (bP (ha pos pins s σ H _ I h) λus s1 ⟨vs,H1,I1,r1,q1⟩=>?_) (by rw[hs,hs2]) (by rw[hs2];rfl)))
 obtain⟨i,j,e,⟨q1,q2,q3,q4⟩,q⟩:=q1
 subst e
 cases r1 with
 |cons r rr=>
  cases rr with
  |cons r' rr=>
   cases rr
   obtain⟨t,rfl⟩:=r
   obtain⟨t',rfl⟩:=r'
   exact call_range_2 (pY I1 q1 q2 q3 q4 q)
def DL (wi:TI)(g:TG)(tb:TS):TS:=λD σ H=>wi σ H λJ H1=>∃W:Nat->Nat->St->Hp->Prop,(∃m,W 0 m σ H1)/\∀i m σ H,W i m σ H->
 (J.stop i H/\D.nx σ H)\/(J.go i H/\∃N:St->Hp->Prop,(∀σ' H',N σ' H'->∃m',m' < m/\W (i + 1) m' σ' H')/\∀x H',J.yld i H x H'->g x σ H' λσ2 H2=>tb {D with nx:=N,ct:=N,bk:=D.nx} σ2 H2)
def kJ (fp:List Addr)(h:Heap):List (Addr×Obj):=fp.filterMap λb=>(h.get? b).map λo=>(b,o)
def fX {fp:List Addr}{h:Heap}{b:Addr}{o:Obj}(hb:b∈fp)(e:h.get? b=some o):(b,o)∈kJ fp h:=Gk.mpr ⟨b,hb,by rw[e];rfl⟩
theorem uw {fp:List Addr}{h:Heap}{p:Addr×Obj}(hp:p∈kJ fp h):p.1∈fp/\h.get? p.1=some p.2:=by
 obtain⟨b,hb,e⟩:=Gk.mp hp
 cases q:h.get? b with
 |none=>rw[q] at e;cases e
 |some o=>
  rw[q] at e
  have e':(b,o)=p:=Option.some.inj e
  subst e'
  exact⟨hb,q⟩
def Inv.pinned {pins:List (Addr×Obj)}{σ:St}{H:Hp}{s:Shared}{fp:List Addr}(I:Inv X pins σ H s)(hf:∀b∈fp,lT X pins H b)(ho:∀b∈fp,∃o,s.heap.get? b=some o/\∀v,o.data≠.cell v):Inv X (pins ++ kJ fp s.heap) σ H s:=
 I.pins_of λp hp=>(E6.mp hp).elim (λz=>I.pin p (Fc _ z)) λz=>by
  obtain⟨hb,e⟩:=uw z
  obtain⟨f0,f1,f2,_⟩:=hf p.1 hb
  obtain⟨o,e',d⟩:=ho p.1 hb
  rw[e] at e';cases e'
  exact⟨e,f0,f1,f2,d⟩
def Inv.unpinned {pins pl:List (Addr×Obj)}{σ:St}{H:Hp}{s:Shared}(I:Inv X (pins ++ pl) σ H s):Inv X pins σ H s:=I.pins_of λp hp=>I.pin p (Fc _ (FT _ hp))
def nR {iter:Expr}{body:List Stmt}{wi:TI}{g:TG}{tb:TS}{pos:Pos}(hp:PassesOwn (model X.prog X.w) X.A X.env X.xe)(hc:X.calm=true)(hi:PI X tg iter wi)(hg:PG X tg g)(hb:mS X body tb)
  (hs:∀x,foldedSetIterable iter X.env x=pure x:=by intro _;rfl):PS X (.For tg iter body [] pos) (DL wi g tb):=by
 intro pins s σ H D I h
 refine wpAny_For (bP (hi pins s σ H _ I h) λv s1 h1=>bP h1 λitv s2 h2=>?_) hs
 obtain⟨it,fp,tn,J,H2,e,I2,T,st2,f2,W,⟨m0,w0⟩,turn⟩:=h2
 subst e
 have stat:∀{H':Hp},(∀b∈fp,H' b=none)->∀b∈fp,lT X pins H' b:=λhn b hb=>⟨hn b hb,(f2 b hb).2⟩
 refine codeAny_forLoop_any (λn s'=>∃i σ' H',Inv X pins σ' H' s'/\tn i s'.heap/\(∀b∈fp,H' b=none)/\W i n σ' H') ?_ m0 ⟨0,σ,H2,I2,st2,λb hb=>(f2 b hb).1,w0⟩
 rintro n s3 ⟨i,σ3,H3,I3,st3,fr3,w3⟩
 rcases turn i n σ3 H3 w3 with⟨stop,qn⟩ | ⟨go,N,hN,step⟩
 ·refine GD hp (bP (T.done X rfl rfl rfl hc i pins s3 σ3 H3 X.xe I3 (stat fr3) st3 stop) λr s4 ⟨hr,I4⟩=>?_)
  subst hr
  exact wpAny_execs_nil ⟨σ3,H3,I4,qn⟩
 ·refine GD hp (bP (T.item X rfl rfl rfl hc i pins s3 σ3 H3 X.xe I3 (stat fr3) st3 go) λr s4 ⟨u,hr,h4⟩=>?_)
  subst hr
  refine GD hp (bP h4 λ_ s5 ⟨x,H5,I5,r5,y5,st5,fr5⟩=>?_)
  have I5':=I5.pinned (stat fr5) (T.obj _ _ st5)
  refine GD hp (bP (hg _ s5 σ3 H5 x u _ I5' r5 (step x H5 y5)) λ_ s6 ⟨σ6,H6,I6,q6⟩=>?_)
  refine GD hp (bP (hb _ s6 σ6 H6 _ I6 q6) λf s7 q7=>?_)
  have again:∀{σ7:St} {H7:Hp},Inv X (pins ++ kJ fp s5.heap) σ7 H7 s7->N σ7 H7->∃m,m < n/\∃i σ' H',Inv X pins σ' H' s7/\tn i s7.heap/\(∀b∈fp,H' b=none)/\W i m σ' H':=λ{σ7 H7} I7 n7=>by
   obtain⟨m',hm,w7⟩:=hN σ7 H7 n7
   refine⟨m',hm,i + 1,σ7,H7,I7.unpinned,T.keep _ _ _ st5 λb hb o e=>(I7.pin (b,o) (Fc _ (Fc _ (fX hb e)))).1,λb hb=>?_,w7⟩
   obtain⟨o,e,d⟩:=T.obj _ _ st5 b hb
   exact (I7.pin (b,o) (Fc _ (Fc _ (fX hb e)))).2.1
  cases f with
  |next=>obtain⟨σ7,H7,I7,n7⟩:=q7;exact again I7 n7
  |cont=>obtain⟨σ7,H7,I7,n7⟩:=q7;exact again I7 n7
  |brk=>obtain⟨σ7,H7,I7,q7⟩:=q7;exact⟨σ7,H7,I7.unpinned,q7⟩
  |ret v=>obtain⟨x7,σ7,H7,I7,r7,q7⟩:=q7;exact⟨x7,σ7,H7,I7.unpinned,r7,q7⟩
end
def qm {K:Frag}{a:Addr}{xs:List V}{g:TG}{tb:TS}{D:Ends}{σ:St}{H:Hp}(Pv:Nat->St->Hp->Prop)(h0:Pv 0 σ H)(hl:∀i σ H,i<=xs.length->Pv i σ H->dS K H a xs)
  (hs:∀i x σ H,xs[i]? =some x->Pv i σ H->g x σ H λσ2 H2=>tb {D with nx:=Pv (i + 1),ct:=Pv (i + 1),bk:=D.nx} σ2 H2) (hd:∀σ H,Pv xs.length σ H->D.nx σ H) :
  ∃W:Nat->Nat->St->Hp->Prop,(∃m,W 0 m σ H)/\∀i m σ H,W i m σ H->
   ((uj K a).stop i H/\D.nx σ H)\/((uj K a).go i H/\∃N:St->Hp->Prop,(∀σ' H',N σ' H'->∃m',m' < m/\W (i + 1) m' σ' H')/\∀x H',(uj K a).yld i H x H'->g x σ H' λσ2 H2=>tb {D with nx:=N,ct:=N,bk:=D.nx} σ2 H2):=by
 refine⟨λi m σ H=>m=xs.length - i/\i<=xs.length/\Pv i σ H,⟨xs.length,by simp,Fj _,h0⟩,?_⟩
 rintro i m σ H ⟨rfl,hi,p⟩
 have q:=hl i σ H hi p
 by_cases hlt:i < xs.length
 ·refine .inr ⟨⟨xs,xs[i],q,by simp[hlt]⟩,Pv (i + 1),λσ' H' p'=>⟨xs.length - (i + 1),by omega,rfl,hlt,p'⟩,λx H' y=>?_⟩
  obtain⟨e,y⟩:=y
  subst e
  exact hs i x σ _ (y xs q) p
 ·have e:i=xs.length:=by omega
  subst e
  exact .inl ⟨⟨xs,q,EG _⟩,hd σ H p⟩
def yC {K:Frag}{a:Addr}{xs:List V}{g:TG}{tb:TS}{D:Ends}{σ:St}{H:Hp}(Pv:Nat->St->Hp->Prop)(h0:Pv 0 σ H)(hl:∀i σ H,i<=xs.length->Pv i σ H->eB K H a xs)
  (hs:∀i x σ H,xs[i]? =some x->Pv i σ H->g x σ H λσ2 H2=>tb {D with nx:=Pv (i + 1),ct:=Pv (i + 1),bk:=D.nx} σ2 H2) (hd:∀σ H,Pv xs.length σ H->D.nx σ H) :
  ∃W:Nat->Nat->St->Hp->Prop,(∃m,W 0 m σ H)/\∀i m σ H,W i m σ H->
   ((zS K a).stop i H/\D.nx σ H)\/((zS K a).go i H/\∃N:St->Hp->Prop,(∀σ' H',N σ' H'->∃m',m' < m/\W (i + 1) m' σ' H')/\∀x H',(zS K a).yld i H x H'->g x σ H' λσ2 H2=>tb {D with nx:=N,ct:=N,bk:=D.nx} σ2 H2):=by
 refine⟨λi m σ H=>m=xs.length - i/\i<=xs.length/\Pv i σ H,⟨xs.length,by simp,Fj _,h0⟩,?_⟩
 rintro i m σ H ⟨rfl,hi,p⟩
 have q:=hl i σ H hi p
 by_cases hlt:i < xs.length
 ·refine .inr ⟨⟨xs,xs[i],q,by simp[hlt]⟩,Pv (i + 1),λσ' H' p'=>⟨xs.length - (i + 1),by omega,rfl,hlt,p'⟩,λx H' y=>?_⟩
  obtain⟨e,y⟩:=y
  subst e
  exact hs i x σ _ (y xs q) p
 ·have e:i=xs.length:=by omega
  subst e
  exact .inl ⟨⟨xs,q,EG _⟩,hd σ H p⟩
def uS {lo:Int}{n:Nat}{g:TG}{tb:TS}{D:Ends}{σ:St}{H:Hp}(Pv:Nat->St->Hp->Prop)(h0:Pv 0 σ H)
  (hs:∀i σ H,i < n->Pv i σ H->g (.int (lo + i)) σ H λσ2 H2=>tb {D with nx:=Pv (i + 1),ct:=Pv (i + 1),bk:=D.nx} σ2 H2) (hd:∀σ H,Pv n σ H->D.nx σ H) :
  ∃W:Nat->Nat->St->Hp->Prop,(∃m,W 0 m σ H)/\∀i m σ H,W i m σ H->
   ((uG lo n).stop i H/\D.nx σ H)\/((uG lo n).go i H/\∃N:St->Hp->Prop,(∀σ' H',N σ' H'->∃m',m' < m/\W (i + 1) m' σ' H')/\∀x H',(uG lo n).yld i H x H'->g x σ H' λσ2 H2=>tb {D with nx:=N,ct:=N,bk:=D.nx} σ2 H2):=by
 refine⟨λi m σ H=>m=n - i/\i<=n/\Pv i σ H,⟨n,by simp,Fj _,h0⟩,?_⟩
 rintro i m σ H ⟨rfl,hi,p⟩
 by_cases hlt:i < n
 ·refine .inr ⟨hlt,Pv (i + 1),λσ' H' p'=>⟨n - (i + 1),by omega,rfl,hlt,p'⟩,λx H' y=>?_⟩
  obtain⟨e,y⟩:=y
  subst e y
  exact hs i σ _ hlt p
 ·have e:i=n:=by omega
  subst e
  exact .inl ⟨EG _,hd σ H p⟩
abbrev R2:=V->V->Hp->VK->Prop
def kc (X:Cx)(f:Value->Value->Sem Value)(r:R2):Prop:=
 ∀(pins:List (Addr×Obj)) (s:Shared) (σ:St) (H:Hp) (x y:V) (v u:Value) (Q:VK),Inv X pins σ H s->RelV x v->RelV y u->r x y H Q->
  wpAny (model X.prog X.w) X.A (f v u) (EP X pins σ Q) X.xe s
def Dd (X:Cx)(f:Value->Sem Value)(r:V->Hp->VK->Prop):Prop:=
 ∀(pins:List (Addr×Obj)) (s:Shared) (σ:St) (H:Hp) (x:V) (v:Value) (Q:VK),Inv X pins σ H s->RelV x v->r x H Q->
  wpAny (model X.prog X.w) X.A (f v) (EP X pins σ Q) X.xe s
def bN (X:Cx)(f:Value)(r:List V->Hp->VK->Prop):Prop:=
 ∀(pins:List (Addr×Obj)) (s:Shared) (σ:St) (H:Hp) (xs:List V) (us:List Value) (Q:VK),Inv X pins σ H s->Vals xs us->r xs H Q->
  wpAny (model X.prog X.w) X.A (call f us) (EP X pins σ Q) X.xe s
def D3 (X:Cx)(r:V->Hp->(Bool->Hp->Prop)->Prop):Prop:=
 ∀(pins:List (Addr×Obj)) (s:Shared) (σ:St) (H:Hp) (x:V) (v:Value) (Q:Bool->Hp->Prop),Inv X pins σ H s->RelV x v->r x H Q->
  wpAny (model X.prog X.w) X.A (truthy v) (TP X pins σ Q) X.xe s
def C6 (r:R2)(ta tb:TE):TE:=λσ H Q=>ta σ H λx H1=>tb σ H1 λy H2=>r x y H2 Q
def Ex (r:V->Hp->VK->Prop)(ta:TE):TE:=λσ H Q=>ta σ H λx H1=>r x H1 Q
def rI (C:Int->Int->Prop)(g:Int->Int->V):R2:=λx y H Q=>∃i j,x=.int i/\y=.int j/\C i j/\Q (g i j) H
def yv (g:Int->Int->V):R2:=λx y H Q=>∃i j,x=.int i/\y=.int j/\Q (g i j) H
def rU (g:Int->V):V->Hp->VK->Prop:=λx H Q=>∃i,x=.int i/\Q (g i) H
section
variable {X:Cx}{a b c:Expr}{ta tb tc:TE}{pos:Pos}
def AK (ha:PE X a ta)(hb:PE X b tb){pins:List (Addr×Obj)}{s:Shared}{σ:St}{H:Hp}{R:V->V->Hp->Prop}(I:Inv X pins σ H s)
  (h:ta σ H λx H1=>tb σ H1 λy H2=>R x y H2) {Q:Value->Shared->Prop} {f:Value->Value->Sem Value}
  (hf:∀v u s2 x y H2,Inv X pins σ H2 s2->RelV x v->RelV y u->R x y H2->wpAny (model X.prog X.w) X.A (f v u) Q X.xe s2) :
  wpAny (model X.prog X.w) X.A (eval a X.env) (λv s₁=>wpAny (model X.prog X.w) X.A (eval b X.env) (λu s₂=>wpAny (model X.prog X.w) X.A (f v u) Q X.xe s₂) X.xe s₁) X.xe s:=by
 refine bP (ha pins s σ H _ I h) λv s1 ⟨x,H1,I1,r1,q1⟩=>?_
 refine bP (hb pins s1 σ H1 _ I1 q1) λu s2 ⟨y,H2,I2,r2,q2⟩=>?_
 exact hf v u s2 x y H2 I2 r1 r2 q2
def qE {op:Operator}{r:R2}(ho:kc X (binaryOp op) r)(ha:PE X a ta)(hb:PE X b tb):PE X (.BinOp a op b pos) (C6 r ta tb):=by
 intro pins s σ H Q I h
 exact wpAny_BinOp (AK ha hb I h λv u s2 x y H2 I2 rx ry q=>ho pins s2 σ H2 x y v u Q I2 rx ry q)
def B8 {op:UnaryOp}{r:V->Hp->VK->Prop}(ho:Dd X (unaryOp op) r)(ha:PE X a ta):PE X (.UnaryOp op a pos) (Ex r ta):=by
 intro pins s σ H Q I h
 exact UnaryOp_ (bP (ha pins s σ H _ I h) λv s1 ⟨x,H1,I1,r1,q1⟩=>ho pins s1 σ H1 x v Q I1 r1 q1)
def DW {f:Value->Value->Sem Value}{C:Int->Int->Prop}{g:Int->Int->Int}
  (rule:∀(i j:Int) (t u:Tok) (s:Shared) (Q:Value->Shared->Prop) (E:Value->Shared->Prop),C i j->Q (.int (g i j) s.toks) {s with toks:=s.toks + 1}->wpAny (model X.prog X.w) X.A (f (.int i t) (.int j u)) Q E s) :
  kc X f (rI C λi j=>.int (g i j)):=by
 intro pins s σ H x y v u Q I rx ry h
 obtain⟨i,j,rfl,rfl,hc,q⟩:=h
 obtain⟨t,rfl⟩:=rx
 obtain⟨t',rfl⟩:=ry
 exact rule i j t t' s _ _ hc ⟨.int (g i j),H,I.tok _,⟨_,rfl⟩,q⟩
def Dx {f:Value->Value->Sem Value}{g:Int->Int->Int}
  (rule:∀(i j:Int) (t u:Tok) (s:Shared) (Q:Value->Shared->Prop) (E:Value->Shared->Prop),Q (.int (g i j) s.toks) {s with toks:=s.toks + 1}->wpAny (model X.prog X.w) X.A (f (.int i t) (.int j u)) Q E s) :
  kc X f (yv λi j=>.int (g i j)):=by
 intro pins s σ H x y v u Q I rx ry h
 obtain⟨i,j,rfl,rfl,q⟩:=h
 obtain⟨t,rfl⟩:=rx
 obtain⟨t',rfl⟩:=ry
 exact rule i j t t' s _ _ ⟨.int (g i j),H,I.tok _,⟨_,rfl⟩,q⟩
def CF {f:Value->Value->Sem Value}{g:Int->Int->Bool}
  (rule:∀(i j:Int) (t u:Tok) (s:Shared) (Q:Value->Shared->Prop) (E:Value->Shared->Prop),Q (.bool (g i j)) s->wpAny (model X.prog X.w) X.A (f (.int i t) (.int j u)) Q E s) :
  kc X f (yv λi j=>.bl (g i j)):=by
 intro pins s σ H x y v u Q I rx ry h
 obtain⟨i,j,rfl,rfl,q⟩:=h
 obtain⟨t,rfl⟩:=rx
 obtain⟨t',rfl⟩:=ry
 exact rule i j t t' s _ _ ⟨.bl (g i j),H,I,rfl,q⟩
def za (i j:Int):Prop:=0 < j/\j < 1073741824
def xt (i j:Int):Prop:=(-(2 ^ 64) < i/\i < 2 ^ 64)\/(-(2 ^ 64) < j/\j < 2 ^ 64)
def xt.ok {i j:Int}(h:xt i j):IntMulOk i j:=by
 rcases h with⟨h1,h2⟩ | ⟨h1,h2⟩
 ·exact .of_left (intBits_le_64 h1 h2)
 ·exact .of_right (intBits_le_64 h1 h2)
def gO:kc X (binaryOp .Add) (yv λi j=>.int (i + j)):=Dx λ_ _ _ _ _ _ _ q=>add_int q
def hX:kc X (binaryOp .Mult) (rI xt λi j=>.int (i * j)):=DW λ_ _ _ _ _ _ _ hc q=>mul_int q hc.ok
def jn:kc X (binaryOp .FloorDiv) (rI za λi j=>.int (i / j)):=DW λi j _ _ _ _ _ hc q=>by
 have h1:(0:Int) < j:=hc.1
 have h2:j < 1073741824:=hc.2
 exact floordiv_int (by omega) (by rw[Int.fdiv_eq_ediv_of_nonneg i (by omega)];exact q) (.inl (PyProof.noPylong_small (by omega)))
def iW:kc X (binaryOp .Mod) (rI (λ_ j=>0 < j) λi j=>.int (i % j)):=DW λi j _ _ _ _ _ hc q=>by
 have h1:(0:Int) < j:=hc
 exact mod_int' (by omega) (by rw[Int.fmod_eq_emod_of_nonneg i (by omega)];exact q)
def EC {f:Value->Sem Value}{g:Int->Int}
  (rule:∀(i:Int) (t:Tok) (s:Shared) (Q:Value->Shared->Prop) (E:Value->Shared->Prop),Q (.int (g i) s.toks) {s with toks:=s.toks + 1}->wpAny (model X.prog X.w) X.A (f (.int i t)) Q E s) :
  Dd X f (rU λi=>.int (g i)):=by
 intro pins s σ H x v Q I rx h
 obtain⟨i,rfl,q⟩:=h
 obtain⟨t,rfl⟩:=rx
 exact rule i t s _ _ ⟨.int (g i),H,I.tok _,⟨_,rfl⟩,q⟩
def xF:Dd X (unaryOp .USub) (rU λi=>.int (-i)):=EC λ_ _ _ _ _ q=>neg_int q
end
def Dh:V->V->Bool
 | .non,.non=>true | .non,.int _=>true | .int _,.non=>true | .non,.bl _=>true | .bl _,.non=>true | .non,.str _=>true | .str _,.non=>true
 | .int _,.int _=>true | .bl _,.bl _=>true | .str _,.str _=>true | .byt _,.byt _=>true
 | .int _,.str _=>true | .str _,.int _=>true | .bl _,.str _=>true | .str _,.bl _=>true
 |_,_=>false
def Ee:R2:=λx y H Q=>Dh x y=true/\Q (.bl (!decide (x=y))) H
def ze {i j:Int}:decide (V.int i=V.int j)=(i == j):=by
 rw[FY]
 simp
def A4 {i j:Bool}:decide (V.bl i=V.bl j)=(i == j):=by
 rw[FY]
 simp
def yw {i j:Str}:decide (V.str i=V.str j)=(i == j):=by
 rw[FY]
 simp
def yH {i j:Array UInt8}:decide (V.byt i=V.byt j)=(i.toList == j.toList):=by
 rw[FY]
 cases i
 cases j
 simp
section
variable {X:Cx}{a b c:Expr}{ta tb tc:TE}{pos:Pos}
def cu {pins:List (Addr×Obj)}{σ:St}{H:Hp}{s:Shared}{Q:VK}{k k':Bool}(I:Inv X pins σ H s)(q:Q (.bl k) H)(e:k=k'):EP X pins σ Q (.bool k') s:=by
 subst e
 exact⟨.bl k,H,I,rfl,q⟩
theorem CQ:kc X (compareOp .NotEq) Ee:=by
 intro pins s σ H x y v u Q I rx ry h
 obtain⟨hs,q⟩:=h
 cases x with
 |non=>
  cases rx
  cases y with
  |non=>cases ry;exact PySem.EqNone.ne_none_none (cu I q (by simp))
  |bl j=>cases ry;exact PySem.EqNone.ne_none_bool (cu I q (by simp))
  |int j=>obtain⟨t',rfl⟩:=ry;exact PySem.EqNone.ne_none_int (cu I q (by simp))
  |str j=>obtain⟨t',rfl⟩:=ry;exact PySem.EqNone.ne_none_str (cu I q (by simp))
  |_=>exact absurd (show false=true from hs) E8
 |bl i=>
  cases rx
  cases y with
  |non=>cases ry;exact PySem.EqNone.ne_bool_none (cu I q (by simp))
  |bl j=>cases ry;exact ne_bool (cu I q (congrArg not A4))
  |str j=>obtain⟨t',rfl⟩:=ry;exact PySem.EqMixed.ne_bool_str (cu I q (by simp))
  |_=>exact absurd (show false=true from hs) E8
 |int i=>
  obtain⟨t,rfl⟩:=rx
  cases y with
  |non=>cases ry;exact PySem.EqNone.ne_int_none (cu I q (by simp))
  |int j=>obtain⟨t',rfl⟩:=ry;exact ne_int (cu I q (congrArg not ze))
  |str j=>obtain⟨t',rfl⟩:=ry;exact PySem.EqMixed.ne_int_str (cu I q (by simp))
  |_=>exact absurd (show false=true from hs) E8
 |str i=>
  obtain⟨t,rfl⟩:=rx
  cases y with
  |non=>cases ry;exact PySem.EqNone.ne_str_none (cu I q (by simp))
  |bl j=>cases ry;exact PySem.EqMixed.ne_str_bool (cu I q (by simp))
  |int j=>obtain⟨t',rfl⟩:=ry;exact PySem.EqMixed.ne_str_int (cu I q (by simp))
  |str j=>obtain⟨t',rfl⟩:=ry;exact ne_str (cu I q (congrArg not yw))
  |_=>exact absurd (show false=true from hs) E8
 |byt i=>
  obtain⟨t,rfl⟩:=rx
  cases y with
  |byt j=>obtain⟨t',rfl⟩:=ry;exact PySem.W.ne_bytes (cu I q (congrArg not yH))
  |_=>exact absurd (show false=true from hs) E8
 |_=>cases y <;> exact absurd (show false=true from hs) E8
def Af:kc X (compareOp .Lt) (yv λi j=>.bl (decide (i < j))):=CF λ_ _ _ _ _ _ _ q=>lt_int q
def wd:kc X (compareOp .LtE) (yv λi j=>.bl (decide (i<=j))):=CF λ_ _ _ _ _ _ _ q=>le_int q
def cq (b:Expr){op:CmpOp}(h:op≠.In:=by decide)(h2:op≠.NotIn:=by decide):behindInMarks op b=false:=by
 have e1:(op == CmpOp.In)=false:=by cases op <;> first |rfl |exact absurd rfl h
 have e2:(op == CmpOp.NotIn)=false:=by cases op <;> first |rfl |exact absurd rfl h2
 cases b <;> simp[behindInMarks,e1,e2]
def zD {op:CmpOp}{r:R2}(ho:kc X (compareOp op) r)(ha:PE X a ta)(hb:PE X b tb)(hm:behindInMarks op b=false):PE X (.Compare a [op] [b] pos) (C6 r ta tb):=by
 intro pins s σ H Q I h
 exact wpAny_Compare1 (AK ha hb I h λv u s2 x y H2 I2 rx ry q=>ho pins s2 σ H2 x y v u Q I2 rx ry q) hm
def BS (t:TE):TT:=λσ H Q=>t σ H λx H'=>∃k,x=.bl k/\Q k H'
def zl {op:CmpOp}{r:R2}(ho:kc X (compareOp op) r)(ha:PE X a ta)(hb:PE X b tb)(hm:behindInMarks op b=false):PT X (.Compare a [op] [b] pos) (BS (C6 r ta tb)):=by
 intro pins s σ H Q I h
 refine wpAny_isTrue_Compare1 (bP (ha pins s σ H _ I h) λv s1 ⟨x,H1,I1,r1,q1⟩=>bP (hb pins s1 σ H1 _ I1 q1) λu s2 ⟨y,H2,I2,r2,q2⟩=>
  bP (ho pins s2 σ H2 x y v u _ I2 r1 r2 q2) λc s3 ⟨z,H3,I3,r3,k,e,q3⟩=>?_) hm
 subst e
 cases r3
 exact FX ⟨H3,I3,q3⟩
def Aw (r r':R2)(ta tb tc:TE):TE:=λσ H Q=>ta σ H λx H1=>tb σ H1 λy H2=>r x y H2 λz H3=>∃k,z=.bl k/\
 (if k=true then tc σ H3 λw' H4=>r' y w' H4 Q else Q (.bl false) H3)
theorem vf {op op':CmpOp}{r r':R2}(ho:kc X (compareOp op) r)(ho':kc X (compareOp op') r')(ha:PE X a ta)(hb:PE X b tb)(hc:PE X c tc)
  (hm:lastMarks [op,op'] [b,c]=false:=by with_unfolding_all rfl):PE X (.Compare a [op,op'] [b,c] pos) (Aw r r' ta tb tc):=by
 intro pins s σ H Q I h
 refine Compare_chain (bP (ha pins s σ H _ I h) λv s1 ⟨x,H1,I1,r1,q1⟩=>chain_link (bP (hb pins s1 σ H1 _ I1 q1) λu s2 ⟨y,H2,I2,r2,q2⟩=>
  bP (ho pins s2 σ H2 x y v u _ I2 r1 r2 q2) λd s3 ⟨z,H3,I3,r3,k,e,q3⟩=>?_)) hm
 subst e
 cases r3
 refine FX ?_
 cases k with
 |false=>exact ite_ff ⟨.bl false,H3,I3,rfl,q3⟩
 |true=>exact ite_tt (chain_last (bP (hc pins s3 σ H3 _ I3 q3) λw' s4 ⟨z',H4,I4,r4,q4⟩=>ho' pins s4 σ H4 y z' u w' Q I4 r2 r4 q4))
def Cm (K:Frag)(x:V)(H:Hp)(k:Bool):Prop:=
 match x with
 | .non=>k=false
 | .bl b=>k=b
 | .int i=>k=(i != 0)
 | .str y=>y.length<=sizeLine/\k=((y.length:Int) != 0)
 | .byt y=>y.size<=sizeLine/\k=((y.size:Int) != 0)
 | .ref p=>(∃xs,dS K H p xs/\k= !xs.isEmpty)\/(∃xs,eB K H p xs/\k= !xs.isEmpty)\/∃kvs,H p=some (.dK kvs)/\k= !kvs.isEmpty
 |_=>False
def qQ {κ:Type}{kvs:List (κ×V)}{vs:List (κ×Value)}(r:KV kvs vs):(!vs.isEmpty)= !kvs.isEmpty:=by
 cases r <;> rfl
def kA {xs:List V}{its:List Value}(r:Vals xs its):(!its.toArray.isEmpty)= !xs.isEmpty:=by
 cases r <;> simp
def jI:(sizeLine:Nat) < 2 ^ 63:=by rw[Fl];decide
theorem Bc:D3 X (λx H Q=>∃k,Cm X.K x H k/\Q k H):=by
 intro pins s σ H x v Q I rx h
 obtain⟨k,e,q⟩:=h
 have hl:=jI
 have hs:sizeLine=16777216:=Fl
 cases x with
 |non=>
  cases rx
  have e':k=false:=e
  subst e'
  exact truthy_none ⟨H,I,q⟩
 |bl b=>
  cases rx
  have e':k=b:=e
  subst e'
  exact FX ⟨H,I,q⟩
 |int i=>
  obtain⟨t,rfl⟩:=rx
  have e':k=(i != 0):=e
  subst e'
  exact PySem.P.truthy_int ⟨H,I,q⟩
 |str y=>
  obtain⟨t,rfl⟩:=rx
  obtain⟨hy,e'⟩:y.length<=sizeLine/\k=((y.length:Int) != 0):=e
  subst e'
  exact PySem.P.truthy_str (by omega) ⟨H,I.tok _,q⟩
 |byt y=>
  obtain⟨t,rfl⟩:=rx
  obtain⟨hy,e'⟩:y.size<=sizeLine/\k=((y.size:Int) != 0):=e
  subst e'
  exact PySem.W.truthy_bytes (by omega) ⟨H,I.tok _,q⟩
 |ref p=>
  cases rx
  have e':(∃xs,dS X.K H p xs/\k= !xs.isEmpty)\/(∃xs,eB X.K H p xs/\k= !xs.isEmpty)\/∃kvs,H p=some (.dK kvs)/\k= !kvs.isEmpty:=e
  rcases e' with⟨xs,hx,e'⟩ | ⟨xs,hx,e'⟩ | ⟨kvs,hx,e'⟩
  ·subst e'
   obtain⟨its,r,pl,hz⟩:=I.list hx
   have hlen:=r.length
   exact wpAny_truthy_list pl.isList (by simp only[EY];omega) ⟨H,I.tok _,by rw[kA r];exact q⟩
  ·subst e'
   obtain⟨its,r,pl,hz⟩:=I.tuple hx
   have hlen:=r.length
   exact truthy_tuple pl (by simp only[EY];omega) ⟨H,I.tok _,by rw[kA r];exact q⟩
  ·subst e'
   obtain⟨hz,hS,vs,r,m⟩:kvs.length<=sizeLine/\(p == sysModules)=false/\∃vs,KV kvs vs/\s.heap.DictOf (nu X.prog X.w) p vs:=I.hok p _ hx
   have hlen:kvs.length=vs.length:=Paired.length r
   exact wpAny_truthy_dict hS m (by omega) ⟨H,I.tok _,by rw[qQ r];exact q⟩
 |_=>exact (show False from e).elim
def xq (ha:PE X a ta)(he:∀whole,isTrue a X.env whole=(do let v <-whole;standAt a.pos;holding [v] (truthy v))) :
  PT X a (λσ H Q=>ta σ H λx H'=>∃k,Cm X.K x H' k/\Q k H'):=by
 intro pins s σ H Q I h
 exact isTrue_plain (bP (ha pins s σ H _ I h) λv s1 ⟨x,H1,I1,r1,q1⟩=>Bc pins s1 σ H1 x v Q I1 r1 q1) (he _)
theorem vals1 {x:V}{us:List Value}(r:Vals [x] us):∃u,us= [u]/\RelV x u:=by
 cases r with
 |cons r1 r2=>cases r2;exact⟨_,rfl,r1⟩
theorem vals2 {x y:V}{us:List Value}(r:Vals [x,y] us):∃u w',us= [u,w']/\RelV x u/\RelV y w':=by
 cases r with
 |cons r1 r2=>
  cases r2 with
  |cons r3 r4=>cases r4;exact⟨_,_,rfl,r1,r3⟩
def x8:bN X (.builtin "abs") (λxs H Q=>∃i,xs= [.int i]/\Q (.int (if i < 0 then -i else i)) H):=by
 intro pins s σ H xs us Q I r h
 obtain⟨i,rfl,q⟩:=h
 obtain⟨u,rfl,t,rfl⟩:=vals1 r
 exact call_abs_int λu tk=>⟨.int (if i < 0 then -i else i),H,I.tok _,⟨_,rfl⟩,q⟩
def u0 (hc:X.calm=true):bN X (.builtin "max") (λxs H Q=>∃i j,xs= [.int i,.int j]/\Q (.int (if j > i then j else i)) H):=by
 intro pins s σ H xs us Q I r h
 obtain⟨i,j,rfl,q⟩:=h
 obtain⟨u,w',rfl,⟨t,rfl⟩,⟨t',rfl⟩⟩:=vals2 r
 refine max_two_ints (I.ok.hd hc) λh' tk k=>⟨_,H,I.kept k,?_,q⟩
 by_cases hj:j > i
 ·rw[EI hj,EI hj];exact⟨_,rfl⟩
 ·rw[EN hj,EN hj];exact⟨_,rfl⟩
def tX (hc:X.calm=true):bN X (.builtin "min") (λxs H Q=>∃i j,xs= [.int i,.int j]/\Q (.int (if j < i then j else i)) H):=by
 intro pins s σ H xs us Q I r h
 obtain⟨i,j,rfl,q⟩:=h
 obtain⟨u,w',rfl,⟨t,rfl⟩,⟨t',rfl⟩⟩:=vals2 r
 refine min_two_ints (I.ok.hd hc) λh' tk k=>⟨_,H,I.kept k,?_,q⟩
 by_cases hj:j < i
 ·rw[EI hj,EI hj];exact⟨_,rfl⟩
 ·rw[EN hj,EN hj];exact⟨_,rfl⟩
def BR (K:Frag)(x:V)(H:Hp)(n:Nat):Prop:=
 match x with
 | .str y=>y.length<=sizeLine/\n=y.length
 | .byt y=>y.size<=sizeLine/\n=y.size
 | .ref p=>(∃xs,dS K H p xs/\n=xs.length)\/∃xs,eB K H p xs/\n=xs.length
 |_=>False
theorem cC:bN X (.builtin "len") (λxs H Q=>∃x n,xs= [x]/\BR X.K x H n/\Q (.int n) H):=by
 intro pins s σ H xs us Q I r h
 obtain⟨x,n,rfl,e,q⟩:=h
 obtain⟨u,rfl,rx⟩:=vals1 r
 have hl:=jI
 have hs:sizeLine=16777216:=Fl
 cases x with
 |str y=>
  obtain⟨t,rfl⟩:=rx
  obtain⟨hy,e'⟩:y.length<=sizeLine/\n=y.length:=e
  subst e'
  exact len_str (by omega) ⟨.int _,H,I.tok _,⟨_,rfl⟩,q⟩
 |byt y=>
  obtain⟨t,rfl⟩:=rx
  obtain⟨hy,e'⟩:y.size<=sizeLine/\n=y.size:=e
  subst e'
  exact PySem.W.len_bytes (by omega) ⟨.int _,H,I.tok _,⟨_,rfl⟩,q⟩
 |ref p=>
  cases rx
  have e':(∃xs,dS X.K H p xs/\n=xs.length)\/∃xs,eB X.K H p xs/\n=xs.length:=e
  rcases e' with⟨xs,hx,e'⟩ | ⟨xs,hx,e'⟩
  ·subst e'
   obtain⟨its,r',pl,hz⟩:=I.list hx
   have hlen:=r'.length
   exact Calls.call_len_list pl.isList (by simp only[EY];omega) ⟨.int xs.length,H,I.tok _,⟨_,by simp only[EY];rw[hlen]⟩,q⟩
  ·subst e'
   obtain⟨its,r',pl,hz⟩:=I.tuple hx
   have hlen:=r'.length
   exact len_tuple pl (by simp only[EY];omega) ⟨.int xs.length,H,I.tok _,⟨_,by simp only[EY];rw[hlen]⟩,q⟩
 |_=>exact (show False from e).elim
def oY:bN X (.builtin "divmod") (λxs H Q=>∃i j,xs= [.int i,.int j]/\za i j/\∀p,H p=none->Q (.ref p) (upd H p (.tup [.int (i / j),.int (i % j)]))):=by
 intro pins s σ H xs us Q I r h
 obtain⟨i,j,rfl,⟨h1,h2⟩,q⟩:=h
 obtain⟨u,w',rfl,⟨t,rfl⟩,⟨t',rfl⟩⟩:=vals2 r
 refine divmod_int (by omega) ?_ (.inl (PyProof.noPylong_small (by omega)))
 rw[Int.fdiv_eq_ediv_of_nonneg i (by omega),Int.fmod_eq_emod_of_nonneg i (by omega)]
 have hn:H s.heap.objs.size=none:=I.hok.fresh (EG _)
 refine⟨.ref s.heap.objs.size,_,?_,rfl,q _ hn⟩
 refine I.laid (λb o e=>EF _ e) (EG _) ⟨by simp only[EZ,Hg];rw[Fl];decide,[.int (i / j) s.toks,.int (i % j) (s.toks + 1)],.cons ⟨_,rfl⟩ (.cons ⟨_,rfl⟩ .nil),?_⟩
 exact⟨_,EW s.heap rfl,rfl,0,rfl,rfl⟩
end
structure A5 (h:Heap)(x dx C:Addr)(mA:Str->Option Value):Prop where
 obj:h.get? x=some (PySem.W.instObj C dx)
 ns:h.Ns1 dx mA
 ne:dx≠x
def uk {h:Heap}{dx:Addr}{mA:Str->Option Value}(n:h.Ns1 dx mA):∃od,h.get? dx=some od/\∀name,PySem.W.lookIn name od=some (mA name):=by
 obtain⟨o,es,ep,ho,hd,hk,_,hm⟩:=n
 refine⟨o,ho,λname=>?_⟩
 have e:=hm name
 unfold nsFind findBy at e
 rw[<-Array.find?_toList] at e
 unfold PySem.W.lookIn
 rw[hd]
 dsimp only
 split
 ·rename_i y q
  rw[q] at e
  exact congrArg some e
 ·rename_i q
  rw[q] at e
  have a:es.toList.any (·.refKey)=false:=by
   rw[List.any_eq_false]
   intro y hy
   obtain⟨z,t,hkey⟩:=hk y (GN.mp hy)
   simp[DictEntry.refKey,hkey]
  have a':¬es.toList.any (·.refKey)=true:=by rw[a];exact E8
  rw[EN a']
  exact congrArg some e
def A5.look {h:Heap}{x dx C:Addr}{mA:Str->Option Value}(I:A5 h x dx C mA):∃od,PySem.W.InstAt h x (PySem.W.instObj C dx) C (some od)/\∀name,PySem.W.lookIn name od=some (mA name):=
 let ⟨od,ho,hl⟩:=uk I.ns
 ⟨od,⟨I.obj,rfl,rfl,ho⟩,hl⟩
section
variable {P:Program}{w:World}{H H':Hp}{h h':Heap}{a C dx:Addr}{fs fs':List (Str×V)}
def yU (hok:iO P w H h)(e:H a=some (.ins C dx fs)):∃mA,A5 h a dx C mA/\(∀f,AW (fs.lookup f) (mA f))/\PySem.Within mA (fs.map (·.1))/\fs.length<=1000/\H dx=some (.own a):=by
 obtain⟨d,z,ne,ob,mA,n,r,q⟩:=(show bF P w H h a (.ins C dx fs) from hok a _ e)
 exact⟨mA,⟨ob,n,ne⟩,r,q,z,d⟩
end
structure Dr (K:Frag)(C:Addr):Prop where
 pg:PySem.W.plainGet K C Str.empty=true
 hd:PySem.W.hasDictIn K C=true
 po:PySem.W.plainOver K C=true
 sa:PySem.W.findIn K (.ref C) "__setattr__"=some (some (.builtin "object.__setattr__"))
def Dr.get {K:Frag}{C:Addr}(c:Dr K C)(f:Str):PySem.W.plainGet K C f=true:=c.pg
section
variable {X:Cx}{pins:List (Addr×Obj)}{σ:St}{H:Hp}{s:Shared}{A:Around}{E:Value->Shared->Prop}{Q:Value->Shared->Prop}{c:Value}{b:Bool}
inductive ki (K:Frag)(H:Hp):V->Value->Prop where
 |non:ki K H .non (.type "NoneType")
 |bl (x:Bool):ki K H (.bl x) (.type "bool")
 |int (i:Int):ki K H (.int i) (.type "int")
 |str (x:Str):ki K H (.str x) (.type "str")
 |flt (x:UInt64):ki K H (.flt x) (.type "float")
 |lst {a:Addr} {xs:List V} (e:H a=some (.lst xs)):ki K H (.ref a) (.type "list")
 |aL {a:Addr} {o:Obj} {xs:List V} (e:H a=some (.aL o (.lst xs))):ki K H (.ref a) (.type "list")
 |tup {a:Addr} {xs:List V} (e:H a=some (.tup xs)):ki K H (.ref a) (.type "tuple")
 |dK {a:Addr} {kvs:List (Key×V)} (e:H a=some (.dK kvs)):ki K H (.ref a) (.type "dict")
 |dT {a:Addr} {kvs:List (List Key×V)} (e:H a=some (.dT kvs)):ki K H (.ref a) (.type "dict")
 |ins {a C dx:Addr} {fs:List (Str×V)} (e:H a=some (.ins C dx fs)) (cl:Dr K C) (ha:PySem.W.findIn K (.ref C) "__class__"=some (some (.builtin "object.__class__")))
   (hn:PySem.W.specialIn K (.builtin "object.__class__") "__get__"=some (some (.builtin "getset_descriptor.__get__"))) (htk:PySem.W.takesIn K (.builtin "object.__class__")=some true)
   (hm:PySem.W.mroIn K C (.type "object")=some true):ki K H (.ref a) (.ref C)
theorem fN {x:V}{u t:Value}(I:Inv X pins σ H s)(rx:RelV x u)(ty:ki X.K H x t)(e:PySem.W.kitOne X.K t c=some b)(h:∀tk,Q (.bool b) {s with toks:=tk}) :
  wpAny (model X.prog X.w) A (call (.builtin "isinstance") [u,c]) Q E s:=by
 cases ty with
 |non=>cases (show u=Value.none from rx);exact Fy PySem.W.kitx_none I.kIn True.intro e (λz=>nomatch z) h
 |bl y=>cases (show u=Value.bool y from rx);exact Fy PySem.W.kitx_bool I.kIn True.intro e (λz=>nomatch z) h
 |int i=>obtain⟨t,q⟩:=(show ∃t,u=Value.int i t from rx);cases q;exact Fy PySem.W.kitx_int I.kIn True.intro e (λz=>nomatch z) h
 |str y=>obtain⟨t,q⟩:=(show ∃t,u=Value.str y t from rx);cases q;exact Fy PySem.W.kitx_str I.kIn True.intro e (λz=>nomatch z) h
 |flt y=>obtain⟨t,q⟩:=(show ∃t,u=Value.float y t from rx);cases q;exact Fy PySem.W.kitx_float I.kIn True.intro e (λz=>nomatch z) h
 | @lst a xs ea=>
  cases (show u=Value.ref a from rx)
  obtain⟨_,_,n,_,h1⟩:=(show bF X.prog X.w H s.heap a (.lst xs) from I.hok a _ ea)
  exact Fy PySem.W.kitx_list I.kIn ⟨_,h1,rfl⟩ e (λz=>nomatch z) h
 | @aL a ob xs ea=>
  cases (show u=Value.ref a from rx)
  obtain⟨_,_,_,n,_,h1⟩:=(show bF X.prog X.w H s.heap a (.aL ob (.lst xs)) from I.hok a _ ea)
  exact Fy PySem.W.kitx_list I.kIn ⟨_,h1,rfl⟩ e (λz=>nomatch z) h
 | @tup a xs ea=>
  cases (show u=Value.ref a from rx)
  obtain⟨_,_,_,p⟩:=(show bF X.prog X.w H s.heap a (.tup xs) from I.hok a _ ea)
  obtain⟨o,h1,h2,_⟩:=p
  exact Fy PySem.W.kitx_tuple I.kIn ⟨o,h1,h2⟩ e (λz=>nomatch z) h
 | @dK a kvs ea=>
  cases (show u=Value.ref a from rx)
  obtain⟨_,_,vs,_,p⟩:=(show bF X.prog X.w H s.heap a (.dK kvs) from I.hok a _ ea)
  obtain⟨o,es,ep,h1,h2,_⟩:=p
  exact Fy PySem.W.kitx_dict I.kIn ⟨o,h1,h2.1⟩ e (λz=>nomatch z) h
 | @dT a kvs ea=>
  cases (show u=Value.ref a from rx)
  obtain⟨_,_,xs,_,o,es,ep,h1,h2,_⟩:=(show bF X.prog X.w H s.heap a (.dT kvs) from I.hok a _ ea)
  exact Fy PySem.W.kitx_dict I.kIn ⟨o,h1,h2.1⟩ e (λz=>nomatch z) h
 | @ins a C dx fs ea cl ha hn htk hm=>
  cases (show u=Value.ref a from rx)
  obtain⟨mA,O,_⟩:=yU I.hok ea
  obtain⟨od,J,_⟩:=O.look
  exact Fy (PySem.W.kitx_own (cl.get _) cl.hd ha hn htk hm) I.kIn J e (λz=>nomatch z) h
end
structure cH (k:Nat)(A:Around):Prop where
 hd:A.handled=none
 dp:A.depth + 3 * k + 5 < recursionLimit
 un:A.units + 16 * k + 200 < cLine
 gd:A.guards=some []
def cH.mono {j k:Nat}{A:Around}(r:cH k A)(h:j<=k):cH j A:=⟨r.hd,by have:=r.dp;omega,by have:=r.un;omega,r.gd⟩
def cH.deeper {k:Nat}{A:Around}(r:cH (k + 1) A)(env:Env):cH k (A.deeper env):=
 ⟨r.hd,by have:=r.dp;show A.depth + 1 + 3 * k + 5 < _;omega,by have:=r.un;show A.units + 3 + 16 * k + 200 < _;omega,r.gd⟩
def cH.depth {k:Nat}{A:Around}(r:cH k A):A.depth < recursionLimit:=by have:=r.dp;omega
def cH.units {k:Nat}{A:Around}(r:cH k A):A.units + 64 < cLine:=by have:=r.un;omega
def Dg:TA:=λ_ H Q=>Q [] H
def Cf (ta:TE)(tr:TA):TA:=λσ H Q=>ta σ H λx H1=>tr σ H1 λxs H2=>Q (x :: xs) H2
section
variable {X:Cx}{e:Expr}{es:List Expr}{te:TE}{t:TA}{pos:Pos}
def aR:PA X [] Dg:=λ_ _ _ _ H Q I h=>Calls.spliced_nil ⟨[],H,I,.nil,h⟩
def aB (ha:PE X e te)(hr:PA X es t)(hs:starEach (e :: es) X.env=(false,eval e X.env) :: starEach es X.env:=by rfl):PA X (e :: es) (Cf te t):=by
 intro pos pins s σ H Q I h
 rw[hs]
 show wpAny _ _ (spliced ((false,eval e X.env) :: backTo pos (starEach es X.env))) _ _ s
 refine Calls.spliced_cons (bP (ha pins s σ H _ I h) λu s1 ⟨x,H1,I1,r1,q1⟩=>?_)
 exact bP (hr pos pins s1 σ H1 _ I1 q1) λus s2 ⟨xs,H2,I2,r2,q2⟩=>⟨x :: xs,H2,I2,.cons r1 r2,q2⟩
def Dl (t:TA):TE:=λσ H Q=>t σ H λxs H1=>xs.length<=sizeLine/\∀p,H1 p=none->Q (.ref p) (upd H1 p (.tup xs))
def DT (t:TA):TE:=λσ H Q=>t σ H λxs H1=>xs.length<=sizeLine/\∀p,H1 p=none->Q (.ref p) (upd H1 p (.lst xs))
def rP {x1}(h:PA X es t):PE X (.Tuple es x1 pos) (Dl t):=by
 intro pins s σ H Q I hq
 refine wpAny_Tuple_spliced (bP (h pos pins s σ H _ I hq) λus s1 ⟨xs,H1,I1,r,z,q⟩=>⟨by rw[<-r.length];exact z,?_⟩)
 have hf:H1 s1.heap.objs.size=none:=I1.hok.fresh (EG _)
 refine⟨.ref s1.heap.objs.size,upd H1 s1.heap.objs.size (.tup xs),I1.laid (t':=s1.toks) (λb u e=>EF _ e) (EG _) ?_,rfl,q _ hf⟩
 exact⟨z,us,r,rV.new _ _⟩
def xy (h:PA X es t):PE X (.List es pos) (DT t):=by
 intro pins s σ H Q I hq
 refine wpAny_List_spliced (bP (h pos pins s σ H _ I hq) λus s1 ⟨xs,H1,I1,r,z,q⟩=>⟨by rw[<-r.length];exact z,?_⟩)
 have hf:H1 s1.heap.objs.size=none:=I1.hok.fresh (EG _)
 refine⟨.ref s1.heap.objs.size,upd H1 s1.heap.objs.size (.lst xs),I1.laid (t':=s1.toks) (λb u e=>EF _ e) (EG _) ?_,rfl,q _ hf⟩
 exact⟨z,us,0,r,EW _ rfl⟩
end
abbrev Sp:=List V->Hp->VK->XK->Prop
abbrev ux:=List Env->Hp->Shared->XK->Value->Shared->Prop
structure zr (P:Program)(w:World)(K:Frag)(mg:Str->Option Value)(base:Heap)(A:Around)(outer:List Env)(s:Shared)(H:Hp):Prop where
 frames:A.frames=some outer
 mod:Mod K mg base
 bs:∀b o,base.get? b=some o->s.heap.get? b=some o/\H b=none
 bsz:base.objs.size<=s.heap.objs.size
 funs:s.heap.FunFrames base outer
 frf:∀b∈fx outer,H b=none
 hok:iO P w H s.heap
 bare:AllBare s.gens
def CE (outer:List Env)(P:Program)(w:World)(H:Hp)(s:Shared)(Q:VK)(u:Value)(s':Shared):Prop:=
 ∃v H',s'.os=s.os/\AllBare s'.gens/\Un (fx outer) [] H H' s.heap s'.heap/\iO P w H' s'.heap/\RelV v u/\Q v H'
def CR (CX:ux)(outer:List Env)(P:Program)(w:World)(H:Hp)(s:Shared)(Q:VK)(E:XK)(r:Result)(s':Shared):Prop:=
 match r with
 | .ok (.ret u)=>CE outer P w H s Q u s'
 | .ok _=>False
 | .error e=>CX outer H s E e s'
structure c7 (P:Program)(w:World)(K:Frag)(mg:Str->Option Value)(base:Heap)(CX:ux)(k:Nat)(f:Addr)(fd:FuncData)(ps:List Str)(sp:Sp):Prop where
 len:∀vs H Q E,sp vs H Q E->vs.length=ps.length
 run:∀(A:Around) (outer:List Env) (s:Shared) (H:Hp) (args:Args) (us:List Value) (vs:List V) (Q:VK) (E:XK),cH k A->zr P w K mg base A outer s H->BindsTo s fd args (ps.zip us)->Vals vs us->sp vs H Q E->
  codeAny (model P w) A (.call (.ref f) args) (CR CX outer P w H s Q E) s
def c7.mono {P:Program}{w:World}{K:Frag}{mg:Str->Option Value}{base:Heap}{CX:ux}{j k:Nat}{f:Addr}{fd:FuncData}{ps:List Str}{sp:Sp}(F:c7 P w K mg base CX j f fd ps sp)(h:j<=k) :
  c7 P w K mg base CX k f fd ps sp:=⟨F.len,λA outer s H args us vs Q E hr=>F.run A outer s H args us vs Q E (hr.mono h)⟩
def c7.imp {P:Program}{w:World}{K:Frag}{mg:Str->Option Value}{base:Heap}{CX:ux}{k:Nat}{f:Addr}{fd:FuncData}{ps:List Str}{sp sp':Sp}(F:c7 P w K mg base CX k f fd ps sp)
  (h:∀vs H Q E,sp' vs H Q E->sp vs H Q E):c7 P w K mg base CX k f fd ps sp':=
 ⟨λvs H Q E q=>F.len vs H Q E (h _ _ _ _ q),λA outer s H args us vs Q E hr he hb hv hs=>F.run A outer s H args us vs Q E hr he hb hv (h _ _ _ _ hs)⟩
section
variable {X:Cx}{pins:List (Addr×Obj)}{σ:St}{H:Hp}{s s':Shared}
def Inv.env0 (I:Inv X pins σ H s):zr X.prog X.w X.K X.mg X.base X.A X.stack s H:=
 ⟨I.ok.frames,I.ok.mod,I.bs,FK I.ok.bsz I.sz,I.stack,I.stkFree,I.hok,I.bare⟩
def Inv.after {Q:VK}{u:Value}(I:Inv X pins σ H s)(h:CE X.stack X.prog X.w H s Q u s'):EP X pins σ Q u s':=by
 obtain⟨v,H',os,bare,un,hok,r,q⟩:=h
 obtain⟨hh,g,d,t,os'⟩:=s'
 obtain rfl:os'=s.os:=os
 exact⟨v,H',I.call (h':=hh) (g':=g) (d':=d) (t':=t) (ch:=[]) un hok bare (λb z=>absurd z (by simp)),r,q⟩
end
def CM (sp:Sp)(dvs:List V)(E:XK)(t:TA):TE:=λσ H Q=>t σ H λvs H1=>sp (vs ++ dvs) H1 Q E
def Binds (K:Frag)(fd:FuncData)(ps:List Str)(ds:List Value):Prop:=
 ∀(s:Shared) (us:List Value),K.In s.heap->(us ++ ds).length=ps.length->BindsTo s fd ⟨us,[]⟩ (ps.zip (us ++ ds))
def Binds.all {K:Frag}{fd:FuncData}{ps:List Str}(h:∀us:List Value,us.length=ps.length->bindArgs fd ⟨us,[]⟩=pure (ps.zip us)):Binds K fd ps []:=λs us _ hl=>by
 rw[Hh] at hl ⊢
 exact .of_eq (h us hl)
def Passes (CX:ux)(X:Cx)(E:XK):Prop:=∀(pins:List (Addr×Obj)) (σ:St) (H:Hp) (s:Shared) (e:Value) (s':Shared),Inv X pins σ H s->CX X.stack H s E e s'->X.xe e s'
section
variable {X:Cx}{CX:ux}{k:Nat}{f C:Addr}{fd:FuncData}{ps:List Str}{sp:Sp}{dvs:List V}{ds:List Value}{E:XK}{x m:Str}{p pos apos:Pos}{e o:Expr}{es:List Expr}{ta:TE}{t:TA}
theorem AN {pins:List (Addr×Obj)}{σ:St}{H:Hp}{s:Shared}{Q:VK}{us:List Value}{vs:List V}(F:c7 X.prog X.w X.K X.mg X.base CX k f fd ps sp)(hr:cH k X.A)(hb:Binds X.K fd ps ds)(hd:Vals dvs ds)(hx:Passes CX X E)
  (I:Inv X pins σ H s) (r:Vals vs us) (h:sp (vs ++ dvs) H Q E):wpAny (model X.prog X.w) X.A (call (.ref f) us) (EP X pins σ Q) X.xe s:=by
 have r2:Vals (vs ++ dvs) (us ++ ds):=r.append hd
 have hl:(us ++ ds).length=ps.length:=by rw[<-r2.length];exact F.len _ _ _ _ h
 refine wpAny_call (Hj (F.run X.A X.stack s H ⟨us,[]⟩ (us ++ ds) (vs ++ dvs) Q E hr I.env0 (hb s us I.kIn hl) r2 h) λr s' hq=>?_)
 cases r with
 |error e=>exact hx pins σ H s e s' I hq
 |ok fl=>
  cases fl with
  |ret u=>exact I.after hq
  |next=>exact False.elim hq
  |brk=>exact False.elim hq
  |cont=>exact False.elim hq
def jm (F:c7 X.prog X.w X.K X.mg X.base CX k f fd ps sp)(hr:cH k X.A)(hg:Gl X x)(hm:X.mg x=some (.ref f))(hk:PySem.W.keepIn X.K (.ref f)=true)(hb:Binds X.K fd ps ds)(hd:Vals dvs ds)(hx:Passes CX X E)
  (ha:PA X (e :: es) t) (hdb:(x == ("__debug__":Str))=false:=by decide) (he:starEach (e :: es) X.env=(false,eval e X.env) :: starEach es X.env:=by rfl) (hpl:(backTo pos (starEach es X.env)).any (·.1)=false:=by rfl) :
  PE X (.Call (.Name x p) (e :: es) [] pos) (CM sp dvs E t):=by
 intro pins s σ H Q I h
 refine wpAny_Call_Name_kw (nE I hg hm ?_ hdb)
 refine PySem.W.callWith_K (h₀:=X.base) I.ok.mod.kin hk (bP (ha pos pins s σ H _ I h) λus s1 ⟨vs,H1,I1,r,q⟩=>⟨I1.kIn,?_⟩) he hpl
 exact AN F hr hb hd hx I1 r q
end
structure aG (N P:List Str)(sc:Scope):Prop where
 kind:sc.kind=.function
 co:sc.isCoroutine=false
 gen:sc.isGenerator=false
 nd:N.Nodup
 pre:N.take P.length=P
 par:∀x∈P,sc.names.lookup x=some .local\/sc.names.lookup x=some .cell
 nofree:∀y∈sc.names,y.2≠.free
theorem mE {kindOf:Str->Option NameKind}{x:Str}:∀{binds:List (Str×Value)} {m:Str->Option Value},(∀v,(x,v)∉binds)->bindL kindOf binds m x=m x
 | [],_,_=>rfl
 | (n,v) :: r,m,h=>by
  unfold bindL
  rw[mE λw hw=>h w (EK _ hw)]
  split
  ·have:x≠n:=by rintro rfl;exact h v EL
   simp[this]
  ·rfl
theorem l9 {kindOf:Str->Option NameKind}{x:Str}:∀{binds:List (Str×Value)} {m:Str->Option Value},(∀v,(x,v)∉binds)->bindC kindOf binds m x=m x
 | [],_,_=>rfl
 | (n,v) :: r,m,h=>by
  unfold bindC
  rw[l9 λw hw=>h w (EK _ hw)]
  split
  ·rfl
  ·have:x≠n:=by rintro rfl;exact h v EL
   simp[this]
theorem mB {kindOf:Str->Option NameKind}{x:Str}{v:Value}:∀{P:List Str} {vs:List Value} {i:Nat} {m:Str->Option Value},P.Nodup->P[i]? =some x->vs[i]? =some v->kindOf x=some .local->
  bindL kindOf (P.zip vs) m x=some v
 | [],_,_,_,_,h,_,_=>by simp at h
 |_ :: _,[],_,_,_,_,h,_=>by simp at h
 |p :: P,w :: vs,0,m,nd,h1,h2,hk=>by
  simp at h1 h2;subst h1;subst h2
  show bindL kindOf ((p,w) :: P.zip vs) m p=_
  unfold bindL
  rw[mE λv hv=>(Fq.mp nd).1 (List.of_mem_zip hv).1,EI hk]
  simp
 |p :: P,w :: vs,i + 1,m,nd,h1,h2,hk=>by
  show bindL kindOf ((p,w) :: P.zip vs) m x=_
  unfold bindL
  exact mB (i:=i) (Fq.mp nd).2 (by simpa using h1) (by simpa using h2) hk
theorem mI {kindOf:Str->Option NameKind}{x:Str}{v:Value}:∀{P:List Str} {vs:List Value} {i:Nat} {m:Str->Option Value},P.Nodup->P[i]? =some x->vs[i]? =some v->kindOf x≠some .local->
  bindC kindOf (P.zip vs) m x=some v
 | [],_,_,_,_,h,_,_=>by simp at h
 |_ :: _,[],_,_,_,_,h,_=>by simp at h
 |p :: P,w :: vs,0,m,nd,h1,h2,hk=>by
  simp at h1 h2;subst h1;subst h2
  show bindC kindOf ((p,w) :: P.zip vs) m p=_
  unfold bindC
  rw[l9 λv hv=>(Fq.mp nd).1 (List.of_mem_zip hv).1,EN hk]
  simp
 |p :: P,w :: vs,i + 1,m,nd,h1,h2,hk=>by
  show bindC kindOf ((p,w) :: P.zip vs) m x=_
  unfold bindC
  exact mI (i:=i) (Fq.mp nd).2 (by simpa using h1) (by simpa using h2) hk
def start (N:List Str)(vs:List V):St:=vs.map some ++ List.replicate (N.length - vs.length) none
def iC (CX:ux)(P:Program)(w:World)(K:Frag)(mg:Str->Option Value)(base:Heap)(N:List Str)(qual:Str)(scope:Scope)(f:Addr)(cd:Value)(A:Around)(outer:List Env)(s:Shared)(H:Hp)(E:XK):Cx where
 prog:=P
 w:=w
 K:=K
 mg:=mg
 base:=base
 A:=A.deeper (envOfC qual scope s.heap.objs.size f cd)
 N:=N
 s₀:=s
 H₀:=H
 env:=envOfC qual scope s.heap.objs.size f cd
 outer:=outer
 stack:=envOfC qual scope s.heap.objs.size f cd :: outer
 ex:=[]
 calm:=true
 fn:=λ_=>true
 pn:=[]
 xe:=λe s'=>wpAny (model P w) (A.deeper (envOfC qual scope s.heap.objs.size f cd)) (leaving (envOfC qual scope s.heap.objs.size f cd) e) (λ_ s''=>CX outer H s E e s'') (λe' s''=>CX outer H s E e' s'') s'
def ql {sc:Scope}{n:Nat}{x:Str}(h:sc.names.lookup x=some .cell):∃c,(cellsFrom n sc.names []).lookup x=some c:=by
 have q:=PySem.W.cellsFrom_some sc.names n [] (.inl h)
 exact Option.isSome_iff_exists.mp q
def uF {CX:ux}{P:Program}{w:World}{K:Frag}{mg:Str->Option Value}{base:Heap}{N ps:List Str}{qual:Str}{scope:Scope}{f:Addr}{cd:Value}{A:Around}{outer:List Env}{s s1:Shared}{H:Hp}{E:XK}{us:List Value}{vs:List V}
  (S:aG N ps scope) (hd:A.handled=none) (e0:zr P w K mg base A outer s H) (hl:vs.length=ps.length) (r:Vals vs us)
  (x:InCallC s s.heap.objs.size (bindL (envOfC qual scope s.heap.objs.size f cd).kindOf (ps.zip us) λ_=>none) (cellsFrom (s.heap.objs.size + 1) scope.names []) (bindC (envOfC qual scope s.heap.objs.size f cd).kindOf (ps.zip us) λ_=>none) s1) :
  Inv (iC CX P w K mg base N qual scope f cd A outer s H E) [] (start N vs) H s1:=by
 have hpl:ps.length<=N.length:=by have:=congrArg List.length S.pre;rw[FG] at this;omega
 obtain⟨h1,tk,rfl,hk⟩:=x.done
 have noA:∀b:Addr,b∉(iC CX P w K mg base N qual scope f cd A outer s H E).ex:=λb z=>absurd (show b∈([]:List Addr) from z) (by simp)
 refine⟨⟨e0.mod,S.kind,rfl,rfl,EG _,λy z c h1 h2=>?_,λy hy=>?_,λy c _ h=>?_,λ_=>hd,Around.frames_deeper e0.frames,.inr ⟨rfl,rfl⟩,λb z=>absurd z (noA b),e0.bs,e0.bsz,λb _ _=>noA b,λb z=>absurd z (noA b),e0.funs,e0.frf⟩,
  rfl,e0.bare,Un.kept hk,⟨_,x.toInCall.ns,λi y v h1 h2 h3=>?_⟩,λy c h=>⟨_,x.cell y c h⟩,e0.hok.fresh (EG _),λy c h=>?_,λp hp=>absurd (show p∈([]:List (Addr×Obj)) from hp) (by simp),e0.hok.kept hk,?_⟩
 ·exact name_of_addr x.apart (Gy h1) (Gy h2)
 ·have hy:scope.names.lookup y=some .cell\/scope.names.lookup y=some .free:=hy
  rcases hy with hy |hy
  ·exact ql hy
  ·exact absurd rfl (S.nofree _ (Gy hy))
 ·exact Nat.le_of_lt (x.above y c (Gy h))
 ·have hi:i < vs.length:=by
   unfold start at h2
   by_cases hi:i < vs.length
   ·exact hi
   ·rw[Fm (by simpa using hi)] at h2
    rw[Gb] at h2
    split at h2 <;> cases h2
  have ha:vs[i]? =some v:=by
   unfold start at h2
   rw[Ft (by simpa using hi),ES] at h2
   cases e:vs[i]? with
   |none=>rw[e] at h2;cases h2
   |some a=>rw[e] at h2;cases h2;rfl
  obtain⟨u,hu,rv⟩:=r.get ha
  have hp:ps[i]? =some y:=by
   rw[<-S.pre,List.getElem?_take_of_lt (by omega)];exact h1
  have ndP:ps.Nodup:=by rw[<-S.pre];exact S.nd.sublist (List.take_sublist _ _)
  refine⟨u,rv,?_⟩
  rcases S.par y (EX hp) with k |k
  ·exact .inl ⟨k,mB ndP hp hu k⟩
  ·obtain⟨c,e⟩:=ql (n:=s.heap.objs.size + 1) k
   refine .inr ⟨.inl k,c,e,?_⟩
   have q:=x.cell y c e
   rw[mI ndP hp hu (by show scope.names.lookup y≠_;rw[k];decide)] at q
   exact q
 ·exact e0.hok.fresh (Nat.le_of_lt (x.above y c (Gy h)))
 ·unfold start
  show _=N.length
  rw[Fs,EM,GF]
  omega
theorem z6 {CX:ux}{P:Program}{w:World}{K:Frag}{mg:Str->Option Value}{base:Heap}{k:Nat}{f:Addr}{name qual:Str}{params:Arguments}{body:List Stmt}{scope:Scope}{dV kV doc pm cdv ct oc:Value}{an od:Option Addr}
  {osl:Array (Option Value)} {N ps:List Str} {sp:Sp} (lk:K.lookup f=some ⟨oc,od,.func (PySem.W.fnOf name qual params body scope dV kV doc pm an cdv ct),osl⟩) (hcd:PySem.W.codeIn K cdv qual=true) (S:aG N ps scope)
  (len:∀vs H Q E,sp vs H Q E->vs.length=ps.length)
  (hbody:∀(A:Around) (outer:List Env) (s:Shared) (H:Hp) (vs:List V) (Q:VK) (E:XK),cH k (A.deeper (envOfC qual scope s.heap.objs.size f cdv))->sp vs H Q E->
   ∃t,mS (iC CX P w K mg base N qual scope f cdv A outer s H E) body t/\t {nx:=λ_ H'=>Q .non H',rt:=Q} (start N vs) H) :
  c7 P w K mg base CX (k + 1) f (PySem.W.fnOf name qual params body scope dV kV doc pm an cdv ct) ps sp:=by
 refine⟨len,λA outer s H args us vs Q E hr e0 hb r hsp=>?_⟩
 have hl:=len _ _ _ _ hsp
 have KX:K.In s.heap:=e0.mod.kin.keeps λb o e=>(e0.bs b o e).1
 have lim:s.heap.NoLimit:=e0.mod.nolimit.keeps λb o e=>(e0.bs b o e).1
 have hkind:∀y∈ps.zip us,scope.names.lookup y.1=some .local\/(scope.names.lookup y.1=some .cell/\((cellsFrom (s.heap.objs.size + 1) scope.names []).lookup y.1).isSome=true):=λ⟨n,v⟩ hy=>by
  rcases S.par n (List.of_mem_zip hy).1 with q |q
  ·exact .inl q
  ·exact .inr ⟨q,PySem.W.cellsFrom_some _ _ _ (.inl q)⟩
 refine codeAny_call_function hr.depth (KX _ _ lk) rfl S.co S.gen rfl (PySem.W.codeRec_of KX hcd) (hb _ _ _ _ ?_)
 refine wpAny_newFunctionEnv_cells S.kind hkind λenv he s1 x=>?_
 subst he
 refine⟨lim.keeps x.toInCall.keep,codeAny_func ?_⟩
 obtain⟨t,ht,hq⟩:=hbody A outer s H vs Q E (hr.deeper _) hsp
 have I:Inv (iC CX P w K mg base N qual scope f cdv A outer s H E) [] (start N vs) H s1:=uF S hr.hd e0 hl r x
 refine Gi (ht [] s1 (start N vs) H _ I hq) (λfl s' hs=>?_) λe s' hs=>hs
 have fin:∀{σ':St} {H':Hp} {v:V} {u:Value},Inv (iC CX P w K mg base N qual scope f cdv A outer s H E) [] σ' H' s'->RelV v u->Q v H'->CE outer P w H s Q u s':=
  λ{σ' H' v u} J rv q=>⟨v,H',J.os,J.bare,J.base,J.hok,rv,q⟩
 cases fl with
 |ret u=>
  obtain⟨v,σ',H',J,rv,q⟩:=hs
  exact fin J rv q
 |next=>
  obtain⟨σ',H',J,q⟩:=hs
  exact fin (v:=V.non) (u:=Value.none) J rfl q
 |brk=>
  obtain⟨_,_,_,q⟩:=hs
  exact False.elim q
 |cont=>
  obtain⟨_,_,_,q⟩:=hs
  exact False.elim q
section
variable {X:Cx}{x:Str}{p pos:Pos}{e:Expr}{es:List Expr}{t:TA}{id T:String}{r:List V->Hp->VK->Prop}
def Ei (r:List V->Hp->VK->Prop)(t:TA):TE:=λσ H Q=>t σ H λvs H1=>r vs H1 Q
def hV (hc:bN X (.builtin id) r)(hg:Gl X x)(hm:X.mg x=none)(hv:bootBuiltins x=some (.builtin id))(ha:PA X (e :: es) t)(hn:x≠"__name__":=by decide)(hdb:(x == ("__debug__":Str))=false:=by decide)
  (he:starEach (e :: es) X.env=(false,eval e X.env) :: starEach es X.env:=by rfl) (hpl:(backTo pos (starEach es X.env)).any (·.1)=false:=by rfl):PE X (.Call (.Name x p) (e :: es) [] pos) (Ei r t):=by
 intro pins s σ H Q I h
 refine wpAny_Call_Name_kw (kQ I hg hm hv ?_ hn hdb)
 exact PyProof.Rows.callWith_builtin1 (bP (ha pos pins s σ H _ I h) λus s1 ⟨vs,H1,I1,r1,q1⟩=>hc pins s1 σ H1 vs us Q I1 r1 q1) he hpl
def fD (hc:bN X (.type T) r)(hg:Gl X x)(hm:X.mg x=none)(hv:bootBuiltins x=some (.type T))(ha:PA X (e :: es) t)(hn:x≠"__name__":=by decide)(hdb:(x == ("__debug__":Str))=false:=by decide)
  (he:starEach (e :: es) X.env=(false,eval e X.env) :: starEach es X.env:=by rfl) (hpl:(backTo pos (starEach es X.env)).any (·.1)=false:=by rfl):PE X (.Call (.Name x p) (e :: es) [] pos) (Ei r t):=by
 intro pins s σ H Q I h
 refine wpAny_Call_Name_kw (kQ I hg hm hv ?_ hn hdb)
 exact G9 (bP (ha pos pins s σ H _ I h) λus s1 ⟨vs,H1,I1,r1,q1⟩=>hc pins s1 σ H1 vs us Q I1 r1 q1) he hpl
end
end L2
namespace HT
open PySem PyProof.Rows
def lexLt:List Int->List Int->Bool
 | [],[]=>false
 | [],_ :: _=>true
 |_ :: _,[]=>false
 |x :: xs,y :: ys=>if x=y then lexLt xs ys else decide (x < y)
def dZ (x y:Int)(xs ys:List Int):lexLt (x :: xs) (y :: ys)=if x=y then lexLt xs ys else decide (x < y):=rfl
def xg (A:Around)(s:Shared)(a:Int)(t:Tok)(c:Int)(u:Tok):∃e,SeqAt.EqAt A s (.int a t) (.int c u) e/\(e=true↔a=c):=
 ⟨(a == c),SeqAt.EqAt.int_int a t c u,by simp⟩
def oU (A:Around)(s:Shared)(a:Int)(t:Tok)(c:Int)(u:Tok)(prog:Program)(w:World)(E:Value->Shared->Prop)(Q:Value->Shared->Prop)(h:Q (.bool (decide (a < c))) s) :
  wpAny (model prog w) A (richCompare .Lt (.int a t) (.int c u)) Q E s:=
 (PyProof.Rows.lt_int h:wpAny (model prog w) A (compareOp .Lt (.int a t) (.int c u)) Q E s)
section
open PySem.SeqAt
open PySem.AutoSeq1 (wpAny_loadPart')
open PySem.MeetsSeq PySem.MeetsSeq2 PySem.MeetsSeq3
end
section
variable {prog:Program}{w:World}{A:Around}{E:Value->Shared->Prop}{s:Shared}
def rW (n d:Nat):Option Int->Nat
 |none=>d
 |some v=>if v < 0 then (v + (n:Int)).toNat else min v.toNat n
end
end HT
namespace L2
open PySem PySem.Spec PyProof.Rows
abbrev TO:=St->Hp->(Option Int->Hp->Prop)->Prop
theorem intsAre_of {ns:List Int}:∀{us:List Value},Vals (ns.map V.int) us->IntsAre us ns:=by
 induction ns with
 |nil=>intro us r;rw[List.map_nil] at r;cases r;exact .nil
 |cons n ns ih=>
  intro us r
  rw[Fw] at r
  cases r with
  |cons r1 r2=>
   obtain⟨t,e⟩:=r1
   subst e
   exact .cons n t (ih r2)
section
variable {X:Cx}{e:Expr}{te:TE}{lo hi:Option Expr}{tl th:TO}{pos p2:Pos}
def Ew (X:Cx)(r:V->Option Int->Option Int->Hp->VK->Prop):Prop:=
 ∀(pins:List (Addr×Obj)) (s:Shared) (σ:St) (H:Hp) (x:V) (v vl vu:Value) (lo hi:Option Int) (sl:Addr) (Q:VK),Inv X pins σ H s->RelV x v->s.heap.IsSliceOf sl vl vu .none->IsPart vl lo->IsPart vu hi->r x lo hi H Q->
  ∃T id,typeLookup (.type T) "__getitem__"=pure (some (.builtin id))/\s.TypeIs v T/\wpAny (model X.prog X.w) X.A (getItem v (.ref sl)) (EP X pins σ Q) X.xe s
def yS (xs:List V)(lo hi:Option Int):List V:=(xs.drop (HT.rW xs.length 0 lo)).take (HT.rW xs.length xs.length hi - HT.rW xs.length 0 lo)
def pd (xs:List V)(lo hi:Option Int):(yS xs lo hi).length<=xs.length:=by
 unfold yS
 rw[FG,List.length_drop]
 omega
end
def uW (n:Nat)(i:Int):Option Nat:=if 0<=i then (if i < n then some i.toNat else none) else if -(n:Int)<=i then some (i + n).toNat else none
def iB {α:Type}(xs:List α)(i:Int):Option α:=(uW xs.length i).bind λj=>xs[j]?
def sN {n:Nat}{i:Int}{j:Nat}(h:uW n i=some j):seqIndex? i n=some j/\j < n/\ -(n:Int)<=i/\i < n:=by
 unfold uW at h
 by_cases h0:0<=i
 ·rw[EI h0] at h
  by_cases h1:i < n
  ·rw[EI h1] at h
   have e:i.toNat=j:=Option.some.inj h
   exact⟨by rw[seqIndex_of h0 h1,e],by omega,by omega,h1⟩
  ·rw[EN h1] at h;cases h
 ·rw[EN h0] at h
  by_cases h1: -(n:Int)<=i
  ·rw[EI h1] at h
   have e:(i + n).toNat=j:=Option.some.inj h
   exact⟨by rw[seqIndex_neg (by omega) h1,e],by omega,h1,by omega⟩
  ·rw[EN h1] at h;cases h
theorem n0 {α:Type}{xs:List α}{i:Int}{v:α}(h:iB xs i=some v):∃j,seqIndex? i xs.length=some j/\xs[j]? =some v/\j < xs.length/\ -(xs.length:Int)<=i/\i < xs.length:=by
 unfold iB at h
 cases e:uW xs.length i with
 |none=>rw[e] at h;cases h
 |some j=>
  rw[e] at h
  obtain⟨h1,h2,h3,h4⟩:=sN e
  exact⟨j,h1,h,h2,h3,h4⟩
def ko {α:Type}{xs:List α}{j:Nat}{v:α}(h:xs[j]? =some v):iB xs (j:Int)=some v:=by
 have hj:j < xs.length:=(EV.mp h).1
 have e:uW xs.length (j:Int)=some j:=by
  unfold uW
  rw[EI (by omega),EI (by omega)];simp
 unfold iB;rw[e];exact h
def sx (b:Expr):Prop:=∀o i,subscripted b false o i=operate [o,i] (getItem o i)
def wX (X:Cx)(r:R2):Prop:=
 ∀(value slice:Expr) (pins:List (Addr×Obj)) (s:Shared) (σ:St) (H:Hp) (x y:V) (v u:Value) (Q:VK),Inv X pins σ H s->RelV x v->RelV y u->r x y H Q->
  subscripted slice false v u=operate [v,u] (getItem v u)->wpAny (model X.prog X.w) X.A (subscriptTail value slice v u) (EP X pins σ Q) X.xe s
def EA (X:Cx)(id:String)(r:V->List V->Hp->VK->Prop):Prop:=
 ∀(pins:List (Addr×Obj)) (s:Shared) (σ:St) (H:Hp) (x:V) (xs:List V) (v:Value) (us:List Value) (Q:VK),Inv X pins σ H s->RelV x v->Vals xs us->r x xs H Q->
  wpAny (model X.prog X.w) X.A (call (.builtin id) (v :: us)) (EP X pins σ Q) X.xe s
section
variable {X:Cx}{a b:Expr}{ta tb:TE}{pos:Pos}
def wX.or {r r':R2}(h:wX X r)(h':wX X r'):wX X (λx y H Q=>r x y H Q\/r' x y H Q):=by
 intro value slice pins s σ H x y v u Q I rx ry q hs
 rcases q with q |q
 ·exact h value slice pins s σ H x y v u Q I rx ry q hs
 ·exact h' value slice pins s σ H x y v u Q I rx ry q hs
def iE {r:R2}(hr:wX X r)(ha:PE X a ta)(hb:PE X b tb)(hs:sx b):PE X (.Subscript a b pos) (C6 r ta tb):=by
 intro pins s σ H Q I h
 exact Subscript_ (AK ha hb I h λv u s2 x y H2 I2 rx ry q=>hr a b pins s2 σ H2 x y v u Q I2 rx ry q (hs _ _))
def AQ (K:Frag):R2:=λx y H Q=>∃p xs i v,x=.ref p/\y=.int i/\dS K H p xs/\iB xs i=some v/\Q v H
def BX (K:Frag):R2:=λx y H Q=>∃p xs i v,x=.ref p/\y=.int i/\eB K H p xs/\iB xs i=some v/\Q v H
def Cs:R2:=λx y H Q=>∃z i c,x=.str z/\y=.int i/\z.length<=sizeLine/\iB z.cps.toList i=some c/\Q (.str ⟨#[c]⟩) H
def di:wX X (AQ X.K):=by
 intro value slice pins s σ H x y v u Q I rx ry h hs
 obtain⟨p,xs,i,z,rfl,rfl,hq,he,q⟩:=h
 cases rx
 obtain⟨t,rfl⟩:=ry
 obtain⟨its,r,pl,hz⟩:=I.list hq
 obtain⟨j,h1,h2,h3,h4,h5⟩:=n0 he
 obtain⟨w,ew,rw'⟩:=r.get h2
 have hl:=r.length
 have hn:=jI
 have fin:EP X pins σ Q w s:=⟨z,H,I,rw',q⟩
 by_cases h0:0<=i
 ·have hj:i.toNat=j:=by
   rw[seqIndex_of h0 h5] at h1
   exact Option.some.inj h1
  exact item_listR pl.isList h0 (by omega) (by rw[hj];simpa using ew) fin hs
 ·have hj:(i + (its.toArray.size:Int)).toNat=j:=by
   rw[seqIndex_neg (by omega) h4] at h1
   rw[EY,<-hl]
   exact Option.some.inj h1
  exact subscriptTail_builtinR (x:=w) pl.isList.typeIs slot_list_getitem.lookup
   (wpAny_getItem_list_neg (Q:=λr s'=>r=w/\EP X pins σ Q r s') pl.isList (by omega) (by rw[EY] <;> omega) (by omega) (by rw[hj];simpa using ew) ⟨rfl,fin⟩) hs
def A0:wX X (BX X.K):=by
 intro value slice pins s σ H x y v u Q I rx ry h hs
 obtain⟨p,xs,i,z,rfl,rfl,hq,he,q⟩:=h
 cases rx
 obtain⟨t,rfl⟩:=ry
 obtain⟨its,r,pl,hz⟩:=I.tuple hq
 obtain⟨j,h1,h2,h3,h4,h5⟩:=n0 he
 obtain⟨w,ew,rw'⟩:=r.get h2
 have hl:=r.length
 have hn:=jI
 have fin:EP X pins σ Q w s:=⟨z,H,I,rw',q⟩
 exact subscriptTail_builtinR (x:=w) pl.typeIs slot_tuple_getitem.lookup
  (getItem_tuple (j:=j) (Q:=λr s'=>r=w/\EP X pins σ Q r s') pl (by omega) (by omega) (by rw[EY,<-hl];exact h1) (by simpa using ew) ⟨rfl,fin⟩) hs
def BH:wX X Cs:=by
 intro value slice pins s σ H x y v u Q I rx ry h hs
 obtain⟨z,i,c,rfl,rfl,hz,he,q⟩:=h
 obtain⟨t,rfl⟩:=rx
 obtain⟨t',rfl⟩:=ry
 obtain⟨j,h1,h2,h3,h4,h5⟩:=n0 he
 have hl:z.cps.toList.length=z.length:=by simp[Str.length]
 rw[hl] at h1 h4 h5
 have hn:=jI
 exact tail_any (typeIs_str s z t) slot_str_getitem.lookup (getItem_str (c:=c) (by
  have e1:decide (i < -(2 ^ 63:Int))=false:=E3 (by omega)
  have e2:decide (i>=2 ^ 63)=false:=E3 (by omega)
  rw[e1,e2,Bool.or_false]) (by rw[h1];simpa using h2) ⟨.str ⟨#[c]⟩,H,I.tok _,⟨_,rfl⟩,q⟩) hs
def Eo (K:Frag):R2:=λx y H Q=>AQ K x y H Q\/BX K x y H Q\/Cs x y H Q
def bJ:wX X (Eo X.K):=di.or (A0.or BH)
def rJ (its:List Value)(n j:Nat)(u:Value):Obj.mapSeq (·.setIfInBounds j u) {cls:=.type "list",data:=.seq its.toArray n}={cls:=.type "list",data:=.seq (its.set j u).toArray n}:=by
 simp[Obj.mapSeq]
def Inv.lst {pins:List (Addr×Obj)}{σ:St}{H:Hp}{s:Shared}{p:Addr}{xs:List V}(I:Inv X pins σ H s)(h:H p=some (.lst xs)) :
  ∃(its:List Value) (n:Nat),Vals xs its/\s.heap.get? p=some {cls:=.type "list",data:=.seq its.toArray n}/\xs.length<=sizeLine:=by
 obtain⟨z,its,n,r,e⟩:=I.hok p _ h
 exact⟨its,n,r,e,z⟩
def Inv.lstUpd {pins:List (Addr×Obj)}{σ:St}{H:Hp}{s:Shared}{p:Addr}{xs ys:List V}{its its':List Value}{n n':Nat}{f:Obj->Obj}(I:Inv X pins σ H s)(h:H p=some (.lst xs))
  (ho:s.heap.get? p=some {cls:=.type "list",data:=.seq its.toArray n}) (hf:f {cls:=.type "list",data:=.seq its.toArray n}={cls:=.type "list",data:=.seq its'.toArray n'}) (r:Vals ys its') (hz:ys.length<=sizeLine) (t:Nat) :
  Inv X pins σ (upd H p (.lst ys)) {s with heap:=s.heap.update p f,toks:=t}:=by
 have e:(s.heap.update p f).get? p=some {cls:=.type "list",data:=.seq its'.toArray n'}:=by
  rw[Fu f ho (by rw[hf] <;> rfl),hf]
 refine I.write (x:=p) (e:=p) (by rw[h];trivial) (.inl rfl) (λb u hb q=>(Ff _ _ (Ne.symm hb)).trans q) ⟨_,e⟩ ?_
 exact⟨hz,its',n',r,e⟩
def Cr:V->V->V->Hp->(Hp->Prop)->Prop:=λo i v H Q=>∃p xs k j,o=.ref p/\i=.int k/\H p=some (.lst xs)/\uW xs.length k=some j/\Q (upd H p (.lst (xs.set j v)))
def set_list:lr X Cr:=by
 intro pins s σ H o i v ov iv u Q I ro ri rv h
 obtain⟨p,xs,k,j,rfl,rfl,hp,hj,q⟩:=h
 cases ro
 obtain⟨t,rfl⟩:=ri
 obtain⟨its,n,r,ho,hz⟩:=I.lst hp
 obtain⟨h1,h2,h3,h4⟩:=sN hj
 have hl:=r.length
 have hn:=jI
 have I':Inv X pins σ (upd H p (.lst (xs.set j v))) {s with heap:=s.heap.update p (Obj.mapSeq (·.setIfInBounds j u))}:=
  I.lstUpd hp ho (rJ its n j u) (r.set rv j) (by rw[GG];exact hz) s.toks
 by_cases h0:0<=k
 ·have hk:k.toNat=j:=by
   rw[seqIndex_of h0 h4] at h1
   exact Option.some.inj h1
  exact PySem.W.ki_setAt ho h0 (by omega) (by rw[EY,<-hl];exact h4) (by rw[hk];exact⟨_,I',q⟩)
 ·have hk:(k + (its.toArray.size:Int)).toNat=j:=by
   rw[seqIndex_neg (by omega) h3] at h1
   rw[EY,<-hl]
   exact Option.some.inj h1
  exact PySem.W.ki_setBack ho (by omega) (by rw[EY,<-hl];exact h3) (by omega) (by rw[hk];exact⟨_,I',q⟩)
def oo (lo hi:Option Int)(n:Nat):(sliceBounds lo hi none n).1=((HT.rW n 0 lo:Nat):Int)/\(sliceBounds lo hi none n).2.1=((HT.rW n n hi:Nat):Int)/\(sliceBounds lo hi none n).2.2=1:=by
 refine⟨?_,?_,rfl⟩
 ·cases lo with
  |none=>simp[sliceBounds,HT.rW]
  |some i=>
   simp only[sliceBounds,HT.rW,Option.getD_none,show (1:Int) > 0 by decide,FH]
   by_cases h:i < 0
   ·simp only[h,FH] <;> omega
   ·simp only[h,Fh] <;> omega
 ·cases hi with
  |none=>simp[sliceBounds,HT.rW]
  |some i=>
   simp only[sliceBounds,HT.rW,Option.getD_none,show (1:Int) > 0 by decide,FH]
   by_cases h:i < 0
   ·simp only[h,FH] <;> omega
   ·simp only[h,Fh] <;> omega
def lR (its:List Value)(lo hi:Option Int):slicePick its.toArray lo hi none=((its.drop (HT.rW its.length 0 lo)).take (HT.rW its.length its.length hi - HT.rW its.length 0 lo)).toArray:=by
 obtain⟨h1,h2,h3⟩:=oo lo hi its.toArray.size
 unfold slicePick
 rw[h1,h2,h3]
 simp only[sliceRange_one,pick_run,EY] <;> rfl
def Dw (K:Frag):V->Option Int->Option Int->Hp->VK->Prop:=λx lo hi H Q=>∃a xs,x=.ref a/\dS K H a xs/\∀p,H p=none->Q (.ref p) (upd H p (.lst (yS xs lo hi)))
def C9:Ew X (Dw X.K):=by
 intro pins s σ H x v vl vu lo hi sl Q I rx hs pl pu h
 obtain⟨a,xs,rfl,hx,q⟩:=h
 cases rx
 obtain⟨its,r,ht,hz⟩:=I.list hx
 have hlen:=r.length
 refine⟨"list",_,slot_list_getitem.lookup,ht.isList.typeIs,?_⟩
 refine wpAny_getItem_list_slice ht.isList hs pl pu .none (by simp) ?_ (by rw[EY] <;> omega)
 rw[lR,<-hlen]
 refine⟨.ref s.heap.objs.size,_,I.laid (t':=s.toks) (o:=.lst (yS xs lo hi)) (λb ob q=>EF _ q) (EG _) ?_,rfl,q _ (I.hok.fresh (EG _))⟩
 exact⟨FK (pd xs lo hi) hz,_,0,(r.drop (HT.rW xs.length 0 lo)).take (HT.rW xs.length xs.length hi - HT.rW xs.length 0 lo),EW _ rfl⟩
def oG:bN X (.type "list") (λxs H Q=>∃p ys,xs= [.ref p]/\(dS X.K H p ys\/eB X.K H p ys)/\∀l,H l=none->Q (.ref l) (upd H l (.lst ys))):=by
 intro pins s σ H xs us Q I r h
 obtain⟨p,ys,rfl,hq,q⟩:=h
 obtain⟨u,rfl,rx⟩:=vals1 r
 cases rx
 have fin:∀(its:List Value),Vals ys its->ys.length<=sizeLine->∀(h':Heap) (c':Nat),(∀b o',s.heap.get? b=some o'->h'.get? b=some o')->
   h'.get? s.heap.objs.size=some {cls:=.type "list",dict:=none,data:=.seq its.toArray c',slots:=#[]}->EP X pins σ Q (.ref s.heap.objs.size) {s with heap:=h'}:=λits r' hz h' c' kp e=>
  ⟨.ref s.heap.objs.size,_,I.laid (t':=s.toks) kp (EG _) (show bF X.prog X.w _ h' _ (.lst ys) from⟨hz,its,c',r',e⟩),rfl,q _ (I.hok.fresh (EG _))⟩
 rcases hq with hq |hq
 ·obtain⟨its,r',pl,hz⟩:=I.list hq
  have hlen:=r'.length
  obtain⟨o,ho,hc,n,hd⟩:=pl.isList
  exact call_list_seq p (.inl rfl) ho hc hd (λh' c' kp e=>fin its r' hz h' c' kp e) (by simp only[EY] <;> omega)
 ·obtain⟨its,r',pl,hz⟩:=I.tuple hq
  have hlen:=r'.length
  obtain⟨o,ho,hc,n,hd⟩:=pl
  exact call_list_seq p (.inr rfl) ho hc hd (λh' c' kp e=>fin its r' hz h' c' kp e) (by simp only[EY] <;> omega)
def iI:bN X (.type "tuple") (λxs H Q=>∃p ys,xs= [.ref p]/\((dS X.K H p ys/\∀l,H l=none->Q (.ref l) (upd H l (.tup ys)))\/(eB X.K H p ys/\Q (.ref p) H))):=by
 intro pins s σ H xs us Q I r h
 obtain⟨p,ys,rfl,h⟩:=h
 obtain⟨u,rfl,rx⟩:=vals1 r
 cases rx
 rcases h with⟨hq,q⟩ | ⟨hq,q⟩
 ·obtain⟨its,r',pl,hz⟩:=I.list hq
  have hlen:=r'.length
  refine call_tuple_list pl.isList (λh' kp=>?_) (by simp only[EY] <;> omega)
  have I1:Inv X pins σ H {s with heap:=h'}:=I.kept (t':=s.toks) kp
  have I2:Inv X pins σ (upd H h'.objs.size (.tup ys)) {s with heap:=h'.push {cls:=.type "tuple",data:=.seq its.toArray}}:=
   I1.laid (t':=s.toks) (λb o e=>EF _ e) (EG _) (show bF X.prog X.w _ _ _ (.tup ys) from⟨hz,its,r',rV.new _ _⟩)
  exact⟨.ref h'.objs.size,_,I2,rfl,q _ (I1.hok.fresh (EG _))⟩
 ·obtain⟨its,r',pl,hz⟩:=I.tuple hq
  exact call_tuple_same pl ⟨.ref p,H,I,rfl,q⟩
def Ek (K:Frag)(T:String)(x:V)(H:Hp):Prop:=match x with
 | .str _=>T="str"
 | .int _=>T="int"
 | .ref p=>(T="list"/\∃xs,dS K H p xs)\/(T="tuple"/\∃o,K.lookup p=some o/\o.cls=.type "tuple"/\o.dict=none)\/
   (T="dict"/\((∃kvs,H p=some (.dK kvs))\/∃kvs,H p=some (.dT kvs)))\/(T="set"/\∃S n,H p=some (.set S n))
 |_=>False
theorem BE {pins:List (Addr×Obj)}{σ:St}{H:Hp}{s:Shared}{T:String}{x:V}{v:Value}(I:Inv X pins σ H s)(r:RelV x v)(ty:Ek X.K T x H) :
  s.TypeIs v T/\∀a,v=.ref a->∃ob,s.heap.get? a=some ob/\ob.dict=none:=by
 cases x with
 |str z=>
  obtain⟨t,rfl⟩:=r
  cases (show T="str" from ty)
  exact⟨typeIs_str s z t,λ_ e=>nomatch e⟩
 |int i=>
  obtain⟨t,rfl⟩:=r
  cases (show T="int" from ty)
  exact⟨typeIs_int s i t,λ_ e=>nomatch e⟩
 |ref p=>
  cases r
  rcases ty with⟨rfl,xs,hq⟩ | ⟨rfl,o,hk,hc,hd⟩ | ⟨rfl,hk⟩ | ⟨rfl,S,n,hk⟩
  ·obtain⟨its,_,pl,_⟩:=I.list hq
   refine⟨pl.isList.typeIs,λa e=>?_⟩
   cases e
   obtain⟨o,n,e,c,hd,_⟩:=pl
   exact⟨o,e,hd⟩
  ·refine⟨⟨o,I.kIn p o hk,hc⟩,λa e=>?_⟩
   cases e
   exact⟨o,I.kIn _ o hk,hd⟩
  ·have z:∃o,s.heap.get? p=some o/\o.ExactDict:=by
    rcases hk with⟨kvs,hk⟩ | ⟨kvs,hk⟩
    ·obtain⟨_,_,_,_,o,_,_,e,ex,_⟩:=I.hok p _ hk
     exact⟨o,e,ex⟩
    ·obtain⟨_,_,_,_,o,_,_,e,ex,_⟩:=I.hok p _ hk
     exact⟨o,e,ex⟩
   obtain⟨o,e,ex⟩:=z
   refine⟨⟨o,e,ex.1⟩,λa e2=>?_⟩
   cases e2
   exact⟨o,e,ex.2.1⟩
  ·obtain⟨o,_,_,_,e,ex,_⟩:=I.hok p _ hk
   refine⟨⟨o,e,ex.1⟩,λa e2=>?_⟩
   cases e2
   exact⟨o,e,ex.2.1⟩
 |_=>exact False.elim ty
def Eu (K:Frag)(T:String)(r:V->List V->Hp->VK->Prop)(to:TE)(t:TA):TE:=λσ H Q=>to σ H λx H1=>Ek K T x H1/\t σ H1 λxs H2=>r x xs H2 Q
variable {o e:Expr}{es:List Expr}{to:TE}{t:TA}{name:Str}{apos cpos:Pos}{T id:String}{r:V->List V->Hp->VK->Prop}
def xU (pa:PlainAttrs T)(slot:Slot T name id)(hty:typeOf (.builtin id)=pure (.type "method_descriptor"))(hm:EA X id r)(ho:PE X o to)(ha:PA X (e :: es) t)
  (hbase:attributeBase o name X.env (eval o X.env)=eval o X.env:=by rfl)
  (hfew:((backTo cpos (starEach (e :: es) X.env)).all (λx=> !x.1) && (backToKw cpos (keywordEach [] X.env)).all (λx=>x.1.isSome)
   && decide ((e :: es).length + ([]:List Keyword).length + (if ([]:List Keyword).isEmpty then 0 else 1) < 30))=true:=by rfl)
  (hline:(apos.endLine == cpos.line)=true:=by rfl) (hs:starEach (e :: es) X.env=(false,eval e X.env) :: starEach es X.env:=by rfl) (hplain:(backTo cpos (starEach es X.env)).any (·.1)=false:=by rfl) :
  PE X (.Call (.Attribute o name apos) (e :: es) [] cpos) (Eu X.K T r to t):=by
 intro pins s σ H Q I h
 refine wpAny_Call_method_late hbase hfew hline rfl (bP (ho pins s σ H _ I h) λv s1 ⟨x,H1,I1,r1,ty,q1⟩=>?_)
 obtain⟨h1,h2⟩:=BE I1 r1 ty
 refine⟨T,id,pa,slot,hty,h1,h2,?_⟩
 have hA:=ha cpos pins s1 σ H1 _ I1 q1
 rw[hs] at hA ⊢
 refine Calls.callWith_builtin (by show (false || (backTo cpos (starEach es X.env)).any (·.1))=false;rw[hplain] <;> rfl) (Calls.evalArgs_plain ?_)
 exact bP hA λus s2 ⟨vs,H2,I2,r2,q2⟩=>hm pins s2 σ H2 x vs v us Q I2 r1 r2 q2
end
def Ep (X:Cx)(id:String)(r:V->List V->Hp->VK->Prop):Prop:=
 ∀(pins:List (Addr×Obj)) (s:Shared) (σ:St) (H:Hp) (x:V) (xs:List V) (v:Value) (us:List Value) (Q:VK),Inv X pins σ H s->RelV x v->Vals xs us->r x xs H Q->
  wpAny (model X.prog X.w) X.A (call (.builtin id) (v :: us)) (EP X pins σ Q) X.xe s
theorem Vals.one:∀{x:V} {us:List Value},Vals [x] us->∃u,us= [u]/\RelV x u
 |_,_,.cons r .nil=>⟨_,rfl,r⟩
theorem Vals.eraseIdx:∀{xs:List V} {us:List Value} (i:Nat),Vals xs us->Vals (xs.eraseIdx i) (us.eraseIdx i)
 |_,_,_,.nil=>.nil
 |_,_,0,.cons _ t=>t
 |_,_,i + 1,.cons r t=>.cons r (Vals.eraseIdx i t)
theorem Vals.rep {xs:List V}{us:List Value}(h:Vals xs us):∀k:Nat,Vals (List.replicate k xs).flatten (List.replicate k us).flatten
 | 0=>.nil
 |k + 1=>by
  rw[GS,GS,Ht,Ht]
  exact Vals.append h (Vals.rep h k)
theorem mK {α:Type}:∀(l:List α) (i:Nat),(l.eraseIdx i).length<=l.length
 | [],_=>EG _
 |_ :: _,0=>Nat.le_succ _
 |_ :: r,i + 1=>Nat.succ_le_succ (mK r i)
theorem foldl_rep (its:List Value):∀(k:Nat) (acc:List Value),
  List.foldl (λx1 x2=>x1 ++ x2) acc.toArray (List.replicate k its.toArray)=(acc ++ (List.replicate k its).flatten).toArray
 | 0,acc=>by simp
 |k + 1,acc=>by
  have e:acc.toArray ++ its.toArray=(acc ++ its).toArray:=by simp
  have e2:(acc ++ its) ++ (List.replicate k its).flatten=acc ++ (List.replicate (k + 1) its).flatten:=by
   rw[GS,Ht,GJ]
  rw[<-e2,<-foldl_rep its k (acc ++ its),<-e,GS,foldl_cons]
section
variable {X:Cx}{pins:List (Addr×Obj)}{σ:St}{H:Hp}{s:Shared}{l b:Addr}{xs ys zs:List V}
def Inv.lset {its its':List Value}{n:Nat}{f:Array Value->Array Value}{t':Nat}(I:Inv X pins σ H s)(hH:H l=some (.lst xs))
  (e:s.heap.get? l=some {cls:=.type "list",data:=.seq its.toArray n}) (hf:f its.toArray=its'.toArray) (hv:Vals ys its') (hz:ys.length<=sizeLine) :
  Inv X pins σ (upd H l (.lst ys)) {s with heap:=s.heap.update l (Obj.mapSeq f),toks:=t'}:=by
 have q:=PySem.IsL.update e f
 rw[hf] at q
 refine I.write (x:=l) (e:=l) (by rw[hH];exact trivial) (.inl rfl) (λb' u hb hu=>(Ff s.heap (Obj.mapSeq f) (Ne.symm hb)).trans hu) ⟨_,q⟩ ?_
 exact⟨hz,its',_,hv,q⟩
def Inv.lnew {its:List Value}{t':Nat}(I:Inv X pins σ H s)(hv:Vals ys its)(hz:ys.length<=sizeLine) :
  Inv X pins σ (upd H s.heap.objs.size (.lst ys)) {s with heap:=s.heap.push {cls:=.type "list",data:=.seq its.toArray},toks:=t'}:=
 I.laid (λ_ _ q=>EF _ q) (EG _) ⟨hz,its,0,hv,EW _ rfl⟩
def Inv.fresh (I:Inv X pins σ H s):H s.heap.objs.size=none:=I.hok.fresh (EG _)
def Inv.lstM (I:Inv X pins σ H s)(hH:H l=some (.lst xs)):xs.length<=sizeLine/\∃(its:List Value) (n:Nat),Vals xs its/\xs.length=its.length/\s.heap.get? l=some {cls:=.type "list",data:=.seq its.toArray n}:=by
 obtain⟨z,its,n,r,e⟩:=I.hok l _ hH
 exact⟨z,its,n,r,r.length,e⟩
def wj {n:Nat}(h:n<=sizeLine):Builtin.List.listTooLong n=false:=by
 unfold Builtin.List.listTooLong
 exact E3 (by omega)
end
section
variable {X:Cx}
def zt:V->List V->Hp->VK->Prop:=λx vs H Q=>∃l xs y,x=.ref l/\vs= [y]/\H l=some (.lst xs)/\xs.length < sizeLine/\Q .non (upd H l (.lst (xs ++ [y])))
def jC:Ep X "list.append" zt:=by
 intro pins s σ H x vs v us Q I rx rv h
 obtain⟨l,xs,y,rfl,rfl,hH,hz,q⟩:=h
 cases rx
 obtain⟨u,rfl,ru⟩:=rv.one
 obtain⟨z,its,n,r,hl,e⟩:=I.lstM hH
 refine call_meets F.slot_list_append ⟨_,e,rfl⟩ F.entry_list_append (F.args_list_append_2 _ _) (PySem.list_append l its.toArray n u (by rw[EY];omega)) ⟨e,?_⟩
 refine⟨.non,_,I.lset (its':=its ++ [u]) hH e (by simp) (r.append (.cons ru .nil)) ?_,rfl,q⟩
 rw[Fs,List.length_singleton]
 omega
def A7:V->List V->Hp->VK->Prop:=λx vs H Q=>∃l xs i k y,x=.ref l/\vs= [.int i]/\H l=some (.lst xs)/\ -(2 ^ 63)<=i/\i < 2 ^ 63/\seqIndex? i xs.length=some k/\xs[k]? =some y/\Q y (upd H l (.lst (xs.eraseIdx k)))
def xl:Ep X "list.pop" A7:=by
 intro pins s σ H x vs v us Q I rx rv h
 obtain⟨l,xs,i,k,y,rfl,rfl,hH,h1,h2,hk,hy,q⟩:=h
 cases rx
 obtain⟨u,rfl,ru⟩:=rv.one
 obtain⟨t,rfl⟩:=ru
 obtain⟨z,its,n,r,hl,e⟩:=I.lstM hH
 obtain⟨w,hw,rw'⟩:=r.get hy
 refine call_meets F.slot_list_pop ⟨_,e,rfl⟩ F.entry_list_pop (F.args_list_pop_2 _ _)
  (MeetsSeq.list_pop_at l its.toArray n i t k w (fitsIndex_both h1 h2) (by rw[EY,<-hl];exact hk) (by rw[<-Gm];exact hw) (by rw[EY];omega)) ⟨e,?_⟩
 refine⟨y,_,I.lset (its':=its.eraseIdx k) hH e ?_ (r.eraseIdx k) ?_,rw',q⟩
 ·show its.toArray.eraseIdxIfInBounds k=(its.eraseIdx k).toArray
  rw[List.eraseIdxIfInBounds_toArray]
 ·have:=mK xs k
  omega
def Dk:R2:=λx y H Q=>∃l k xs,x=.ref l/\y=.int k/\H l=some (.lst xs)/\ -(2 ^ 63)<=k/\k < 2 ^ 63/\xs.length * k.toNat<=sizeLine/\
 ∀p,H p=none->Q (.ref p) (upd H p (.lst (List.replicate k.toNat xs).flatten))
theorem len_rep {α:Type}(xs:List α)(k:Nat):(List.replicate k xs).flatten.length=k * xs.length:=by
 induction k with
 |zero=>simp
 |succ k ih=>rw[GS,Ht,Fs,ih,Nat.succ_mul,Nat.add_comm]
def Bu:kc X (binaryOp .Mult) Dk:=by
 intro pins s σ H x y v u Q I rx ry h
 obtain⟨l,k,xs,rfl,rfl,hH,h1,h2,hz,q⟩:=h
 cases rx
 obtain⟨t,rfl⟩:=ry
 obtain⟨z,its,n,r,hl,e⟩:=I.lstM hH
 have hlen:its.toArray.size * k.toNat<=sizeLine:=by rw[EY,<-hl];exact hz
 have hcap:¬its.toArray.size * k.toNat > (2 ^ 63 - 1) / 8:=by
  have:(sizeLine:Nat)<=(2 ^ 63 - 1) / 8:=by decide
  omega
 have hfit:¬(!Builtin.List.listFitsIndex k)=true:=by
  rw[fitsIndex_both h1 h2]
  exact E8
 have hlong:¬Builtin.List.listTooLong (its.toArray.size * k.toNat)=true:=by
  rw[wj hlen]
  exact E8
 have hnew:List.foldl (λx1 x2=>x1 ++ x2) #[] (List.replicate (if its.toArray.isEmpty=true then 0 else k.toNat) its.toArray)=(List.replicate k.toNat its).flatten.toArray:=by
  have f0:∀m:Nat,List.foldl (λx1 x2=>x1 ++ x2) #[] (List.replicate m its.toArray)=(List.replicate m its).flatten.toArray:=λm=>by
   have:=foldl_rep its m []
   rw[List.nil_append] at this
   exact this
  rw[f0]
  cases its with
  |nil=>simp
  |cons a r'=>rw[EN (by simp)]
 refine wpAny_binaryOp_repeat_ref (T:="list") (U:="int") (by decide) ⟨_,e,rfl⟩ (λs'=>typeIs_int s' k t) noFill_list_mul F.fills_int_mul F.slot_int_rmul repeat_list F.slot_int_index.lookup
  (call_meets F.slot_int_rmul (typeIs_int s k t) F.entry_int_rmul (F.args_int_rmul_2 _ _) (int___rmul___int_list k t l its.toArray n)
   ⟨e,rfl,⟨_,e,rfl⟩,call_meets F.slot_list_mul ⟨_,e,rfl⟩ F.entry_list_mul (F.args_list_mul_2 _ _) (AutoListH.list___mul___list_int_3 l its.toArray n k t hfit hcap hlong) ⟨e,?_⟩⟩)
 rw[hnew]
 exact⟨.ref _,_,I.lnew (t':=s.toks) (r.rep k.toNat) (by rw[len_rep,Nat.mul_comm];exact hz),rfl,q _ I.fresh⟩
end
end L2
namespace Att
open PySem PySem.W PySem.Calls PyProof.Rows
theorem kf {P:Params}{h:Heap}:∀(ns:List Int) (vs:List Value),WellAll P h vs (ns.map WData.int)->IntsAre vs ns:=by
 intro ns
 induction ns with
 |nil=>
  intro vs w
  rw[List.map_nil] at w
  cases w
  exact .nil
 |cons n ns ih=>
  intro vs w
  rw[Fw] at w
  cases w with
  |cons a b=>
   cases a
   exact .cons _ _ (ih _ b)
theorem uZ {l:OpenLaw}{n:Nat}(hn:l.most=some n){P:Params}{h:Heap}{args:List WData}{vals:List Value}
  (hpre:l.row.toRowW.claim.pre args=true) (hwl:WellAll P h vals args) :
  ∃a vs ns,vals= [Value.ref a]/\args= [WData.list (ns.map WData.int)]/\h.get? a=some {cls:=.type "list",data:=.seq vs.toArray}/\IntsAre vs ns/\ns.length<=n:=by
 have hsh:WShape.hasAll [] args [.list .int]=true:=(pre_splitW hpre).1
 have hc:l.pre.holds [] {args:=args}=true:=(pre_splitW hpre).2
 obtain⟨d,r,rfl,h1,h2⟩:=hasAllW_cons hsh
 obtain rfl:=hasAllW_nil h2
 obtain⟨xs,rfl,h3⟩:=hasW_list h1
 obtain⟨ns,rfl⟩:=items_int h3
 have hlen:ns.length<=n:=by
  unfold OpenLaw.pre at hc
  have h4:(WTm.not (.lt (.lit (.int (n:Int))) (.len (.arg 0)))).holds [] {args:=[.list (ns.map .int)]}=true:=by
   have h4:=(holds_andW hc).1
   rw[hn] at h4
   exact h4
  have h5:=condW_of h4 (w_not (w_lt w_lit (w_len_list (w_arg rfl))))
  rw[EM] at h5
  refine Nat.le_of_not_lt λq=>?_
  have q':(n:Int) < ((ns.length:Nat):Int):=by omega
  first
   | (rw[ET q'] at h5;exact absurd h5 (by decide))
   | (simp at h5;omega)
 cases hwl with
 |cons w1 w2=>
  cases w2
  cases w1 with
  |list ho hall=>exact⟨_,_,ns,rfl,rfl,ho,kf ns _ hall,hlen⟩
def ud (l:OpenLaw)(args:List WData):l.row.toRowW.claim.post args (.bool true) args=true:=
 postW_of (r:=l.row.toRowW) (X:=(true == true))
  (show WShape.has [] (.bool true) .bool=true by first |rfl |decide |simp[WShape.has,WShape.arms,WShape.armsAll])
  (show (WTm.eq .res (.lit (.bool true))).value [] {args:=args,res:=some (.bool true),after:=args}=some (.bool (true == true)) from w_eq_bool (w_res rfl) w_lit) rfl
def pZ {l:OpenLaw}{n:Nat}{q:Program}{loose:List Str}{XP:(Str->Option Value)->Heap->Prop}{YP:World->Heap->Prop}{d:DefRec}
  (hn:l.most=some n) (hdf:d.params.defaults= [])
  (call:∀(w:World) (s₀ s₁:Shared) (mg mb:Str->Option Value) (fa:Addr) (o:Obj) (pm cd doc:Value) (a:Addr) (vs:List Value) (ns:List Int),
   Ground q loose [] XP w s₀ mg mb s₁.heap->YP w s₁.heap->
   s₁.heap.get? fa=some o->o.data=.func (docDef d.name d.params d.body d.scope pm cd doc)->s₁.heap.CodeRec cd d.name->mg d.name=some (.ref fa)->
   s₁.heap.get? a=some {cls:=.type "list",data:=.seq vs.toArray}->IntsAre vs ns->ns.length<=n->s₁.gens=#[]->
   codeAny (model l.prog w) callerA (.call (.ref fa) ⟨[.ref a],[]⟩) (λr s'=>r=.ok (.ret (.bool true))/\OldK s₁.heap s'.heap/\s'.os=s₁.os/\AllBare s'.gens) s₁) :
  WalkO q loose XP YP l.row.toRowW d [] (λf vs=>PySem.call f vs):=by
 intro w s₀ s₁ mg mb G Y fa o pm cd doc dV kV ho hd hcd hD hmg hg args vals as hpre hlay hrd hwl hlo
 obtain rfl:dV=.none:=Dflts.none hD hdf
 obtain rfl:kV=.none:=Dflts.noKw hD
 obtain⟨a,vs,ns,rfl,rfl,hobj,hints,hlen⟩:=uZ hn hpre hwl
 refine enter_call (Hj (call w s₀ s₁ mg mb fa o pm cd doc a vs ns G Y ho (fd_plain hd) hcd hmg hobj hints hlen hg) λr s' hq=>?_)
 obtain⟨rfl,h2,h3,h4⟩:=hq
 exact⟨.inl ⟨.bool true,.bool true,[],rfl,λ_=>rfl,.bool true,ud l _,λ_=>⟨List.Pairwise.nil,λ_ hm=>(nomatch hm)⟩⟩,h2,h3,h4⟩
end Att
namespace L2
open PySem PySem.Spec PyProof.Rows
theorem mz:∀{vs:List Value} {ns:List Int},IntsAre vs ns->Vals (ns.map V.int) vs
 |_,_,.nil=>.nil
 |_,_,.cons n t h=>.cons ⟨t,rfl⟩ (mz h)
def Ar (H:Hp):Prop:=∀b,H b=none\/∃o xs,H b=some (.aL o (.lst xs))
theorem wR {P:Program}{w:World}{K:Frag}{mg mb:Str->Option Value}{CX:ux}{k:Nat}{fa a:Addr}{fd:FuncData}{x:Str}{sp:Sp}{s₁:Shared}{vs:List Value}{ns:List Int}
  (KX:K.In s₁.heap) (hns:s₁.heap.Ns mainGlobals mg) (hb:s₁.heap.Ns builtinsNs mb) (hbb:∀x:Str,x≠"__name__"->mb x=bootBuiltins x) (hlim:s₁.heap.NoLimit) (hsys:∃mm,s₁.heap.Ns sysModules mm) (hg:s₁.gens=#[])
  (ha:s₁.heap.get? a=some {cls:=.type "list",data:=.seq vs.toArray}) (hi:IntsAre vs ns) (hl:ns.length<=sizeLine) (hr:cH k callerA)
  (F:∀base:Heap,K.In base->base.Ns mainGlobals mg->c7 P w K mg base CX k fa fd [x] sp) (hbind:∀(s:Shared) (u:Value),BindsTo s fd ⟨[u],[]⟩ [(x,u)])
  (hsp:∀H:Hp,Ar H->dS K H a (ns.map V.int)->sp [.ref a] H (λv _=>v=.bl true) λ_ _ _=>False)
  (hCX:∀H e s',CX [] H s₁ (λ_ _ _=>False) e s'->False) :
  codeAny (model P w) callerA (.call (.ref fa) ⟨[.ref a],[]⟩) (λr s'=>r=.ok (.ret (.bool true))/\OldK s₁.heap s'.heap/\s'.os=s₁.os/\AllBare s'.gens) s₁:=by
 have rv:=mz hi
 have lenV:=hi.length
 have core:∀H:Hp,Ar H->dS K H a (ns.map V.int)->iO P w H s₁.heap->(∀b,H b≠none->b=a)->(H a≠none->K.lookup a=none)->
   codeAny (model P w) callerA (.call (.ref fa) ⟨[.ref a],[]⟩) (λr s'=>r=.ok (.ret (.bool true))/\OldK s₁.heap s'.heap/\s'.os=s₁.os/\AllBare s'.gens) s₁:=by
  intro H hO hS hok hA hK
  have base_of:∀{b:Addr} {o:Obj},s₁.heap.get? b=some o->H b=none->(ng s₁.heap H).get? b=some o:=λe n=>v5 e n
  have noA:∀{b:Addr} {o:Obj} {es:Array DictEntry} {ep:Nat},s₁.heap.get? b=some o->o.data=.dict es ep->H b=none:=λ{b o es ep} e d=>by
   cases q:H b with
   |none=>rfl
   |some u=>
    have e':b=a:=hA b (by rw[q];simp)
    subst e'
    rw[ha] at e;cases e
    have d':Data.seq vs.toArray _=Data.dict es ep:=d
    cases d'
  have nsK:∀{b:Addr} {m:Str->Option Value},s₁.heap.Ns b m->(ng s₁.heap H).Ns b m:=λ{b m} ⟨o,es,ep,e,d,r⟩=>⟨o,es,ep,base_of e (noA e d),d,r⟩
  have hKb:K.In (ng s₁.heap H):=λb o e=>base_of (KX b o e) (by
   cases q:H b with
   |none=>rfl
   |some u=>
    have e':b=a:=hA b (by rw[q];simp)
    subst e'
    rw[hK (by rw[q];simp)] at e;cases e)
  have hM:Mod K mg (ng s₁.heap H):=⟨hKb,nsK hns,⟨mb,nsK hb,hbb⟩,let ⟨mc,h1,h2⟩:=hlim;⟨mc,nsK h1,h2⟩,let ⟨mm,h1⟩:=hsys;⟨mm,nsK h1⟩⟩
  have e0:zr P w K mg (ng s₁.heap H) callerA [] s₁ H:=⟨rfl,hM,λb o e=>y1 e,Nat.le_of_eq (t5 _ _),trivial,λb hb=>absurd (show b∈([]:List Addr) from hb) (by simp),hok,.of_eq hg⟩
  refine Hj ((F _ hKb (nsK hns)).run callerA [] s₁ H ⟨[.ref a],[]⟩ [.ref a] [.ref a] _ _ hr e0 (hbind s₁ (.ref a)) (.cons rfl .nil) (hsp H hO hS)) λr s' h=>?_
  cases r with
  |error e=>exact (hCX H e s' h).elim
  |ok fl=>
   cases fl with
   |next=>exact False.elim h
   |brk=>exact False.elim h
   |cont=>exact False.elim h
   |ret u=>
    obtain⟨v,H',os,bare,un,hok',r',q⟩:=h
    have q':v=.bl true:=q
    subst q'
    obtain rfl:u=Value.bool true:=r'
    refine⟨rfl,OldK.of_keep λb o e=>?_,os,bare⟩
    cases q:H b with
    |none=>exact un.keep b o e q (by intro z;exact absurd (show b∈([]:List Addr) from z) (by simp)) (by simp)
    |some u=>
     rcases hO b with z | ⟨ob,xs,z⟩
     ·rw[q] at z;cases z
     ·have z2:=un.frzs b ob _ z
      obtain⟨e1,_⟩:=hok b _ z
      obtain⟨e2,_⟩:=hok' b _ z2
      rw[e] at e1;cases e1
      exact e2
 cases hk:K.lookup a with
 |some o=>
  have e:=KX a o hk
  rw[ha] at e
  cases e
  refine core (λ_=>none) (λ_=>.inl rfl) (.inr ⟨_,vs.toArray,_,hk,rfl,rfl,rfl,by rw[EY,lenV];exact hl,by simpa using rv⟩) (λb u z=>by have z':(none:Option HO)=some u:=z;cases z') (λb z=>absurd rfl z) λz=>absurd rfl z
 |none=>
  refine core (λb=>if b=a then some (.aL {cls:=.type "list",data:=.seq vs.toArray} (.lst (ns.map V.int))) else none) (λb=>?_) (.inl (.inr ⟨{cls:=.type "list",data:=.seq vs.toArray},EI rfl⟩)) (λb u z=>?_) (λb z=>?_) λ_=>hk
  ·by_cases hb:b=a
   ·exact .inr ⟨_,_,EI hb⟩
   ·exact .inl (EN hb)
  ·by_cases hb:b=a
   ·have z':=(EI hb).symm.trans z
    cases z'
    subst hb
    exact⟨ha,by rw[EM];exact hl,vs,_,rv,ha⟩
   ·have z':=(EN hb).symm.trans z
    cases z'
  ·by_cases hb:b=a
   ·exact hb
   ·exact absurd (EN hb) z
def zL {l:PySem.W.OpenLaw}{n k:Nat}{q:Program}{loose:List Str}{XP:(Str->Option Value)->Heap->Prop}{YP:World->Heap->Prop}{d:DefRec}{K:Params->Frag}{CX:World->ux}{sp:World->Sp}{x:Str}
  (hn:l.most=some n) (hn2:n<=sizeLine) (hdf:d.params.defaults= []) (hi:PyProof.Rows.importsNone q=true) (hr:cH k callerA)
  (hY:∀(w:World) (h:Heap),YP w h->(K w.params).In h)
  (F:∀(w:World) (mg:Str->Option Value) (fa:Addr) (h:Heap),(K w.params).In h->h.Ns mainGlobals mg->mg d.name=some (.ref fa)->
   ∃fd:FuncData,(∀(s:Shared) (u:Value),BindsTo s fd ⟨[u],[]⟩ [(x,u)])/\
    ∀base:Heap,(K w.params).In base->base.Ns mainGlobals mg->c7 l.prog w (K w.params) mg base (CX w) k fa fd [x] (sp w))
  (hsp:∀(w:World) (H:Hp) (a:Addr) (ns:List Int),ns.length<=n->Ar H->dS (K w.params) H a (ns.map V.int)->sp w [.ref a] H (λv _=>v=.bl true) λ_ _ _=>False)
  (hCX:∀(w:World) (H:Hp) (s:Shared) (e:Value) (s':Shared),CX w [] H s (λ_ _ _=>False) e s'->False) :
  PySem.W.WalkO q loose XP YP l.row.toRowW d [] (λf vs=>PySem.call f vs):=by
 refine Att.pZ hn hdf λw s₀ s₁ mg mb fa o pm cd doc a vs ns G Y ho hd hcd hmg hobj hints hlen hg=>?_
 have KX:=hY w _ Y
 obtain⟨fd,hb,hF⟩:=F w mg fa _ KX G.T.g hmg
 exact wR KX G.T.g G.T.b G.T.builtins G.T.nolimit (let ⟨mm,h1,_⟩:=(G.T.seer hi).mods;⟨mm,h1⟩) hg hobj hints (FK hlen hn2) hr hF hb (λH hO hS=>hsp w H a ns hlen hO hS) λH e s'=>hCX w H s₁ e s'
def eR (s:Stmt):Arguments:=match s with
 | .FunctionDef _ a _ _ _ _ _ _ _ _=>a
 |_=>{posonlyargs:=[],args:=[],vararg:=none,kwonlyargs:=[],kw_defaults:=[],kwarg:=none,defaults:=[]}
def bL (s:Stmt):List Stmt:=match s with
 | .FunctionDef _ _ b _ _ _ _ _ _ _=>b
 |_=>[]
def ak (s:Stmt):Scope:=match s with
 | .FunctionDef _ _ _ _ _ _ sc _ _ _=>sc
 |_=>{kind:=.function,names:=[],isGenerator:=false,isCoroutine:=false}
abbrev AL:ux:=λ_ _ _ _ _ _=>False
abbrev E0:XK:=λ_ _ _=>False
def Cj {X:Cx}:Passes AL X E0:=λ_ _ _ _ _ _ _ h=>h.elim
structure yc (K:Frag)(x qual:Str)(st:Stmt)(f:Addr)(fd:FuncData):Prop where
 ex:∃(oc:Value) (od:Option Addr) (kV doc pm:Value) (an:Option Addr) (cdv ct:Value) (osl:Array (Option Value)),
  fd=PySem.W.fnOf x qual (eR st) (bL st) (ak st) .none kV doc pm an cdv ct/\K.lookup f=some ⟨oc,od,.func fd,osl⟩/\PySem.W.codeIn K cdv qual=true
 kp:PySem.W.keepIn K (.ref f)=true
section
variable {P:Program}{w:World}{K:Frag}{mg:Str->Option Value}{base:Heap}
def yc.ok {x qual:Str}{st:Stmt}{f:Addr}{fd:FuncData}{N ps:List Str}{k:Nat}{sp:Sp}(F:yc K x qual st f fd)(S:aG N ps (ak st))(len:∀vs H Q E,sp vs H Q E->vs.length=ps.length)
  (hbody:∀(cdv:Value) (A:Around) (outer:List Env) (s:Shared) (H:Hp) (vs:List V) (Q:VK) (E:XK),cH k (A.deeper (envOfC qual (ak st) s.heap.objs.size f cdv))->sp vs H Q E->
   ∃t,mS (iC AL P w K mg base N qual (ak st) f cdv A outer s H E).nox (bL st) t/\t {nx:=λ_ H'=>Q .non H',rt:=Q} (start N vs) H):c7 P w K mg base AL (k + 1) f fd ps sp:=by
 obtain⟨oc,od,kV,doc,pm,an,cdv,ct,osl,rfl,lk,hcd⟩:=F.ex
 refine z6 lk hcd S len λA outer s H vs Q E hr hsp=>?_
 obtain⟨t,h,q⟩:=hbody cdv A outer s H vs Q E hr hsp
 exact⟨t,h.nox,q⟩
def yc.binds {x qual:Str}{st:Stmt}{f:Addr}{fd:FuncData}{ps:List Str}(F:yc K x qual st f fd)
  (h:∀(kV doc pm:Value) (an:Option Addr) (cdv ct:Value) (us:List Value),us.length=ps.length->bindArgs (PySem.W.fnOf x qual (eR st) (bL st) (ak st) .none kV doc pm an cdv ct) ⟨us,[]⟩=pure (ps.zip us)):Binds K fd ps []:=by
 obtain⟨oc,od,kV,doc,pm,an,cdv,ct,osl,rfl,lk,hcd⟩:=F.ex
 exact .all (h kV doc pm an cdv ct)
def rq {x qual:Str}{st:Stmt}{f:Addr}{oc:Value}{od an:Option Addr}{osl:Array (Option Value)}{kV doc pm cdv ct:Value}(l:K.lookup f=some ⟨oc,od,.func (PySem.W.fnOf x qual (eR st) (bL st) (ak st) .none kV doc pm an cdv ct),osl⟩)
  (c:PySem.W.codeIn K cdv qual=true) (k:PySem.W.keepIn K (.ref f)=true):yc K x qual st f (PySem.W.fnOf x qual (eR st) (bL st) (ak st) .none kV doc pm an cdv ct):=⟨⟨oc,od,kV,doc,pm,an,cdv,ct,osl,rfl,l,c⟩,k⟩
end
section
variable {X:Cx}
def pv (i:Nat){x:Str}{pos:Pos}(hN:X.N[i]? =some x:=by rfl)(hv:xi X.env.scope x:=by first |exact Or.inl rfl |exact Or.inr (Or.inl rfl) |exact Or.inr (Or.inr rfl))(hd:(x == ("__debug__":Str))=false:=by decide)
  (hcd:(x == ("__classdict__":Str))=false:=by decide):PE X (.Name x pos) (zF i):=hE hN hv hd hcd
end
def r0 {A B:Prop}(h:B):if false=true then A else B:=by
 rw[EN E8]
 exact h
def rj {A B:Prop}(h:A):if true=true then A else B:=by
 rw[EI rfl]
 exact h
def ae (H H':Hp):Prop:=∀b o,H b=some o->H' b=some o
def ae.refl (H:Hp):ae H H:=λ_ _ h=>h
def ae.trans {H H1 H2:Hp}(a:ae H H1)(b:ae H1 H2):ae H H2:=λc o h=>b c o (a c o h)
theorem ae.free {H H':Hp}(e:ae H H'){l:Addr}(h:H' l=Option.none):H l=Option.none:=by
 cases q:H l with
 |none=>rfl
 |some o=>
  rw[e l o q] at h
  cases h
def ae.seq {K:Frag}{H H':Hp}{a:Addr}{xs:List V}(e:ae H H')(h:dS K H a xs):dS K H' a xs:=by
 rcases h with (h | ⟨o,h⟩) |h
 ·exact .inl (.inl (e _ _ h))
 ·exact .inl (.inr ⟨o,e _ _ h⟩)
 ·exact .inr h
end L2
end
namespace L2.ST
open PySem PySem.SetTable
abbrev gz (xs:Array Nat):Prop:=xs.toList.Pairwise (· < ·)
def e8 {xs:Array Nat}(h:gz xs){i k d:Nat}(hik:i < k)(hk:k < xs.size):xs.getD i d < xs.getD k d:=by
 have hi:i < xs.size:=Nat.lt_trans hik hk
 have:=GO.mp h i k (by simpa using hi) (by simpa using hk) hik
 simpa[Array.getD,hi,hk] using this
theorem ya {xs:Array Nat}{j:Nat}(h:gz xs):∀(fuel lo hi:Nat),lo<=hi->hi<=xs.size->hi - lo<=fuel->
  (∀i,i < lo->xs.getD i j < j)->(∀i,hi<=i->i < xs.size->j<=xs.getD i j)->
  below.go xs j fuel lo hi<=xs.size/\(∀i,i < below.go xs j fuel lo hi->xs.getD i j < j)/\(∀i,below.go xs j fuel lo hi<=i->i < xs.size->j<=xs.getD i j):=by
 intro fuel
 induction fuel with
 |zero=>
  intro lo hi h1 h2 h3 h4 h5
  have:lo=hi:=by omega
  subst this
  exact⟨h2,h4,h5⟩
 |succ fuel ih=>
  intro lo hi h1 h2 h3 h4 h5
  unfold below.go
  by_cases hlt:lo < hi
  ·rw[EI hlt]
   dsimp only
   by_cases hm:xs.getD ((lo + hi) / 2) j < j
   ·rw[EI hm]
    refine ih _ _ (by omega) h2 (by omega) (λi hi'=>?_) h5
    by_cases e:i=(lo + hi) / 2
    ·rw[e];exact hm
    ·exact Nat.lt_trans (e8 h (show i < (lo + hi) / 2 by omega) (by omega)) hm
   ·rw[EN hm]
    refine ih _ _ (by omega) (by omega) (by omega) h4 (λi hi' hs=>?_)
    by_cases e:i=(lo + hi) / 2
    ·rw[e];omega
    ·have:=e8 (d:=j) h (show (lo + hi) / 2 < i by omega) hs
     omega
  ·rw[EN hlt]
   have:lo=hi:=by omega
   subst this
   exact⟨h2,h4,h5⟩
def cw {xs:Array Nat}(h:gz xs)(j:Nat) :
  below xs j<=xs.size/\(∀i,i < below xs j->xs.getD i j < j)/\(∀i,below xs j<=i->i < xs.size->j<=xs.getD i j):=
 ya h xs.size 0 xs.size (Fj _) (EG _) (by omega) (λi hi=>by omega) (λi h1 h2=>by omega)
def uf {xs:Array Nat}(h:gz xs){i j:Nat}(hi:xs[i]? =some j):below xs j=i:=by
 obtain⟨b1,b2,b3⟩:=cw h j
 have hs:i < xs.size:=(FC.mp hi).1
 have hv:xs.getD i j=j:=by rw[Fi,hi];rfl
 rcases Hu i (below xs j) with c |c |c
 ·have:=b2 i c;omega
 ·exact c.symm
 ·have hb:below xs j < xs.size:=by omega
  have q:=b3 (below xs j) (EG _) hb
  have:=e8 (d:=j) h c hs
  omega
def sS (j:Nat):has #[] j=false:=by
 unfold has
 simp
def mP {t:SetTable}(h:gz t.place){i j:Nat}(hi:t.place[i]? =some j):t.slot j=.live i:=by
 unfold slot
 dsimp only
 rw[uf h hi,EI (by simp[hi])]
def rb {t:SetTable}(hd:t.dummies=#[]){j:Nat}(hj:j∉t.place):t.slot j=.empty:=by
 unfold slot
 dsimp only
 have:¬(t.place[below t.place j]? == some j)=true:=by
  intro e
  have e':t.place[below t.place j]? =some j:=by simpa using e
  obtain⟨h1,h2⟩:=FC.mp e'
  exact hj (Array.mem_iff_getElem.mpr ⟨_,h1,h2⟩)
 rw[EN this,hd,sS]
 rfl
def qM (mask:Nat)(p:Probe):Probe:=
 if p.more > 0 then {p with j:=p.j + 1,more:=p.more - 1} else
 {p with j:=(leap mask p.i p.perturb).1,more:=runEnd mask (leap mask p.i p.perturb).1 - (leap mask p.i p.perturb).1,i:=(leap mask p.i p.perturb).1,perturb:=(leap mask p.i p.perturb).2}
def uP (mask i perturb:Nat):Probe:={j:=i,more:=runEnd mask i - i,i,perturb,dummy:=none}
def st (mask:Nat)(h:Int):Probe:=uP mask (bits h % (mask + 1)) (bits h)
def vK (t:SetTable)(p:Probe):t.advance p=qM t.mask p:=rfl
def zV (t:SetTable)(h:Int):t.probeStart h=st t.mask h:=rfl
def cR (mask:Nat):Nat->Probe->Probe
 | 0,p=>p
 |n + 1,p=>cR mask n (qM mask p)
theorem gV (mask:Nat):∀(n m:Nat) (p:Probe),cR mask (n + m) p=cR mask m (cR mask n p)
 | 0,m,p=>by rw[Gr];rfl
 |n + 1,m,p=>by rw[Nat.add_right_comm];exact gV mask n m (qM mask p)
def wU {mask:Nat}{p:Probe}(h:p.dummy=none):(qM mask p).dummy=none:=by
 unfold qM;split <;> exact h
def fy {mask i:Nat}(h:i<=mask):i<=runEnd mask i/\runEnd mask i<=mask/\runEnd mask i - i<=9:=by
 unfold runEnd;split <;> omega
def In (mask:Nat)(p:Probe):Prop:=p.j + p.more<=mask/\p.more<=9
def Bw {mask i q:Nat}(h:i<=mask):In mask (uP mask i q):=by
 have:=fy h
 unfold In uP;dsimp only;omega
def ji (mask i q:Nat):(leap mask i q).1<=mask:=by
 unfold leap;exact Nat.lt_succ_iff.mp (Nat.mod_lt _ (Nat.succ_pos _))
def BI {mask:Nat}{p:Probe}(h:In mask p):In mask (qM mask p):=by
 unfold qM
 by_cases hm:p.more > 0
 ·rw[EI hm];unfold In at *;dsimp only;omega
 ·rw[EN hm]
  have:=fy (ji mask p.i p.perturb)
  unfold In;dsimp only;omega
theorem tm {mask:Nat}:∀(n:Nat) {p:Probe},In mask p->In mask (cR mask n p)
 | 0,_,h=>h
 |n + 1,_,h=>tm n (BI h)
def Cg (mask:Nat)(h:Int):In mask (st mask h):=Bw (Nat.lt_succ_iff.mp (Nat.mod_lt _ (Nat.succ_pos _)))
theorem qG (mask:Nat):∀(k:Nat) (p:Probe),p.more=k->cR mask (k + 1) p={p with j:=(leap mask p.i p.perturb).1,more:=runEnd mask (leap mask p.i p.perturb).1 - (leap mask p.i p.perturb).1,i:=(leap mask p.i p.perturb).1,perturb:=(leap mask p.i p.perturb).2}
 | 0,p,h=>by
  show qM mask p=_
  unfold qM
  rw[EN (by omega)]
 |k + 1,p,h=>by
  have e:qM mask p={p with j:=p.j + 1,more:=p.more - 1}:=by unfold qM;rw[EI (by omega)]
  show cR mask (k + 1) (qM mask p)=_
  rw[e,qG mask k _ (by dsimp only;omega)]
def jB (mask i q:Nat):cR mask (runEnd mask i - i + 1) (uP mask i q)=uP mask (leap mask i q).1 (leap mask i q).2:=by
 exact qG mask _ (uP mask i q) rfl
theorem gc (mask i q:Nat):∀(k:Nat),k<=runEnd mask i - i->(cR mask k (uP mask i q))={uP mask i q with j:=i + k,more:=runEnd mask i - i - k}
 | 0,_=>rfl
 |k + 1,h=>by
  rw[gV mask k 1,gc mask i q k (by omega)]
  show qM mask _=_
  unfold qM
  rw[EI (by dsimp only;omega)]
  simp only[Probe.mk.injEq]
  refine⟨by omega,by omega,?_⟩
  trivial
def c6 (mask:Nat):Nat->Nat×Nat->Nat×Nat
 | 0,x=>x
 |k + 1,x=>c6 mask k (leap mask x.1 x.2)
theorem jW (mask:Nat):∀(k i q:Nat),i<=mask->∃n,n<=10 * k/\cR mask n (uP mask i q)=uP mask (c6 mask k (i,q)).1 (c6 mask k (i,q)).2
 | 0,i,q,_=>⟨0,EG _,rfl⟩
 |k + 1,i,q,h=>by
  obtain⟨n,hn,e⟩:=jW mask k (leap mask i q).1 (leap mask i q).2 (ji _ _ _)
  have:=fy h
  refine⟨(runEnd mask i - i + 1) + n,by omega,?_⟩
  rw[gV,jB,e]
  rfl
theorem mF (mask:Nat):∀(a b:Nat) (x:Nat×Nat),c6 mask (a + b) x=c6 mask b (c6 mask a x)
 | 0,b,x=>by rw[Gr];rfl
 |a + 1,b,x=>by rw[Nat.add_right_comm];exact mF mask a b (leap mask x.1 x.2)
theorem qj (mask:Nat):∀(k:Nat) (x:Nat×Nat),x.1<=mask->(c6 mask k x).1<=mask
 | 0,_,h=>h
 |k + 1,x,_=>qj mask k _ (ji mask x.1 x.2)
theorem iF (mask:Nat):∀(k:Nat) (x:Nat×Nat),(c6 mask k x).2=x.2 / 32 ^ k
 | 0,x=>by simp[c6]
 |k + 1,x=>by
  show (c6 mask k (leap mask x.1 x.2)).2=_
  rw[iF mask k,Nat.pow_succ,Nat.mul_comm,<-Nat.div_div_eq_div_mul]
  rfl
def nx (mask i:Nat):Nat:=(i * 5 + 1) % (mask + 1)
def ve (mask:Nat):Nat->Nat->Nat
 | 0,i=>i
 |k + 1,i=>ve mask k (nx mask i)
theorem kq (mask:Nat):∀(a b i:Nat),ve mask (a + b) i=ve mask b (ve mask a i)
 | 0,b,i=>by rw[Gr];rfl
 |a + 1,b,i=>by rw[Nat.add_right_comm];exact kq mask a b (nx mask i)
theorem k7 (mask:Nat):∀(k i:Nat),c6 mask k (i,0)=(ve mask k i,0)
 | 0,_=>rfl
 |k + 1,i=>by
  show c6 mask k (leap mask i 0)=_
  have:leap mask i 0=(nx mask i,0):=by simp[leap,nx]
  rw[this,k7 mask k]
  rfl
def xZ (mask:Nat):Prop:=mask=7\/mask=31\/mask=127
def Cb (mask:Nat)(hm:xZ mask):ve mask (mask + 1) 0=0/\∀j,j<=mask->∃k,k<=mask/\ve mask k 0=j:=by
 have h7:∀j:Nat,j < 8->∃k,k < 8/\ve 7 k 0=j:=by decide +kernel
 have h31:∀j:Nat,j < 32->∃k,k < 32/\ve 31 k 0=j:=by decide +kernel
 have h127:∀j:Nat,j < 128->∃k,k < 128/\ve 127 k 0=j:=by decide +kernel
 rcases hm with rfl |rfl |rfl
 ·exact⟨by decide +kernel,λj hj=>let ⟨k,a,b⟩:=h7 j (by omega);⟨k,by omega,b⟩⟩
 ·exact⟨by decide +kernel,λj hj=>let ⟨k,a,b⟩:=h31 j (by omega);⟨k,by omega,b⟩⟩
 ·exact⟨by decide +kernel,λj hj=>let ⟨k,a,b⟩:=h127 j (by omega);⟨k,by omega,b⟩⟩
def Cq {mask:Nat}(hm:xZ mask){i j:Nat}(hi:i<=mask)(hj:j<=mask):∃k,k<=mask/\ve mask k i=j:=by
 obtain⟨z,o⟩:=Cb mask hm
 obtain⟨a,ha,ea⟩:=o i hi
 obtain⟨b,hb,eb⟩:=o j hj
 have back:ve mask (mask + 1 - a) i=0:=by
  rw[<-ea,<-kq,show a + (mask + 1 - a)=mask + 1 by omega];exact z
 by_cases hab:a<=b
 ·refine⟨b - a,by omega,?_⟩
  rw[<-ea,<-kq,show a + (b - a)=b by omega];exact eb
 ·refine⟨mask + 1 - a + b,by omega,?_⟩
  rw[kq,back];exact eb
def ky {mask:Nat}(hm:xZ mask){i q j:Nat}(hi:i<=mask)(hq:q < 2 ^ 64)(hj:j<=mask):∃k,k<=mask + 13/\(c6 mask k (i,q)).1=j:=by
 have hz:(c6 mask 13 (i,q)).2=0:=by
  rw[iF]
  exact Nat.div_eq_of_lt (E7 hq (by decide))
 obtain⟨k,hk,e⟩:=Cq hm (qj mask 13 (i,q) hi) hj
 refine⟨13 + k,by omega,?_⟩
 rw[mF]
 have:c6 mask 13 (i,q)=((c6 mask 13 (i,q)).1,0):=Prod.ext rfl hz
 rw[this,k7]
 exact e
def tp (h:Int):bits h < 2 ^ 64:=by
 unfold bits
 have:=Int.emod_lt_of_pos h (show (0:Int) < 2 ^ 64 by decide)
 have:=Int.emod_nonneg h (show (2 ^ 64:Int)≠0 by decide)
 omega
def xj {mask:Nat}(hm:xZ mask)(h:Int){j:Nat}(hj:j<=mask):∃n,n < 10 * turns mask/\(cR mask n (st mask h)).j=j:=by
 have hi:bits h % (mask + 1)<=mask:=Nat.lt_succ_iff.mp (Nat.mod_lt _ (Nat.succ_pos _))
 obtain⟨k,hk,e⟩:=ky hm hi (tp h) hj
 obtain⟨n,hn,q⟩:=jW mask k (bits h % (mask + 1)) (bits h) hi
 refine⟨n,by unfold turns;omega,?_⟩
 show (cR mask n (uP mask _ _)).j=j
 rw[q];exact e
theorem vF {t:SetTable}{hashAt:Nat->Int}{h:Int}:∀(n fuel:Nat) (p:Probe),n < fuel->p.dummy=none->
  (∀m,m < n->∃i,t.slot (cR t.mask m p).j=.live i/\hashAt i≠h)->t.slot (cR t.mask n p).j=.empty->
  probe.go t hashAt h fuel p=some (.empty (cR t.mask n p).j none):=by
 intro n
 induction n with
 |zero=>
  intro fuel p hf hd _ he
  obtain⟨f,rfl⟩:∃f,fuel=f + 1:=⟨fuel - 1,by omega⟩
  unfold probe.go
  have he':t.slot p.j=.empty:=he
  rw[he',hd]
  rfl
 |succ n ih=>
  intro fuel p hf hd hl he
  obtain⟨f,rfl⟩:∃f,fuel=f + 1:=⟨fuel - 1,by omega⟩
  unfold probe.go
  obtain⟨i,e,ne⟩:=hl 0 (by omega)
  have e':t.slot p.j=.live i:=e
  rw[e']
  dsimp only
  rw[EN (by simpa using ne),vK]
  exact ih f (qM t.mask p) (by omega) (wU hd) (λm hm=>hl (m + 1) (by omega)) he
theorem vn {t:SetTable}{hashAt:Nat->Int}{h:Int}:∀(n fuel:Nat) (p:Probe),n < fuel->
  (∀m,m<=n->∃i,t.slot (cR t.mask m p).j=.live i)->(∃i,t.slot (cR t.mask n p).j=.live i/\hashAt i=h)->
  ∃j i next,probe.go t hashAt h fuel p=some (.candidate j i next)/\t.slot j=.live i/\hashAt i=h:=by
 intro n
 induction n with
 |zero=>
  intro fuel p hf _ he
  obtain⟨f,rfl⟩:∃f,fuel=f + 1:=⟨fuel - 1,by omega⟩
  obtain⟨i,e,eh⟩:=he
  have e':t.slot p.j=.live i:=e
  unfold probe.go
  rw[e']
  dsimp only
  rw[EI (by simpa using eh)]
  exact⟨p.j,i,_,rfl,e',eh⟩
 |succ n ih=>
  intro fuel p hf hl he
  obtain⟨f,rfl⟩:∃f,fuel=f + 1:=⟨fuel - 1,by omega⟩
  obtain⟨i,e⟩:=hl 0 (by omega)
  have e':t.slot p.j=.live i:=e
  unfold probe.go
  rw[e']
  dsimp only
  by_cases hh:hashAt i=h
  ·rw[EI (by simpa using hh)]
   exact⟨p.j,i,_,rfl,e',hh⟩
  ·rw[EN (by simpa using hh),vK]
   exact ih f (qM t.mask p) (by omega) (λm hm=>hl (m + 1) (by omega)) he
def Reach (mask:Nat)(L:Nat->Prop)(h:Int)(j:Nat):Prop:=∃n,n < 10 * turns mask/\(cR mask n (st mask h)).j=j/\∀m,m < n->L (cR mask m (st mask h)).j
def Reach.mono {mask:Nat}{L L':Nat->Prop}{h:Int}{j:Nat}(r:Reach mask L h j)(k:∀x,L x->L' x):Reach mask L' h j:=
 let ⟨n,a,b,c⟩:=r;⟨n,a,b,λm hm=>k _ (c m hm)⟩
structure Tab (t:SetTable)(hs:List Int):Prop where
 mask:xZ t.mask
 dum:t.dummies=#[]
 rise:gz t.place
 le:∀j,j∈t.place->j<=t.mask
 size:t.place.size=hs.length
 load:t.place.size * 5 < t.mask * 3
 reach:∀(i j:Nat) (h:Int),t.place[i]? =some j->hs[i]? =some h->Reach t.mask (· ∈t.place) h j
 plain:t.plain=true
theorem aU {α:Type}[DecidableEq α]:∀{l m:List α},l.Nodup->(∀x,x∈l->x∈m)->l.length<=m.length
 | [],_,_,_=>Fj _
 |a :: l,m,hn,hs=>by
  have ha:=hs a (EL ..)
  have hl:=Fq.mp hn
  have:=aU (l:=l) (m:=m.erase a) hl.2 λx hx=>by
   refine (List.mem_erase_of_ne ?_).mpr (hs x (EK _ hx))
   rintro rfl;exact hl.1 hx
  rw[Hl ha] at this
  have:0 < m.length:=GW ha
  simp only[EZ];omega
def rS {mask:Nat}{xs:Array Nat}(hl:xs.size<=mask):∃j,j<=mask/\j∉xs:=by
 refine Classical.byContradiction λhc=>?_
 have all:∀j,j∈List.range (mask + 1)->j∈xs.toList:=λj hj=>by
  have:=E2.mp hj
  refine Classical.byContradiction λhn=>hc ⟨j,by omega,λz=>hn (by simpa using z)⟩
 have:=aU GQ all
 simp at this
 omega
theorem nF {P:Nat->Prop}(h:∃n,P n):∃n,P n/\∀m,m < n->¬P m:=by
 obtain⟨n,hn⟩:=h
 induction n using Nat.strongRecOn with
 |_ n ih=>
  by_cases hc:∃m,m < n/\P m
  ·obtain⟨m,hm,hp⟩:=hc
   exact ih m hm hp
  ·exact⟨n,hn,λm hm hp=>hc ⟨m,hm,hp⟩⟩
section
variable {t:SetTable}{hs:List Int}
def Tab.load' (T:Tab t hs):t.place.size<=t.mask:=by have:=T.load;omega
def Tab.slotL (T:Tab t hs){j:Nat}(hj:j∈t.place):∃i,t.slot j=.live i/\t.place[i]? =some j:=by
 obtain⟨i,hi,e⟩:=Array.mem_iff_getElem.mp hj
 have q:t.place[i]? =some j:=by rw[E9 hi,e]
 exact⟨i,mP T.rise q,q⟩
def Tab.slotE (T:Tab t hs){j:Nat}(hj:j∉t.place):t.slot j=.empty:=rb T.dum hj
def Tab.first (T:Tab t hs)(h:Int):∃n,n < 10 * turns t.mask/\(cR t.mask n (st t.mask h)).j∉t.place/\∀m,m < n->(cR t.mask m (st t.mask h)).j∈t.place:=by
 obtain⟨j,hj,hn⟩:=rS T.load'
 obtain⟨n,h1,h2⟩:=xj T.mask h hj
 obtain⟨k,hk,hlt⟩:=nF (P:=λn=>(cR t.mask n (st t.mask h)).j∉t.place) ⟨n,by rw[h2];exact hn⟩
 refine⟨k,?_,hk,λm hm=>Classical.byContradiction λz=>hlt m hm z⟩
 rcases FL n k with c |c
 ·exact absurd (show (cR t.mask n (st t.mask h)).j∉t.place by rw[h2];exact hn) (hlt n c)
 ·omega
def Tab.absent (T:Tab t hs){hashAt:Nat->Int}(ha:∀i,i < hs.length->some (hashAt i)=hs[i]?){h:Int}(hn:h∉hs) :
  ∃j,t.probe hashAt h (t.probeStart h)=some (.empty j none)/\j∉t.place/\j<=t.mask/\Reach t.mask (· ∈t.place) h j:=by
 obtain⟨n,h1,h2,h3⟩:=T.first h
 refine⟨(cR t.mask n (st t.mask h)).j,?_,h2,?_,⟨n,h1,rfl,h3⟩⟩
 ·unfold probe
  rw[zV]
  refine vF n _ _ h1 rfl (λm hm=>?_) (T.slotE h2)
  obtain⟨i,e,q⟩:=T.slotL (h3 m hm)
  refine⟨i,e,λz=>hn ?_⟩
  have hi:i < hs.length:=by rw[<-T.size];exact (FC.mp q).1
  have:=ha i hi
  rw[z] at this
  exact EX this.symm
 ·have:=tm n (Cg t.mask h)
  unfold In at this;omega
def Tab.present (T:Tab t hs){hashAt:Nat->Int}(ha:∀i,i < hs.length->some (hashAt i)=hs[i]?){h:Int}(hm:h∈hs) :
  ∃j i next,t.probe hashAt h (t.probeStart h)=some (.candidate j i next)/\t.slot j=.live i/\i < hs.length/\hs[i]? =some h:=by
 obtain⟨i,hi,e⟩:=Fg.mp hm
 have hi':hs[i]? =some h:=by rw[ED hi,e]
 have hp:i < t.place.size:=by rw[T.size];exact hi
 obtain⟨n,h1,h2,h3⟩:=T.reach i t.place[i] h (E9 hp) hi'
 have hj:(cR t.mask n (st t.mask h)).j∈t.place:=by rw[h2];exact Array.getElem_mem hp
 obtain⟨j',i',nx,g1,g2,g3⟩:=vn (t:=t) (hashAt:=hashAt) (h:=h) n (10 * turns t.mask) (st t.mask h) h1 (λm hm=>by
   rcases FL m n with c |c
   ·obtain⟨i,e,_⟩:=T.slotL (h3 m c);exact⟨i,e⟩
   ·have:m=n:=by omega
    subst this
    obtain⟨i,e,_⟩:=T.slotL hj;exact⟨i,e⟩)
  ⟨i,by rw[h2];exact mP T.rise (E9 hp),by
   have:=ha i hi
   rw[hi'] at this
   exact Option.some.inj this⟩
 have hi2:i' < t.place.size:=by
  unfold slot at g2
  dsimp only at g2
  split at g2
  ·rename_i c
   have c':t.place[below t.place j']? =some j':=by simpa using c
   cases g2
   exact (FC.mp c').1
  ·split at g2 <;> cases g2
 refine⟨j',i',nx,by unfold probe;rw[zV];exact g1,g2,by rw[<-T.size];exact hi2,?_⟩
 have:=ha i' (by rw[<-T.size];exact hi2)
 rw[g3] at this
 exact this.symm
end
def a9 {α:Type}(xs:Array α)(p:Nat)(x:α)(_:p<=xs.size):(insertAt xs p x).toList=xs.toList.take p ++ x :: xs.toList.drop p:=by
 unfold insertAt
 simp[Array.toList_extract,List.extract_eq_take_drop]
 rw[GX (by simp)]
def ml (t:SetTable)(j:Nat)(hd:t.dummies=#[]):(t.put j).1={t with place:=insertAt t.place (below t.place j) j}/\(t.put j).2=below t.place j:=by
 unfold put
 dsimp only
 rw[hd,sS]
 exact⟨by simp,rfl⟩
section
variable {t:SetTable}{hs:List Int}
def jf {α:Type}{xs:Array α}{p:Nat}{x y:α}(hp:p<=xs.size):y∈insertAt xs p x↔y∈xs\/y=x:=by
 rw[<-GN,a9 xs p x hp,E6,EH,<-GN]
 have:y∈xs.toList↔y∈xs.toList.take p\/y∈xs.toList.drop p:=by
  conv=>lhs;rw[<-G6 p xs.toList]
  exact E6
 rw[this]
 constructor
 ·rintro (a |a |a)
  ·exact .inl (.inl a)
  ·exact .inr a
  ·exact .inl (.inr a)
 ·rintro ((a |a) |a)
  ·exact .inl a
  ·exact .inr (.inr a)
  ·exact .inr (.inl a)
def lQ {xs:Array Nat}(h:gz xs){j:Nat}(hj:j∉xs):gz (insertAt xs (below xs j) j):=by
 obtain⟨b1,b2,b3⟩:=cw h j
 unfold gz
 rw[a9 _ _ _ b1]
 have hl:∀y,y∈xs.toList.take (below xs j)->y < j:=λy hy=>by
  obtain⟨i,hi,e⟩:=Fg.mp hy
  have hi1:i < below xs j:=by simp at hi;omega
  have hi2:i < xs.size:=by omega
  have:=b2 i hi1
  rw[Fi,E9 hi2] at this
  simp at e this
  omega
 have hr:∀y,y∈xs.toList.drop (below xs j)->j < y:=λy hy=>by
  obtain⟨i,hi,e⟩:=Fg.mp hy
  have hi2:below xs j + i < xs.size:=by simp at hi;omega
  have:=b3 (below xs j + i) (by omega) hi2
  rw[Fi,E9 hi2] at this
  simp at e this
  rcases FL j y with c |c
  ·exact c
  ·have:j=y:=by omega
   exact absurd (by rw[this,<-e];exact Array.getElem_mem _) hj
 refine FE.mpr ⟨List.Pairwise.sublist (List.take_sublist ..) h,GB.mpr ⟨λy hy=>hr y hy,List.Pairwise.sublist (List.drop_sublist ..) h⟩,λa ha b hb=>?_⟩
 rcases EH.mp hb with rfl |hb
 ·exact hl a ha
 ·exact Nat.lt_trans (hl a ha) (hr b hb)
def pO {α:Type}(l:List α)(p:Nat)(x:α)(hp:p<=l.length)(i:Nat):(l.take p ++ x :: l.drop p)[i]? =if i < p then l[i]? else if i=p then some x else l[i - 1]?:=by
 rcases Hu i p with c |c |c
 ·rw[EI c,Ft (by simp;omega),List.getElem?_take_of_lt c]
 ·subst c
  rw[EN (Fe _),EI rfl,Fm (by simp;omega),FG,Nat.min_eq_left hp,Nat.sub_self]
  rfl
 ·rw[EN (by omega),EN (by omega),Fm (by simp;omega),FG,Nat.min_eq_left hp]
  obtain⟨k,rfl⟩:∃k,i=p + 1 + k:=⟨i - (p + 1),by omega⟩
  rw[show p + 1 + k - p=k + 1 by omega,List.getElem?_cons_succ,List.getElem?_drop]
  congr 1
  omega
def Tab.put (T:Tab t hs){j:Nat}{h:Int}(hj:j∉t.place)(hm:j<=t.mask)(r:Reach t.mask (· ∈t.place) h j)(hf:(t.place.size + 1) * 5 < t.mask * 3) :
  Tab (t.put j).1 (hs.take (t.put j).2 ++ h :: hs.drop (t.put j).2)/\(t.put j).2<=hs.length:=by
 obtain⟨e1,e2⟩:=ml t j T.dum
 obtain⟨b1,b2,b3⟩:=cw T.rise j
 have hsz:(insertAt t.place (below t.place j) j).size=t.place.size + 1:=by
  rw[<-Hf,a9 _ _ _ b1]
  simp;omega
 have hl:below t.place j<=hs.length:=by rw[<-T.size];exact b1
 rw[e1,e2]
 refine⟨⟨T.mask,T.dum,lQ T.rise hj,λy hy=>?_,?_,?_,λi y g hy hg=>?_,T.plain⟩,hl⟩
 ·rcases (jf b1).mp hy with z |z
  ·exact T.le y z
  ·rw[z];exact hm
 ·show (insertAt t.place _ j).size=_
  rw[hsz,T.size];simp;omega
 ·show (insertAt t.place _ j).size * 5 < t.mask * 3
  rw[hsz];exact hf
 ·show Reach t.mask (· ∈insertAt t.place (below t.place j) j) g y
  have hy':(t.place.toList.take (below t.place j) ++ j :: t.place.toList.drop (below t.place j))[i]? =some y:=by
   rw[<-a9 _ _ _ b1,Gm];exact hy
  rw[pO _ _ _ (by simpa using b1)] at hy'
  rw[pO _ _ _ hl] at hg
  have old:∀{g y},Reach t.mask (· ∈t.place) g y->Reach t.mask (· ∈insertAt t.place (below t.place j) j) g y:=λr=>r.mono λx hx=>(jf b1).mpr (.inl hx)
  split at hy'
  ·rename_i c
   rw[EI c] at hg
   exact old (T.reach i y g (by simpa using hy') hg)
  ·rename_i c
   rw[EN c] at hg
   split at hy'
   ·rename_i c2
    rw[EI c2] at hg
    cases hg;cases hy'
    exact old r
   ·rename_i c2
    rw[EN c2] at hg
    exact old (T.reach (i - 1) y g (by simpa using hy') hg)
end
abbrev own (o:Array (Option Nat))(j:Nat):Option Nat:=o.getD j none
theorem uL {mask:Nat}{o:Array (Option Nat)}(hsz:o.size=mask + 1):∀(fuel i q:Nat) (j:Nat),i<=mask->layClean.free mask o fuel i q=some j->
  ∃n,n < 10 * fuel/\(cR mask n (uP mask i q)).j=j/\(∀m,m < n->(own o (cR mask m (uP mask i q)).j).isSome=true)/\own o j=none/\j<=mask:=by
 intro fuel
 induction fuel with
 |zero=>intro i q j _ h;unfold layClean.free at h;cases h
 |succ fuel ih=>
  intro i q j hi h
  unfold layClean.free at h
  have hr:=fy hi
  have ind:∀k,k<=runEnd mask i - i->o.getD (i + k) (some 0)=own o (i + k):=λk hk=>by
   have:i + k < o.size:=by omega
   simp[own,Array.getD,this]
  cases hf:(List.range (runEnd mask i + 1 - i)).find? λk=>(o.getD (i + k) (some 0)).isNone with
  |some k=>
   rw[hf] at h
   dsimp only at h
   have hk:=List.find?_eq_some_iff_getElem.mp hf
   obtain⟨hn,ix,hix,eix,hbef⟩:=hk
   have ek:ix=k:=by simpa using eix
   subst ek
   have hix':ix < runEnd mask i + 1 - i:=by simpa using hix
   cases h
   refine⟨ix,by omega,?_,λm hm=>?_,?_,by omega⟩
   ·rw[gc mask i q ix (by omega)]
   ·rw[gc mask i q m (by omega)]
    have:=hbef m hm
    simp only[List.getElem_range] at this
    rw[ind m (by omega)] at this
    dsimp only
    cases e:own o (i + m) with
    |none=>rw[e] at this;simp at this
    |some _=>rfl
   ·rw[ind ix (by omega)] at hn
    cases e:own o (i + ix) with
    |none=>rfl
    |some _=>rw[e] at hn;simp at hn
  |none=>
   rw[hf] at h
   dsimp only at h
   obtain⟨n,h1,h2,h3,h4,h5⟩:=ih _ _ j (ji mask i q) h
   have hnone:=List.find?_eq_none.mp hf
   refine⟨(runEnd mask i - i + 1) + n,by omega,?_,λm hm=>?_,h4,h5⟩
   ·rw[gV,jB];exact h2
   ·rcases FL m (runEnd mask i - i + 1) with c |c
    ·rw[gc mask i q m (by omega)]
     have:=hnone m (E2.mpr (by omega))
     rw[ind m (by omega)] at this
     dsimp only
     cases e:own o (i + m) with
     |none=>rw[e] at this;simp at this
     |some _=>rfl
    ·obtain⟨k,rfl⟩:∃k,m=(runEnd mask i - i + 1) + k:=⟨m - (runEnd mask i - i + 1),by omega⟩
     rw[gV,jB]
     exact h3 k (by omega)
theorem ug {mask:Nat}{o:Array (Option Nat)}(hsz:o.size=mask + 1):∀(fuel i q k:Nat),i<=mask->k < fuel->own o (c6 mask k (i,q)).1=none->∃j,layClean.free mask o fuel i q=some j:=by
 intro fuel
 induction fuel with
 |zero=>intro i q k _ hk;omega
 |succ fuel ih=>
  intro i q k hi hk hn
  unfold layClean.free
  cases hf:(List.range (runEnd mask i + 1 - i)).find? λk=>(o.getD (i + k) (some 0)).isNone with
  |some k=>exact⟨_,rfl⟩
  |none=>
   dsimp only
   cases k with
   |zero=>
    have hr:=fy hi
    have:=List.find?_eq_none.mp hf 0 (E2.mpr (by omega))
    have e:own o i=none:=hn
    have hi2:i < o.size:=by omega
    simp[own,Array.getD,hi2] at e this
    rw[e] at this;simp at this
   |succ k=>exact ih _ _ k (ji mask i q) (by omega) hn
structure Lay (mask:Nat)(o:Array (Option Nat))(hs:List Int):Prop where
 size:o.size=mask + 1
 all:∀k h,hs[k]? =some h->∃j,own o j=some k/\Reach mask (λx=>(own o x).isSome=true) h j
 one:∀j j' k,own o j=some k->own o j'=some k->j=j'
 le:∀j k,own o j=some k->j<=mask/\k < hs.length
def jh {o:Array (Option Nat)}{j x k:Nat}(hj:j < o.size):own (o.setIfInBounds j (some k)) x=if x=j then some k else own o x:=by
 unfold own
 rw[Fi,Fi,Array.getElem?_setIfInBounds]
 by_cases e:x=j
 ·subst e;simp[hj]
 ·rw[EN e,EN (λz=>e z.symm)]
def vB {mask:Nat}(hm:xZ mask){o:Array (Option Nat)}{hs:List Int}(L:Lay mask o hs)(h:Int)(hl:hs.length<=mask) :
  ∃j,layClean.free mask o (turns mask) (bits h % (mask + 1)) (bits h)=some j/\Lay mask (o.setIfInBounds j (some hs.length)) (hs ++ [h]):=by
 have hi:bits h % (mask + 1)<=mask:=Nat.lt_succ_iff.mp (Nat.mod_lt _ (Nat.succ_pos _))
 have hfree:∃j,j<=mask/\own o j=none:=by
  refine Classical.byContradiction λhc=>?_
  have hall:∀j,j<=mask->∃k,own o j=some k:=λj hj=>by
   cases e:own o j with
   |none=>exact absurd ⟨j,hj,e⟩ hc
   |some k=>exact⟨k,rfl⟩
  have nd:((List.range (mask + 1)).map λj=>(own o j).getD 0).Nodup:=by
   refine FI.mpr ?_
   refine FP ?_ GQ
   intro a b ha hb hab e
   obtain⟨ka,ea⟩:=hall a (by have:=E2.mp ha;omega)
   obtain⟨kb,eb⟩:=hall b (by have:=E2.mp hb;omega)
   rw[ea,eb] at e
   simp at e
   subst e
   exact hab (L.one a b ka ea eb)
  have:=aU (m:=List.range hs.length) nd λx hx=>by
   obtain⟨j,hj,rfl⟩:=ER.mp hx
   obtain⟨k,e⟩:=hall j (by have:=E2.mp hj;omega)
   rw[e]
   exact E2.mpr (L.le j k e).2
  simp at this
  omega
 obtain⟨j0,hj0,hn0⟩:=hfree
 obtain⟨k,hk,ek⟩:=ky hm hi (tp h) hj0
 obtain⟨j,hj⟩:=ug L.size (turns mask) _ (bits h) k hi (by unfold turns;omega) (by rw[ek];exact hn0)
 refine⟨j,hj,?_⟩
 obtain⟨n,h1,h2,h3,h4,h5⟩:=uL L.size _ _ _ _ hi hj
 have hjs:j < o.size:=by rw[L.size];omega
 have grow:∀x,(own o x).isSome=true->(own (o.setIfInBounds j (some hs.length)) x).isSome=true:=λx hx=>by
  rw[jh hjs];split
  ·rfl
  ·exact hx
 refine⟨by rw[Array.size_setIfInBounds];exact L.size,λk g hg=>?_,λa b c ea eb=>?_,λa c ea=>?_⟩
 ·rcases FL k hs.length with c |c
  ·rw[Ft c] at hg
   obtain⟨x,ex,rx⟩:=L.all k g hg
   refine⟨x,?_,rx.mono grow⟩
   rw[jh hjs,EN (λz=>?_)]
   ·exact ex
   ·subst z;rw[ex] at h4;cases h4
  ·rw[Fm c] at hg
   have:k=hs.length:=by
    have:=(EV.mp hg).1
    simp at this;omega
   subst this
   simp at hg
   subst hg
   exact⟨j,by rw[jh hjs,EI rfl],n,h1,h2,λm hm=>grow _ (h3 m hm)⟩
 ·rw[jh hjs] at ea eb
  split at ea
  ·cases ea
   split at eb
   ·omega
   ·have:=(L.le _ _ eb).2;omega
  ·split at eb
   ·cases eb
    have:=(L.le _ _ ea).2;omega
   ·exact L.one _ _ _ ea eb
 ·rw[jh hjs] at ea
  rw[Fs]
  split at ea
  ·cases ea;simp;omega
  ·have:=L.le _ _ ea;simp;omega
theorem sR {mask:Nat}(hm:xZ mask):∀(rest hs:List Int) (o:Array (Option Nat)),Lay mask o hs->hs.length + rest.length<=mask->
  ∃o',rest.foldl (init:=some (o,hs.length)) (λacc h=>do
   let (owner,k) <-acc
   let j <-layClean.free mask owner (turns mask) (bits h % (mask + 1)) (bits h)
   pure (owner.setIfInBounds j (some k),k + 1))=some (o',hs.length + rest.length)/\Lay mask o' (hs ++ rest)
 | [],hs,o,L,_=>⟨o,rfl,by rw[Hh];exact L⟩
 |h :: rest,hs,o,L,hl=>by
  simp only[EZ] at hl
  obtain⟨j,e,L'⟩:=vB hm L h (by omega)
  obtain⟨o',e',L2⟩:=sR hm rest (hs ++ [h]) _ L' (by simp;omega)
  refine⟨o',?_,by rw[GJ] at L2;exact L2⟩
  rw[foldl_cons]
  simp only[Option.bind_eq_bind,Option.bind_some,e,Option.pure_def]
  have el:(hs ++ [h]).length=hs.length + 1:=by simp
  rw[el] at e'
  simp only[Option.bind_eq_bind,Option.pure_def] at e'
  rw[e']
  simp;omega
def sy (n j:Nat):own (Array.replicate n none) j=none:=by
 unfold own
 rw[Fi,Array.getElem?_replicate]
 split <;> rfl
def zu (mask:Nat):Lay mask (Array.replicate (mask + 1) none) []:=
 ⟨by simp,λk h e=>by simp at e,λj j' k e _=>by (rw[sy] at e;cases e),λj k e=>by (rw[sy] at e;cases e)⟩
def uU {mask:Nat}(hm:xZ mask)(hs:Array Int)(hl:hs.size * 5 < mask * 3)(finger moves:Nat)(led:Bool) :
  ∃t order,laid mask finger moves led true hs=some (t,order)/\t.led=led/\t.mask=mask/\order.toList.Nodup/\(∀k,k∈order.toList↔k < hs.size)/\
   Tab t (order.toList.map λk=>hs.toList.getD k 0):=by
 obtain⟨o,e,L⟩:=sR hm hs.toList [] _ (zu mask) (by simp;omega)
 simp only[List.nil_append] at L
 have ec:layClean mask hs=some o:=by
  unfold layClean
  rw[<-Array.foldl_toList]
  simp only[Hg] at e
  rw[e];rfl
 have hlive:∀j k,(j,k)∈((List.range (mask + 1)).filterMap λj=>(o.getD j none).map (j, ·))↔own o j=some k:=λj k=>by
  rw[Gk]
  constructor
  ·rintro⟨x,_,q⟩
   cases ex:o.getD x none with
   |none=>rw[ex] at q;cases q
   |some y=>rw[ex] at q;simp at q;rw[<-q.1,<-q.2];exact ex
  ·intro q
   refine⟨j,E2.mpr (by have:=(L.le j k q).1;omega),?_⟩
   have:o.getD j none=some k:=q
   rw[this];rfl
 have hpw:((List.range (mask + 1)).filterMap λj=>(o.getD j none).map (j, ·)).Pairwise (λa b=>a.1 < b.1):=by
  refine List.pairwise_filterMap.mpr ?_
  refine List.Pairwise.imp ?_ List.pairwise_lt_range
  intro a b hab x hx y hy
  cases ea:o.getD a none with
  |none=>rw[ea] at hx;cases hx
  |some u=>
   cases eb:o.getD b none with
   |none=>rw[eb] at hy;cases hy
   |some v=>
    rw[ea] at hx;rw[eb] at hy
    simp at hx hy
    rw[<-hx,<-hy];exact hab
 generalize hlv:((List.range (mask + 1)).filterMap λj=>(o.getD j none).map (j, ·))=live at hlive hpw
 refine⟨{mask,place:=(live.map (·.1)).toArray,dummies:=#[],finger,led,moves,plain:=true},(live.map (·.2)).toArray,?_,rfl,rfl,?_,λk=>?_,?_⟩
 ·unfold laid
  rw[ec]
  simp only[Option.bind_eq_bind,Option.bind_some,Option.pure_def,hlv]
 ·have:(live.map (·.2)).Nodup:=by
   refine FI.mpr (FP ?_ hpw)
   intro a b ha hb hab ee
   have h1:=(hlive a.1 a.2).mp ha
   have h2:=(hlive b.1 b.2).mp hb
   rw[ee] at h1
   have:=L.one _ _ _ h1 h2
   omega
  simpa using this
 ·rw[ER]
  constructor
  ·rintro⟨x,hx,rfl⟩
   have:=(L.le x.1 x.2 ((hlive x.1 x.2).mp hx)).2
   simpa using this
  ·intro hk
   have hk':k < hs.toList.length:=by simpa using hk
   obtain⟨j,ej,_⟩:=L.all k _ (ED hk')
   exact⟨(j,k),(hlive j k).mpr ej,rfl⟩
 ·have hord:live.length=hs.size:=by
   have a1:(live.map (·.2)).Nodup:=by
    refine FI.mpr (FP ?_ hpw)
    intro a b ha hb hab ee
    have h1:=(hlive a.1 a.2).mp ha
    have h2:=(hlive b.1 b.2).mp hb
    rw[ee] at h1
    have:=L.one _ _ _ h1 h2
    omega
   have b1:=aU (m:=List.range hs.size) a1 λx hx=>by
    obtain⟨y,hy,rfl⟩:=ER.mp hx
    have:=(L.le y.1 y.2 ((hlive y.1 y.2).mp hy)).2
    exact E2.mpr (by simpa using this)
   have b2:=aU (l:=List.range hs.size) (m:=live.map (·.2)) GQ λx hx=>by
    have hk':x < hs.toList.length:=by simpa using E2.mp hx
    obtain⟨j,ej,_⟩:=L.all x _ (ED hk')
    exact ER.mpr ⟨(j,x),(hlive j x).mpr ej,rfl⟩
   simp at b1 b2
   omega
  refine⟨hm,rfl,?_,λj hj=>?_,?_,?_,λi j h hi hh=>?_,rfl⟩
  ·show (live.map (·.1)).toArray.toList.Pairwise _
   rw[Gg]
   exact FI.mpr hpw
  ·have:j∈live.map (·.1):=by simpa using hj
   obtain⟨x,hx,rfl⟩:=ER.mp this
   exact (L.le x.1 x.2 ((hlive x.1 x.2).mp hx)).1
  ·simp
  ·show (live.map (·.1)).toArray.size * 5 < mask * 3
   simp[hord];exact hl
  ·have hi':(live.map (·.1))[i]? =some j:=by simpa using hi
   have hh':((live.map (·.2)).map λk=>hs.toList.getD k 0)[i]? =some h:=by simpa using hh
   rw[ES] at hi'
   rw[ES,ES] at hh'
   cases ex:live[i]? with
   |none=>rw[ex] at hi';cases hi'
   |some x=>
    rw[ex] at hi' hh'
    simp at hi' hh'
    have hxl:=(hlive x.1 x.2).mp (EX ex)
    have hk:=(L.le _ _ hxl).2
    have hk2:x.2 < hs.size:=by simpa using hk
    obtain⟨j2,ej2,r⟩:=L.all x.2 h (by
     rw[ED hk]
     simp[hk2] at hh'
     simpa using hh')
    have:j2=j:=by rw[<-hi'];exact L.one _ _ _ ej2 hxl
    subst this
    refine r.mono λy hy=>?_
    show y∈(live.map (·.1)).toArray
    cases ey:own o y with
    |none=>rw[ey] at hy;cases hy
    |some k=>
     have:y∈live.map (·.1):=ER.mpr ⟨(y,k),(hlive y k).mpr ey,rfl⟩
     simpa using this
abbrev Pr:=Int×Int
def hp (p:Pr):Int:=reduceHash (Builtin.Tuple.tupleHashOf [hashInt p.1,hashInt p.2])
def Sm (p:Pr):Prop:=(0<=p.1/\p.1 < 8)/\(0<=p.2/\p.2 < 8)
def kX:List Pr:=(List.range 64).map λk=>(((k / 8:Nat):Int),((k % 8:Nat):Int))
def iM {p:Pr}(h:Sm p):p∈kX:=by
 unfold kX
 obtain⟨⟨a,b⟩,c,d⟩:=h
 refine ER.mpr ⟨p.1.toNat * 8 + p.2.toNat,E2.mpr (by omega),?_⟩
 refine Prod.ext ?_ ?_ <;> dsimp only <;> omega
def x6:(kX.map hp).Nodup:=by decide +kernel
theorem jd {α β:Type}{f:α->β}:∀{l:List α},(l.map f).Nodup->∀a b,a∈l->b∈l->f a=f b->a=b
 | [],_,_,_,h,_,_=>by cases h
 |x :: l,hn,a,b,ha,hb,e=>by
  have hn':=Fq.mp hn
  rcases EH.mp ha with ea |ha
  ·rcases EH.mp hb with eb |hb
   ·rw[ea,eb]
   ·exact absurd (ER.mpr ⟨b,hb,by rw[<-e,ea]⟩) hn'.1
  ·rcases EH.mp hb with eb |hb
   ·exact absurd (ER.mpr ⟨a,ha,by rw[e,eb]⟩) hn'.1
   ·exact jd hn'.2 a b ha hb e
def A6 {p q:Pr}(hp1:Sm p)(hq:Sm q)(e:hp p=hp q):p=q:=jd x6 p q (iM hp1) (iM hq) e
def kL {l:List Pr}(hn:l.Nodup)(h:∀p,p∈l->Sm p):l.length<=64:=by
 have:=aU (m:=kX) hn λx hx=>iM (h x hx)
 simpa[kX] using this
section
variable {prog:Program}{w:World}{A:Around}{E:Value->Shared->Prop}{s:Shared}
abbrev aS (prog:Program)(w:World)(h:Heap)(p:Pr)(a:Addr):Prop:=IsTupleKey (intKind prog w) h [p.1,p.2] a
def aS.inj {h:Heap}{p q:Pr}{a:Addr}(x:aS prog w h p a)(y:aS prog w h q a):p=q:=by
 have:=IsTupleKey.inj x y
 simp at this
 exact Prod.ext this.1 this.2
structure lr (f:Pr->Int)(prog:Program)(w:World)(led:Bool)(h:Heap)(S:Addr)(ps:List (Addr×Pr)):Prop where
 ex:∃o ep t,h.get? S=some o/\o.ExactSet/\o.data=.set (ps.map λq=>(f q.2,Value.ref q.1)).toArray ep t/\Tab t (ps.map λq=>f q.2)/\t.led=led
 at':∀q,q∈ps->aS prog w h q.2 q.1/\Sm q.2
 nd:(ps.map (·.2)).Nodup
def lr.len {f:Pr->Int}{led:Bool}{h:Heap}{S:Addr}{ps:List (Addr×Pr)}(P:lr f prog w led h S ps):ps.length<=64:=by
 have:=kL P.nd λp hp=>by
  obtain⟨q,hq,rfl⟩:=ER.mp hp
  exact (P.at' q hq).2
 simpa using this
def kN {t:SetTable}{hs:List Int}(T:Tab t hs){n:Nat}(e:n=hs.length):t.fits n=true:=by
 unfold SetTable.fits SetTable.fill
 have:=T.load'
 simp[T.size,T.dum,e]
 rw[T.size] at this;exact this
def vG (a:Addr)(wanted:Nat):setRelay a wanted=(do
  let (es,_,t) <-setState a
  if SetTable.sizeAbove wanted > sizeLine then unsupported "set:memory"
  let (es,t) <-(do
   let some (t,order):=t.relaid (es.map (·.1)) wanted |unsupported "internal:set-table-without-room"
   let es':=order.filterMap (es[·]?)
   if es'.size != es.size then unsupported "internal:set-table-lost-an-element"
   pure (es',t))
  storeSet a es t):=rfl
def ue (a:Addr)(x:Value)(h:Int)(fuel:Nat):setSearchFrom a x h true (fuel + 1) none=(do
  let (es,_,t) <-setState a
  if t.gaveWay then unsupported "set:on-a-table-that-gave-way"
  let some met:=t.probe (λi=>(es[i]?.map (·.1)).getD 0) h (t.probeStart h) |unsupported "internal:set-table-without-an-empty-slot"
  match met with
  | .empty j dummy=>
   match dummy with
   |none=>return .free j false
   |some d=>
    if true && t.slot d != .dummy then rule "set.search.the-dummy-was-taken";return <-setSearchFrom a x h true fuel none
    return .free d true
  | .candidate j i next=>
   if !t.led then
    if <-searchCouldBeSeen x ((es.filter (·.1 == h)).toList.map (·.2)) then unsupported "set:the-search-would-show-the-table"
   let some (_,y):=es[i]? |unsupported "internal:set-entry"
   let equal <-holding [y] (eqBool y x)
   let (es',_,t') <-setState a
   if true && equal then return .there none
   let some same:=t'.sameMemory t.moves t.mask |unsupported "set.changed-during-lookup:is-the-new-block-at-the-old-address"
   let still <-match (if same then t'.slot j else .empty) with
    | .live i'=>match es'[i']? with
     |some (_,y')=>do pure (if <-isSame y' y then some i' else none)
     |none=>pure none
    |_=>pure none
   match still with
   |none=>rule "set.search.anew";setSearchFrom a x h true fuel none
   |some i'=>if equal then return .there (some i') else setSearchFrom a x h true fuel (some next)):=rfl
theorem pU (n:Nat){v:Value}(h:carriedByValue v=true):ofAClassStatement n v=pure false:=by
 cases v with
 |ref a=>simp[carriedByValue] at h
 |_=>first |rfl | (unfold ofAClassStatement;rfl)
def rT (n:Nat){v:Value}{k:Int}(h:(intKind prog w).is k v=true):hashByValue n v=pure true:=by
 obtain⟨t,rfl⟩:=Gu h
 cases n <;> rfl
def jo {p:Pr}{a:Addr}{Q:Bool->Shared->Prop}(hk:aS prog w s.heap p a)(h:Q false s):wpAny (model prog w) A (ofAClassStatement 8 (.ref a)) Q E s:=by
 have hT:=hk.typeIs
 obtain⟨o,items,n,ho,hc,hd,hi⟩:=hk
 unfold ofAClassStatement
 refine EE (wpAny_typeOf hT ?_)
 dsimp only
 rw[EI (by decide)]
 refine EE (EJ ?_)
 simp only[GU,EU,Fh]
 refine EE (Hr ho hd ?_)
 dsimp only
 refine EE ?_
 rw[<-Array.forIn_toList]
 refine wpAny_forIn_list _ (λrest r s'=>r.1=none/\s'=s/\∀v∈rest,carriedByValue v=true) _ ?_ ?_ _ _ ⟨rfl,rfl,hi.byValue⟩
 ·rintro v rest r s' ⟨hr,rfl,hall⟩
  rw[pU _ (hall v EL)]
  refine EE (EJ ?_)
  simp only[EU,Fh]
  exact EJ ⟨rfl,rfl,λu hu'=>hall u (EK _ hu')⟩
 ·rintro⟨r1,r2⟩ s' ⟨hr,rfl,_⟩
  simp only at hr
  subst hr
  exact EJ h
def qi {p:Pr}{a:Addr}{Q:Bool->Shared->Prop}(hk:aS prog w s.heap p a)(h:Q true s):wpAny (model prog w) A (hashByValue 8 (.ref a)) Q E s:=by
 have hT:=hk.typeIs
 obtain⟨o,items,n,ho,hc,hd,hi⟩:=hk
 unfold hashByValue
 refine EE (wpAny_specialOf hT F.slot_tuple_hash.lookup ?_)
 dsimp only
 refine EE (Hr ho hd ?_)
 simp only[Option.getD_some]
 refine EE ?_
 rw[<-Array.forIn_toList]
 refine wpAny_forIn_list _ (λrest r s'=>r.1=none/\s'=s/\∀v∈rest,∃k,(intKind prog w).is k v=true) _ ?_ ?_ _ _ ⟨rfl,rfl,λv hv=>?_⟩
 ·rintro v rest r s' ⟨hr,rfl,hall⟩
  obtain⟨k,hk⟩:=hall v EL
  rw[rT _ hk]
  refine EE (EJ ?_)
  simp only[GU,EU,Fh]
  exact EJ ⟨rfl,rfl,λu hu'=>hall u (EK _ hu')⟩
 ·rintro⟨r1,r2⟩ s' ⟨hr,rfl,_⟩
  simp only at hr
  subst hr
  exact EJ h
 ·generalize items.toList=l at *
  cases hi with
  |cons h1 hi=>
   cases hi with
   |cons h2 hi=>
    cases hi
    rcases EH.mp hv with rfl |hv
    ·exact⟨_,h1⟩
    ·rcases EH.mp hv with rfl |hv
     ·exact⟨_,h2⟩
     ·cases hv
def rg {p:Pr}{a:Addr}(hk:aS prog w s.heap p a):∀(l:List Value) {Q:Bool->Shared->Prop},(∀v∈l,∃q b,v=.ref b/\aS prog w s.heap q b)->Q false s->wpAny (model prog w) A (searchCouldBeSeen (.ref a) l) Q E s:=by
 intro l Q hl h
 unfold searchCouldBeSeen
 refine EE ?_
 refine wpAny_forIn_list _ (λrest r s'=>r.1=none/\s'=s/\∀v∈rest,∃q b,v=.ref b/\aS prog w s.heap q b) _ ?_ ?_ _ _ ⟨rfl,rfl,hl⟩
 ·rintro v rest r s' ⟨hr,rfl,hall⟩
  obtain⟨q,b,rfl,hb⟩:=hall v EL
  have hrest:=λu hu'=>hall u (EK _ hu')
  dsimp only
  split
  ·exact EJ ⟨rfl,rfl,hrest⟩
  ·refine EE (wpAny_eqIsQuiet_tuple hk ?_)
   simp only[GU,EU,Fh]
   refine EE (wpAny_eqIsQuiet_tuple hb ?_)
   simp only[GU,EU,Fh]
   refine EE (jo hk ?_)
   simp only[EU,Fh]
   refine EE (jo hb ?_)
   simp only[EU,Fh]
   exact EJ ⟨rfl,rfl,hrest⟩
 ·rintro⟨r1,r2⟩ s' ⟨hr,rfl,_⟩
  simp only at hr
  subst hr
  exact EJ h
end
section
variable {prog:Program}{w:World}{A:Around}{E:Value->Shared->Prop}{s:Shared}
def qg (t:SetTable)(hs:Array Int)(wanted:Nat)(hp:t.plain=true):t.relaid hs wanted=laid (sizeAbove wanted - 1) t.finger (t.movedTo (sizeAbove wanted - 1)) t.led true hs:=by
 unfold relaid;rw[hp]
def zW:sizeAbove (grown 5)=32/\sizeAbove (grown 19)=128:=by decide +kernel
theorem filterMap_get {α:Type}(es:Array α):∀(order:List Nat),(∀k,k∈order->k < es.size)->∃l:List α,order.filterMap (λi=>es[i]?)=l/\l.length=order.length/\(∀(i k:Nat),order[i]? =some k->l[i]? =es[k]?)/\∀x,x∈l->∃k,k∈order/\es[k]? =some x
 | [],_=>⟨[],rfl,rfl,λi k h=>by simp at h,λx hx=>by cases hx⟩
 |k :: r,h=>by
  obtain⟨l,e1,e2,e3,e4⟩:=filterMap_get es r λx hx=>h x (EK _ hx)
  have hk:=h k (EL ..)
  refine⟨es[k] :: l,by rw[He,E9 hk,e1],by simp[e2],λi x hi=>?_,λx hx=>?_⟩
  ·cases i with
   |zero=>simp at hi;subst hi;simp[hk]
   |succ i=>simp at hi;simpa using e3 i x hi
  ·rcases EH.mp hx with rfl |hx
   ·exact⟨k,EL ..,by simp[hk]⟩
   ·obtain⟨y,hy,q⟩:=e4 x hx
    exact⟨y,EK _ hy,q⟩
abbrev cz (f:Pr->Int)(q:Addr×Pr):Int×Value:=(f q.2,Value.ref q.1)
def nX (f:Pr->Int){mask:Nat}(hm:xZ mask){ps:List (Addr×Pr)}(hl:ps.length * 5 < mask * 3)(finger moves:Nat)(led:Bool) :
  ∃(t:SetTable) (order:Array Nat) (ps':List (Addr×Pr)),laid mask finger moves led true ((ps.map (cz f)).toArray.map (·.1))=some (t,order)/\order.filterMap (λi=>(ps.map (cz f)).toArray[i]?)=(ps'.map (cz f)).toArray/\ps'.length=ps.length/\
   (∀q,q∈ps'↔q∈ps)/\Tab t (ps'.map λq=>f q.2)/\t.led=led:=by
 obtain⟨t,order,e,el,em,nd,mem,T⟩:=uU hm ((ps.map (cz f)).toArray.map (·.1)) (by simpa using hl) finger moves led
 have hsz:((ps.map (cz f)).toArray.map (·.1)).size=ps.length:=by simp
 obtain⟨ps',f1,f2,f3,f4⟩:=filterMap_get ps.toArray order.toList λk hk=>by
  have:=(mem k).mp hk;rw[hsz] at this;simpa using this
 have hlen:order.toList.length=ps.length:=by
  have a1:=aU (m:=List.range ps.length) nd λx hx=>E2.mpr (by have:=(mem x).mp hx;rwa [hsz] at this)
  have a2:=aU (l:=List.range ps.length) (m:=order.toList) GQ λx hx=>(mem x).mpr (by rw[hsz];exact E2.mp hx)
  simp at a1 a2 ⊢;omega
 refine⟨t,order,ps',e,?_,by omega,λq=>⟨λhq=>?_,λhq=>?_⟩,?_,el⟩
 ·apply Array.toList_inj.mp
  rw[Array.toList_filterMap,<-f1]
  simp only[Gg]
  rw[List.map_filterMap]
  congr 1
  funext i
  simp
 ·obtain⟨k,_,q2⟩:=f4 q hq
  rw[List.getElem?_toArray] at q2
  exact EX q2
 ·obtain⟨k,hk,q2⟩:=Fg.mp hq
  have hko:k∈order.toList:=(mem k).mpr (by rw[hsz];exact hk)
  obtain⟨i,hi,e2⟩:=Fg.mp hko
  have:=f3 i k (by rw[ED hi,e2])
  rw[List.getElem?_toArray,ED hk,q2] at this
  exact EX this
 ·have:(order.toList.map λk=>((ps.map (cz f)).toArray.map (·.1)).toList.getD k 0)=ps'.map λq=>f q.2:=by
   apply Hv
   intro i
   rw[ES,ES]
   cases hi:order.toList[i]? with
   |none=>
    have:ps'[i]? =none:=List.getElem?_eq_none_iff.mpr (by rw[f2];exact List.getElem?_eq_none_iff.mp hi)
    rw[this];rfl
   |some k=>
    have hk:k < ps.length:=by have:=(mem k).mp (EX hi);rwa [hsz] at this
    have:=f3 i k hi
    rw[List.getElem?_toArray,ED hk] at this
    rw[this]
    simp[hk]
  rw[<-this];exact T
theorem jS:∀{l m:List Int},m.Nodup->(∀x,x∈m->x∈l)->l.length<=m.length->l.Nodup
 | [],_,_,_,_=>List.nodup_nil
 |a :: l,m,hn,hs,hl=>by
  by_cases ha:a∈m
  ·have hnot:a∉l:=λz=>by
    have:=aU (m:=l) hn λx hx=>by
     rcases EH.mp (hs x hx) with e |e
     ·rw[e];exact z
     ·exact e
    simp only[EZ] at hl;omega
   refine Fq.mpr ⟨hnot,jS (m:=m.erase a) (hn.erase a) (λx hx=>?_) ?_⟩
   ·have:=(hn.mem_erase_iff).mp hx
    rcases EH.mp (hs x this.2) with e |e
    ·exact absurd e this.1
    ·exact e
   ·rw[Hl ha];simp only[EZ] at hl;omega
  ·have:=aU (m:=l) hn λx hx=>by
    rcases EH.mp (hs x hx) with e |e
    ·exact absurd (e▸hx) ha
    ·exact e
   simp only[EZ] at hl;omega
def nW (a:Addr)(es:Array (Int×Value)):byScan (.ref a) es=false:=by unfold byScan Value.scannable;simp
def rk {t:SetTable}(h:xZ t.mask):t.gaveWay=false:=by
 unfold SetTable.gaveWay
 rcases h with e |e |e <;> rw[e] <;> decide
def lr.add {f:Pr->Int}(hinj:∀p q,Sm p->Sm q->f p=f q->p=q){led:Bool}{S a:Addr}{ps:List (Addr×Pr)}{p:Pr}{Q:Bool->Shared->Prop}(P:lr f prog w led s.heap S ps)(hk:aS prog w s.heap p a)(hs:Sm p)(hu:A.units < cLine)
  (h:∀(b:Bool) (h':Heap) (ps':List (Addr×Pr)),Heap.SameBut S s.heap h'->lr f prog w led h' S ps'->(∀q,q∈ps'->q∈ps\/q=(a,p))->(∀q,q∈ps->q∈ps')->(∃q,q∈ps'/\q.2=p)->Q b {s with heap:=h'}) :
  wpAny (model prog w) A (setAddHashed S (.ref a) (f p)) Q E s:=by
 obtain⟨o,ep,t,ho,hex,hd,T,hled⟩:=P.ex
 have hfit:t.fits (ps.map (cz f)).toArray.size=true:=kN T (by simp)
 have ha:∀i,i < (ps.map λq=>f q.2).length->some ((((ps.map (cz f)).toArray)[i]?.map (·.1)).getD 0)=(ps.map λq=>f q.2)[i]?:=λi hi=>by
  have hi':i < ps.length:=by simpa using hi
  simp[hi']
 unfold setAddHashed
 refine FU ?_
 unfold setAddHashedIn
 refine EE (FD ho hd hfit ?_)
 dsimp only
 rw[nW]
 simp only[EU,Fh]
 unfold setSearch
 rw[ue]
 refine EE (EE (FD ho hd hfit ?_))
 dsimp only
 rw[rk T.mask]
 simp only[EU,Fh]
 by_cases hm:f p∈ps.map λq=>f q.2
 ·
  obtain⟨j,i,nx,e1,e2,e3,e4⟩:=T.present ha hm
  rw[e1]
  dsimp only
  have hi:i < ps.length:=by simpa using e3
  have e5:f (ps[i].2)=f p:=by
   rw[ES,ED hi] at e4
   simpa using e4
  have hq:=P.at' ps[i] (FN hi)
  have e6:ps[i].2=p:=hinj _ _ hq.2 hs e5
  have hget:((ps.map (cz f)).toArray)[i]? =some (f ps[i].2,.ref ps[i].1):=by simp[hi]
  have rest:wpAny (model prog w) A (do
    let some (_,y):=((ps.map (cz f)).toArray)[i]? |unsupported "internal:set-entry"
    let equal <-holding [y] (eqBool y (.ref a))
    let (es',_,t') <-setState S
    if true && equal then return SetFound.there none
    let some same:=t'.sameMemory t.moves t.mask |unsupported "set.changed-during-lookup:is-the-new-block-at-the-old-address"
    let still <-match (if same then t'.slot j else .empty) with
     | .live i'=>match es'[i']? with
      |some (_,y')=>do pure (if <-isSame y' y then some i' else none)
      |none=>pure none
     |_=>pure none
    match still with
    |none=>rule "set.search.anew";setSearchFrom S (.ref a) (f p) true 99999 none
    |some i'=>if equal then return .there (some i') else setSearchFrom S (.ref a) (f p) true 99999 (some nx))
    (λr s'=>s'=s/\r=.there none) E s:=by
   rw[hget]
   dsimp only
   refine EE (FU (wpAny_eqBool_tuple hu hq.1 hk ?_))
   rw[ET (by rw[e6])]
   refine EE (FD ho hd hfit ?_)
   dsimp only
   simp only[Hd,FH]
   exact EJ ⟨rfl,rfl⟩
  have fin:∀r s',s'=s/\r=SetFound.there none->wpAny (model prog w) A (match r with
    | .free slot wasDummy=>(do
     let (es,_,t) <-setState S
     let (t,p'):=t.put slot
     let byValue <-if t.plain then hashByValue 8 (.ref a) else pure true
     let t:=if byValue then t else {t with plain:=false}
     storeSet S (SetTable.insertAt es p' (f p,.ref a)) t
     if !wasDummy && t.tooFull then setRelay S (SetTable.grown (es.size + 1))
     return true)
    |_=>pure false) Q E s':=by
   rintro r s' ⟨rfl,rfl⟩
   exact EJ (h false s'.heap ps (Heap.SameBut.refl ..) P (λq hq=>.inl hq) (λq hq=>hq) ⟨ps[i],FN hi,e6⟩)
  cases hl:led with
  |true=>
   rw[hled,hl]
   simp only[GU,EU,Fh]
   exact Gi rest (λr s' hr=>fin r s' hr) λ_ _ x=>x
  |false=>
   rw[hled,hl]
   simp only[Bool.not_false,FH]
   refine EE (rg hk _ (λv hv=>?_) ?_)
   ·obtain⟨x,hx,rfl⟩:=ER.mp hv
    have hx':x∈(ps.map (cz f)).toArray:=(Array.mem_filter.mp (GN.mp hx)).1
    have hx2:x∈ps.map (cz f):=by simpa using hx'
    obtain⟨q,hq,rfl⟩:=ER.mp hx2
    exact⟨q.2,q.1,rfl,(P.at' q hq).1⟩
   ·simp only[EU,Fh]
    exact Gi rest (λr s' hr=>fin r s' hr) λ_ _ x=>x
 ·
  obtain⟨j,e1,e2,e3,e4⟩:=T.absent ha hm
  rw[e1]
  dsimp only
  refine EJ ?_
  dsimp only
  refine EE (FD ho hd hfit ?_)
  dsimp only
  obtain⟨q1,q2⟩:=ml t j T.dum
  have hpl:(t.put j).1.plain=true:=by rw[q1];exact T.plain
  rw[hpl]
  simp only[FH]
  refine EE (qi hk ?_)
  simp only[FH]
  have hb:(t.put j).2<=ps.length:=by
   rw[q2]
   have:=(cw T.rise j).1
   rw[T.size] at this;simpa using this
  have hins:insertAt (ps.map (cz f)).toArray (t.put j).2 (f p,Value.ref a)=((ps.take (t.put j).2 ++ (a,p) :: ps.drop (t.put j).2).map (cz f)).toArray:=by
   apply Array.toList_inj.mp
   rw[a9 _ _ _ (by simpa using hb)]
   simp[List.map_take,List.map_drop]
  rw[hins]
  generalize hps':ps.take (t.put j).2 ++ (a,p) :: ps.drop (t.put j).2=ps1
  have mem1:∀q,q∈ps1↔q∈ps\/q=(a,p):=λq=>by
   rw[<-hps',E6,EH]
   conv=>rhs;rw[<-G6 (t.put j).2 ps,E6]
   constructor
   ·rintro (z |z |z)
    ·exact .inl (.inl z)
    ·exact .inr z
    ·exact .inl (.inr z)
   ·rintro ((z |z) |z)
    ·exact .inl z
    ·exact .inr (.inr z)
    ·exact .inr (.inl z)
  have len1:ps1.length=ps.length + 1:=by rw[<-hps'];simp;omega
  have nd1:(ps1.map (·.2)).Nodup:=by
   have hnot:p∉ps.map (·.2):=λz=>by
    obtain⟨q,hq,e⟩:=ER.mp z
    exact hm (ER.mpr ⟨q,hq,by rw[e]⟩)
   have perm:(ps1.map (·.2)).Perm (p :: ps.map (·.2)):=by
    rw[<-hps']
    have:(ps.take (t.put j).2 ++ (a,p) :: ps.drop (t.put j).2).Perm ((a,p) :: ps):=by
     refine List.perm_middle.trans ?_
     rw[G6]
    exact this.map (·.2)
   exact perm.nodup_iff.mpr (Fq.mpr ⟨hnot,P.nd⟩)
  have ne:∀b q,aS prog w s.heap q b->b≠S:=λb q ⟨o',_,_,ho',_,hd',_⟩ e=>by
   subst e
   rw[ho] at ho';cases ho'
   rw[hd] at hd';cases hd'
  have at1:∀{h':Heap},Heap.SameBut S s.heap h'->∀q,q∈ps1->aS prog w h' q.2 q.1/\Sm q.2:=λ{h'} hsb q hq=>by
   have key:∀{b:Addr} {q:Pr},aS prog w s.heap q b->aS prog w h' q b:=λ{b q} hb=>by
    have hne:=ne b q hb
    obtain⟨o',i',n',ho',r'⟩:=hb
    exact⟨o',i',n',(hsb.2 b hne).trans ho',r'⟩
   rcases (mem1 q).mp hq with z |z
   ·exact⟨key (P.at' q z).1,(P.at' q z).2⟩
   ·subst z;exact⟨key hk,hs⟩
  have hlen64:ps1.length<=64:=by
   have:=kL nd1 λx hx=>by
    obtain⟨q,hq,rfl⟩:=ER.mp hx
    exact (at1 (Heap.SameBut.refl ..) q hq).2
   simpa using this
  have hsize:((ps1.map (cz f)).toArray).size<=sizeLine:=by rw[Fl];simp;omega
  refine EE (wpAny_storeSet_of ho hd ?_ hsize)
  have ho1:(s.heap.update S (Obj.putSet (ps1.map (cz f)).toArray (t.put j).1)).get? S=some {o with data:=.set (ps1.map (cz f)).toArray (ep + 1) (t.put j).1}:=by
   have:=Fu (Obj.putSet (ps1.map (cz f)).toArray (t.put j).1) ho (by rw[putSet_of _ _ hd];rfl)
   rw[putSet_of _ _ hd] at this;exact this
  have sb1:=Heap.SameBut.update s.heap S (Obj.putSet (ps1.map (cz f)).toArray (t.put j).1)
  have hex1:({o with data:=.set (ps1.map (cz f)).toArray (ep + 1) (t.put j).1}:Obj).ExactSet:=hex
  have psz:(t.put j).1.place.size=ps.length + 1:=by
   rw[q1]
   show (insertAt t.place (below t.place j) j).size=_
   rw[<-Hf,a9 _ _ _ (cw T.rise j).1]
   have:=T.size
   simp at this ⊢
   have:=(cw T.rise j).1
   omega
  have dum1:(t.put j).1.dummies=#[]:=by rw[q1];exact T.dum
  have mask1:(t.put j).1.mask=t.mask:=by rw[q1]
  have tsz:t.place.size=ps.length:=by simpa using T.size
  simp only[Bool.not_false,Bool.true_and]
  cases htf:(t.put j).1.tooFull with
  |false=>
   simp only[EU,Fh]
   have hload:(t.place.size + 1) * 5 < t.mask * 3:=by
    unfold SetTable.tooFull SetTable.fill at htf
    rw[psz,dum1,mask1] at htf
    simp at htf
    rw[tsz];exact htf
   obtain⟨T1,_⟩:=T.put e2 e3 e4 hload
   refine EE (EJ (EJ (h true _ ps1 sb1 ⟨⟨_,ep + 1,_,ho1,hex1,rfl,?_,?_⟩,at1 sb1,nd1⟩ (λq hq=>(mem1 q).mp hq) (λq hq=>(mem1 q).mpr (.inl hq)) ⟨(a,p),(mem1 _).mpr (.inr rfl),rfl⟩)))
   ·rw[<-hps']
    simpa[List.map_take,List.map_drop] using T1
   ·rw[q1];exact hled
  |true=>
   simp only[FH]
   have hfull:t.mask * 3<=(ps.length + 1) * 5:=by
    unfold SetTable.tooFull SetTable.fill at htf
    rw[psz,dum1,mask1] at htf
    simpa using htf
   have hload:=T.load
   rw[tsz] at hload
   have hcase:∃mask',xZ mask'/\sizeAbove (grown (ps.length + 1)) - 1=mask'/\sizeAbove (grown (ps.length + 1))<=sizeLine/\(ps.length + 1) * 5 < mask' * 3:=by
    rcases T.mask with e |e |e
    ·have:ps.length + 1=5:=by rw[e] at hfull hload;omega
     rw[this,zW.1]
     exact⟨31,.inr (.inl rfl),rfl,by rw[Fl];decide,by decide⟩
    ·have:ps.length + 1=19:=by rw[e] at hfull hload;omega
     rw[this,zW.2]
     exact⟨127,.inr (.inr rfl),rfl,by rw[Fl];decide,by decide⟩
    ·rw[e] at hfull;omega
   obtain⟨mask',hm3,em,hline,hl2⟩:=hcase
   have hes:(ps.map (cz f)).toArray.size + 1=ps.length + 1:=by simp
   rw[hes,vG]
   have hfit1:(t.put j).1.fits ((ps1.map (cz f)).toArray).size=true:=by
    unfold SetTable.fits SetTable.fill
    have hpl2:ps.length + 1<=t.mask:=by
     rcases T.mask with e |e |e <;> rw[e] at hload ⊢ <;> omega
    rw[psz,dum1,mask1]
    simp[len1,hpl2]
   refine EE (EE (FD ho1 rfl hfit1 ?_))
   dsimp only
   rw[EN (by omega)]
   rw[qg _ _ _ hpl,em]
   obtain⟨t2,order,ps2,g1,g2,g3,g4,g5,g6⟩:=nX f hm3 (ps:=ps1) (by rw[len1];exact hl2) (t.put j).1.finger ((t.put j).1.movedTo mask') (t.put j).1.led
   rw[g1]
   simp only[bind_pure_comp,pure_bind]
   rw[g2]
   have hne:((ps2.map (cz f)).toArray.size != (ps1.map (cz f)).toArray.size)=false:=by simp[g3]
   rw[hne]
   simp only[EU,Fh]
   have hsize2:((ps2.map (cz f)).toArray).size<=sizeLine:=by rw[Fl];simp;omega
   refine EE (EJ ?_)
   refine wpAny_storeSet_of ho1 rfl ?_ hsize2
   have ho2:((s.heap.update S (Obj.putSet (ps1.map (cz f)).toArray (t.put j).1)).update S (Obj.putSet (ps2.map (cz f)).toArray t2)).get? S=some {o with data:=.set (ps2.map (cz f)).toArray (ep + 1 + 1) t2}:=by
    have:=Fu (Obj.putSet (ps2.map (cz f)).toArray t2) ho1 (by rw[putSet_of (ep:=ep + 1) _ _ rfl];rfl)
    rw[putSet_of (ep:=ep + 1) _ _ rfl] at this;exact this
   have sb2:=sb1.trans (Heap.SameBut.update _ S (Obj.putSet (ps2.map (cz f)).toArray t2))
   have nd2:(ps2.map (·.2)).Nodup:=by
    have hmem:∀q,q∈ps2.map (·.2)↔q∈ps1.map (·.2):=λq=>by
     rw[ER,ER]
     exact⟨λ⟨x,hx,e⟩=>⟨x,(g4 x).mp hx,e⟩,λ⟨x,hx,e⟩=>⟨x,(g4 x).mpr hx,e⟩⟩
    have hnd:(ps2.map λq=>f q.2).Nodup:=by
     refine jS (m:=ps1.map λq=>f q.2) ?_ (λx hx=>?_) (by simp[g3])
     ·have:(ps1.map λq=>f q.2)=(ps1.map (·.2)).map f:=by simp
      rw[this]
      refine FI.mpr (FP ?_ nd1)
      intro x y hx hy hxy e
      obtain⟨q,hq,rfl⟩:=ER.mp hx
      obtain⟨r,hr,rfl⟩:=ER.mp hy
      exact hxy (hinj _ _ (at1 sb1 q hq).2 (at1 sb1 r hr).2 e)
     ·obtain⟨q,hq,rfl⟩:=ER.mp hx
      exact ER.mpr ⟨q,(g4 q).mpr hq,rfl⟩
    have:(ps2.map λq=>f q.2)=(ps2.map (·.2)).map f:=by simp
    rw[this] at hnd
    exact (FI.mp hnd).imp λhxy e=>hxy (by rw[e])
   refine EJ (h true _ ps2 sb2 ⟨⟨_,ep + 1 + 1,t2,ho2,hex,rfl,g5,?_⟩,λq hq=>at1 sb2 q ((g4 q).mp hq),nd2⟩ (λq hq=>(mem1 q).mp ((g4 q).mp hq)) (λq hq=>(g4 q).mpr ((mem1 q).mpr (.inl hq))) ⟨(a,p),(g4 _).mpr ((mem1 _).mpr (.inr rfl)),rfl⟩)
   rw[g6,q1];exact hled
end
def gB (w:World):Bool:= !(w.params.followText "set-order")
def u5 (prog:Program)(w:World)(p:Pr):Int:=tupleKeyHash (intKind prog w) [p.1,p.2]
def yK (prog:Program)(w:World):∀p q,Sm p->Sm q->u5 prog w p=u5 prog w q->p=q:=λp q h1 h2 e=>A6 h1 h2 e
section
variable {prog:Program}{w:World}{A:Around}{E:Value->Shared->Prop}{s:Shared}{R:Result->Shared->Prop}{I:Addr}{fp wr:List Addr}{n:Nat}{P:Nat->Value->Prop}{St:Nat->Heap->Prop}
def bY (prog:Program)(w:World)(h:Heap)(vs:List Value)(ps:List Pr):Prop:=vs.length=ps.length/\∀(i:Nat) (v:Value) (p:Pr),vs[i]? =some v->ps[i]? =some p->∃a,v=.ref a/\aS prog w h p a/\Sm p
abbrev kn (prog:Program)(w:World)(h:Heap)(S:Addr)(vs:List Value)(ps:List Pr)(k:Nat):Prop:=∃qs:List (Addr×Pr),lr (u5 prog w) prog w (gB w) h S qs/\
 (∀q,q∈qs->Value.ref q.1∈vs.take k/\q.2∈ps.take k)/\∀p,p∈ps.take k->p∈qs.map (·.2)
theorem jb (W:Walks prog w A.in1 I fp wr n P St)(S:Addr)(hSf:S∉fp){vs:List Value}{ps:List Pr}(hn:vs.length=n)(hP:∀i v,P i v->vs[i]? =some v)(hu:A.in1.units < cLine)(h₀:Heap)
  (hps:bY prog w h₀ vs ps) (hwr:∀b o,b∈S :: wr->h₀.get? b=some o->False):∀(k i:Nat) (s:Shared),n - i=k->i<=n->St i s.heap->(∀b o,h₀.get? b=some o->s.heap.get? b=some o)->kn prog w s.heap S vs ps i->
   (∀h' tk,(∀b o,b∉S :: wr->s.heap.get? b=some o->h'.get? b=some o)->kn prog w h' S vs ps n->R (.ok (.ret .none)) {s with heap:=h',toks:=tk})->
   codeAny (model prog w) A (.builtin "set.update.loop" ⟨[.ref S,.ref I],[]⟩) R s:=by
 have nw:S∉wr:=λh=>hSf (W.sub _ h)
 intro k
 induction k with
 |zero=>
  intro i s hk hi hst hk0 hF hR
  obtain rfl:i=n:=by omega
  refine FQ PyProof.Rows.F.entry_set_update_loop ?_
  rw[FF GC _]
  show wpAny _ A.in1 (pyNext (.ref I) >>= λr=>_) _ _ s
  refine EE (W.done s _ _ hst λh' tk hm=>?_)
  show wpAny _ A.in1 (ret Value.none) _ _ _
  refine EJ (hR h' tk (λb o hb e=>hm b o (λz=>hb (EK _ z)) e) ?_)
  obtain⟨qs,Q1,Q2,Q3⟩:=hF
  obtain⟨o,ep,t,ho,r⟩:=Q1.ex
  refine⟨qs,⟨⟨o,ep,t,hm S o nw ho,r⟩,λq hq=>⟨?_,(Q1.at' q hq).2⟩,Q1.nd⟩,Q2,Q3⟩
  obtain⟨m,hm1,hm2⟩:=Fg.mp (GP (Q2 q hq).1)
  have hm1':m < ps.length:=by rw[<-hps.1];exact hm1
  obtain⟨a,ea,ha,_⟩:=hps.2 m vs[m] ps[m] (ED hm1) (ED hm1')
  rw[hm2] at ea
  cases ea
  obtain⟨o',it',n',ho',r'⟩:=(Q1.at' q hq).1
  obtain⟨o2,it2,n2,ho2,r2⟩:=ha
  have:o'=o2:=Option.some.inj (ho'.symm.trans (hk0 _ _ ho2))
  subst this
  exact⟨o',it',n',hm _ _ (λz=>hwr _ _ (EK _ z) ho2) ho',r'⟩
 |succ k ih=>
  intro i s hk hi hst hk0 hF hR
  have hlt:i < n:=by omega
  refine FQ PyProof.Rows.F.entry_set_update_loop ?_
  rw[FF GC _]
  show wpAny _ A.in1 (pyNext (.ref I) >>= λr=>_) _ _ s
  refine EE (W.item i s _ _ hlt hst λv h1 tk1 hv hst1 hm=>?_)
  have hvi:=hP i v hv
  have hip:i < ps.length:=by rw[<-hps.1,hn];exact hlt
  obtain⟨a,rfl,ha,hsm⟩:=hps.2 i v ps[i] hvi (ED hip)
  have k1:∀b o,h₀.get? b=some o->h1.get? b=some o:=λb o e=>hm b o (λz=>hwr b o (EK _ z) e) (hk0 b o e)
  obtain⟨qs,Q1,Q2,Q3⟩:=hF
  have old:∀{q:Addr×Pr} {h:Heap},q∈qs->(∀b o,h₀.get? b=some o->h.get? b=some o)->aS prog w h q.2 q.1:=λ{q h} hq kk=>by
   obtain⟨m,hm1,hm2⟩:=Fg.mp (GP (Q2 q hq).1)
   have hm1':m < ps.length:=by rw[<-hps.1];exact hm1
   obtain⟨a,ea,ha,_⟩:=hps.2 m vs[m] ps[m] (ED hm1) (ED hm1')
   rw[hm2] at ea
   cases ea
   obtain⟨o',it',n',ho',r'⟩:=(Q1.at' q hq).1
   obtain⟨o2,it2,n2,ho2,r2⟩:=ha
   have:o'=o2:=Option.some.inj (ho'.symm.trans (hk0 _ _ ho2))
   subst this
   exact⟨o',it',n',kk _ _ ho2,r'⟩
  have P1:lr (u5 prog w) prog w (gB w) h1 S qs:=by
   obtain⟨o,ep,t,ho,r⟩:=Q1.ex
   exact⟨⟨o,ep,t,hm S o nw ho,r⟩,λq hq=>⟨old hq k1,(Q1.at' q hq).2⟩,Q1.nd⟩
  have ha1:aS prog w h1 ps[i] a:=by
   obtain⟨o',it',n',ho',r'⟩:=ha
   exact⟨o',it',n',k1 _ _ ho',r'⟩
  show wpAny _ A.in1 (holding [Value.ref a] (setAdd S (.ref a)) >>= λ_=>_) _ _ _
  refine EE (FU ?_)
  unfold setAdd
  refine FU (EE (wpAny_pyHash_tuple hu ha1 ?_))
  refine lr.add (yK prog w) (s:={s with heap:=h1,toks:=tk1 + ([ps[i].1,ps[i].2].length + 1)}) P1 ha1 hsm hu λb h2 qs' sb P2 m1 m2 m3=>?_
  have sbS:∀b o,h₀.get? b=some o->h2.get? b=some o:=λb o e=>(sb.2 b (λz=>hwr b o (by rw[z];exact EL) e)).trans (k1 b o e)
  refine EJ ⟨Gj GC _,ih (i + 1) _ (by omega) hlt (W.frame _ _ _ hst1 λb hb o e=>?_) sbS ⟨qs',P2,λq hq=>?_,λp hp=>?_⟩ λh' tk hm' F'=>?_⟩
  ·rw[sb.2 b λz=>hSf (by rw[<-z];exact hb)];exact e
  ·have htk:∀{α:Type} {l:List α} {x:α},x∈l.take i->x∈l.take (i + 1):=λ{α l x} hx=>by
    rw[GK];exact FT _ hx
   rcases m1 q hq with z |z
   ·exact⟨htk (Q2 q z).1,htk (Q2 q z).2⟩
   ·subst z
    refine⟨?_,?_⟩
    ·rw[GK,hvi];exact Fc _ (by simp)
    ·rw[GK,ED hip];exact Fc _ (by simp)
  ·rw[GK,ED hip] at hp
   rcases E6.mp hp with z |z
   ·obtain⟨q,hq,rfl⟩:=ER.mp (Q3 p z)
    exact ER.mpr ⟨q,m2 q hq,rfl⟩
   ·have:p=ps[i]:=by simpa using z
    obtain⟨q,hq,e⟩:=m3
    exact ER.mpr ⟨q,hq,by rw[e,this]⟩
  ·refine hR h' tk (λb o hb e=>hm' b o hb ?_) F'
   show h2.get? b=some o
   rw[sb.2 b λz=>hb (by rw[z];exact EL)]
   exact hm b o (λz=>hb (EK _ z)) e
def o7 (a:Value){Q1:Value->Shared->Prop}
  (h:Q1 (.ref s.heap.objs.size) {s with heap:=s.heap.push {cls:=.type "set",dict:=none,data:=.set #[] 0 (.fresh 0 0 (gB w))}}) :
  codeAny (model prog w) A (.call (.builtin "set.__new__") ⟨[.type "set",a],[]⟩) (wants Q1 E) s:=by
 refine codeAny_of_tree ?_
 show wpAny _ A.in1 (do (checkBuiltinCall "set.__new__" ⟨[.type "set",a],[]⟩);again (.builtin "set.__new__" ⟨[.type "set",a],[]⟩)) _ _ s
 refine EE (wpAny_of_eq (F.newCall_set_1 a) (EJ ⟨Gj F.plain_set_new _,FQ F.entry_set_new ?_⟩))
 rw[FF F.plain_set_new _]
 (unfold Builtin.«set.__new__» Builtin.Frozenset.newClass)
 have hsub0:=sub_set_self
 obtain⟨hp0,g0,d0,tk0,os0⟩:=s
 dsimp only
 wp_walk
 (refine Ha (EJ ?_))
 dsimp only
 simp only[newObj]
 (refine EE (wpAny_alloc (EJ ?_)))
 exact EJ h
def uV (led:Bool):Tab (.fresh 0 0 led) []:=
 ⟨.inl rfl,rfl,List.Pairwise.nil,λj h=>(by cases (GN.mpr h)),rfl,(by show (0:Nat) * 5 < 7 * 3;decide),λi j h e=>(by simp[SetTable.fresh] at e),rfl⟩
structure Src (prog:Program)(w:World)(h:Heap)(l:Addr)(vs:List Value)(T:String)(itO:Obj)(St:Addr->Nat->Heap->Prop):Prop where
 ty:∃o,h.get? l=some o/\o.cls=.type T
 ns:isSubtype (.type T) (.type "set")=pure false
 nf:isSubtype (.type T) (.type "frozenset")=pure false
 nd:(Value.type T == Value.type "dict")=false
 it:∀(A:Around) (s1:Shared) (Q:Value->Shared->Prop) (E:Value->Shared->Prop),(∀b o,h.get? b=some o->s1.heap.get? b=some o)->Q (.ref s1.heap.objs.size) {s1 with heap:=s1.heap.push itO}->wpAny (model prog w) A (pyIter (.ref l)) Q E s1
 st:∀(h1:Heap),(∀b o,h.get? b=some o->h1.get? b=some o)->St h1.objs.size 0 (h1.push itO)
 wk:∀(A:Around) (I:Addr),A.handled=none->l≠I->Walks prog w A I [I,l] [I] vs.length (λi v=>vs[i]? =some v) (St I)
def Src.list {h:Heap}{l:Addr}{vs:List Value}(hl:h.IsList l vs.toArray):Src prog w h l vs "list" {cls:=.type "list_iterator",data:=.fields #[.ref l,.int 0 0]} (λI i h'=>h'.IsListIter I l i/\h'.IsList l vs.toArray):=by
 obtain⟨o,ho,hc,n,hd⟩:=id hl
 refine⟨⟨o,ho,hc⟩,F.sub_list_set,F.sub_list_frozenset,by decide,λA s1 Q E k hQ=>GI ⟨o,k _ _ ho,hc,n,hd⟩ hQ,λh1 k=>⟨⟨_,EW _ rfl,rfl,rfl⟩,⟨o,EF _ (k _ _ ho),hc,n,hd⟩⟩,λA I hh hne=>?_⟩
 have:=Walks.list (prog:=prog) (w:=w) hh I l hne vs.toArray
 simpa using this
def sub_tuple_set:isSubtype (.type "tuple") (.type "set")=pure false:=by rw[Hs];kernel_rfl
def sub_tuple_frozenset:isSubtype (.type "tuple") (.type "frozenset")=pure false:=by rw[Hs];kernel_rfl
def Src.tuple {h:Heap}{l:Addr}{vs:List Value}(hl:h.IsTuple l vs.toArray):Src prog w h l vs "tuple" {cls:=.type "tuple_iterator",data:=.fields #[.ref l,.int 0 0]} (λI i h'=>h'.IsTupleIter I l i/\h'.IsTuple l vs.toArray):=by
 obtain⟨o,ho,hc,n,hd⟩:=id hl
 refine⟨⟨o,ho,hc⟩,sub_tuple_set,sub_tuple_frozenset,by decide,λA s1 Q E k hQ=>Hm ⟨o,k _ _ ho,hc,n,hd⟩ hQ,λh1 k=>⟨⟨_,EW _ rfl,rfl,rfl⟩,⟨o,EF _ (k _ _ ho),hc,n,hd⟩⟩,λA I hh hne=>?_⟩
 have:=Walks.tuple (prog:=prog) (w:=w) hh I l hne vs.toArray
 simpa using this
set_option maxHeartbeats 3200000 in
theorem lF {l:Addr}{vs:List Value}{ps:List Pr}{T:String}{itO:Obj}{St:Addr->Nat->Heap->Prop}{Q:Value->Shared->Prop}(X:Src prog w s.heap l vs T itO St)(hh:A.handled=none)(hu:A.units + 64 < cLine)(hps:bY prog w s.heap vs ps)
  (h:∀(h':Heap) (tk:Nat),kn prog w h' s.heap.objs.size vs ps vs.length->(∀b o,s.heap.get? b=some o->h'.get? b=some o)->Q (.ref s.heap.objs.size) {s with heap:=h',toks:=tk}) :
  wpAny (model prog w) A (call (.type "set") [.ref l]) Q E s:=by
 obtain⟨c0,tl0,hmro0⟩:=GR.mro
 have hmade0:=GR.made
 have hsub0:=GR.sub
 refine wpAny_call (codeAny_of_tree ?_)
 show wpAny _ _ (callAny (.type "set") ⟨[.ref l],[]⟩) _ _ _
 refine EJ ⟨Code.quiet_builtin _ (by decide +kernel),FQ F.entry_type_call ?_⟩
 (rw[Around.under_plain (weight_type_call_type "set" [.ref l] []) rfl])
 have g1:=GR.notType
 have g2:=GR.canCreate
 have g3:=F.typeCall_set_1 (.ref l)
 repeat (any_goals (first |assumption |wp_step))
 refine Hj (o7 (.ref l) (E:=E) (Q1:=λobj s1=>obj=.ref s.heap.objs.size/\s1={s with heap:=s.heap.push {cls:=.type "set",dict:=none,data:=.set #[] 0 (.fresh 0 0 (gB w))}}) ⟨rfl,rfl⟩) λr s1 hr=>?_
 cases r with
 |error e=>exact hr
 |ok fl=>
  cases fl with
  |ret obj=>
   obtain⟨rfl,rfl⟩:=hr
   generalize hO:({cls:=.type "set",dict:=none,data:=.set #[] 0 (.fresh 0 0 (gB w))}:Obj)=O
   have hS0:(s.heap.push O).get? s.heap.objs.size=some O:=EW _ (by rw[<-hO];rfl)
   have hT0:Shared.TypeIs {s with heap:=s.heap.push O} (.ref s.heap.objs.size) "set":=⟨_,hS0,by rw[<-hO]⟩
   have g4:=GR.init.lookup
   have g5:=GR.init.bind (.ref s.heap.objs.size)
   repeat (any_goals (first |assumption |wp_step))
   refine Hj (codeAny_call_builtin (R:=wants (λr s2=>r=.none/\∃h' tk,s2={s with heap:=h',toks:=tk}/\kn prog w h' s.heap.objs.size vs ps vs.length/\(∀b o,s.heap.get? b=some o->h'.get? b=some o)) E)
    GR.init.plain F.entry_set_init (check_set_init_1 hT0 ?_)) λr2 s2 hr2=>?_
   ·obtain⟨ol,hol,hcl⟩:=X.ty
    have hol':(s.heap.push O).get? l=some ol:=EF _ hol
    have e1:=X.ns
    have e2:=X.nf
    have e3:=X.nd
    have hTl:Shared.TypeIs {s with heap:=s.heap.push O} (.ref l) T:=⟨ol,hol',hcl⟩
    have hdat:O.data=.set #[] 0 (.fresh 0 0 (gB w)):=by rw[<-hO]
    (unfold Builtin.«set.__init__» noKeywords Builtin.Frozenset.updateFrom)
    subst hO
    obtain⟨oc,od,odt,osl⟩:=ol
    simp only at hcl
    subst hcl
    (generalize hPI0:pyIter=PI0)
    wp_walk
    subst hPI0
    have kp:∀b o,s.heap.get? b=some o->(s.heap.push {cls:=.type "set",dict:=none,data:=.set #[] 0 (.fresh 0 0 (gB w))}).get? b=some o:=λb o e=>EF _ e
    refine X.it _ _ _ _ kp ?_
    refine EE (wpAny_runValue ?_)
    have hlS:l < s.heap.objs.size:=EO hol
    have hh3:A.in1.in1.in1.handled=none:=by simp[hh]
    have hneI:l≠(s.heap.push {cls:=.type "set",dict:=none,data:=.set #[] 0 (.fresh 0 0 (gB w))}).objs.size:=by
     rw[Gz];exact Fd (Hw hlS)
    have hSf:s.heap.objs.size∉ [(s.heap.push {cls:=.type "set",dict:=none,data:=.set #[] 0 (.fresh 0 0 (gB w))}).objs.size,l]:=by
     rw[Gz]
     intro z
     rcases EH.mp z with e |z
     ·exact absurd e (Fd (Nat.lt_succ_self _))
     ·exact absurd (E4.mp z) (Nat.ne_of_gt hlS)
    refine jb (X.wk _ _ hh3 hneI) s.heap.objs.size hSf rfl (λi v e=>e) (by simp;omega) s.heap hps (λb o hb e=>?_) (vs.length - 0) 0 _ (by omega) (Fj _) (X.st _ kp) (λb o e=>EF _ (kp b o e)) ?_ ?_
    ·have hlt:=EO e
     rw[Gz] at hb
     rcases EH.mp hb with z |z
     ·exact absurd hlt (by rw[z];exact Fe _)
     ·rw[E4.mp z] at hlt
      exact absurd hlt (Nat.not_lt.mpr (Nat.le_succ _))
    ·refine⟨[],⟨⟨_,0,_,EF _ hS0,⟨rfl,rfl,rfl⟩,rfl,uV _,rfl⟩,λq hq=>(by cases hq),List.nodup_nil⟩,λq hq=>(by cases hq),λp hp=>(by simp at hp)⟩
    ·intro h' tk hm F'
     show wpAny _ _ _ _ _ _
     refine EJ ?_
     show wpAny _ _ (ret Value.none) _ _ _
     refine EJ ⟨rfl,h',tk,rfl,F',λb o e=>hm b o (λz=>?_) (EF _ (kp b o e))⟩
     have hlt:=EO e
     rw[Gz] at z
     rcases EH.mp z with z |z
     ·exact absurd hlt (by rw[z];exact Fe _)
     ·rw[E4.mp z] at hlt
      exact absurd hlt (Nat.not_lt.mpr (Nat.le_succ _))
   ·cases r2 with
    |error e=>exact hr2
    |ok fl2=>
     cases fl2 with
     |ret r=>
      obtain⟨rfl,h',tk,rfl,hF,hk⟩:=hr2
      repeat (any_goals (first |assumption |wp_step))
      exact h _ _ hF hk
     |_=>exact hr2.elim
  |_=>exact hr.elim
end
end L2.ST
namespace L2.SO
open PySem PySem.W PyProof.Rows
def gL {α:Type}(lt:Nat->Nat->Bool):KasT α->α
 | .ret a=>a
 | .ask i j k=>gL lt (k (lt i j))
theorem cM {α β:Type}(lt:Nat->Nat->Bool)(f:α->KasT β):∀t:KasT α,gL lt (t.bind f)=gL lt (f (gL lt t))
 | .ret _=>rfl
 | .ask i j k=>cM lt f (k (lt i j))
def oO {α:Type}(n:Nat)(lt:Nat->Nat->Bool):KasT α->Prop
 | .ret _=>True
 | .ask i j k=>i < n/\j < n/\oO n lt (k (lt i j))
theorem dF {α β:Type}{n:Nat}{lt:Nat->Nat->Bool}{f:α->KasT β}:∀{t:KasT α},oO n lt t->oO n lt (f (gL lt t))->oO n lt (t.bind f)
 | .ret _,_,h=>h
 | .ask i j k,h,h'=>⟨h.1,h.2.1,dF h.2.2 h'⟩
section
variable {n:Nat}{key:Nat->Int}
abbrev jT (key:Nat->Int)(i j:Nat):Bool:=decide (key i < key j)
abbrev Kp (key:Nat->Int)(p:Array Nat)(k:Nat):Int:=key (p.getD k 0)
structure Pm (n:Nat)(p:Array Nat):Prop where
 sz:p.size=n
 nd:p.toList.Nodup
 lt:∀x,x∈p->x < n
def Pm.at {p:Array Nat}(P:Pm n p){k:Nat}(hk:k < n):p.getD k 0 < n:=by
 have h:k < p.size:=by rw[P.sz];exact hk
 simp only[Array.getD,h,dif_pos]
 exact P.lt _ (Array.getElem_mem h)
def Pm.ne {p:Array Nat}(P:Pm n p){i k:Nat}(hi:i < n)(hk:k < n)(hne:i≠k):p.getD i 0≠p.getD k 0:=by
 have h1:i < p.toList.length:=by simpa using (by rw[P.sz];exact hi:i < p.size)
 have h2:k < p.toList.length:=by simpa using (by rw[P.sz];exact hk:k < p.size)
 have h1':i < p.size:=by rw[P.sz];exact hi
 have h2':k < p.size:=by rw[P.sz];exact hk
 have a1:p.getD i 0=p.toList[i]:=by simp[Array.getD,h1']
 have a2:p.getD k 0=p.toList[k]:=by simp[Array.getD,h2']
 rw[a1,a2]
 have q:=GO.mp P.nd
 rcases FL i k with c |c
 ·exact q i k h1 h2 c
 ·exact (q k i h2 h1 (by omega)).symm
def Pm.perm {p q:Array Nat}(P:Pm n p)(h:q.Perm p):Pm n q:=by
 have h':=Array.perm_iff_toList_perm.mp h
 exact⟨by rw[h.size_eq];exact P.sz,h'.nodup_iff.mpr P.nd,λx hx=>P.lt x (by simpa using h'.mem_iff.mp (by simpa using hx))⟩
def qe (n:Nat):Pm n (List.toArray (List.range n)):=⟨by simp,by simpa using GQ,λx hx=>by simpa using hx⟩
def Inj (n:Nat)(key:Nat->Int):Prop:=∀i j,i < n->j < n->key i=key j->i=j
def Pm.tri {p:Array Nat}(P:Pm n p)(hi:Inj n key){i k:Nat}(h1:i < n)(h2:k < n)(hne:i≠k):Kp key p i < Kp key p k\/Kp key p k < Kp key p i:=by
 have:Kp key p i≠Kp key p k:=λe=>P.ne h1 h2 hne (hi _ _ (P.at h1) (P.at h2) e)
 omega
def Up (key:Nat->Int)(p:Array Nat)(m:Nat):Prop:=∀i j,i < j->j < m->Kp key p i < Kp key p j
def Dn (key:Nat->Int)(p:Array Nat)(m:Nat):Prop:=∀i j,i < j->j < m->Kp key p j < Kp key p i
def Up.snoc {p:Array Nat}{m:Nat}(U:Up key p m)(h1:1<=m)(h:Kp key p (m - 1) < Kp key p m):Up key p (m + 1):=λi j hij hj=>by
 rcases FL j m with c |c
 ·exact U i j hij c
 ·have:j=m:=by omega
  subst this
  rcases FL i (j - 1) with d |d
  ·exact Int.lt_trans (U i (j - 1) d (by omega)) h
  ·have:i=j - 1:=by omega
   rw[this];exact h
def Dn.snoc {p:Array Nat}{m:Nat}(U:Dn key p m)(h1:1<=m)(h:Kp key p m < Kp key p (m - 1)):Dn key p (m + 1):=λi j hij hj=>by
 rcases FL j m with c |c
 ·exact U i j hij c
 ·have:j=m:=by omega
  subst this
  rcases FL i (j - 1) with d |d
  ·exact Int.lt_trans h (U i (j - 1) d (by omega))
  ·have:i=j - 1:=by omega
   rw[this];exact h
theorem kT {p:Array Nat}(P:Pm n p)(hi:Inj n key):∀(f m:Nat),1<=m->m + f<=n->Up key p m->
  ∃r,(gL (jT key) (kas_asc p f m)=r/\oO n (jT key) (kas_asc p f m))/\m<=r/\r<=m + f/\Up key p r/\(r < m + f->Kp key p r < Kp key p (r - 1))
 | 0,m,_,_,U=>⟨m,⟨rfl,trivial⟩,EG _,EG _,U,λh=>absurd h (Fe _)⟩
 |f + 1,m,h1,hn,U=>by
  have b1:p.getD m 0 < n:=P.at (by omega)
  have b2:p.getD (m - 1) 0 < n:=P.at (by omega)
  unfold kas_asc gL oO
  by_cases c:Kp key p m < Kp key p (m - 1)
  ·rw[show jT key (p.getD m 0) (p.getD (m - 1) 0)=true from ET c]
   simp only[FH]
   exact⟨m,⟨rfl,b1,b2,trivial⟩,EG _,by omega,U,λ_=>c⟩
  ·rw[show jT key (p.getD m 0) (p.getD (m - 1) 0)=false from E3 c]
   simp only[EU,Fh]
   have up:Kp key p (m - 1) < Kp key p m:=(P.tri hi (by omega) (by omega) (by omega)).resolve_right c
   obtain⟨r,⟨e,o⟩,a,b,u,d⟩:=kT P hi f (m + 1) (by omega) (by omega) (U.snoc h1 up)
   exact⟨r,⟨e,b1,b2,o⟩,by omega,by omega,u,λh=>d (by omega)⟩
theorem mf {p:Array Nat}(P:Pm n p)(hi:Inj n key):∀(f m:Nat),1<=m->m + f<=n->Dn key p m->
  ∃r,(gL (jT key) (kas_desc f p m 0)=(p,r,0)/\oO n (jT key) (kas_desc f p m 0))/\m<=r/\r<=m + f/\Dn key p r
 | 0,m,_,_,U=>⟨m,⟨rfl,trivial⟩,EG _,EG _,U⟩
 |f + 1,m,h1,hn,U=>by
  have b1:p.getD m 0 < n:=P.at (by omega)
  have b2:p.getD (m - 1) 0 < n:=P.at (by omega)
  unfold kas_desc gL oO
  by_cases c:Kp key p m < Kp key p (m - 1)
  ·rw[show jT key (p.getD m 0) (p.getD (m - 1) 0)=true from ET c]
   simp only[FH,Fe,gt_iff_lt,Fh]
   obtain⟨r,⟨e,o⟩,a,b,u⟩:=mf P hi f (m + 1) (by omega) (by omega) (U.snoc h1 c)
   exact⟨r,⟨e,b1,b2,o⟩,by omega,by omega,u⟩
  ·rw[show jT key (p.getD m 0) (p.getD (m - 1) 0)=false from E3 c]
   simp only[EU,Fh]
   unfold gL oO
   have up:Kp key p (m - 1) < Kp key p m:=(P.tri hi (by omega) (by omega) (by omega)).resolve_right c
   rw[show jT key (p.getD (m - 1) 0) (p.getD m 0)=true from ET up]
   simp only[FH]
   exact⟨m,⟨rfl,b1,b2,b2,b1,trivial⟩,EG _,by omega,U⟩
def xn {p:Array Nat}{j k:Nat}(hj:j<=p.size)(hk:k < j):(kas_rev p 0 j).getD k 0=p.getD (j - 1 - k) 0:=by
 unfold kas_rev
 rw[Fi,getElem?_mirror_all hj k,EI ⟨Fj _,hk⟩,Fi]
 congr 2
 omega
def AM {p:Array Nat}{m:Nat}(hm:m<=p.size)(D:Dn key p m):Up key (kas_rev p 0 m) m:=λi j hij hj=>by
 unfold Kp
 rw[xn hm (by omega),xn hm hj]
 exact D (m - 1 - j) (m - 1 - i) (by omega) (by omega)
def Pm.rev {p:Array Nat}(P:Pm n p)(j:Nat):Pm n (kas_rev p 0 j):=P.perm (mirror_perm ..)
def rG {p:Array Nat}(P:Pm n p)(hi:Inj n key)(h1:1<=n) :
  ∃m q,(gL (jT key) (kas_count n p)=(m,q)/\oO n (jT key) (kas_count n p))/\Pm n q/\1<=m/\m<=n/\Up key q m:=by
 obtain⟨r,⟨e,o⟩,a,b,u,d⟩:=kT P hi (n - 1) 1 (EG _) (by omega) (λi j hij hj=>by omega)
 have rest:∃m q,(gL (jT key) (if (r == n)=true then KasT.ret (r,p) else if r > 1 then .ask (p.getD 0 0) (p.getD (r - 1) 0) λc=>if c=true then .ret (r,p) else kas_descPart r n (kas_rev p 0 r) else kas_descPart r n p)=(m,q)/\
   oO n (jT key) (if (r == n)=true then KasT.ret (r,p) else if r > 1 then .ask (p.getD 0 0) (p.getD (r - 1) 0) λc=>if c=true then .ret (r,p) else kas_descPart r n (kas_rev p 0 r) else kas_descPart r n p))/\Pm n q/\1<=m/\m<=n/\Up key q m:=by
  by_cases c:(r == n)=true
  ·rw[EI c]
   exact⟨r,p,⟨rfl,trivial⟩,P,a,by omega,u⟩
  ·rw[EN c]
   have hrn:r≠n:=by simpa using c
   have dd:=d (by omega)
   by_cases c2:r > 1
   ·rw[EI c2]
    unfold gL oO
    rw[show jT key (p.getD 0 0) (p.getD (r - 1) 0)=true from ET (u 0 (r - 1) (by omega) (by omega))]
    simp only[FH]
    exact⟨r,p,⟨rfl,P.at (by omega),P.at (by omega),trivial⟩,P,a,by omega,u⟩
   ·rw[EN c2]
    have hr1:r=1:=by omega
    subst hr1
    unfold kas_descPart
    rw[cM]
    have D2:Dn key p 2:=λi j hij hj=>by
     have e1:i=0:=by omega
     have e2:j=1:=by omega
     rw[e1,e2];exact dd
    obtain⟨x,⟨e2,o2⟩,a2,b2,u2⟩:=mf P hi (n - 2) 2 (by omega) (by omega) D2
    obtain⟨y,⟨e3,o3⟩,a3,b3,u3,_⟩:=kT (P.rev x) hi (n - x) x (by omega) (by omega) (AM (by rw[P.sz];omega) u2)
    rw[show n - (1 + 1)=n - 2 from rfl,show (1 + 1:Nat)=2 from rfl]
    have t3:oO n (jT key) (kas_tail3 x n p):=by
     unfold kas_tail3
     exact dF o3 trivial
    refine⟨y,kas_rev p 0 x,⟨?_,dF o2 ?_⟩,P.rev x,by omega,by omega,u3⟩
    ·rw[e2]
     simp only[Fe,gt_iff_lt,Fh]
     unfold kas_tail3
     rw[cM,e3]
     rfl
    ·rw[e2]
     simp only[Fe,gt_iff_lt,Fh]
     exact t3
 obtain⟨m,q,⟨f1,f2⟩,f3⟩:=rest
 refine⟨m,q,⟨?_,?_⟩,f3⟩
 ·unfold kas_count
  rw[cM,e]
  exact f1
 ·unfold kas_count
  refine dF o ?_
  rw[e]
  exact f2
theorem place_spec {p:Array Nat}{k:Nat}(P:Pm n p)(hi:Inj n key)(hk:k < n)(U:Up key p k):∀(f l r:Nat),l<=r->r<=k->r - l<=f->(∀i,i < l->Kp key p i < Kp key p k)->(∀i,r<=i->i < k->Kp key p k < Kp key p i)->
  ∃x,(gL (jT key) (kas_place p k f l r)=x/\oO n (jT key) (kas_place p k f l r))/\x<=k/\(∀i,i < x->Kp key p i < Kp key p k)/\(∀i,x<=i->i < k->Kp key p k < Kp key p i)
 | 0,l,r,h1,h2,h3,a,b=>⟨l,⟨rfl,trivial⟩,by omega,a,λi hi=>b i (by omega)⟩
 |f + 1,l,r,h1,h2,h3,a,b=>by
  unfold kas_place
  by_cases c:l>=r
  ·rw[EI c]
   exact⟨l,⟨rfl,trivial⟩,by omega,a,λi hi=>b i (by omega)⟩
  ·rw[EN c]
   have b1:p.getD k 0 < n:=P.at hk
   have b2:p.getD ((l + r) / 2) 0 < n:=P.at (by omega)
   unfold gL oO
   by_cases d:Kp key p k < Kp key p ((l + r) / 2)
   ·rw[show jT key (p.getD k 0) (p.getD ((l + r) / 2) 0)=true from ET d]
    simp only[FH]
    have side:∀i,(l + r) / 2<=i->i < k->Kp key p k < Kp key p i:=λi h1 h2=>by
     rcases FL ((l + r) / 2) i with z |z
     ·exact Int.lt_trans d (U _ _ z h2)
     ·have:i=(l + r) / 2:=by omega
      rw[this];exact d
    obtain⟨x,⟨e1,e2⟩,e3⟩:=place_spec P hi hk U f l ((l + r) / 2) (by omega) (by omega) (by omega) a side
    exact⟨x,⟨e1,b1,b2,e2⟩,e3⟩
   ·rw[show jT key (p.getD k 0) (p.getD ((l + r) / 2) 0)=false from E3 d]
    simp only[EU,Fh]
    have d':Kp key p ((l + r) / 2) < Kp key p k:=(P.tri hi (by omega) hk (by omega)).resolve_right d
    have side:∀i,i < (l + r) / 2 + 1->Kp key p i < Kp key p k:=λi h=>by
     rcases FL i ((l + r) / 2) with z |z
     ·exact Int.lt_trans (U _ _ z (by omega)) d'
     ·have:i=(l + r) / 2:=by omega
      rw[this];exact d'
    obtain⟨x,⟨e1,e2⟩,e3⟩:=place_spec P hi hk U f ((l + r) / 2 + 1) r (by omega) h2 (by omega) side b
    exact⟨x,⟨e1,b1,b2,e2⟩,e3⟩
def wW {p:Array Nat}{k l j:Nat}(hk:k < p.size)(hl:l<=k):(bubble p k (k - l)).getD j 0=if j=l then p.getD k 0 else if l < j/\j<=k then p.getD (j - 1) 0 else p.getD j 0:=by
 rw[Fi,getElem?_bubble hk (k - l) (by omega) j,show k - (k - l)=l by omega]
 simp only[Fi]
 split
 ·rfl
 ·split <;> rfl
theorem oP (hi:Inj n key):∀(f k:Nat) (p:Array Nat),Pm n p->1<=k->k + f=n->Up key p k->∃q,(gL (jT key) (kas_bin f p k)=q/\oO n (jT key) (kas_bin f p k))/\Pm n q/\Up key q n
 | 0,k,p,P,_,e,U=>⟨p,⟨rfl,trivial⟩,P,by rw[<-e];exact U⟩
 |f + 1,k,p,P,h1,e,U=>by
  have hk:k < n:=by omega
  obtain⟨l,⟨el,ol⟩,hl,a,b⟩:=place_spec P hi hk U k 0 k (Fj _) (EG _) (by omega) (λi h=>by omega) (λi h h'=>by omega)
  have side:Up key (bubble p k (k - l)) (k + 1):=λi j hij hj=>by
   have hks:k < p.size:=by rw[P.sz];exact hk
   unfold Kp
   rw[wW hks hl,wW hks hl]
   by_cases i1:i=l
   ·rw[EI i1,EN (by omega)]
    by_cases j2:l < j/\j<=k
    ·rw[EI j2];exact b _ (by omega) (by omega)
    ·omega
   ·rw[EN i1]
    by_cases i2:l < i/\i<=k
    ·rw[EI i2,EN (by omega),EI (by omega)]
     exact U _ _ (by omega) (by omega)
    ·rw[EN i2]
     by_cases j1:j=l
     ·rw[EI j1];exact a _ (by omega)
     ·rw[EN j1]
      by_cases j2:l < j/\j<=k
      ·rw[EI j2]
       rcases FL i (j - 1) with z |z
       ·exact U _ _ z (by omega)
       ·omega
      ·rw[EN j2];exact U _ _ hij (by omega)
  obtain⟨q,⟨q1,q2⟩,q3⟩:=oP hi f (k + 1) (bubble p k (k - l)) (P.perm (bubble_perm ..)) (by omega) (by omega) side
  refine⟨q,⟨?_,?_⟩,q3⟩
  ·unfold kas_bin;rw[cM,el];exact q1
  ·unfold kas_bin;refine dF ol ?_;rw[el];exact q2
def t8 (hi:Inj n key)(h2:2<=n):∃q,(gL (jT key) (kas_sort n)=q/\oO n (jT key) (kas_sort n))/\Pm n q/\Up key q n:=by
 obtain⟨m,q,⟨e,o⟩,P,a,b,u⟩:=rG (qe n) hi (by omega)
 by_cases c:m < n
 ·obtain⟨q',⟨e1,o1⟩,r⟩:=oP hi (n - m) m q P a (by omega) u
  refine⟨q',⟨?_,?_⟩,r⟩
  ·unfold kas_sort;rw[cM,e];dsimp only;rw[EI c,Nat.max_eq_left a];exact e1
  ·unfold kas_sort;refine dF o ?_;rw[e];dsimp only;rw[EI c,Nat.max_eq_left a];exact o1
 ·refine⟨q,⟨?_,?_⟩,P,λi j hij hj=>u i j hij (by omega)⟩
  ·unfold kas_sort;rw[cM,e];dsimp only;rw[EN c];rfl
  ·unfold kas_sort;refine dF o ?_;rw[e];dsimp only;rw[EN c];trivial
theorem wp_run {α:Type}{n:Nat}{lt:Nat->Nat->Bool}{cmp:Nat->Nat->(Bool->Shared->Prop)->Shared->Prop}{Q:α->Shared->Prop}{s:Shared} :
  ∀(t:KasT α),(∀i j C,i < n->j < n->C (lt i j) s->cmp i j C s)->oO n lt t->Q (gL lt t) s->t.kasWp cmp Q s
 | .ret a,_,_,h=>h
 | .ask i j k,hc,ho,h=>hc i j _ ho.1 ho.2.1 (wp_run (k (lt i j)) hc ho.2.2 h)
end
end L2.SO
namespace L2.ST
open PySem PySem.SetTable PySem.W PyProof.Rows
def code (p:Pr):Int:=p.1 * 8 + p.2
def sL {p q:Pr}(h1:Sm p)(h2:Sm q):code p < code q↔p.1 < q.1\/(p.1=q.1/\p.2 < q.2):=by
 unfold code Sm at *;omega
def code_inj {p q:Pr}(h1:Sm p)(h2:Sm q)(e:code p=code q):p=q:=by
 unfold code Sm at *
 refine Prod.ext ?_ ?_ <;> omega
section
variable {prog:Program}{w:World}{A:Around}{E:Value->Shared->Prop}{s:Shared}
abbrev lX (ps:List Pr)(i:Nat):Int:=code (ps.getD i (0,0))
def vX {ps:List Pr}(nd:ps.Nodup)(hs:∀p,p∈ps->Sm p):L2.SO.Inj ps.length (lX ps):=λi j hi hj e=>by
 have a1:ps.getD i (0,0)=ps[i]:=by simp[hi]
 have a2:ps.getD j (0,0)=ps[j]:=by simp[hj]
 unfold lX at e
 rw[a1,a2] at e
 have e':=code_inj (hs _ (FN hi)) (hs _ (FN hj)) e
 have q:=GO.mp nd
 rcases Hu i j with c |c |c
 ·exact absurd e' (q i j hi hj c)
 ·exact c
 ·exact absurd e'.symm (q j i hj hi c)
theorem yA {a b:Addr}{p q:Pr}{Q:Bool->Shared->Prop}(ha:aS prog w s.heap p a)(hb:aS prog w s.heap q b)(hp:Sm p)(hq:Sm q)(h:Q (decide (code p < code q)) s) :
  wpAny (model prog w) A (keyLt' (tuples' true) (.ref a) (.ref b)) Q E s:=by
 obtain⟨oa,ia,na,hoa,hca,hda,hia⟩:=ha
 obtain⟨ob,ib,nb,hob,hcb,hdb,hib⟩:=hb
 obtain⟨l1,rfl⟩:∃l,ia=List.toArray l:=⟨ia.toList,by simp⟩
 obtain⟨l2,rfl⟩:∃l,ib=List.toArray l:=⟨ib.toList,by simp⟩
 simp only[Gg] at hia hib
 cases hia with
 | @cons _ v1 _ _ h1 hia=>
  cases hia with
  | @cons _ v2 _ _ h2 hia=>
   cases hia
   cases hib with
   | @cons _ u1 _ _ g1 hib=>
    cases hib with
    | @cons _ u2 _ _ g2 hib=>
     cases hib
     obtain⟨t1,rfl⟩:=Gu h1
     obtain⟨t2,rfl⟩:=Gu h2
     obtain⟨t3,rfl⟩:=Gu g1
     obtain⟨t4,rfl⟩:=Gu g2
     refine kat_lt hoa hda hob hdb ?_
     have hc:=sL hp hq
     refine kat_cons (wpAny_eqBool_int ?_)
     by_cases e1:p.1=q.1
     ·rw[show (p.1 == q.1)=true by simpa using e1]
      refine kat_yes (kat_cons (wpAny_eqBool_int ?_))
      by_cases e2:p.2=q.2
      ·rw[show (p.2 == q.2)=true by simpa using e2]
       refine kat_yes (kat_nil ?_)
       have:decide (code p < code q)=false:=E3 (by rw[hc];omega)
       rw[this] at h
       simpa using h
      ·rw[show (p.2 == q.2)=false by simpa using e2]
       refine kat_no ?_
       show wpAny _ _ (oneLt' false _ _) _ _ _
       refine kat_one _ _ (lt_int ?_)
       have:decide (code p < code q)=decide (p.2 < q.2):=by
        by_cases z:p.2 < q.2
        ·rw[ET z];exact ET (hc.mpr (.inr ⟨e1,z⟩))
        ·rw[E3 z];exact E3 (by rw[hc];omega)
       rw[this] at h;exact h
     ·rw[show (p.1 == q.1)=false by simpa using e1]
      refine kat_no ?_
      show wpAny _ _ (oneLt' true _ _) _ _ _
      refine oneLt_int ?_
      have:decide (code p < code q)=decide (p.1 < q.1):=by
       by_cases z:p.1 < q.1
       ·rw[ET z];exact ET (hc.mpr (.inl z))
       ·rw[E3 z];exact E3 (by rw[hc];omega)
      rw[this] at h;exact h
theorem sF:∀{vs:List Value} {ps:List Pr},bY prog w s.heap vs ps->∃fs,KatTups s.heap vs fs/\fs.length=vs.length/\∀v∈fs,∃(i:Int) (t:Tok),v=.int i t
 | [],ps,_=>⟨[],KatTups.nil,rfl,λv hv=>by cases hv⟩
 |v :: vs,[],h=>by have:=h.1;simp at this
 |v :: vs,p :: ps,h=>by
  obtain⟨a,rfl,⟨o,items,n,ho,hc,hd,hi⟩,_⟩:=h.2 0 v p rfl rfl
  obtain⟨fs,k,e,f⟩:=sF (vs:=vs) (ps:=ps) ⟨by simpa using h.1,λi v p h1 h2=>h.2 (i + 1) v p (by simpa using h1) (by simpa using h2)⟩
  obtain⟨l1,rfl⟩:∃l,items=List.toArray l:=⟨items.toList,by simp⟩
  simp only[Gg] at hi
  cases hi with
  | @cons _ v1 _ _ h1 hi=>
   obtain⟨t1,rfl⟩:=Gu h1
   exact⟨_ :: fs,KatTups.cons ho hc hd rfl k,by simp[e],λv hv=>by
    rcases EH.mp hv with z |z
    ·exact⟨_,_,z⟩
    ·exact f v z⟩
def pz {a:Addr}{vs:List Value}{ps:List Pr}{n:Nat}{P:PySem.Fin->Shared->Prop}(ho:s.heap.get? a=some (seqObj "list" vs.toArray n))(hps:bY prog w s.heap vs ps)(nd:ps.Nodup)(h64:vs.length < 64)
  (h:∀(h':Heap) (c:Nat) (ix:Array Nat),L2.SO.Pm vs.length ix->L2.SO.Up (lX ps) ix vs.length->(∀b o,b≠a->s.heap.get? b=some o->h'.get? b=some o)->
   h'.get? a=some (seqObj "list" (ix.toList.map λi=>vs.getD i Value.none).toArray c)->P (.done (.ret .none)) {s with heap:=h'}) :
  wpAny (model prog w) A (Builtin.«list.sort» ⟨[.ref a],[]⟩) P E s:=by
 have ha:a < s.heap.objs.size:=EO ho
 obtain⟨e1,ho1⟩:∃e1,(s.heap.update a (Obj.mapSeq λ_=>(#[]:Array Value))).get? a=some (seqObj "list" #[] e1):=⟨_,get?_update_seq ho λ_=>#[]⟩
 generalize hH1:(s.heap.update a (Obj.mapSeq λ_=>(#[]:Array Value)))=H1 at ho1
 have sb1:Heap.SameBut a s.heap H1:=by rw[<-hH1];exact Heap.SameBut.update ..
 have kp2:∀b o,H1.get? b=some o->((H1.push (seqObj "tuple" vs.toArray 0)).push (seqObj "list" #[] 0)).get? b=some o:=λb o e=>EF _ (EF _ e)
 generalize hH2:((H1.push (seqObj "tuple" vs.toArray 0)).push (seqObj "list" #[] 0))=H2 at kp2
 have kp:∀b o,b≠a->s.heap.get? b=some o->H2.get? b=some o:=λb o hb e=>kp2 b o ((sb1.2 b hb).trans e)
 have ho2:=kp2 _ _ ho1
 have hps2:bY prog w H2 vs ps:=⟨hps.1,λi v p h1 h2=>by
  obtain⟨b,e,⟨o,it,m,hb,hc,hd,r⟩,hs⟩:=hps.2 i v p h1 h2
  refine⟨b,e,⟨o,it,m,kp b o (λz=>?_) hb,hc,hd,r⟩,hs⟩
  subst z
  rw[ho] at hb;cases hb
  exact absurd hc (by simp[seqObj])⟩
 have hz:vs.length<=sizeLine:=by rw[Fl];omega
 rw[list_sort_plain]
 refine EE (listItems_at ho rfl (EE (listUpdate_at ho rfl ?_ (by simpa using hz) (Fj _))))
 rw[hH1]
 refine EE (seqEpoch_at (s:={s with heap:=H1}) ho1 rfl (EE (wpAny_newTuple ?_ (by simpa using hz))))
 refine EE (wpAny_newList ?_ (Fj _))
 refine FU ?_
 show wpAny (model prog w) A _ P E {s with heap:=(H1.push (seqObj "tuple" vs.toArray 0)).push (seqObj "list" #[] 0)}
 rw[hH2]
 have fin:∀(ix:Array Nat) (st:SortSt),L2.SO.Pm vs.length ix->L2.SO.Up (lX ps) ix vs.length->(arrOf st).map (·.2)=List.toArray (ix.toList.map λi=>vs.getD i Value.none)->failedOf st=none->
   wpAny (model prog w) A (do
    let sorted:=(arrOf st).map (·.2)
    let touched:=(<-seqEpoch a) != e1
    Builtin.List.listUpdate (.ref a) λ_=>sorted
    if let some e:=failedOf st then rule "list.sort.comparison-raised";throw e
    if touched then rule "list.sort.modified";raiseError "ValueError" "list modified during sort"
    ret .none) P E {s with heap:=H2}:=λix st P1 U1 hout hf=>by
  dsimp only
  rw[hout]
  have hsz:(List.toArray (ix.toList.map λi=>vs.getD i Value.none)).size=vs.length:=by simp[P1.sz]
  refine EE (seqEpoch_at (s:={s with heap:=H2}) ho2 rfl ?_)
  refine EE (listUpdate_at (s:={s with heap:=H2}) ho2 rfl ?_ (Fj _) (FK (Nat.le_of_eq hsz) (Nat.le_succ_of_le hz)))
  rw[hf]
  simp only[bne_self_eq_false,EU,Fh]
  obtain⟨c2,hc2⟩:∃c2,(H2.update a (Obj.mapSeq λ_=>List.toArray (ix.toList.map λi=>vs.getD i Value.none))).get? a=some (seqObj "list" (List.toArray (ix.toList.map λi=>vs.getD i Value.none)) c2):=⟨_,get?_update_seq ho2 λ_=>List.toArray (ix.toList.map λi=>vs.getD i Value.none)⟩
  exact EJ (h _ c2 ix P1 U1 (λb o hb e=>((Heap.SameBut.update H2 a _).2 b hb).trans (kp b o hb e)) hc2)
 by_cases h2:vs.length < 2
 ·have h2':vs.toArray.size < 2:=by simpa using h2
  dsimp only
  rw[EI h2',EI h2']
  refine EE (EJ ?_)
  rw[StateT.run_pure]
  refine EE (EJ ?_)
  refine fin (List.toArray (List.range vs.length)) (SortSt.mk' general' (vs.toArray.zip vs.toArray) #[] 7 none) (L2.SO.qe _) (λi j hij hj=>by omega) ?_ rfl
  have:∀{l:List Value},l.length < 2->((l.toArray.zip l.toArray).map (·.2))=List.toArray ((List.range l.length).map λi=>l.getD i Value.none):=λ{l} hl=>by
   match l,hl with
   | [],_=>simp
   | [x],_=>simp
  exact (this h2).trans (by simp)
 ·have h2':¬vs.toArray.size < 2:=by simpa using h2
  dsimp only
  rw[EN h2',EN h2']
  obtain⟨fs,kt,fl,ff⟩:=sF (s:={s with heap:=H2}) hps2
  refine EE (kat_kind (s:={s with heap:=H2}) (T:=.type "int") kt (by omega) (λv hv=>?_) (by decide) ?_)
  ·obtain⟨i,t,rfl⟩:=ff v hv
   exact .now
  ·rw[show ((Value.type "int" != Value.type "tuple"):Bool)=true by decide]
   have hinj:L2.SO.Inj vs.length (lX ps):=by
    rw[hps.1]
    refine vX nd λp hp=>?_
    obtain⟨i,hi,e⟩:=Fg.mp hp
    have hi':i < vs.length:=by rw[hps.1];exact hi
    obtain⟨_,_,_,hs⟩:=hps.2 i vs[i] p (ED hi') (by rw[ED hi,e])
    exact hs
   obtain⟨ix,⟨er,ok⟩,P1,U1⟩:=L2.SO.t8 hinj (by omega)
   refine EE (Gi (kat_run (s:={s with heap:=H2}) (κ:=tuples' true) (ks:=vs) (Q:=λst s'=>s'={s with heap:=H2}/\arrOf st=ix.map (kas_item (vs.toArray.zip vs.toArray))/\failedOf st=none)
    (G:=λp s'=>p=ix/\s'={s with heap:=H2}) rfl (by omega) h64 (λp st s' a1 a2 a3 a4=>?_) (L2.SO.wp_run (n:=vs.length) (lt:=L2.SO.jT (lX ps)) _ (λi j C hi hj hC=>?_) ok ⟨er,rfl⟩)) ?_ λ_ _ x=>x)
   ·obtain⟨rfl,rfl⟩:=a4
    exact⟨rfl,a2,a3⟩
   ·unfold kas_ask
    have hi':i < ps.length:=by rw[<-hps.1];exact hi
    have hj':j < ps.length:=by rw[<-hps.1];exact hj
    obtain⟨b1,eb1,hb1,s1⟩:=hps2.2 i vs[i] ps[i] (ED hi) (ED hi')
    obtain⟨b2,eb2,hb2,s2⟩:=hps2.2 j vs[j] ps[j] (ED hj) (ED hj')
    have e1:vs.getD i Value.none=.ref b1:=by rw[<-eb1];simp[hi]
    have e2:vs.getD j Value.none=.ref b2:=by rw[<-eb2];simp[hj]
    rw[e1,e2]
    refine yA (s:={s with heap:=H2}) hb1 hb2 s1 s2 ?_
    have:L2.SO.jT (lX ps) i j=decide (code ps[i] < code ps[j]):=by
     unfold L2.SO.jT lX;simp[hi',hj']
    rw[<-this];exact hC
   ·rintro⟨⟨⟩,st⟩ s' ⟨rfl,har,hf⟩
    exact fin ix st P1 U1 (kat_snds rfl har) hf
end
def a7:Slot "set_iterator" "__next__" "set_iterator.__next__":=
 Slot.of (owner:="set_iterator") (n:="__next__") (by rw[typeLookup_type,builtinLookup_eq_fast];kernel_rfl) (by decide +kernel) (by decide +kernel) (by decide +kernel) (by first |exact .inl (by decide +kernel) |exact .inr (by decide +kernel)) (by rw[Hs];kernel_rfl)
def fL:entryFor table "set_iterator.__next__"=some Builtin.«set_iterator.__next__»:=entryFor_of_tree (by kernel_rfl)
def gG (a:Value):argsOk "set_iterator.__next__" ⟨[a],[]⟩:=by unfold argsOk;kernel_rfl
def kR:entryFor table "set.__iter__"=some Builtin.«frozenset.__iter__»:=entryFor_alias (id':="frozenset.__iter__") (by kernel_rfl) rfl (by decide +kernel) (by kernel_rfl)
def gF:Slot "set_iterator" "__iter__" "set_iterator.__iter__":=
 Slot.of (owner:="set_iterator") (n:="__iter__") (by rw[typeLookup_type,builtinLookup_eq_fast];kernel_rfl) (by decide +kernel) (by decide +kernel) (by decide +kernel) (by first |exact .inl (by decide +kernel) |exact .inr (by decide +kernel)) (by rw[Hs];kernel_rfl)
def jN:entryFor table "set_iterator.__iter__"=some Builtin.«dict_keyiterator.__iter__»:=entryFor_alias (id':="dict_keyiterator.__iter__") (by kernel_rfl) rfl (by decide +kernel) (by kernel_rfl)
def kh (a:Value):argsOk "set_iterator.__iter__" ⟨[a],[]⟩:=by unfold argsOk;kernel_rfl
def zI (a:Addr)(slot given ep0:Nat):setNext a slot given ep0=(do
  let (es,epoch,t) <-setState a
  if (<-ask).params.followText "set-order" then
   if epoch != ep0 then unsupported "set_iterator.__next__:elements-changed"
   return ((<-setWalk a)[given]?).map λe=>(e.2,slot)
  if !t.plain && es.size > 1 then unsupported "set_iterator.__next__:the-table-is-plain-no-more"
  let u:Unit <-(show Sem Unit from do if !t.led && !es.isEmpty then unsupported "set:maker-not-led")
  let i:=SetTable.below t.place slot
  return match es[i]?,t.place[i]? with
   |some (_,x),some j=>some (x,j + 1)
   |_,_=>none):=by
 unfold setNext setsByText
 simp only[bind_assoc,pure_bind]
 rfl
def y0 (a:Addr):setWalk a=(do
  let (es,epoch,t) <-setState a
  if (<-ask).params.followText "set-order" then return pickOrder ((<-ask).params.setOrder a epoch) es
  if !t.plain && es.size > 1 then return (<-drawOrder es.size es.toList).toArray
  let u:Unit <-(show Sem Unit from do if !t.led && es.size > 1 then unsupported "set:maker-not-led")
  return es):=by
 unfold setWalk setsByText
 simp only[bind_assoc,pure_bind]
 rfl
def vZ (a:Addr):setDrawn a=(do
  let (es,_,t) <-setState a
  let byText <-(do return (<-ask).params.followText "set-order")
  return !byText && (!t.plain && es.size > 1)):=rfl
theorem dN {α:Type}:∀(l:List α) (i:Nat) (h:i < l.length),(l[i] :: l.eraseIdx i).Perm l
 |a :: l,0,_=>List.Perm.refl _
 |a :: l,i + 1,h=>by
  have hi:i < l.length:=by simpa using h
  show (l[i] :: a :: l.eraseIdx i).Perm (a :: l)
  exact (List.Perm.swap ..).trans ((dN l i hi).cons a)
theorem mO {α:Type}(next:Nat->Nat):∀(fuel k:Nat) (left:List α) (out:Array α),left.length=fuel->(pickOrder.go next fuel k left out).toList.Perm (out.toList ++ left)
 | 0,k,left,out,h=>by
  have:left= []:=List.length_eq_zero_iff.mp h
  subst this
  unfold pickOrder.go
  simp
 |fuel + 1,k,left,out,h=>by
  unfold pickOrder.go
  have hlt:next k % left.length < left.length:=Nat.mod_lt _ (by omega)
  rw[ED hlt]
  dsimp only
  refine (mO next fuel (k + 1) _ _ (by rw[List.length_eraseIdx_of_lt hlt];omega)).trans ?_
  rw[Array.toList_push,GJ]
  refine List.Perm.append_left _ ?_
  exact dN left _ hlt
def gM {α:Type}(next:Nat->Nat)(xs:Array α):(pickOrder next xs).toList.Perm xs.toList:=by
 have:=mO next xs.size 0 xs.toList #[] (by simp)
 simpa[pickOrder] using this
section
variable {prog:Program}{w:World}{A:Around}{E:Value->Shared->Prop}{s:Shared}
def told (w:World)(S:Addr)(ep:Nat)(es:Array (Int×Value)):Array (Int×Value):=if w.params.followText "set-order" then pickOrder (w.params.setOrder S ep) es else es
def mT (w:World)(S:Addr)(ep:Nat)(es:Array (Int×Value)):(told w S ep es).toList.Perm es.toList:=by
 unfold told;split
 ·exact gM _ _
 ·exact List.Perm.refl _
abbrev qu (S:Addr)(slot k n ep:Nat):Obj:={cls:=.type "set_iterator",data:=.fields #[.int (slot:Int) 0,.int (k:Int) 0,.ref S,.int (n:Int) 0,.int (ep:Int) 0]}
structure jj (w:World)(S:Addr)(o:Obj)(es:Array (Int×Value))(ep:Nat)(t:SetTable)(I:Addr)(k:Nat)(h:Heap):Prop where
 set:h.get? S=some o
 data:o.data=.set es ep t
 cls:o.cls=.type "set"
 tab:Tab t (es.toList.map (·.1))
 led:t.led=gB w
 it:∃slot,h.get? I=some (qu S slot k es.size ep)/\(gB w=true->slot=if k=0 then 0 else t.place.getD (k - 1) 0 + 1)
def jj.fits {S I:Addr}{o:Obj}{es:Array (Int×Value)}{ep k:Nat}{t:SetTable}{h:Heap}(X:jj w S o es ep t I k h):t.fits es.size=true:=kN X.tab (by simp)
theorem tM {S I:Addr}{o:Obj}{es:Array (Int×Value)}{ep k slot:Nat}{t:SetTable}{Q:Option (Value×Nat)->Shared->Prop}(X:jj w S o es ep t I k s.heap)(hk:k<=es.size)(hs:gB w=true->slot=if k=0 then 0 else t.place.getD (k - 1) 0 + 1)
  (h:∀(r:Option (Value×Nat)),(k < es.size->∃x nx,r=some (x,nx)/\(told w S ep es)[k]?.map (·.2)=some x/\(gB w=true->nx=t.place.getD k 0 + 1))->(k=es.size->r=none)->Q r s) :
  wpAny (model prog w) A (setNext S slot k ep) Q E s:=by
 rw[zI]
 refine EE (FD X.set X.data X.fits ?_)
 dsimp only
 refine EE (Ha ?_)
 dsimp only
 cases hb:w.params.followText "set-order" with
 |true=>
  rw[EI (show (model prog w).w.params.followText "set-order"=true from hb)]
  simp only[bne_self_eq_false,EU,Fh]
  rw[y0]
  refine EE (EE (FD X.set X.data X.fits ?_))
  dsimp only
  refine EE (Ha ?_)
  dsimp only
  rw[EI (show (model prog w).w.params.followText "set-order"=true from hb)]
  refine EE (Ha (EJ (EJ ?_)))
  have et:told w S ep es=pickOrder (w.params.setOrder S ep) es:=by unfold told;rw[EI hb]
  have hsz:(pickOrder (w.params.setOrder S ep) es).size=es.size:=by
   have:=(gM (w.params.setOrder S ep) es).length_eq;simpa using this
  refine h _ (λhlt=>?_) (λe=>?_)
  ·have hlt':k < (pickOrder (w.params.setOrder S ep) es).size:=by rw[hsz];exact hlt
   refine⟨(pickOrder (w.params.setOrder S ep) es)[k].2,slot,?_,?_,λz=>?_⟩
   ·show Option.map _ (pickOrder (w.params.setOrder S ep) es)[k]? =_
    rw[E9 hlt'];rfl
   ·rw[et,E9 hlt'];rfl
   ·unfold gB at z;rw[hb] at z;cases z
  ·show Option.map _ (pickOrder (w.params.setOrder S ep) es)[k]? =_
   rw[GY (by rw[hsz];omega)];rfl
 |false=>
  rw[EN (show ¬(model prog w).w.params.followText "set-order"=true by intro z;rw[show (model prog w).w.params.followText "set-order"=false from hb] at z;cases z)]
  have hl:gB w=true:=by unfold gB;rw[hb];rfl
  rw[X.tab.plain,X.led,hl]
  simp only[GU,Bool.false_and,EU,Fh]
  have et:told w S ep es=es:=by unfold told;rw[hb];simp
  have hps:t.place.size=es.size:=by simpa using X.tab.size
  have hbl:below t.place slot=k:=by
   rw[hs hl]
   obtain⟨b1,b2,b3⟩:=cw X.tab.rise (if k=0 then 0 else t.place.getD (k - 1) 0 + 1)
   by_cases k0:k=0
   ·subst k0
    simp only[FH] at b1 b2 b3 ⊢
    rcases Nat.eq_zero_or_pos (below t.place 0) with z |z
    ·exact z
    ·have:=b2 0 z;omega
   ·rw[EN k0] at b1 b2 b3 ⊢
    have hk1:k - 1 < t.place.size:=by omega
    rcases Hu (below t.place (t.place.getD (k - 1) 0 + 1)) k with z |z |z
    ·have q:=b3 (k - 1) (by omega) hk1
     have e:t.place.getD (k - 1) (t.place.getD (k - 1) 0 + 1)=t.place.getD (k - 1) 0:=by simp[Array.getD,hk1]
     omega
    ·exact z
    ·have hks:k < t.place.size:=by omega
     have q:=b2 k z
     have e:t.place.getD k (t.place.getD (k - 1) 0 + 1)=t.place.getD k 0:=by simp[Array.getD,hks]
     have:=e8 (d:=0) X.tab.rise (show k - 1 < k by omega) hks
     omega
  refine EJ ?_
  rw[hbl]
  refine h _ (λhlt=>?_) (λe=>?_)
  ·have hlt2:k < t.place.size:=by omega
   refine⟨es[k].2,t.place[k] + 1,?_,?_,λ_=>?_⟩
   ·rw[E9 hlt,E9 hlt2]
   ·rw[et,E9 hlt];rfl
   ·simp[Array.getD,hlt2]
  ·rw[GY (by omega)]
def uq {S I:Addr}{o:Obj}{es:Array (Int×Value)}{ep:Nat}{t:SetTable}(hh:A.handled=none)(hne:S≠I) :
  Walks prog w A I [I,S] [I] es.size (λi v=>(told w S ep es)[i]?.map (·.2)=some v) (λi h=>jj w S o es ep t I i h) where
 sub:=λb hb=>EH.mpr (.inl (E4.mp hb))
 frame:=λi h h' X k=>by
  obtain⟨slot,e,r⟩:=X.it
  exact⟨k S (by simp) _ X.set,X.data,X.cls,X.tab,X.led,slot,k I (by simp) _ e,r⟩
 item:=λi s Q E hi X hQ=>by
  obtain⟨slot,e,r⟩:=X.it
  have hT:s.TypeIs (.ref I) "set_iterator":=⟨_,e,rfl⟩
  unfold pyNext
  refine EE (wpAny_attempt (wpAny_callSpecial?_slot (name:=Str.ofString "__next__") hT a7 (Hb a7 hT fL ?_ (gG _))))
  unfold Builtin.«set_iterator.__next__»
  refine EE (m:=slotArgs "__next__" 0 _) (EJ ?_)
  dsimp only
  unfold fieldsOf
  refine EE (EE (wpAny_load e (EJ ?_)))
  dsimp only
  unfold setEntries
  refine EE (EE (FD X.set X.data X.fits (EJ ?_)))
  dsimp only
  rw[EN (by simp)]
  refine EE ?_
  simp only[FJ]
  refine tM X (Nat.le_of_lt hi) r λrr h1 _=>?_
  obtain⟨x,nx,rfl,h2,h3⟩:=h1 hi
  dsimp only
  refine EE (G7 e rfl (by simp) ?_)
  have e2:=Fu (Obj.mapFields λvs=>vs.setIfInBounds 0 (rawInt (nx:Int))) e rfl
  refine EE (G7 e2 rfl (by simp) ?_)
  refine EJ ⟨x,rfl,EJ ?_⟩
  have sb:=(Heap.SameBut.update s.heap I (Obj.mapFields λvs=>vs.setIfInBounds 0 (rawInt (nx:Int)))).trans (Heap.SameBut.update _ I (Obj.mapFields λvs=>vs.setIfInBounds 1 (rawInt ((i:Int) + 1))))
  refine hQ x _ _ h2 ⟨(sb.2 S hne).trans X.set,X.data,X.cls,X.tab,X.led,nx,?_,λz=>?_⟩ λb o hb eb=>(sb.2 b (by simpa using hb)).trans eb
  ·exact Fu (Obj.mapFields λvs=>vs.setIfInBounds 1 (rawInt ((i:Int) + 1))) e2 rfl
  ·rw[EN (by omega)];exact h3 z
 done:=λs Q E X hQ=>by
  obtain⟨slot,e,r⟩:=X.it
  have hT:s.TypeIs (.ref I) "set_iterator":=⟨_,e,rfl⟩
  unfold pyNext
  refine EE (wpAny_attempt (wpAny_callSpecial?_slot (name:=Str.ofString "__next__") hT a7 (Hb a7 hT fL ?_ (gG _))))
  unfold Builtin.«set_iterator.__next__»
  refine EE (m:=slotArgs "__next__" 0 _) (EJ ?_)
  dsimp only
  unfold fieldsOf
  refine EE (EE (wpAny_load e (EJ ?_)))
  dsimp only
  unfold setEntries
  refine EE (EE (FD X.set X.data X.fits (EJ ?_)))
  dsimp only
  rw[EN (by simp)]
  refine EE ?_
  simp only[FJ]
  refine tM X (EG _) r λrr _ h1=>?_
  rw[h1 rfl]
  dsimp only
  refine EE (G7 e rfl (by simp) ?_)
  (show wpAny _ _ (newExc (.type "StopIteration") [] >>= λx=>raiseNew x) _ _ _)
  refine EE ?_
  simp only[newExc,newTuple]
  (refine EE (GL ?_ (by size_fits)))
  (refine EE (m:=firstArgMember _ _) (wpAny_of_eq (a:=Value.none) (by first |rfl | (simp only[firstArgMember];rfl)) ?_))
  (refine GL ?_ (by size_fits))
  simp only[raiseNew]
  refine EE (wpAny_handled ?_)
  (rw[show A.in1.handled=none from hh])
  refine EE (EJ (wpAny_throw ?_))
  refine EE (wpAny_isInstance (T:="StopIteration") (b:=true) ⟨_,EW _ rfl,rfl⟩ isSubtype_stop (EJ (hQ _ _ λb o hb eb=>?_)))
  exact EF _ (EF _ (((Heap.SameBut.update ..).2 b (by simpa using hb)).trans eb))
 self:=λi s Q E X hQ=>by
  obtain⟨slot,e,r⟩:=X.it
  have hT:s.TypeIs (.ref I) "set_iterator":=⟨_,e,rfl⟩
  refine wpAny_pyIter_slot hT gF (Hb gF hT jN ?_ (kh _))
  show wpAny _ _ (ret (.ref I)) _ _ s
  exact EJ ⟨_,rfl,"set_iterator",_,hT,a7.lookup,hQ⟩
def wO {S:Addr}{o:Obj}{es:Array (Int×Value)}{ep:Nat}{t:SetTable}{Q:Value->Shared->Prop}(ho:s.heap.get? S=some o)(hd:o.data=.set es ep t)(hc:o.cls=.type "set")(T:Tab t (es.toList.map (·.1)))(hl:t.led=gB w)
  (h:Q (.ref s.heap.objs.size) {s with heap:=s.heap.push (qu S 0 0 es.size ep)}):wpAny (model prog w) A (pyIter (.ref S)) Q E s:=by
 have hT:s.TypeIs (.ref S) "set":=⟨o,ho,hc⟩
 have hf:t.fits es.size=true:=kN T (by simp)
 refine wpAny_pyIter_slot hT F.slot_set_iter (Hb F.slot_set_iter hT kR ?_ (F.args_set_iter_1 _))
 unfold Builtin.«frozenset.__iter__» Builtin.Frozenset.slot0
 refine EE (EE (m:=slotArgs "__iter__" 0 _) (EJ (EJ ?_)))
 unfold Builtin.Frozenset.sizeOf setEntries
 refine EE (EE (EE (FD ho hd hf (EJ (EJ ?_)))))
 rw[vZ]
 refine EE (EE (FD ho hd hf ?_))
 dsimp only
 refine EE (EE (Ha (EJ (EJ ?_))))
 rw[T.plain]
 simp only[GU,Bool.false_and,Bool.and_false,EU,Fh]
 refine EE (EJ ?_)
 unfold setEpoch
 refine EE (EE (FD ho hd hf (EJ ?_)))
 refine EE (GL (EJ ⟨_,rfl,"set_iterator",_,⟨_,EW _ rfl,rfl⟩,a7.lookup,h⟩))
def pV {S:Addr}{o:Obj}{es:Array (Int×Value)}{ep:Nat}{t:SetTable}{Q:List Value->Shared->Prop}(hh:A.handled=none)(ho:s.heap.get? S=some o)(hd:o.data=.set es ep t)(hc:o.cls=.type "set")(T:Tab t (es.toList.map (·.1)))(hl:t.led=gB w)
  (hn:es.size<=64) (h:∀h' tk vs,vs=(told w S ep es).toList.map (·.2)->(∀b o,s.heap.get? b=some o->h'.get? b=some o)->Q vs {s with heap:=h',toks:=tk}):wpAny (model prog w) A (collect (.ref S)) Q E s:=by
 have hz:es.size<=sizeLine:=by rw[Fl];omega
 unfold collect
 (refine EE (wpAny_runValue (FQ F.entry_proto_collect ?_)))
 (rw[FF F.plain_proto_collect _])
 show wpAny _ A.in1 (newList [] >>= λl=>again (.builtin "list.__iadd__" ⟨[l,.ref S],[]⟩)) _ _ s
 refine EE (GL ?_)
 (refine EJ ⟨Gj F.plain_list_iadd _,FQ F.entry_list_iadd ?_⟩)
 (rw[FF F.plain_list_iadd _])
 show wpAny _ A.in1 (Builtin.List.listExtendWith (.ref s.heap.objs.size) (.ref S) (.ref s.heap.objs.size)) _ _ {s with heap:=s.heap.push (seqObj "list" #[] 0)}
 generalize hH:s.heap.push (seqObj "list" #[] 0)=H1
 have kp1:∀b o,s.heap.get? b=some o->H1.get? b=some o:=λb o e=>by rw[<-hH];exact EF _ e
 have hD:H1.get? s.heap.objs.size=some (seqObj "list" #[] 0):=by rw[<-hH];exact EW _ rfl
 have hHs:H1.objs.size=s.heap.objs.size + 1:=by rw[<-hH];exact Gz ..
 have hSD:S≠s.heap.objs.size:=Fd (EO ho)
 have hT:Shared.TypeIs {s with heap:=H1} (.ref S) "set":=⟨o,kp1 _ _ ho,hc⟩
 unfold Builtin.List.listExtendWith
 refine EE (wpAny_typeOf hT ?_)
 have h1:Builtin.List.listSameRef (.ref s.heap.objs.size) (.ref S)=false:=by simp[Builtin.List.listSameRef,Ne.symm hSD]
 have h2:(Value.type "set" == Value.type "list")=false:=by decide
 have h3:(Value.type "set" == Value.type "tuple")=false:=by decide
 rw[h1,h2,h3]
 simp only[Bool.or_false,EU,Fh]
 refine EE (wO (s:={s with heap:=H1}) (kp1 _ _ ho) hd hc T hl ?_)
 refine EE (FU ?_)
 unfold Builtin.List.listLengthHint
 have hT2:Shared.TypeIs {s with heap:=H1.push (qu S 0 0 es.size ep)} (.ref S) "set":=⟨o,EF _ (kp1 _ _ ho),hc⟩
 refine EE (wpAny_specialOf hT2 F.slot_set_len.lookup ?_)
 wp_delta
 refine EE (wpAny_isInstance hT2 (b:=true) (by rw[Hs];kernel_rfl) ?_)
 show wpAny _ A.in1 (typeOf (Value.ref S) >>= λ_=>_) _ _ _
 refine EE (wpAny_typeOf hT2 ?_)
 refine EJ ?_
 show wpAny _ A.in1 (rule "list.extend.makes-room" >>= λ_=>Builtin.List.listTouch (.ref s.heap.objs.size) >>= λ_=>again (.builtin "list.extend.loop" ⟨[.ref s.heap.objs.size,.ref H1.objs.size,.ref s.heap.objs.size],[]⟩)) _ _ _
 refine EE (wpAny_rule (EE ?_))
 generalize hH2:H1.push (qu S 0 0 es.size ep)=H2
 have kp2:∀b o,H1.get? b=some o->H2.get? b=some o:=λb o e=>by rw[<-hH2];exact EF _ e
 have hI:H2.get? H1.objs.size=some (qu S 0 0 es.size ep):=by rw[<-hH2];exact EW _ rfl
 have hS0:=kp2 _ _ hD
 show wpAny _ A.in1 (updateSeq s.heap.objs.size (·.push .none) >>= λ_=>updateSeq s.heap.objs.size (·.pop)) _ _ _
 refine EE (Hi (s:={s with heap:=H2}) hS0 rfl ?_)
 have hS2:=Fu (Obj.mapSeq (·.push Value.none)) hS0 rfl
 refine Hi (hz:=by seq_fits) hS2 rfl ?_
 have hS3:=Fu (Obj.mapSeq (·.pop)) hS2 rfl
 have oth:∀b o,b≠s.heap.objs.size->H2.get? b=some o->((H2.update s.heap.objs.size (Obj.mapSeq (·.push Value.none))).update s.heap.objs.size (Obj.mapSeq (·.pop))).get? b=some o:=λb o hb e=>
  ((Heap.SameBut.update _ s.heap.objs.size (Obj.mapSeq (·.pop))).2 b hb).trans (((Heap.SameBut.update H2 s.heap.objs.size (Obj.mapSeq (·.push Value.none))).2 b hb).trans e)
 have hIS:S≠H1.objs.size:=by rw[hHs];exact Fd (Hw (EO ho))
 have hID:H1.objs.size≠s.heap.objs.size:=by rw[hHs];exact Nat.succ_ne_self _
 have hDf:s.heap.objs.size∉ [H1.objs.size,S]:=λz=>by
  rcases EH.mp z with e |z
  ·exact hID e.symm
  ·exact hSD (E4.mp z).symm
 have X0:jj w S o es ep t H1.objs.size 0 ((H2.update s.heap.objs.size (Obj.mapSeq (·.push Value.none))).update s.heap.objs.size (Obj.mapSeq (·.pop))):=
  ⟨oth _ _ hSD (kp2 _ _ (kp1 _ _ ho)),hd,hc,T,hl,0,oth _ _ hID hI,λ_=>rfl⟩
 refine EJ ⟨Gj F.plain_extend_loop _,codeAny_extend_loopS (uq (A:=A.in1) (o:=o) (t:=t) hh hIS).toS hz _ hDf _ es.size 0 _ _ _ rfl (Fj _) X0 hS3 (ItemsOf.nil _) λs' acc' c' hm hS' hacc=>?_⟩
 show wpAny _ A (load s.heap.objs.size >>= λ_=>_) _ _ s'
 refine EE (wpAny_load hS' (EJ ?_))
 obtain⟨h',g',d',tk',os'⟩:=s'
 have eg:g'=s.gens:=hm.gens
 have ed:d'=s.drawn:=hm.drawn
 have eo:os'=s.os:=hm.os
 subst eg ed eo
 refine h h' tk' acc'.toList ?_ λb ob e=>hm.heap b ob (λhb=>?_) (oth b ob (Fd (EO e)) (kp2 _ _ (kp1 _ _ e)))
 ·have hts:(told w S ep es).size=es.size:=by have:=(mT w S ep es).length_eq;simpa using this
  apply Hv
  intro i
  rw[ES]
  by_cases hi:i < es.size
  ·have hi1:i < acc'.size:=by rw[hacc.1];exact hi
   have q:=hacc.2 i acc'[i] (E9 hi1)
   rw[Gm,Gm,E9 hi1]
   exact q.symm
  ·rw[Gm,Gm,GY (by rw[hacc.1];omega),GY (by omega)];rfl
 ·have hlt:=EO e
  rcases EH.mp hb with z |z
  ·rw[z] at hlt;exact Fe _ hlt
  ·rw[E4.mp z,hHs] at hlt;exact absurd hlt (Nat.not_lt.mpr (Nat.le_succ _))
end
end L2.ST
namespace OM
abbrev Pr:=Int×Int
def zO (p q:Pr):Prop:=p.1 < q.1\/(p.1=q.1/\p.2 < q.2)
def gq (p:Pr):¬zO p p:=by unfold zO;omega
def tV {p q r:Pr}(a:zO p q)(b:zO q r):zO p r:=by unfold zO at *;omega
abbrev pB (l:List Pr):Prop:=l.Pairwise zO
theorem gn:∀{l m:List Pr},pB l->pB m->(∀x,x∈l↔x∈m)->l=m
 | [],[],_,_,_=>rfl
 | [],b :: m,_,_,h=>absurd ((h b).mpr (EL ..)) (by simp)
 |a :: l,[],_,_,h=>absurd ((h a).mp (EL ..)) (by simp)
 |a :: l,b :: m,hl,hm,h=>by
  have hl':=GB.mp hl
  have hm':=GB.mp hm
  have e:a=b:=by
   rcases EH.mp ((h a).mp (EL ..)) with e |e
   ·exact e
   ·rcases EH.mp ((h b).mpr (EL ..)) with e' |e'
    ·exact e'.symm
    ·exact absurd (tV (hm'.1 a e) (hl'.1 b e')) (gq _)
  subst e
  congr 1
  refine gn hl'.2 hm'.2 λx=>⟨λhx=>?_,λhx=>?_⟩
  ·rcases EH.mp ((h x).mp (EK _ hx)) with e |e
   ·subst e;exact absurd (hl'.1 x hx) (gq _)
   ·exact e
  ·rcases EH.mp ((h x).mpr (EK _ hx)) with e |e
   ·subst e;exact absurd (hm'.1 x hx) (gq _)
   ·exact e
def fM {l:List Pr}(h:pB l):l.Nodup:=h.imp λ{a b} hab e=>by subst e;exact gq _ hab
def qU {l:List Pr}(p:Pr->Bool)(h:pB l):pB (l.filter p):=h.sublist List.filter_sublist
def dO (n:Nat):List Pr:=(List.range (n * n)).map λk=>(((k / n:Nat):Int),((k % n:Nat):Int))
def dR {n:Nat}{p:Pr}:p∈dO n↔(0<=p.1/\p.1 < n)/\(0<=p.2/\p.2 < n):=by
 unfold dO
 rw[ER]
 constructor
 ·rintro⟨k,hk,rfl⟩
  have hk:=E2.mp hk
  have hn:0 < n:=by
   rcases Nat.eq_zero_or_pos n with e |e
   ·subst e;omega
   ·exact e
  have h1:k / n < n:=Nat.div_lt_of_lt_mul hk
  have h2:k % n < n:=Nat.mod_lt _ hn
  generalize k / n=q at h1
  generalize k % n=r at h2
  exact⟨⟨Int.natCast_nonneg _,by dsimp only;omega⟩,⟨Int.natCast_nonneg _,by dsimp only;omega⟩⟩
 ·rintro⟨⟨a0,a1⟩,⟨b0,b1⟩⟩
  have hn:0 < n:=by omega
  refine⟨p.1.toNat * n + p.2.toNat,E2.mpr ?_,?_⟩
  ·have h1:p.1.toNat + 1<=n:=by omega
   have h2:p.2.toNat < n:=by omega
   have:=Nat.mul_le_mul_right n h1
   rw[Nat.add_mul] at this
   omega
  ·have h2:p.2.toNat < n:=by omega
   have e1:(p.1.toNat * n + p.2.toNat) / n=p.1.toNat:=by
    rw[Nat.mul_comm,Nat.mul_add_div hn,Nat.div_eq_of_lt h2];rfl
   have e2:(p.1.toNat * n + p.2.toNat) % n=p.2.toNat:=by
    rw[Nat.mul_comm,Nat.mul_add_mod,Nat.mod_eq_of_lt h2]
   rw[e1,e2]
   refine Prod.ext ?_ ?_ <;> dsimp only <;> omega
def p5 (n:Nat):pB (dO n):=by
 unfold dO
 refine FI.mpr (FP ?_ List.pairwise_lt_range)
 intro a b ha hb hab
 have ha:=E2.mp ha
 have hb:=E2.mp hb
 have hn:0 < n:=by
  rcases Nat.eq_zero_or_pos n with e |e
  ·subst e;omega
  ·exact e
 have h1:a / n<=b / n:=Nat.div_le_div_right (Nat.le_of_lt hab)
 have e1:=Nat.div_add_mod a n
 have e2:=Nat.div_add_mod b n
 unfold zO
 dsimp only
 rcases FL (a / n) (b / n) with c |c
 ·left;omega
 ·right
  have e:a / n=b / n:=by omega
  rw[e] at e1
  omega
open Classical in
noncomputable def bq (n:Nat)(R:Int->Int->Prop):List Pr:=(dO n).filter λp=>decide (R p.1 p.2)
def aJ {n:Nat}{R:Int->Int->Prop}{p:Pr}:p∈bq n R↔((0<=p.1/\p.1 < n)/\(0<=p.2/\p.2 < n))/\R p.1 p.2:=by
 unfold bq
 rw[Fv,dR]
 simp
def cf (n:Nat)(R:Int->Int->Prop):pB (bq n R):=qU _ (p5 n)
def rD {n:Nat}{R S:Int->Int->Prop}(h:∀a b:Int,0<=a->a < n->0<=b->b < n->(R a b↔S a b)):bq n R=bq n S:=by
 refine gn (cf n R) (cf n S) λx=>?_
 rw[aJ,aJ]
 constructor
 ·rintro⟨⟨⟨a,b⟩,c,d⟩,r⟩;exact⟨⟨⟨a,b⟩,c,d⟩,(h _ _ a b c d).mp r⟩
 ·rintro⟨⟨⟨a,b⟩,c,d⟩,r⟩;exact⟨⟨⟨a,b⟩,c,d⟩,(h _ _ a b c d).mpr r⟩
def Wn (n:Nat)(l:List Pr):Prop:=∀p,p∈l->(0<=p.1/\p.1 < n)/\(0<=p.2/\p.2 < n)
abbrev Mem (l:List Pr)(a b:Int):Prop:=(a,b)∈l
def uA {n:Nat}{l:List Pr}(w:Wn n l)(r:pB l):bq n (Mem l)=l:=by
 refine gn (cf n _) r λx=>?_
 rw[aJ]
 exact⟨λh=>h.2,λh=>⟨w x h,h⟩⟩
def nI (n:Nat)(R:Int->Int->Prop):Wn n (bq n R):=λ_ h=>(aJ.mp h).1
def wL (n:Nat)(R:Int->Int->Prop):(bq n R).length<=n * n:=by
 unfold bq
 refine FK (FZ ..) ?_
 unfold dO;simp
inductive Tr (R:Int->Int->Prop):Int->Int->Prop
 |one {a b}:R a b->Tr R a b
 |more {a b c}:R a b->Tr R b c->Tr R a c
theorem Tr.trans {R:Int->Int->Prop}{a b c:Int}(h:Tr R a b)(k:Tr R b c):Tr R a c:=by
 induction h with
 |one r=>exact .more r k
 |more r _ ih=>exact .more r (ih k)
theorem Tr.least {R S:Int->Int->Prop}(f:∀a b,R a b->S a b)(t:∀a b c,S a b->S b c->S a c){a b:Int}(h:Tr R a b):S a b:=by
 induction h with
 |one r=>exact f _ _ r
 |more r _ ih=>exact t _ _ _ (f _ _ r) ih
theorem Tr.wn {n:Nat}{l:List Pr}(w:Wn n l){a b:Int}(h:Tr (Mem l) a b):(0<=a/\a < n)/\(0<=b/\b < n):=by
 induction h with
 |one r=>exact w _ r
 |more r _ ih=>exact⟨(w _ r).1,ih.2⟩
structure Ord (n:Nat)(l:List Pr):Prop where
 lo:1<=n
 hi:n<=8
 wn:Wn n l
 ris:pB l
 irr:∀a,(a,a)∉l
 tr:∀a b c,(a,b)∈l->(b,c)∈l->(a,c)∈l
def Ord.tr_mem {n:Nat}{l:List Pr}(O:Ord n l){a b:Int}:Tr (Mem l) a b↔(a,b)∈l:=
 ⟨λh=>h.least (λ_ _ r=>r) λa b c=>O.tr a b c,λh=>.one h⟩
def Ord.closed {n:Nat}{l:List Pr}(O:Ord n l):bq n (Tr (Mem l))=l:=by
 rw[rD (S:=Mem l) λa b _ _ _ _=>O.tr_mem,uA O.wn O.ris]
def Bl {n:Nat}{l:List Pr}(h1:1<=n)(h8:n<=8)(w:Wn n l)(hr:∀a,¬Tr (Mem l) a a):Ord n (bq n (Tr (Mem l))):=
 ⟨h1,h8,nI n _,cf n _,λa h=>hr a (aJ.mp h).2,λa b c h k=>aJ.mpr ⟨⟨(aJ.mp h).1.1,(aJ.mp k).1.2⟩,(aJ.mp h).2.trans (aJ.mp k).2⟩⟩
theorem lK {l m:List Pr}(hl:l.Nodup)(h:∀x,x∈l->x∈m):l.length<=m.length:=by
 induction l generalizing m with
 |nil=>exact Fj _
 |cons a l ih=>
  have ha:=h a (EL ..)
  have hl':=Fq.mp hl
  have:=ih (m:=m.erase a) hl'.2 λx hx=>by
   refine (List.mem_erase_of_ne ?_).mpr (h x (EK _ hx))
   rintro rfl;exact hl'.1 hx
  rw[Hl ha] at this
  have:0 < m.length:=GW ha
  simp only[EZ];omega
def sub_eq {l m:List Pr}(hl:pB l)(hm:pB m)(h:∀x,x∈l->x∈m)(e:l.length=m.length):l=m:=by
 refine gn hl hm λx=>⟨h x,λhx=>Classical.byContradiction λhn=>?_⟩
 have:=lK (l:=x :: l) (m:=m) (Fq.mpr ⟨hn,fM hl⟩) λy hy=>by
  rcases EH.mp hy with e |e
  ·subst e;exact hx
  ·exact h y e
 simp only[EZ] at this
 omega
def more (l:List Pr):List Pr:=l.flatMap λp=>(l.filter λq=>decide (q.1=p.2)).map λq=>(p.1,q.2)
def lh {l:List Pr}{x:Pr}:x∈more l↔∃b,(x.1,b)∈l/\(b,x.2)∈l:=by
 unfold more
 rw[List.mem_flatMap]
 constructor
 ·rintro⟨p,hp,hx⟩
  obtain⟨q,hq,rfl⟩:=ER.mp hx
  obtain⟨hq,e⟩:=Fv.mp hq
  have e:q.1=p.2:=by simpa using e
  exact⟨p.2,hp,by rw[<-e];exact hq⟩
 ·rintro⟨b,h1,h2⟩
  exact⟨(x.1,b),h1,ER.mpr ⟨(b,x.2),Fv.mpr ⟨h2,by simp⟩,rfl⟩⟩
noncomputable def hG (n:Nat)(l:List Pr):List Pr:=bq n (Mem (l ++ more l))
structure Aa (n:Nat)(ps l:List Pr):Prop where
 wn:Wn n l
 ris:pB l
 sub:∀x,x∈ps->x∈l
 sup:∀x,x∈l->Tr (Mem ps) x.1 x.2
def uo {n:Nat}{ps:List Pr}(w:Wn n ps):Aa n ps (bq n (Mem ps)):=
 ⟨nI n _,cf n _,λx hx=>aJ.mpr ⟨w x hx,hx⟩,λ_ hx=>.one (aJ.mp hx).2⟩
def vA {n:Nat}{ps l:List Pr}(B:Aa n ps l):Wn n (l ++ more l):=λx hx=>by
 rcases E6.mp hx with h |h
 ·exact B.wn x h
 ·obtain⟨b,h1,h2⟩:=lh.mp h
  exact⟨(B.wn _ h1).1,(B.wn _ h2).2⟩
def p6 {n:Nat}{ps l:List Pr}(B:Aa n ps l):Aa n ps (hG n l)/\∀x,x∈l->x∈hG n l:=by
 have hs:∀x,x∈l->x∈hG n l:=λx hx=>aJ.mpr ⟨B.wn x hx,FT _ hx⟩
 refine⟨⟨nI n _,cf n _,λx hx=>hs x (B.sub x hx),λx hx=>?_⟩,hs⟩
 rcases E6.mp (aJ.mp hx).2 with h |h
 ·exact B.sup _ h
 ·obtain⟨b,h1,h2⟩:=lh.mp h
  exact (B.sup _ h1).trans (B.sup _ h2)
def v7 {n:Nat}{ps l:List Pr}(B:Aa n ps l)(e:(hG n l).length=l.length):hG n l=bq n (Tr (Mem ps)):=by
 obtain⟨B2,hs⟩:=p6 B
 have q:l=hG n l:=sub_eq B.ris B2.ris hs e.symm
 refine gn B2.ris (cf n _) λx=>⟨λh=>aJ.mpr ⟨B2.wn x h,B2.sup x h⟩,λh=>?_⟩
 rw[<-q]
 have tr:∀a b c:Int,(a,b)∈l->(b,c)∈l->(a,c)∈l:=λa b c h1 h2=>by
  rw[q]
  exact aJ.mpr ⟨⟨(B.wn _ h1).1,(B.wn _ h2).2⟩,Fc _ (lh.mpr ⟨b,h1,h2⟩)⟩
 exact (aJ.mp h).2.least (S:=Mem l) (λa b r=>B.sub _ r) tr
abbrev Tb:=Nat->Nat->Bool
def Tb.set (M:Tb)(a b:Nat):Tb:=λx y=>if x=a/\y=b then true else M x y
def yD (M:Tb)(m:Nat):Prop:=∀k a b,k < m->M a k=true->M k b=true->M a b=true
def Phase (M0 M:Tb)(m:Nat)(D:Nat->Nat->Prop):Prop:=∀a b,M a b=true↔M0 a b=true\/(D a b/\M0 a m=true/\M0 m b=true)
def Phase.start (M:Tb)(m:Nat):Phase M M m λ_ _=>False:=λa b=>by simp
def Phase.row {M0 M:Tb}{m:Nat}{D:Nat->Nat->Prop}(P:Phase M0 M m D)(a:Nat):M a m=true↔M0 a m=true:=by
 rw[P]
 exact⟨λh=>h.elim id λh=>h.2.1,.inl⟩
def Phase.col {M0 M:Tb}{m:Nat}{D:Nat->Nat->Prop}(P:Phase M0 M m D)(b:Nat):M m b=true↔M0 m b=true:=by
 rw[P]
 exact⟨λh=>h.elim id λh=>h.2.2,.inl⟩
def Phase.step {M0 M:Tb}{m:Nat}{D:Nat->Nat->Prop}(P:Phase M0 M m D)(x y:Nat) :
  Phase M0 (if M x m=true/\M m y=true then M.set x y else M) m (λa b=>D a b\/(a=x/\b=y)):=λa b=>by
 have r:=P.row x
 have c:=P.col y
 by_cases h:M x m=true/\M m y=true
 ·rw[EI h]
  unfold Tb.set
  by_cases e:a=x/\b=y
  ·rw[EI e]
   obtain⟨rfl,rfl⟩:=e
   simp only[true_iff]
   exact .inr ⟨.inr (by simp),r.mp h.1,c.mp h.2⟩
  ·rw[EN e,P]
   constructor
   ·rintro (q | ⟨d,q⟩)
    ·exact .inl q
    ·exact .inr ⟨.inl d,q⟩
   ·rintro (q | ⟨d |d,q⟩)
    ·exact .inl q
    ·exact .inr ⟨d,q⟩
    ·exact absurd d e
 ·rw[EN h,P]
  constructor
  ·rintro (q | ⟨d,q⟩)
   ·exact .inl q
   ·exact .inr ⟨.inl d,q⟩
  ·rintro (q | ⟨d | ⟨rfl,rfl⟩,q1,q2⟩)
   ·exact .inl q
   ·exact .inr ⟨d,q1,q2⟩
   ·exact absurd ⟨r.mpr q1,c.mpr q2⟩ h
def Phase.done {M0 M:Tb}{m n:Nat}{D:Nat->Nat->Prop}(P:Phase M0 M m D)(hD:∀a b,a < n->b < n->D a b)(hM:∀a b,M0 a b=true->a < n/\b < n)(T:yD M0 m) :
  yD M (m + 1)/\∀a b,M a b=true->a < n/\b < n:=by
 have hM':∀a b,M a b=true->a < n/\b < n:=λa b h=>by
  rcases (P a b).mp h with q | ⟨_,q1,q2⟩
  ·exact hM a b q
  ·exact⟨(hM _ _ q1).1,(hM _ _ q2).2⟩
 have put:∀a b,M0 a m=true->M0 m b=true->M a b=true:=λa b h1 h2=>(P a b).mpr (.inr ⟨hD a b (hM _ _ h1).1 (hM _ _ h2).2,h1,h2⟩)
 refine⟨λk a b hk h1 h2=>?_,hM'⟩
 rcases FL k m with c |c
 ·rcases (P a k).mp h1 with q1 | ⟨_,q1,q1'⟩
  ·rcases (P k b).mp h2 with q2 | ⟨_,q2,q2'⟩
   ·exact (P a b).mpr (.inl (T k a b c q1 q2))
   ·exact put a b (T k a m c q1 q2) q2'
  ·rcases (P k b).mp h2 with q2 | ⟨_,q2,q2'⟩
   ·exact put a b q1 (T k m b c q1' q2)
   ·exact put a b q1 q2'
 ·have e:k=m:=by omega
  subst e
  exact put a b ((P.row a).mp h1) ((P.col b).mp h2)
structure Tab (n:Nat)(ps:List Pr)(M:Tb):Prop where
 inn:∀a b,M a b=true->a < n/\b < n
 sub:∀a b:Nat,((a:Int),(b:Int))∈ps->M a b=true
 sup:∀a b:Nat,M a b=true->Tr (Mem ps) a b
def Tab.phase {n:Nat}{ps:List Pr}{M0 M:Tb}{m:Nat}{D:Nat->Nat->Prop}(T:Tab n ps M0)(P:Phase M0 M m D):Tab n ps M:=
 ⟨λa b h=>by
  rcases (P a b).mp h with q | ⟨_,q1,q2⟩
  ·exact T.inn a b q
  ·exact⟨(T.inn _ _ q1).1,(T.inn _ _ q2).2⟩,
  λa b h=>(P a b).mpr (.inl (T.sub a b h)),
  λa b h=>by
  rcases (P a b).mp h with q | ⟨_,q1,q2⟩
  ·exact T.sup a b q
  ·exact (T.sup _ _ q1).trans (T.sup _ _ q2)⟩
def Tab.all {n:Nat}{ps:List Pr}{M:Tb}(w:Wn n ps)(T:Tab n ps M)(H:yD M n)(a b:Nat):M a b=true↔Tr (Mem ps) a b:=by
 refine⟨T.sup a b,λh=>?_⟩
 have key:∀{x y:Int},Tr (Mem ps) x y->M x.toNat y.toNat=true:=λ{x y} h=>by
  induction h with
  | @one x y r=>
   have:=w _ r
   refine T.sub _ _ ?_
   have e1:((x.toNat:Nat):Int)=x:=by simp only at this;omega
   have e2:((y.toNat:Nat):Int)=y:=by simp only at this;omega
   rw[e1,e2];exact r
  | @more x y z r _ ih=>
   have:=w _ r
   have e1:((x.toNat:Nat):Int)=x:=by simp only at this;omega
   have e2:((y.toNat:Nat):Int)=y:=by simp only at this;omega
   have q:M x.toNat y.toNat=true:=T.sub _ _ (by rw[e1,e2];exact r)
   exact H y.toNat _ _ (T.inn _ _ q).2 q ih
 have:=key h
 simpa using this
end OM
namespace L2.ST
open PySem PySem.SetTable PySem.W PyProof.Rows
section
variable {prog:Program}{w:World}{A:Around}{E:Value->Shared->Prop}{s:Shared}
def Bd {ps:List Pr}(hs:∀p,p∈ps->Sm p){ix:Array Nat}(P:L2.SO.Pm ps.length ix)(U:L2.SO.Up (lX ps) ix ps.length):OM.pB (ix.toList.map λi=>ps.getD i (0,0)):=by
 refine FI.mpr (GO.mpr λi j hi hj hij=>?_)
 have hi':i < ix.size:=by simpa using hi
 have hj':j < ix.size:=by simpa using hj
 have q:=U i j hij (by rw[<-P.sz];exact hj')
 unfold L2.SO.Kp lX at q
 have ei:ix.getD i 0=ix.toList[i]:=by simp[Array.getD,hi']
 have ej:ix.getD j 0=ix.toList[j]:=by simp[Array.getD,hj']
 rw[ei,ej] at q
 have ai:ix.toList[i] < ps.length:=P.lt _ (by simp)
 have aj:ix.toList[j] < ps.length:=P.lt _ (by simp)
 have bi:Sm (ps.getD ix.toList[i] (0,0)):=by rw[Fb,ED ai];exact hs _ (FN ai)
 have bj:Sm (ps.getD ix.toList[j] (0,0)):=by rw[Fb,ED aj];exact hs _ (FN aj)
 exact (sL bi bj).mp q
def Ay {n:Nat}{ix:Array Nat}(P:L2.SO.Pm n ix){k:Nat}(hk:k < n):k∈ix.toList:=by
 refine Classical.byContradiction λhn=>?_
 have:=aU (l:=k :: ix.toList) (m:=List.range n) (Fq.mpr ⟨hn,P.nd⟩) λx hx=>by
  rcases EH.mp hx with e |e
  ·rw[e];exact E2.mpr hk
  ·exact E2.mpr (P.lt x (by simpa using e))
 simp[P.sz] at this
 omega
theorem BV {h:Heap}{vs:List Value}{ps:List Pr}(hps:bY prog w h vs ps){ix:Array Nat}(P:L2.SO.Pm vs.length ix) :
  bY prog w h (ix.toList.map λi=>vs.getD i Value.none) (ix.toList.map λi=>ps.getD i (0,0)):=by
 refine⟨by simp,λi v p h1 h2=>?_⟩
 rw[ES] at h1 h2
 cases e:ix.toList[i]? with
 |none=>rw[e] at h1;cases h1
 |some k=>
  rw[e] at h1 h2
  have hk:k < vs.length:=P.lt k (by simpa using EX e)
  have hk':k < ps.length:=by rw[<-hps.1];exact hk
  simp[hk,hk'] at h1 h2
  exact hps.2 k v p (by rw[ED hk,h1]) (by rw[ED hk',h2])
def um {v:Value}{vs:List Value}{ps:List Pr}{Q:Value->Shared->Prop}(hps:bY prog w s.heap vs ps)(nd:ps.Nodup)(h64:vs.length < 64)
  (hcol:∀(Q':List Value->Shared->Prop),(∀h' tk,(∀b o,s.heap.get? b=some o->h'.get? b=some o)->Q' vs {s with heap:=h',toks:=tk})->wpAny (model prog w) A.in1 (collect v) Q' (λe s'=>E e s') s)
  (h:∀(h1 h':Heap) (tk:Nat) (D:Addr) (out:List Value) (qs:List Pr) (c:Nat),(∀b o,s.heap.get? b=some o->h1.get? b=some o)->D=h1.objs.size->(∀b o,h1.get? b=some o->h'.get? b=some o)->h'.get? D=some (seqObj "list" out.toArray c)->bY prog w h' out qs->(∀u,u∈out->u∈vs)->OM.pB qs->(∀p,p∈qs↔p∈ps)->
   Q (.ref D) {s with heap:=h',toks:=tk}):wpAny (model prog w) A (call (.builtin "sorted") [v]) Q E s:=by
 have hsm:∀p,p∈ps->Sm p:=λp hp=>by
  obtain⟨i,hi,e⟩:=Fg.mp hp
  have hi':i < vs.length:=by rw[hps.1];exact hi
  obtain⟨_,_,_,hs⟩:=hps.2 i vs[i] p (ED hi') (by rw[ED hi,e])
  exact hs
 (refine Calls.call_function_entry kind_sorted plain_sorted entry_sorted (args_sorted1 _) ?_)
 unfold Builtin.«sorted»
 refine EE (m:=checkCount "sorted" 1 1 ([v]:List Value).length) (EJ ?_)
 refine EE (hcol _ λh1 tk1 k1=>?_)
 have hz:vs.length<=sizeLine:=by rw[Fl];omega
 refine EE (wpAny_newList ?_ hz)
 show wpAny _ _ _ _ _ {s with heap:=h1.push (seqObj "list" vs.toArray 0),toks:=tk1}
 have hoL:(h1.push (seqObj "list" vs.toArray 0)).get? h1.objs.size=some (seqObj "list" vs.toArray 0):=EW _ rfl
 have kp:∀b o,s.heap.get? b=some o->(h1.push (seqObj "list" vs.toArray 0)).get? b=some o:=λb o e=>EF _ (k1 b o e)
 have hp1:bY prog w (h1.push (seqObj "list" vs.toArray 0)) vs ps:=⟨hps.1,λi v p a b=>by
  obtain⟨c,e,⟨o,it,n,ho,r⟩,hs⟩:=hps.2 i v p a b
  exact⟨c,e,⟨o,it,n,kp _ _ ho,r⟩,hs⟩⟩
 have hne:∀b o,s.heap.get? b=some o->b≠h1.objs.size:=λb o e=>Fd (EO (k1 b o e))
 refine EE (FU (Hb slot_list_sort ⟨_,hoL,rfl⟩ entry_list_sort ?_ (args_list_sort _)))
 refine pz (s:={s with heap:=h1.push (seqObj "list" vs.toArray 0),toks:=tk1}) hoL hp1 nd h64 λh' c ix P U hk ho=>?_
 refine⟨_,rfl,EJ ⟨_,rfl,?_⟩⟩
 have kk:∀b o,s.heap.get? b=some o->h'.get? b=some o:=λb o e=>hk b o (hne b o e) (kp b o e)
 have P':L2.SO.Pm ps.length ix:=by rw[<-hps.1];exact P
 have k2:∀b o,h1.get? b=some o->h'.get? b=some o:=λb o e=>hk b o (Fd (EO e)) (EF _ e)
 refine h h1 h' tk1 h1.objs.size _ (ix.toList.map λi=>ps.getD i (0,0)) c k1 rfl k2 ho (BV ⟨hps.1,λi v p a b=>?_⟩ P) (λu hu=>?_) (Bd hsm P' (by rw[<-hps.1];exact U)) λp=>⟨λhp=>?_,λhp=>?_⟩
 ·obtain⟨c,e,⟨o,it,n,ho,r⟩,hs⟩:=hps.2 i v p a b
  exact⟨c,e,⟨o,it,n,kk _ _ ho,r⟩,hs⟩
 ·obtain⟨i,hi,rfl⟩:=ER.mp hu
  have:i < vs.length:=P.lt i (by simpa using hi)
  rw[Fb,ED this]
  exact FN this
 ·obtain⟨i,hi,rfl⟩:=ER.mp hp
  have:i < ps.length:=P'.lt i (by simpa using hi)
  rw[Fb,ED this]
  exact FN this
 ·obtain⟨i,hi,e⟩:=Fg.mp hp
  refine ER.mpr ⟨i,Ay P' hi,?_⟩
  rw[Fb,ED hi,e];rfl
end
end L2.ST
namespace L2
open PySem PySem.Spec PyProof.Rows
abbrev Pr:=Int×Int
abbrev Sm:=L2.ST.Sm
section
variable {X:Cx}{pins:List (Addr×Obj)}{σ:St}{H H':Hp}{s:Shared}
def dt (H H':Hp):Prop:=(∀b xs,H b=some (.tup xs)->H' b=some (.tup xs))/\∀b o u,H b=some (.aL o u)->H' b=some (.aL o u)
def dt.refl (H:Hp):dt H H:=⟨λ_ _ h=>h,λ_ _ _ h=>h⟩
def dt.trans {H H1 H2:Hp}(a:dt H H1)(b:dt H1 H2):dt H H2:=⟨λc xs h=>b.1 c xs (a.1 c xs h),λc o u h=>b.2 c o u (a.2 c o u h)⟩
def ae.grow {H H':Hp}(e:ae H H'):dt H H':=⟨λb xs h=>e b _ h,λb o u h=>e b _ h⟩
def dt.new {H:Hp}{l:Addr}{o:HO}(h:H l=none):dt H (upd H l o):=⟨λb xs e=>by rw[ag (au e h)];exact e,λb o' u e=>by rw[ag (au e h)];exact e⟩
def ae.new {H:Hp}{l:Addr}{o:HO}(h:H l=none):ae H (upd H l o):=λb u e=>by rw[ag (au e h)];exact e
def eB.grow {K:Frag}{a:Addr}{xs:List V}(h:eB K H a xs)(g:dt H H'):eB K H' a xs:=by
 rcases h with (h | ⟨o,h⟩) |h
 ·exact .inl (.inl (g.1 _ _ h))
 ·exact .inl (.inr ⟨o,g.2 _ _ _ h⟩)
 ·exact .inr h
def dt.list {a:Addr}{ys:List V}{o:HO}(h:H a=some (.lst ys)):dt H (upd H a o):=
 ⟨λb xs e=>by rw[ag (Ai e h (by intro z;cases z))];exact e,λb o' u e=>by rw[ag (Ai e h (by intro z;cases z))];exact e⟩
theorem lZ {α β:Type}{f:α->β}:∀{l:List α} {m:List β},m.Perm (l.map f)->∃l':List α,m=l'.map f/\l'.Perm l:=by
 intro l m h
 generalize hk:l.map f=k at h
 induction h generalizing l with
 |nil=>
  have:l= []:=by simpa using hk
  exact⟨[],rfl,by rw[this]⟩
 | @cons x m1 m2 _ ih=>
  cases l with
  |nil=>cases hk
  |cons a l=>
   simp only[Fw,List.cons.injEq] at hk
   obtain⟨l',e,p⟩:=ih hk.2
   exact⟨a :: l',by rw[Fw,hk.1,e],p.cons a⟩
 |swap x y m1=>
  cases l with
  |nil=>cases hk
  |cons a l=>
   cases l with
   |nil=>simp at hk
   |cons b l=>
    simp only[Fw,List.cons.injEq] at hk
    exact⟨b :: a :: l,by rw[Fw,Fw,hk.1,hk.2.1,hk.2.2],List.Perm.swap ..⟩
 |trans _ _ ih1 ih2=>
  obtain⟨l1,e1,p1⟩:=ih2 hk
  obtain⟨l2,e2,p2⟩:=ih1 e1.symm
  exact⟨l2,e2,p2.trans p1⟩
def aA (K:Frag)(H:Hp):List V->List Pr->Prop:=Paired λv p=>∃a,v=.ref a/\eB K H a [.int p.1,.int p.2]
def aA.grow {K:Frag}{vs:List V}{ps:List Pr}(h:aA K H vs ps)(g:dt H H'):aA K H' vs ps:=Paired.mapP h λv p ⟨a,e,q⟩=>⟨a,e,q.grow g⟩
theorem Paired.getP {α β:Type}{F:α->β->Prop}:∀{l:List α} {m:List β} {i:Nat} {x:α},Paired F l m->l[i]? =some x->∃y,m[i]? =some y/\F x y
 |_,_,_,_,.nil,e=>by simp at e
 |_,_,0,_,.cons r _,e=>by simp at e;subst e;exact⟨_,rfl,r⟩
 |_,_,i + 1,x,.cons _ t,e=>by
  obtain⟨u,h1,h2⟩:=Paired.getP (i:=i) (x:=x) t (by simpa using e)
  exact⟨u,by simpa using h1,h2⟩
theorem Paired.getQ {α β:Type}{F:α->β->Prop}:∀{l:List α} {m:List β} {i:Nat} {y:β},Paired F l m->m[i]? =some y->∃x,l[i]? =some x/\F x y
 |_,_,_,_,.nil,e=>by simp at e
 |_,_,0,_,.cons r _,e=>by simp at e;subst e;exact⟨_,rfl,r⟩
 |_,_,i + 1,x,.cons _ t,e=>by
  obtain⟨u,h1,h2⟩:=Paired.getQ (i:=i) (y:=x) t (by simpa using e)
  exact⟨u,by simpa using h1,h2⟩
theorem nt (I:Inv X pins σ H s){a:Addr}{p:Pr}(h:eB X.K H a [.int p.1,.int p.2]):L2.ST.aS X.prog X.w s.heap p a:=by
 obtain⟨its,r,⟨o,ho,hc,n,hd⟩,_⟩:=I.tuple h
 cases r with
 |cons r1 r=>
  cases r with
  |cons r2 r=>
   cases r
   obtain⟨t1,rfl⟩:=r1
   obtain⟨t2,rfl⟩:=r2
   exact⟨o,_,n,ho,hc,hd,.cons (intKind_is ..) (.cons (intKind_is ..) .nil)⟩
def pairs_at (I:Inv X pins σ H s){vs:List V}{us:List Value}{ps:List Pr}(hv:Vals vs us)(h:aA X.K H vs ps)(hs:∀p,p∈ps->Sm p):L2.ST.bY X.prog X.w s.heap us ps:=by
 refine⟨by rw[<-hv.length];exact Paired.length h,λi u p e1 e2=>?_⟩
 obtain⟨v,ev,a,rfl,q⟩:=Paired.getQ h e2
 obtain⟨u',eu,ru⟩:=hv.get ev
 rw[e1] at eu;cases eu
 cases ru
 exact⟨a,rfl,nt I q,hs p (EX e2)⟩
theorem lb (I:Inv X pins σ H s){vs:List V}{us:List Value}{ps:List Pr}(hv:Vals vs us)(h:aA X.K H vs ps){h':Heap}(k:∀b o,s.heap.get? b=some o->h'.get? b=some o):∀{out:List Value} {qs:List Pr},
  (∀u,u∈out->u∈us)->L2.ST.bY X.prog X.w h' out qs->∃ws,Vals ws out/\aA X.K H ws qs
 | [],[],_,_=>⟨[],.nil,.nil⟩
 | [],_ :: _,_,hp=>by have:=hp.1;simp at this
 |_ :: _,[],_,hp=>by have:=hp.1;simp at this
 |u :: out,q :: qs,hm,hp=>by
  obtain⟨ws,a1,a2⟩:=lb I hv h k (out:=out) (qs:=qs) (λx hx=>hm x (EK _ hx)) ⟨by have:=hp.1;simpa using this,λi v p e1 e2=>hp.2 (i + 1) v p (by simpa using e1) (by simpa using e2)⟩
  obtain⟨i,hi,e⟩:=Fg.mp (hm u (EL ..))
  have hi':i < vs.length:=by rw[hv.length];exact hi
  obtain⟨u',eu,ru⟩:=hv.get (ED hi')
  rw[ED hi,e] at eu
  cases eu
  obtain⟨p,ep,a,ea,qa⟩:=Paired.getP h (ED hi')
  rw[ea] at ru
  cases ru
  obtain⟨b,eb,hb,_⟩:=hp.2 0 (.ref a) q rfl rfl
  cases eb
  have pa:L2.ST.aS X.prog X.w h' p a:=by
   obtain⟨o,it,n,ho,r⟩:=nt I qa
   exact⟨o,it,n,k _ _ ho,r⟩
  have:p=q:=L2.ST.aS.inj pa hb
  subst this
  exact⟨.ref a :: ws,.cons rfl a1,.cons ⟨a,rfl,qa⟩ a2⟩
def rX (I:Inv X pins σ H s){vs:List V}{us:List Value}{ps:List Pr}(hv:Vals vs us)(hp:aA X.K H vs ps)(hlen:ps.length < 64){Q:VK}
  (q:∀l ws qs,H l=none->aA X.K H ws qs->OM.pB qs->(∀p,p∈qs↔p∈ps)->Q (.ref l) (upd H l (.lst ws)))
  {h1 h':Heap} {tk:Nat} {D:Addr} {out:List Value} {qs:List Pr} {c:Nat} (k1:∀b o,s.heap.get? b=some o->h1.get? b=some o) (eD:D=h1.objs.size) (k2:∀b o,h1.get? b=some o->h'.get? b=some o)
  (ho:h'.get? D=some (seqObj "list" out.toArray c)) (hpq:L2.ST.bY X.prog X.w h' out qs) (hm:∀u,u∈out->u∈us) (hr:OM.pB qs) (hmem:∀p,p∈qs↔p∈ps):EP X pins σ Q (.ref D) {s with heap:=h',toks:=tk}:=by
 obtain⟨ws,r1,r2⟩:=lb I hv hp (λb o e=>k2 b o (k1 b o e)) hm hpq
 have I1:Inv X pins σ H {s with heap:=h1,toks:=tk}:=I.kept k1
 have hf:H D=none:=by rw[eD];exact I1.hok.fresh (EG _)
 have hz:ws.length<=sizeLine:=by
  have e1:=r1.length
  have e2:out.length=qs.length:=hpq.1
  have e3:=OM.lK (OM.fM hr) λx hx=>(hmem x).mp hx
  rw[Fl];omega
 have I2:Inv X pins σ (upd H D (.lst ws)) {s with heap:=h',toks:=tk}:=I1.laid (t':=tk) k2 (by rw[eD];exact EG _) (show bF X.prog X.w _ h' _ (.lst ws) from⟨hz,out,c,r1,ho⟩)
 exact⟨.ref D,_,I2,rfl,q D ws qs hf r2 hr hmem⟩
abbrev vq (qs:List (Addr×Pr)):List V:=qs.map λq=>V.ref q.1
abbrev pq (qs:List (Addr×Pr)):List Pr:=qs.map (·.2)
def z8 (prog:Program)(w:World)(S:Addr)(qs:List (Addr×Pr))(h:Heap):Prop:=∃o ep t,h.get? S=some o/\o.ExactSet/\o.data=.set (qs.map λq=>(L2.ST.u5 prog w q.2,Value.ref q.1)).toArray ep t/\L2.ST.Tab t (qs.map λq=>L2.ST.u5 prog w q.2)/\t.led=L2.ST.gB w
def ur (prog:Program)(w:World)(S:Addr)(qs:List (Addr×Pr)):HO:=.ext (z8 prog w S qs)
def Ca (P:Program)(w:World)(K:Frag):List V->Hp->VK->Prop:=λxs H Q=>∃a vs ps,xs= [.ref a]/\(dS K H a vs\/eB K H a vs)/\aA K H vs ps/\(∀p,p∈ps->Sm p)/\
 ∀S qs,H S=none->aA K H (vq qs) (pq qs)->(pq qs).Nodup->(∀p,p∈pq qs↔p∈ps)->Q (.ref S) (upd H S (ur P w S qs))
def xD (hc:X.calm=true)(hu:X.A.units + 64 < cLine):bN X (.type "set") (Ca X.prog X.w X.K):=by
 intro pins s σ H xs us Q I r h
 obtain⟨a,vs,ps,rfl,hq,hp,hs,q⟩:=h
 obtain⟨u,rfl,rx⟩:=vals1 r
 cases rx
 have hh:=I.ok.hd hc
 have core:∀{its:List Value} {T:String} {itO:Obj} {St:Addr->Nat->Heap->Prop},Vals vs its->L2.ST.Src X.prog X.w s.heap a its T itO St->wpAny (model X.prog X.w) X.A (call (.type "set") [.ref a]) (EP X pins σ Q) X.xe s:=λ{its T itO St} rv src=>by
  refine L2.ST.lF src hh hu (pairs_at I rv hp hs) λh' tk F k=>?_
  obtain⟨qs,P1,P2,P3⟩:=F
  have hlen:its.length=vs.length:=rv.length.symm
  have back:∀qv:Addr×Pr,qv∈qs->∃b,b=qv.1/\eB X.K H b [.int qv.2.1,.int qv.2.2]:=λqv hqv=>by
   obtain⟨i,hi,e⟩:=Fg.mp (GP (P2 qv hqv).1)
   have hi':i < vs.length:=by rw[<-hlen];exact hi
   obtain⟨u',eu,ru⟩:=rv.get (ED hi')
   rw[ED hi,e] at eu
   cases eu
   obtain⟨p,ep,b,eb,qb⟩:=Paired.getP hp (ED hi')
   rw[eb] at ru
   cases ru
   have pa:L2.ST.aS X.prog X.w h' p qv.1:=by
    obtain⟨o,it,n,ho,r⟩:=nt I qb
    exact⟨o,it,n,k _ _ ho,r⟩
   have:p=qv.2:=L2.ST.aS.inj pa (P1.at' qv hqv).1
   subst this
   exact⟨_,rfl,qb⟩
  have hpv:∀{l:List (Addr×Pr)},(∀x,x∈l->x∈qs)->aA X.K H (vq l) (pq l):=λ{l}=>by
   induction l with
   |nil=>intro _;exact .nil
   |cons y l ih=>
    intro hl
    obtain⟨b,eb,qb⟩:=back y (hl y (EL ..))
    subst eb
    exact .cons ⟨_,rfl,qb⟩ (ih λx hx=>hl x (EK _ hx))
  have hmem:∀p,p∈pq qs↔p∈ps:=λp=>by
   have hpl:ps.length=its.length:=by rw[hlen];exact (Paired.length hp).symm
   constructor
   ·intro hx
    obtain⟨qv,hqv,rfl⟩:=ER.mp hx
    exact GP (P2 qv hqv).2
   ·intro hx
    exact P3 p (by rw[<-hpl,GX (EG _)];exact hx)
  have hf:H s.heap.objs.size=none:=I.hok.fresh (EG _)
  obtain⟨o,ep,t,ho,r1⟩:=P1.ex
  have new:bF X.prog X.w (upd H s.heap.objs.size (ur X.prog X.w s.heap.objs.size qs)) h' s.heap.objs.size (ur X.prog X.w s.heap.objs.size qs):=
   ⟨⟨o,ep,t,ho,r1⟩,⟨o,ho⟩,λh1 h2 ⟨o1,ep1,t1,g1,g2⟩ kk=>⟨o1,ep1,t1,kk _ g1,g2⟩⟩
  exact⟨.ref _,_,I.laid (t':=tk) k (EG _) new,rfl,q _ qs hf (hpv λx hx=>hx) P1.nd hmem⟩
 rcases hq with hq |hq
 ·obtain⟨its,rv,pl,hz⟩:=I.list hq
  exact core rv (L2.ST.Src.list pl.isList)
 ·obtain⟨its,rv,pl,hz⟩:=I.tuple hq
  exact core rv (L2.ST.Src.tuple pl)
def o6 (P:Program)(w:World)(K:Frag):List V->Hp->VK->Prop:=λxs H Q=>∃S qs,xs= [.ref S]/\H S=some (ur P w S qs)/\aA K H (vq qs) (pq qs)/\(∀p,p∈pq qs->Sm p)/\(pq qs).Nodup/\qs.length < 64/\
 ∀l ws rs,H l=none->aA K H ws rs->OM.pB rs->(∀p,p∈rs↔p∈pq qs)->Q (.ref l) (upd H l (.lst ws))
def ni (hc:X.calm=true):bN X (.builtin "sorted") (o6 X.prog X.w X.K):=by
 intro pins s σ H xs us Q I r h
 obtain⟨S,qs,rfl,hS,hp,hs,nd,hl,q⟩:=h
 obtain⟨u,rfl,rx⟩:=vals1 r
 cases rx
 have hh:=I.ok.hd hc
 obtain⟨⟨o,ep,t,ho,hex,hd,T,hled⟩,_,_⟩:z8 X.prog X.w S qs s.heap/\_:=I.hok S _ hS
 have T':L2.ST.Tab t ((qs.map λq=>(L2.ST.u5 X.prog X.w q.2,Value.ref q.1)).toArray.toList.map (·.1)):=by
  rw[Gg,F0];exact T
 have htp:=L2.ST.mT X.w S ep (qs.map λq=>(L2.ST.u5 X.prog X.w q.2,Value.ref q.1)).toArray
 have hmem:∀x,x∈(L2.ST.told X.w S ep (qs.map λq=>(L2.ST.u5 X.prog X.w q.2,Value.ref q.1)).toArray).toList->∃q,q∈qs/\x=(L2.ST.u5 X.prog X.w q.2,Value.ref q.1):=λx hx=>by
  have:=htp.mem_iff.mp hx
  simp only[Gg] at this
  obtain⟨q,hq,e⟩:=ER.mp this
  exact⟨q,hq,e.symm⟩
 obtain⟨q2,e2,p2⟩:∃q2:List (Addr×Pr),(L2.ST.told X.w S ep (qs.map λq=>(L2.ST.u5 X.prog X.w q.2,Value.ref q.1)).toArray).toList=q2.map (λq=>(L2.ST.u5 X.prog X.w q.2,Value.ref q.1))/\q2.Perm qs:=by
  have:=htp
  simp only[Gg] at this
  exact lZ this
 have hp2:aA X.K H (vq q2) (pq q2):=by
  have key:∀{l:List (Addr×Pr)},(∀x,x∈l->x∈qs)->aA X.K H (vq l) (pq l):=λ{l}=>by
   induction l with
   |nil=>intro _;exact .nil
   |cons y l ih=>
    intro hl
    obtain⟨i,hi,e⟩:=Fg.mp (hl y (EL ..))
    obtain⟨p,ep',a,ea,qa⟩:=Paired.getP (l:=vq qs) (m:=pq qs) (i:=i) (x:=.ref y.1) hp (by simp[hi,e])
    have:p=y.2:=by simp[hi,e] at ep';exact ep'.symm
    subst this
    exact .cons ⟨a,ea,qa⟩ (ih λx hx=>hl x (EK _ hx))
  exact key λx hx=>p2.mem_iff.mp hx
 have hv2:Vals (vq q2) (q2.map λq=>Value.ref q.1):=by
  induction q2 with
  |nil=>exact .nil
  |cons y l ih=>exact .cons rfl (by
    clear ih e2 p2 hp2
    induction l with
    |nil=>exact .nil
    |cons z l ih2=>exact .cons rfl ih2)
 have hm2:∀p,p∈pq q2↔p∈pq qs:=λp=>(p2.map (·.2)).mem_iff
 have hpa:=pairs_at I hv2 hp2 λp hpp=>hs p ((hm2 p).mp hpp)
 have hl2:q2.length < 64:=by rw[p2.length_eq];exact hl
 refine L2.ST.um (v:=.ref S) hpa ((p2.map (·.2)).nodup_iff.mpr nd) (by simpa using hl2) (λQ' hQ'=>L2.ST.pV (by simpa using hh) ho hd hex.1 T' hled (by simp;omega) λh' tk vs ev k=>?_) λh1 h' tk D out qs' c k1 eD k2 ho' hpq hm hr hmem'=>?_
 ·rw[ev,e2]
  rw[F0]
  exact hQ' h' tk k
 ·exact rX I hv2 hp2 (by simpa using hl2) (λl ws rs a1 a2 a3 a4=>q l ws rs a1 a2 a3 λp=>(a4 p).trans (hm2 p)) k1 eD k2 ho' hpq hm hr hmem'
end
def jE (cells:List (Str×Addr)):List (Str×NameKind)->List (Str×Addr)->List (Str×Addr)
 | [],cs=>cs
 | (n,k) :: r,cs=>jE cells r (if k == .free then (n,(cells.lookup n).getD 0) :: cs else cs)
def kI {scope:Scope}{env:Env}(h:∀y∈scope.names,y.2=.free->∃c,env.cells.lookup y.1=some c):closureFor scope env=pure (jE env.cells scope.names []):=by
 unfold closureFor
 have key:∀(l:List (Str×NameKind)) (cs:List (Str×Addr)),(∀y∈l,y.2=.free->∃c,env.cells.lookup y.1=some c)->
   (forIn l cs (λ(x:Str×NameKind) (r:List (Str×Addr))=>if (x.2 == NameKind.free)=true then (do let a <-cellOf env x.1;pure (ForInStep.yield ((x.1,a) :: r)):Sem _) else pure (ForInStep.yield r)):Sem (List (Str×Addr)))=pure (jE env.cells l cs):=by
  intro l
  induction l with
  |nil=>intro cs _;rfl
  |cons y l ih=>
   intro cs hy
   obtain⟨n,k⟩:=y
   rw[List.forIn_cons]
   unfold jE
   by_cases hk:(k == NameKind.free)=true
   ·have hk':k=.free:=by simpa using hk
    obtain⟨c,hc⟩:=hy (n,k) (EL ..) hk'
    have hce:cellOf env n=pure c:=by unfold cellOf;rw[hc]
    simp only[hk,FH]
    have hc':env.cells.lookup n=some c:=hc
    rw[hce,hc']
    simp only[pure_bind,Option.getD_some]
    exact ih _ λz hz=>hy z (EK _ hz)
   ·simp only[hk,Fh,EU]
    simp only[pure_bind]
    exact ih _ λz hz=>hy z (EK _ hz)
 have:=key scope.names [] h
 simp only[bind_pure_comp] at this ⊢
 first
  |exact this
  | (rw[this];rfl)
  | (simpa using this)
theorem jD {cells:List (Str×Addr)}{x:Str}:∀{l:List (Str×NameKind)} {cs:List (Str×Addr)},((x,NameKind.free)∈l\/cs.lookup x=some ((cells.lookup x).getD 0))->(jE cells l cs).lookup x=some ((cells.lookup x).getD 0)
 | [],cs,h=>by
  rcases h with h |h
  ·cases h
  ·exact h
 | (n,k) :: r,cs,h=>by
  unfold jE
  refine jD ?_
  by_cases hk:(k == NameKind.free)=true
  ·rw[EI hk]
   by_cases hx:x=n
   ·subst hx;right;simp
   ·rcases h with h |h
    ·rcases EH.mp h with e |e
     ·injection e with e1 _;exact absurd e1 hx
     ·exact .inl e
    ·right
     rw[lookup_cons,show (x == n)=false by simpa using hx]
     exact h
  ·rw[EN hk]
   rcases h with h |h
   ·rcases EH.mp h with e |e
    ·injection e with _ e2;exact absurd (by rw[<-e2];rfl) hk
    ·exact .inl e
   ·exact .inr h
theorem jR {cells:List (Str×Addr)}{x:Str}{c:Addr}:∀{l:List (Str×NameKind)} {cs:List (Str×Addr)},(jE cells l cs).lookup x=some c->((x,NameKind.free)∈l/\c=(cells.lookup x).getD 0)\/cs.lookup x=some c
 | [],cs,h=>.inr h
 | (n,k) :: r,cs,h=>by
  unfold jE at h
  rcases jR h with⟨a,b⟩ |a
  ·exact .inl ⟨EK _ a,b⟩
  ·by_cases hk:(k == NameKind.free)=true
   ·rw[EI hk,lookup_cons] at a
    by_cases hx:x=n
    ·subst hx
     simp at a
     have:k=.free:=by simpa using hk
     subst this
     exact .inl ⟨EL ..,a.symm⟩
    ·rw[show (x == n)=false by simpa using hx] at a
     exact .inr a
   ·rw[EN hk] at a
    exact .inr a
theorem jX {f:Str->NameKind->NameKind}{x:Str}:∀(l:List (Str×NameKind)),(l.map λy=>(y.1,f y.1 y.2)).lookup x=(l.lookup x).map (f x)
 | []=>rfl
 | (n,k) :: l=>by
  rw[Fw,lookup_cons,lookup_cons]
  by_cases hx:x=n
  ·subst hx;simp
  ·have hb:(x == n)=false:=by simpa using hx
   simp only[hb]
   exact jX l
def lG (scope:Scope)(env:Env)(x:Str):(relabel scope env).names.lookup x=(scope.names.lookup x).map λk=>if (k == .free && env.scope.kind == .function && env.kindOf x == some .cell) then .cell else k:=by
 have e:(relabel scope env).names=scope.names.map λy=>(y.1,if (y.2 == .free && env.scope.kind == .function && env.kindOf y.1 == some .cell) then .cell else y.2):=by
  unfold relabel
  dsimp only
  refine Gh λy _=>?_
  obtain⟨n,k⟩:=y
  dsimp only
  split <;> rfl
 rw[e]
 exact jX (f:=λn k=>if (k == .free && env.scope.kind == .function && env.kindOf n == some .cell) then .cell else k) scope.names
def fm (X:Cx)(NB:List Str)(scope:Scope)(C:Addr)(ex:List Addr)(s3:Shared)(H3:Hp)(pn:List (Addr×Obj)):Cx:=
 {X with N:=NB,s₀:=s3,H₀:=H3,env:=compEnvC scope (jE X.env.cells scope.names []) C X.env,outer:=X.stack,ex:=ex,fn:=λ_=>false,pn:=pn,xe:=λ_ _=>False}
def nc (own:Nat)(ixs:List Nat)(σ:St):St:=List.replicate own none ++ ixs.map λi=>(σ[i]?).join
structure bX (X:Cx)(NB:List Str)(own:Nat)(ixs:List Nat)(scope:Scope):Prop where
 kind:scope.kind=.function
 nocell:∀y∈scope.names,y.2≠.cell
 names:∀y∈scope.names,scope.names.lookup y.1=some y.2
 frees:∀y∈scope.names,y.2=.free->X.env.kindOf y.1=some .cell\/X.env.kindOf y.1=some .free
 nd:NB.Nodup
 len:NB.length=own + ixs.length
 at':∀k,k < ixs.length->NB[own + k]? =X.N[ixs.getD k 0]?/\∀x,NB[own + k]? =some x->(x,NameKind.free)∈scope.names
section
variable {X:Cx}{NB:List Str}{own:Nat}{ixs:List Nat}{scope:Scope}{pins:List (Addr×Obj)}{σ:St}{H:Hp}{s:Shared}
def uy (S:bX X NB own ixs scope)(I:Inv X pins σ H s){fp:List Addr}(hfp:∀b∈fp,lT X pins H b)(hob:∀b∈fp,∃o,s.heap.get? b=some o){h1:Heap}{tk:Nat}
  (hn:h1.Ns s.heap.objs.size (λ_=>none)) (hk:∀b o,s.heap.get? b=some o->h1.get? b=some o) :
  Inv (fm X NB scope s.heap.objs.size fp s H (X.pn ++ pins)) [] (nc own ixs σ) H {s with heap:=h1,toks:=tk}:=by
 have stk:=I.stack
 have frees:∀{x:Str},(x,NameKind.free)∈scope.names->∃c,X.env.cells.lookup x=some c:=λ{x} hx=>I.ok.has x (S.frees _ hx rfl)
 have clE:∀{x:Str} {c:Addr},(jE X.env.cells scope.names []).lookup x=some c->(x,NameKind.free)∈scope.names/\X.env.cells.lookup x=some c:=λ{x c} h=>by
  rcases jR h with⟨a,b⟩ |a
  ·obtain⟨c',e⟩:=frees a
   rw[e] at b
   exact⟨a,by rw[e,b];rfl⟩
  ·simp at a
 have kindB:∀x,(fm X NB scope s.heap.objs.size fp s H (X.pn ++ pins)).env.kindOf x=(scope.names.lookup x).map λk=>if (k == .free && X.env.scope.kind == .function && X.env.kindOf x == some .cell) then .cell else k:=λx=>lG scope X.env x
 have isFree:∀{x:Str},((fm X NB scope s.heap.objs.size fp s H (X.pn ++ pins)).env.kindOf x=some .cell\/(fm X NB scope s.heap.objs.size fp s H (X.pn ++ pins)).env.kindOf x=some .free)->(x,NameKind.free)∈scope.names:=λ{x} h=>by
  rw[kindB] at h
  cases e:scope.names.lookup x with
  |none=>rw[e] at h;simp at h
  |some k=>
   have hm:=Gy e
   cases k with
   |free=>exact hm
   |cell=>exact absurd rfl (S.nocell _ hm)
   |_=>rw[e] at h;simp at h
 have neN:∀b o,s.heap.get? b=some o->b≠s.heap.objs.size:=λb o e=>Fd (EO e)
 have cellN:∀{x:Str} {c:Addr},X.env.cells.lookup x=some c->c < s.heap.objs.size:=λ{x c} e=>by
  obtain⟨v,o,ho,_⟩:=I.cell x c e
  exact EO ho
 have ok:(fm X NB scope s.heap.objs.size fp s H (X.pn ++ pins)).Ok:=by
  refine⟨I.ok.mod,S.kind,I.ok.glob,I.ok.blt,EG _,λx y c h1 h2=>I.ok.inj x y c (clE h1).2 (clE h2).2,λx hx=>?_,λx c h=>(by cases h),I.ok.hd,I.ok.frames,.inl rfl,λb hb=>?_,I.bs,FK I.ok.bsz I.sz,λb o e hb=>?_,λb hb hs=>?_,stk,I.stkFree⟩
  ·have hm:=isFree hx
   exact⟨_,jD (.inl hm)⟩
  ·obtain⟨_,f1,f2,f3,f4,f5⟩:=hfp b hb
   refine⟨?_,λx c h z=>f4 x c (clE h).2 z⟩
   obtain⟨o,ho⟩:=hob b hb
   exact neN b o ho
  ·obtain⟨_,f1,f2,f3,f4,f5⟩:=hfp b hb
   rcases f3 with f3 |f3
   ·exact I.ok.noex b o e f3
   ·exact absurd (E7 (EO e) (FK I.ok.bsz f3)) (Fe _)
  ·obtain⟨_,f1,f2,f3,f4,f5⟩:=hfp b hb
   rcases EH.mp (I.stkSub b hs) with z |z
   ·exact f1 z
   ·exact f2 z
 refine⟨ok,rfl,I.bare,Un.kept hk,⟨_,hn,λi x v h1' h2' h3'=>?_⟩,λx c h=>?_,I.hok.fresh (EG _),λx c h=>I.freeC x c (clE h).2,λp hp=>?_,I.hok.kept hk,?_⟩
 ·
  have h1':NB[i]? =some x:=h1'
  have hown:own<=i:=by
   refine Classical.byContradiction λhc=>?_
   have hlt:i < own:=Nat.lt_of_not_le hc
   unfold nc at h2'
   rw[Ft (by simpa using hlt),Gb,EI hlt] at h2'
   cases h2'
  obtain⟨k,rfl⟩:∃k,i=own + k:=⟨i - own,by omega⟩
  have hk':k < ixs.length:=by
   have:=(EV.mp h1').1
   rw[S.len] at this;omega
  obtain⟨e1,e2⟩:=S.at' k hk'
  have hm:=e2 x h1'
  unfold nc at h2'
  rw[Fm (by simp),GF,Nat.add_sub_cancel_left,ES,ED hk'] at h2'
  simp only[Option.map_some,Option.some.injEq] at h2'
  have hix:ixs.getD k 0=ixs[k]:=by simp[hk']
  have hσ:σ[ixs[k]]? =some (some v):=by
   cases e:σ[ixs[k]]? with
   |none=>rw[e] at h2';cases h2'
   |some o=>rw[e] at h2';simp at h2';rw[h2']
  rw[e1,hix] at h1'
  have hkind:=S.frees _ hm rfl
  have hvis:xi X.env.scope x:=hkind.elim (λz=>.inr (.inl z)) (λz=>.inr (.inr z))
  obtain⟨m,hm',hl⟩:=I.loc
  obtain⟨u,r,look⟩:=hl _ x v h1' hσ hvis
  refine⟨u,r,.inr ⟨?_,?_⟩⟩
  ·rw[kindB]
   have hfr:scope.names.lookup x=some .free:=S.names _ hm
   rw[hfr]
   simp only[Option.map_some]
   split
   ·exact .inl rfl
   ·exact .inr rfl
  ·rcases look with⟨z,_⟩ | ⟨_,c,hc,hcell⟩
   ·rcases hkind with q |q
    ·rw[q] at z;cases z
    ·rw[q] at z;cases z
   ·refine⟨c,?_,?_⟩
    ·have:=jD (cells:=X.env.cells) (cs:=[]) (.inl hm)
     rw[hc] at this
     exact this
    ·obtain⟨o,ho,hd⟩:=hcell
     exact⟨o,hk _ _ ho,hd⟩
 ·obtain⟨v,o,ho,hd⟩:=I.cell x c (clE h).2
  exact⟨v,o,hk _ _ ho,hd⟩
 ·have hp':p∈X.pn ++ pins:=by
   rcases E6.mp hp with z |z
   ·exact z
   ·cases z
  obtain⟨e,n,ne,nf,d⟩:=I.pin p hp'
  refine⟨hk _ _ e,n,neN _ _ e,λz=>?_,d⟩
  rcases EH.mp (I.stkSub _ z) with q |q
  ·exact ne q
  ·exact nf q
 ·show (nc own ixs σ).length=NB.length
  unfold nc
  rw[S.len];simp
end
abbrev sY (ifs:List Expr)(env:Env):Sem Bool:=forIn ifs true λc r=>if r=true then do let ok <-isTrue c env (eval c env);pure (ForInStep.yield ok) else pure (ForInStep.yield r)
theorem uc {prog:Program}{w:World}{A:Around}{R:Result->Shared->Prop}{s:Shared}{elt target iter:Expr}{ifs:List Expr}{scope:Scope}{pos:Pos}{it acc:Value}{env:Env}(I:Nat->Shared->Prop)
  (turn:∀n s,I n s->wpAny (model prog w) A (pyNext it) (λr s1=>match r with
   |none=>R (.ok .next) s1
   |some v=>wpAny (model prog w) A (letOwnedTupleGo target it v) (λ_ s1'=>wpAny (model prog w) A (assign target env v) (λ_ s2=>
     wpAny (model prog w) A (sY ifs env) (λok s3=>
      if ok=true then wpAny (model prog w) A (eval elt env) (λx s4=>wpAny (model prog w) A (call (.builtin "list.append") [acc,x]) (λ_ s5=>∃m,m < n/\I m s5) (λ_ _=>False) s4) (λ_ _=>False) s3
      else ∃m,m < n/\I m s3) (λ_ _=>False) s2) (λ_ _=>False) s1') (λ_ _=>False) s1) (λ_ _=>False) s)
  (n:Nat) (h:I n s):codeAny (model prog w) A (.compLoop (.ListComp elt [⟨target,iter,ifs,0⟩] scope pos) 0 it acc env) R s:=by
 refine codeAny_loop rfl I (λn s hI=>?_) n h
 (show wpAny _ A ((compTurn (.ListComp elt [⟨target,iter,ifs,0⟩] scope pos) 0 it acc env).onRaise (λx=>do (noteFrame x env);theTreesLotGoes x)) _ _ s)
 refine wpAny_noted ?_
 rw[compTurn_list]
 refine EE (wpAny_standAt (EE (Gi (turn n s hI) (λr s1 h1=>?_) λ_ _ z=>z.elim)))
 cases r with
 |none=>exact EJ h1
 |some v=>
  refine EE (Gi h1 (λ_ s1' h1'=>?_) λ_ _ z=>z.elim)
  refine EE (Gi h1' (λ_ s2 h2=>EE (Gi h2 (λok s3 h3=>?_) λ_ _ z=>z.elim)) λ_ _ z=>z.elim)
  cases ok with
  |false=>exact EJ ⟨rfl,h3⟩
  |true=>exact EE (EE (Gi h3 (λx s4 h4=>EE (Gi h4 (λ_ s5 h5=>EJ (EJ ⟨rfl,h5⟩)) λ_ _ z=>z.elim)) λ_ _ z=>z.elim))
def wm (X:Cx)(ifs:List Expr)(t:TT):Prop:=
 ∀(pins:List (Addr×Obj)) (s:Shared) (σ:St) (H:Hp) (Q:Bool->Hp->Prop),Inv X pins σ H s->t σ H Q->wpAny (model X.prog X.w) X.A (sY ifs X.env) (TP X pins σ Q) X.xe s
def AU:TT:=λ_ H Q=>Q true H
def nD {X:Cx}:wm X [] AU:=λpins s σ H Q I h=>EJ ⟨H,I,h⟩
def sW {X:Cx}{c:Expr}{t:TT}(h:PT X c t):wm X [c] t:=λpins s σ H Q I q=>wpAny_tests_one (h pins s σ H Q I q)
def rK (own:Nat)(ixs:List Nat)(wi:TI)(g:TG)(tt:TT)(te:TE)(σ:St)(H:Hp)(Q:VK):Prop:=wi σ H λJ H1=>∀D,H1 D=none->∃W:Nat->Nat->St->Hp->Prop,(∃m,W 0 m (nc own ixs σ) (upd H1 D (.lst [])))/\∀i m σ' H',W i m σ' H'->
 (J.stop i H'/\(∃acc,H' D=some (.lst acc))/\Q (.ref D) H')\/
 (J.go i H'/\∃N:St->Hp->Prop,(∀σ2 H2,N σ2 H2->∃m',m' < m/\W (i + 1) m' σ2 H2)/\∀x H2,J.yld i H' x H2->g x σ' H2 λσ3 H3=>tt σ3 H3 λb H4=>
  if b=true then te σ3 H4 λv H5=>∃acc,H5 D=some (.lst acc)/\acc.length < sizeLine/\N σ3 (upd H5 D (.lst (acc ++ [v]))) else N σ3 H4)
section
variable {X:Cx}{NB:List Str}{own:Nat}{ixs:List Nat}{scope:Scope}{elt tg iter:Expr}{ifs:List Expr}{pos:Pos}{wi:TI}{g:TG}{tt:TT}{te:TE}
def l7 (hc:X.calm=true)(S:bX X NB own ixs scope)
  (hg:∀C ex s3 H3 pn,PG (fm X NB scope C ex s3 H3 pn) tg g) (ht:∀C ex s3 H3 pn,wm (fm X NB scope C ex s3 H3 pn) ifs tt) (he:∀C ex s3 H3 pn,PE (fm X NB scope C ex s3 H3 pn) elt te)
  {pins:List (Addr×Obj)} {σ:St} {H1:Hp} {s2:Shared} {it:Addr} {fp:List Addr} {tn:Nat->Heap->Prop} {J:It} {Q:VK} (I2:Inv X pins σ H1 s2) (T:Turn X.prog X.w X.K tg J fp it tn) (st2:tn 0 s2.heap) (f2:∀b∈fp,lT X pins H1 b)
  (hQ:∀D,H1 D=none->∃W:Nat->Nat->St->Hp->Prop,(∃m,W 0 m (nc own ixs σ) (upd H1 D (.lst [])))/\∀i m σ' H',W i m σ' H'->
   (J.stop i H'/\(∃acc,H' D=some (.lst acc))/\Q (.ref D) H')\/
   (J.go i H'/\∃N:St->Hp->Prop,(∀σ2 H2,N σ2 H2->∃m',m' < m/\W (i + 1) m' σ2 H2)/\∀x H2,J.yld i H' x H2->g x σ' H2 λσ3 H3=>tt σ3 H3 λb H4=>
    if b=true then te σ3 H4 λv H5=>∃acc,H5 D=some (.lst acc)/\acc.length < sizeLine/\N σ3 (upd H5 D (.lst (acc ++ [v]))) else N σ3 H4))
  {E:Value->Shared->Prop} {RR:Value->Addr->Result->Shared->Prop}
  (fin:∀D C H' s' m,Inv X pins σ H' s'->Q (.ref D) H'->s'.heap.Ns C m->H' C=none->C≠X.env.locals->(∀x c,X.env.cells.lookup x=some c->c≠C)->X.s₀.heap.objs.size<=C->(∀p∈X.pn ++ pins,p.1≠C)->RR (.ref D) C (.ok .next) s') :
  wpAny (model X.prog X.w) X.A (newList []) (λacc s3=>wpAny (model X.prog X.w) X.A (newFunctionEnv scope X.env.globals (jE X.env.cells scope.names []) [] X.env.qual none .none (some X.env)) (λcenv s4=>
   codeAny (model X.prog X.w) X.A (.compStart (.ListComp elt [⟨tg,iter,ifs,0⟩] scope pos) 0 (.ref it) acc {cenv with scope:=relabel scope X.env}) (RR acc cenv.locals) s4) E s3) E s2:=by
 refine wpAny_newList ?_ (Fj _)
 have hD:H1 s2.heap.objs.size=none:=I2.hok.fresh (EG _)
 obtain⟨W,⟨m0,w0⟩,turn⟩:=hQ s2.heap.objs.size hD
 generalize hs3:({s2 with heap:=s2.heap.push (seqObj "list" ([]:List Value).toArray 0)}:Shared)=s3
 have I3:Inv X pins σ (upd H1 s2.heap.objs.size (.lst [])) s3:=by
  rw[<-hs3]
  exact I2.lnew (ys:=[]) (its:=[]) (t':=s2.toks) .nil (Fj _)
 have k3:∀b o,s2.heap.get? b=some o->s3.heap.get? b=some o:=λb o e=>by rw[<-hs3];exact EF _ e
 have sz3:s3.heap.objs.size=s2.heap.objs.size + 1:=by rw[<-hs3];exact Gz ..
 have ob2:∀b∈fp,∃o,s2.heap.get? b=some o:=λb hb=>let ⟨o,e,_⟩:=T.obj 0 _ st2 b hb;⟨o,e⟩
 have neD:∀b∈fp,b≠s2.heap.objs.size:=λb hb=>let ⟨o,e⟩:=ob2 b hb;Fd (EO e)
 have f3:∀b∈fp,lT X pins (upd H1 s2.heap.objs.size (.lst [])) b:=λb hb=>by
  obtain⟨a1,a2⟩:=f2 b hb
  exact⟨by rw[ag (neD b hb)];exact a1,a2⟩
 have st3:tn 0 s3.heap:=T.keep _ _ _ st2 λb _ o e=>k3 b o e
 refine wpAny_newFunctionEnv S.nocell (λy hy=>by simp at hy) (λh4 hn4 sb4=>?_) S.kind
 have k4:∀b o,s3.heap.get? b=some o->h4.get? b=some o:=λb o e=>sb4.extBut b o (Fd (EO e)) (EF _ e)
 have I4:Inv (fm X NB scope s3.heap.objs.size fp s3 (upd H1 s2.heap.objs.size (.lst [])) (X.pn ++ pins)) [] (nc own ixs σ) (upd H1 s2.heap.objs.size (.lst [])) {s3 with heap:=h4,toks:=s3.toks + ([]:List (Str×Value)).length}:=
  uy S I3 f3 (λb hb=>let ⟨o,e⟩:=ob2 b hb;⟨o,k3 _ _ e⟩) (by simpa using hn4) k4
 have st4:tn 0 h4:=T.keep _ _ _ st3 λb _ o e=>k4 b o e
 generalize hB:fm X NB scope s3.heap.objs.size fp s3 (upd H1 s2.heap.objs.size (.lst [])) (X.pn ++ pins)=B at I4
 have hgB:PG B tg g:=by rw[<-hB];exact hg _ _ _ _ _
 have htB:wm B ifs tt:=by rw[<-hB];exact ht _ _ _ _ _
 have heB:PE B elt te:=by rw[<-hB];exact he _ _ _ _ _
 have eP:B.prog=X.prog:=by rw[<-hB];rfl
 have eW:B.w=X.w:=by rw[<-hB];rfl
 have eK:B.K=X.K:=by rw[<-hB];rfl
 have eA:B.A=X.A:=by rw[<-hB];rfl
 have eC:B.calm=true:=by rw[<-hB];exact hc
 have eX:B.xe=λ_ _=>False:=by rw[<-hB];rfl
 have eE:B.env=compEnvC scope (jE X.env.cells scope.names []) s3.heap.objs.size X.env:=by rw[<-hB];rfl
 have ex:B.ex=fp:=by rw[<-hB];rfl
 have eL:B.env.locals=s3.heap.objs.size:=by rw[eE];rfl
 have stat:∀{H':Hp},(∀b∈fp,H' b=none)->∀b∈fp,lT B [] H' b:=λ{H'} hn b hb=>by
  obtain⟨a1,a2,a3,a4,a5,a6⟩:=f3 b hb
  obtain⟨o,eo⟩:=ob2 b hb
  refine⟨hn b hb,?_,λz=>?_,.inl (by rw[ex];exact hb),λx c e z=>?_,λp hp z=>?_⟩
  ·rw[eL];exact Fd (EO (k3 _ _ eo))
  ·have hz:b∈fx X.stack:=by rw[<-hB] at z;exact z
   rcases EH.mp (I3.stkSub b hz) with q |q
   ·exact a2 q
   ·exact a3 q
  ·rw[eE] at e
   rcases jR e with⟨m1,m2⟩ |m1
   ·obtain⟨c',e'⟩:=I3.ok.has x (S.frees _ m1 rfl)
    rw[e'] at m2
    exact a5 x c' e' (by rw[<-z,m2];rfl)
   ·simp at m1
  ·have hp':p∈X.pn ++ pins:=by
    rw[<-hB] at hp
    rcases E6.mp hp with q |q
    ·exact q
    ·cases q
   exact a6 p hp' z
 have back:∀{σ':St} {H':Hp} {s':Shared},Inv B [] σ' H' s'->Inv X pins σ H' s':=λ{σ' H' s'} J'=>by
  have u:=J'.base
  have os:=J'.os
  have bare:=J'.bare
  have hok:=J'.hok
  subst hB
  exact I3.call' (ch:=fp) os u hok bare λb hb=>by
   obtain⟨a1,a2,a3,a4,a5,a6⟩:=f3 b hb
   exact⟨a4,a2,a5,a6⟩
 have loop:∀s5:Shared,s5={s3 with heap:=h4,toks:=s3.toks + ([]:List (Str×Value)).length}->
   codeAny (model X.prog X.w) X.A (.compLoop (.ListComp elt [⟨tg,iter,ifs,0⟩] scope pos) 0 (.ref it) (.ref s2.heap.objs.size) (compEnvC scope (jE X.env.cells scope.names []) s3.heap.objs.size X.env)) (RR (.ref s2.heap.objs.size) s3.heap.objs.size) s5:=by
  rintro s5 rfl
  refine uc (λn s'=>∃i σ' H',Inv B [] σ' H' s'/\tn i s'.heap/\(∀b∈fp,H' b=none)/\W i n σ' H') ?_ m0 ⟨0,_,_,I4,st4,λb hb=>(f3 b hb).1,w0⟩
  rintro n s6 ⟨i,σ6,H6,I6,st6,fr6,w6⟩
  rcases turn i n σ6 H6 w6 with⟨stop,⟨acc,hacc⟩,qn⟩ | ⟨go,N,hN,step⟩
  ·have:=T.done B eP eW eK eC i [] s6 σ6 H6 (λ_ _=>False) I6 (stat fr6) st6 stop
   rw[eA] at this
   refine bP this λr s7 ⟨hr,I7⟩=>?_
   subst hr
   obtain⟨m7,hn7,_⟩:=I7.loc
   rw[eL] at hn7
   have J7:=back I7
   refine fin _ _ H6 s7 m7 J7 qn hn7 (by rw[<-eL];exact I7.free) (λz=>?_) (λx c e z=>?_) ?_ λp hp z=>?_
   ·have:=I3.lt
    rw[<-z] at this
    exact Fe _ this
   ·obtain⟨v,o,ho,_⟩:=I3.cell x c e
    exact absurd (EO ho) (by rw[z];exact Fe _)
   ·exact I3.sz
   ·have:=EO (I3.pin p hp).1
    rw[z] at this
    exact Fe _ this
  ·have hitem:=T.item B eP eW eK eC i [] s6 σ6 H6 (λ_ _=>False) I6 (stat fr6) st6 go
   rw[eA] at hitem
   refine bP hitem λr s7 ⟨u,hr,h7⟩=>?_
   subst hr
   refine bP h7 λ_ s8 ⟨x,H8,I8,r8,y8,st8,fr8⟩=>?_
   have I8':=I8.pinned (stat fr8) (T.obj _ _ st8)
   have ha:=hgB _ s8 σ6 H8 x u _ I8' r8 (step x H8 y8)
   rw[eP,eW,eA,eE,eX] at ha
   refine bP ha λ_ s9 ⟨σ9,H9,I9,q9⟩=>?_
   have hb:=htB _ s9 σ9 H9 _ I9 q9
   rw[eP,eW,eA,eE,eX] at hb
   refine bP hb λok s10 ⟨H10,I10,q10⟩=>?_
   have again:∀{σ7:St} {H7:Hp} {s7:Shared},Inv B ([] ++ kJ fp s8.heap) σ7 H7 s7->N σ7 H7->∃m,m < n/\∃i σ' H',Inv B [] σ' H' s7/\tn i s7.heap/\(∀b∈fp,H' b=none)/\W i m σ' H':=λ{σ7 H7 s7} I7 n7=>by
    obtain⟨m',hm,w7⟩:=hN σ7 H7 n7
    refine⟨m',hm,i + 1,σ7,H7,I7.unpinned,T.keep _ _ _ st8 λb hb o e=>(I7.pin (b,o) (Fc _ (Fc _ (fX hb e)))).1,λb hb=>?_,w7⟩
    obtain⟨o,e,d⟩:=T.obj _ _ st8 b hb
    exact (I7.pin (b,o) (Fc _ (Fc _ (fX hb e)))).2.1
   cases ok with
   |false=>
    simp only[EU,Fh] at q10 ⊢
    exact again I10 q10
   |true=>
    simp only[FH] at q10 ⊢
    have hv:=heB _ s10 σ9 H10 _ I10 q10
    rw[eP,eW,eA,eE,eX] at hv
    refine bP hv λy s11 ⟨v,H11,I11,r11,acc,hacc,hz,q11⟩=>?_
    have hap:=jC (X:=B) _ s11 σ9 H11 (.ref s2.heap.objs.size) [v] (.ref s2.heap.objs.size) [y] (λz H'=>z=.non/\N σ9 H') I11 rfl (.cons r11 .nil) ⟨_,acc,v,rfl,rfl,hacc,hz,rfl,q11⟩
    rw[eP,eW,eA,eX] at hap
    exact bP hap λ_ s12 ⟨_,H12,I12,_,_,q12⟩=>again I12 q12
 exact codeAny_compStart_list (loop _ rfl) (T.self X.A 0 _ _ _ st4 (loop _ rfl))
def pI (hc:X.calm=true)(S:bX X NB own ixs scope)(hi:PI X tg iter wi)
  (hg:∀C ex s3 H3 pn,PG (fm X NB scope C ex s3 H3 pn) tg g) (ht:∀C ex s3 H3 pn,wm (fm X NB scope C ex s3 H3 pn) ifs tt) (he:∀C ex s3 H3 pn,PE (fm X NB scope C ex s3 H3 pn) elt te)
  (hs:∀x,foldedSetIterable iter X.env x=pure x:=by intro _;rfl) :
  PE X (.ListComp elt [⟨tg,iter,ifs,0⟩] scope pos) (rK own ixs wi g tt te):=by
 intro pins s σ H Q I h
 rw[eval_ListComp]
 refine wpAny_comprehension_free (use:=none) rfl hs (kI λy hy e=>I.ok.has _ (S.frees y hy e)) S.kind (λy hy e=>by rw[S.names y hy,e]) ?_
 refine bP (hi pins s σ H _ I h) λv s1 h1=>bP h1 λitv s2 h2=>?_
 obtain⟨it,fp,tn,J,H2,e,I2,T,st2,f2,q2⟩:=h2
 subst e
 refine l7 hc S hg ht he I2 T st2 f2 q2 (RR:=λacc C=>compPost (model X.prog X.w) X.A X.xe none (EP X pins σ Q) acc C) λD C H' s' m J' q hn hC n1 n2 n3 n4=>?_
 refine⟨m,hn,λh'' sb=>⟨.ref D,H',?_,rfl,q⟩⟩
 exact J'.turned (t':=s'.toks) (it:=C) (λb o hb e=>sb.extBut b o hb e) hC n1 (.inr n3) n2 n4
def wa {i:Nat}{y:Str}{py spos:Pos}(hc:X.calm=true)(S:bX X NB own ixs scope)(hi:PI X tg iter wi)
  (hg:∀C ex s3 H3 pn,PG (fm X NB scope C ex s3 H3 pn) tg g) (ht:∀C ex s3 H3 pn,wm (fm X NB scope C ex s3 H3 pn) ifs tt) (he:∀C ex s3 H3 pn,PE (fm X NB scope C ex s3 H3 pn) elt te)
  (hN:X.N.Nodup) (hy:X.N[i]? =some y) (hl:X.env.scope.names.lookup y=some .local)
  (hsw:swapsWith (.ListComp elt [⟨tg,iter,ifs,0⟩] scope pos) (some (.Name y py)) spos.line X.env=pure true)
  (hs:∀x,foldedSetIterable iter X.env x=pure x:=by intro _;rfl) :
  PS X (.Assign [.Name y py] (.ListComp elt [⟨tg,iter,ifs,0⟩] scope pos) spos) (λD σ H=>rK own ixs wi g tt te σ H λv H'=>D.nx (σ.set i (some v)) H'):=by
 intro pins s σ H D I h
 rw[exec_Assign_Name_used _ _ _ _ hsw]
 refine EE (wpAny_standAt (EE ?_))
 show wpAny _ X.A (comprehension (.ListComp elt [⟨tg,iter,ifs,0⟩] scope pos) scope X.env _ (newList []) false (eval iter X.env) (some (assign (.Name y py) X.env)) >>= λ_=>pure ()) _ _ s
 refine EE (Gi (wpAny_comprehension_free (use:=some (assign (.Name y py) X.env)) (Q:=λ_ s'=>SP X pins D .next s') rfl hs (kI λy hy e=>I.ok.has _ (S.frees y hy e)) S.kind (λy hy e=>by rw[S.names y hy,e]) ?_)
  (λ_ s' hq=>EJ (EJ hq)) λ_ _ e=>e)
 refine bP (hi pins s σ H _ I h) λv s1 h1=>bP h1 λitv s2 h2=>?_
 obtain⟨it,fp,tn,J,H2,e,I2,T,st2,f2,q2⟩:=h2
 subst e
 refine l7 hc S hg ht he I2 T st2 f2 q2 (Q:=λv H'=>D.nx (σ.set i (some v)) H') (RR:=λacc C=>compPost (model X.prog X.w) X.A X.xe (some (assign (.Name y py) X.env)) (λ_ s'=>SP X pins D .next s') acc C) λD' C H' s' m J' q hn hC n1 n2 n3 n4=>?_
 show wpAny _ X.A (assign (.Name y py) X.env (.ref D')) _ _ s'
 refine wpAny_assign_Name (mG J' hN hy (.inl hl) (v:=.ref D') rfl (λs'' I'' ⟨a,sb,ha⟩=>?_) (.inr hl))
 have hCa:C≠a:=by
  rcases ha with z |z
  ·rw[z];exact n1
  ·exact (n2 _ _ z).symm
 refine⟨m,hn.sameBut sb hCa,λh3 sb3=>⟨_,H',?_,q⟩⟩
 exact I''.turned (t':=s''.toks) (it:=C) (λb o hb e=>sb3.extBut b o hb e) hC n1 (.inr n3) n2 n4
end
section
variable {own:Nat}{ixs:List Nat}{g:TG}{tt:TT}{te:TE}{σ:St}{H:Hp}{Q:VK}{K:Frag}{D a:Addr}{xs:List V}
abbrev cG (g:TG)(tt:TT)(te:TE)(D:Addr)(x:V)(σ:St)(H:Hp)(N:St->Hp->Prop):Prop:=g x σ H λσ3 H3=>tt σ3 H3 λb H4=>
  if b=true then te σ3 H4 λv H5=>∃acc,H5 D=some (.lst acc)/\acc.length < sizeLine/\N σ3 (upd H5 D (.lst (acc ++ [v]))) else N σ3 H4
def t6 (Pv:Nat->St->Hp->Prop)(h0:Pv 0 (nc own ixs σ) (upd H D (.lst [])))(hl:∀i σ H,i<=xs.length->Pv i σ H->dS K H a xs)
  (hs:∀i x σ H,xs[i]? =some x->Pv i σ H->cG g tt te D x σ H (Pv (i + 1))) (hd:∀σ H,Pv xs.length σ H->(∃acc,H D=some (.lst acc))/\Q (.ref D) H) :
  ∃W:Nat->Nat->St->Hp->Prop,(∃m,W 0 m (nc own ixs σ) (upd H D (.lst [])))/\∀i m σ' H',W i m σ' H'->
   ((uj K a).stop i H'/\(∃acc,H' D=some (.lst acc))/\Q (.ref D) H')\/
   ((uj K a).go i H'/\∃N:St->Hp->Prop,(∀σ2 H2,N σ2 H2->∃m',m' < m/\W (i + 1) m' σ2 H2)/\∀x H2,(uj K a).yld i H' x H2->cG g tt te D x σ' H2 N):=by
 refine⟨λi m σ H=>m=xs.length - i/\i<=xs.length/\Pv i σ H,⟨xs.length,by simp,Fj _,h0⟩,?_⟩
 rintro i m σ H ⟨rfl,hi,p⟩
 have q:=hl i σ H hi p
 by_cases hlt:i < xs.length
 ·refine .inr ⟨⟨xs,xs[i],q,by simp[hlt]⟩,Pv (i + 1),λσ' H' p'=>⟨xs.length - (i + 1),by omega,rfl,hlt,p'⟩,λx H' y=>?_⟩
  obtain⟨e,y⟩:=y
  subst e
  exact hs i x σ _ (y xs q) p
 ·have e:i=xs.length:=by omega
  subst e
  exact .inl ⟨⟨xs,q,EG _⟩,hd σ H p⟩
def rA {lo:Int}{n:Nat}(Pv:Nat->St->Hp->Prop)(h0:Pv 0 (nc own ixs σ) (upd H D (.lst [])))
  (hs:∀i σ H,i < n->Pv i σ H->cG g tt te D (.int (lo + i)) σ H (Pv (i + 1))) (hd:∀σ H,Pv n σ H->(∃acc,H D=some (.lst acc))/\Q (.ref D) H) :
  ∃W:Nat->Nat->St->Hp->Prop,(∃m,W 0 m (nc own ixs σ) (upd H D (.lst [])))/\∀i m σ' H',W i m σ' H'->
   ((uG lo n).stop i H'/\(∃acc,H' D=some (.lst acc))/\Q (.ref D) H')\/
   ((uG lo n).go i H'/\∃N:St->Hp->Prop,(∀σ2 H2,N σ2 H2->∃m',m' < m/\W (i + 1) m' σ2 H2)/\∀x H2,(uG lo n).yld i H' x H2->cG g tt te D x σ' H2 N):=by
 refine⟨λi m σ H=>m=n - i/\i<=n/\Pv i σ H,⟨n,by simp,Fj _,h0⟩,?_⟩
 rintro i m σ H ⟨rfl,hi,p⟩
 by_cases hlt:i < n
 ·refine .inr ⟨hlt,Pv (i + 1),λσ' H' p'=>⟨n - (i + 1),by omega,rfl,hlt,p'⟩,λx H' y=>?_⟩
  obtain⟨e,y⟩:=y
  subst e y
  exact hs i σ _ hlt p
 ·have e:i=n:=by omega
  subst e
  exact .inl ⟨EG _,hd σ H p⟩
end
mutual
inductive Rep (K:Frag)(H:Hp):V->PyData->Prop
 |non:Rep K H .non .none
 |bl (b:Bool):Rep K H (.bl b) (.bool b)
 |int (i:Int):Rep K H (.int i) (.int i)
 |str (x:Str):Rep K H (.str x) (.str x)
 |tup {a:Addr} {xs:List V} {ds:List PyData}:eB K H a xs->fH K H xs ds->Rep K H (.ref a) (.tuple ds)
 |lst {a:Addr} {xs:List V} {ds:List PyData}:dS K H a xs->fH K H xs ds->Rep K H (.ref a) (.list ds)
inductive fH (K:Frag)(H:Hp):List V->List PyData->Prop
 |nil:fH K H [] []
 |cons {x:V} {xs:List V} {d:PyData} {ds:List PyData}:Rep K H x d->fH K H xs ds->fH K H (x :: xs) (d :: ds)
end
section
variable {X:Cx}{pins:List (Addr×Obj)}{σ:St}{H H':Hp}{s:Shared}
mutual
theorem Rep.reads (I:Inv X pins σ H s):∀{x:V} {d:PyData} {u:Value},Rep X.K H x d->RelV x u->∃as,Reads s.heap u d as
 |_,_,_,.non,r=>by cases r;exact⟨_,.none⟩
 |_,_,_,.bl b,r=>by cases r;exact⟨_,.bool b⟩
 |_,_,_,.int i,r=>by obtain⟨t,rfl⟩:=r;exact⟨_,.int i t⟩
 |_,_,_,.str x,r=>by obtain⟨t,rfl⟩:=r;exact⟨_,.str x t⟩
 |_,_,_,.tup h hs,r=>by
  cases r
  obtain⟨its,rv,⟨o,ho,hc,n,hd⟩,_⟩:=I.tuple h
  obtain⟨as,q⟩:=fH.reads I hs rv
  exact⟨_,.tuple ho hc hd (by simpa using q)⟩
 |_,_,_,.lst h hs,r=>by
  cases r
  obtain⟨its,rv,pl,_⟩:=I.list h
  obtain⟨o,ho,hc,n,hd⟩:=pl.isList
  obtain⟨as,q⟩:=fH.reads I hs rv
  exact⟨_,.list ho hc hd (by simpa using q)⟩
theorem fH.reads (I:Inv X pins σ H s):∀{xs:List V} {ds:List PyData} {us:List Value},fH X.K H xs ds->Vals xs us->∃as,ReadsAll s.heap us ds as
 |_,_,_,.nil,r=>by cases r;exact⟨_,.nil⟩
 |_,_,_,.cons h hs,r=>by
  cases r with
  |cons r1 r2=>
   obtain⟨as,q⟩:=Rep.reads I h r1
   obtain⟨bs,q'⟩:=fH.reads I hs r2
   exact⟨_,.cons q q'⟩
end
def AD (K:Frag)(neg:Bool):R2:=λx y H Q=>∃d e,Rep K H x d/\Rep K H y e/\SeqAt.shaped d=true/\SeqAt.shaped e=true/\Q (.bl (if neg then !PyData.eqv d e else PyData.eqv d e)) H
def iK (hu:X.A.units + 64 < cLine):kc X (compareOp .Eq) (AD X.K false):=by
 intro pins s σ H x y v u Q I rx ry h
 obtain⟨d,e,h1,h2,s1,s2,q⟩:=h
 obtain⟨as,r1⟩:=h1.reads I rx
 obtain⟨bs,r2⟩:=h2.reads I ry
 exact SeqAt.compareEq_shaped r1 r2 s1 s2 hu ⟨.bl _,H,I,rfl,q⟩
def jQ (hu:X.A.units + 64 < cLine):kc X (compareOp .NotEq) (AD X.K true):=by
 intro pins s σ H x y v u Q I rx ry h
 obtain⟨d,e,h1,h2,s1,s2,q⟩:=h
 obtain⟨as,r1⟩:=h1.reads I rx
 obtain⟨bs,r2⟩:=h2.reads I ry
 exact SeqAt.compareNe_shaped r1 r2 s1 s2 hu ⟨.bl _,H,I,rfl,q⟩
def CG (K:Frag)(neg:Bool):R2:=λx y H Q=>∃p xs d ds,y=.ref p/\(dS K H p xs\/eB K H p xs)/\fH K H xs ds/\Rep K H x d/\SeqAt.shaped d=true/\(∀e,e∈ds->SeqAt.shaped e=true)/\
 Q (.bl (if neg then !(ds.any λe=>PyData.eqv e d) else ds.any λe=>PyData.eqv e d)) H
theorem fH.at' {K:Frag}:∀{xs:List V} {ds:List PyData} {i:Nat} {x:V},fH K H xs ds->xs[i]? =some x->∃d,ds[i]? =some d/\Rep K H x d
 |_,_,_,_,.nil,e=>by simp at e
 |_,_,0,_,.cons r _,e=>by simp at e;subst e;exact⟨_,rfl,r⟩
 |_,_,i + 1,x,.cons _ t,e=>by
  obtain⟨u,h1,h2⟩:=fH.at' (i:=i) (x:=x) t (by simpa using e)
  exact⟨u,by simpa using h1,h2⟩
theorem fH.len {K:Frag}:∀{xs:List V} {ds:List PyData},fH K H xs ds->xs.length=ds.length
 |_,_,.nil=>rfl
 |_,_,.cons _ t=>by simp[fH.len t]
open Classical in
theorem qC (I:Inv X pins σ H s)(d:PyData):∀{xs:List V} {us:List Value} {ds:List PyData},Vals xs us->fH X.K H xs ds->(∀e,e∈ds->SeqAt.shaped e=true)->∃f:Value->Bool,us.any f=(ds.any λe=>PyData.eqv e d)/\∀u,u∈us->∃e as,e∈ds/\Reads s.heap u e as/\f u=PyData.eqv e d:=by
 intro xs us ds hv hr hs
 let f:Value->Bool:=λu=>if h:∃e as,SeqAt.shaped e=true/\Reads s.heap u e as then PyData.eqv (Classical.choose h) d else false
 have hf:∀{u:Value} {e:PyData} {as:List Addr},SeqAt.shaped e=true->Reads s.heap u e as->f u=PyData.eqv e d:=λ{u e as} h1 h2=>by
  have hx:∃e as,SeqAt.shaped e=true/\Reads s.heap u e as:=⟨e,as,h1,h2⟩
  show (if h:∃e as,SeqAt.shaped e=true/\Reads s.heap u e as then PyData.eqv (Classical.choose h) d else false)=_
  rw[dif_pos hx]
  obtain⟨bs,q1,q2⟩:=Classical.choose_spec hx
  rw[SeqAt.Reads.unique _ _ _ _ _ (GZ q1) q2 h2]
 refine⟨f,?_,?_⟩
 ·induction hv generalizing ds with
  |nil=>cases hr;rfl
  | @cons x u xs us r1 r2 ih=>
   cases hr with
   | @cons _ _ e es h1 h2=>
    obtain⟨as,q⟩:=h1.reads I r1
    rw[Gv,Gv,hf (hs e (EL ..)) q,ih h2 λz hz=>hs z (EK _ hz)]
 ·intro u hu
  obtain⟨i,hi,e0⟩:=Fg.mp hu
  have hi':i < xs.length:=by rw[hv.length];exact hi
  obtain⟨u',eu,ru⟩:=hv.get (ED hi')
  rw[ED hi,e0] at eu
  cases eu
  obtain⟨e,ee,re⟩:=fH.at' hr (ED hi')
  obtain⟨as,q⟩:=re.reads I ru
  have hm:=EX ee
  exact⟨e,as,hm,q,hf (hs e hm) q⟩
def Ac (K:Frag):List V->Hp->VK->Prop:=λxs H Q=>∃a d,xs= [.ref a]/\Rep K H (.ref a) d/\d.showable=true/\d.hasDict=false/\d.depth<=64/\d.shown.length<=sizeLine/\Q (.str d.shown) H
def l8 (hg:X.A.guards=some [])(hu:X.A.units + 100 < cLine):bN X (.builtin "repr") (Ac X.K):=by
 intro pins s σ H xs us Q I r h
 obtain⟨a,d,rfl,hd,h1,h2,h3,h4,q⟩:=h
 obtain⟨u,rfl,rx⟩:=vals1 r
 have rx':=rx
 cases rx
 obtain⟨as,rd⟩:=hd.reads I rx'
 exact repr_of_reads' rd h1 (PyData.noDict_hsm h2) hg (by omega) (λb o e=>e) (λh' u tk k=>⟨.str _,H,I.kept (t':=tk) k,⟨u,rfl⟩,q⟩) h4
inductive yQ (K:Frag)(H:Hp):V->String->Prop
 |non:yQ K H .non "NoneType"
 |bl (b:Bool):yQ K H (.bl b) "bool"
 |int (i:Int):yQ K H (.int i) "int"
 |str (x:Str):yQ K H (.str x) "str"
 |tup {a:Addr} {xs:List V}:eB K H a xs->yQ K H (.ref a) "tuple"
 |lst {a:Addr} {xs:List V}:dS K H a xs->yQ K H (.ref a) "list"
 |dic {a:Addr} {kvs:List (Key×V)}:H a=some (.dK kvs)->yQ K H (.ref a) "dict"
def DZ (K:Frag):List V->Hp->VK->Prop:=λxs H Q=>∃x T t b,xs= [x,.ty T]/\yQ K H x t/\PySem.W.kitOne K (.type t) (.type T)=some b/\Q (.bl b) H
theorem xb:bN X (.builtin "isinstance") (DZ X.K):=by
 intro pins s σ H xs us Q I r h
 obtain⟨x,T,t,b,rfl,ty,e,q⟩:=h
 obtain⟨u,c,rfl,rx,rc⟩:=vals2 r
 cases rc
 have fin:∀tk,EP X pins σ Q (.bool b) {s with toks:=tk}:=λtk=>⟨.bl b,H,I.tok tk,rfl,q⟩
 cases ty with
 |non=>exact fN I rx .non e fin
 |bl b=>exact fN I rx (.bl b) e fin
 |int i=>exact fN I rx (.int i) e fin
 |str z=>exact fN I rx (.str z) e fin
 |dic hk=>exact fN I rx (.dK hk) e fin
 |tup hq=>
  cases rx
  obtain⟨its,rv,⟨o,h1,h2,_⟩,_⟩:=I.tuple hq
  exact Fy PySem.W.kitx_tuple I.kIn ⟨o,h1,h2⟩ e (λz=>nomatch z) fin
 |lst hq=>
  cases rx
  obtain⟨its,rv,pl,_⟩:=I.list hq
  obtain⟨o,h1,h2,_⟩:=pl.isList
  exact Fy PySem.W.kitx_list I.kIn ⟨o,h1,h2⟩ e (λz=>nomatch z) fin
def pK {A:Around}{its:List Value}{bs:List Bool}(hv:Vals (bs.map V.bl) its):TruthOf X.prog X.w A (λi v=>its[i]? =some v) (λi=>bs.getD i false):=λi v s Q E hi hq=>by
 have hl:=hv.length
 have hi2:i < bs.length:=by
  have:=(EV.mp hi).1
  rw[<-hl] at this;simpa using this
 obtain⟨u,eu,ru⟩:=hv.get (i:=i) (x:=.bl bs[i]) (by simp[hi2])
 rw[hi] at eu;cases eu
 cases ru
 refine FX ?_
 have:bs.getD i false=bs[i]:=by simp[hi2]
 rw[<-this];exact hq
theorem range_all (bs:List Bool):(List.range bs.length).all (λi=>bs.getD i false)=bs.all id:=by
 induction bs with
 |nil=>rfl
 |cons b bs ih=>
  rw[EZ,List.range_succ_eq_map,List.all_cons,List.all_map,List.all_cons,<-ih]
  rfl
theorem range_any (bs:List Bool):(List.range bs.length).any (λi=>bs.getD i false)=bs.any id:=by
 induction bs with
 |nil=>rfl
 |cons b bs ih=>
  rw[EZ,List.range_succ_eq_map,Gv,List.any_map,Gv,<-ih]
  rfl
def r9 (K:Frag)(f:List Bool->Bool):List V->Hp->VK->Prop:=λxs H Q=>∃a bs,xs= [.ref a]/\dS K H a (bs.map V.bl)/\Q (.bl (f bs)) H
def kB (hc:X.calm=true){a:Addr}{bs:List Bool}{Q:VK}(I:Inv X pins σ H s)(hq:dS X.K H a (bs.map V.bl)){f:List Bool->Bool}{g:(Nat->Bool)->Nat->Bool}(hfg:g (λi=>bs.getD i false) bs.length=f bs)(q:Q (.bl (f bs)) H) :
  wpAny (model X.prog X.w) X.A.in1 (pyIter (.ref a)) (λit s2=>∃Ii fp wr n P St tr,it=.ref Ii/\Walks X.prog X.w X.A.in1 Ii fp wr n P St/\St 0 s2.heap/\TruthOf X.prog X.w X.A.in1 P tr/\
   ∀h' tk,(∀b o,b∉wr->s2.heap.get? b=some o->h'.get? b=some o)->EP X pins σ Q (.bool (g tr n)) {s2 with heap:=h',toks:=tk}) X.xe s:=by
 obtain⟨its,rv,pl,hz⟩:=I.list hq
 have hh:X.A.in1.handled=none:=I.ok.hd hc
 have hlen:its.length=bs.length:=by rw[<-rv.length];simp
 obtain⟨o,ho,_⟩:=id pl.isList
 refine GI pl.isList ?_
 have W:=Walks.list (prog:=X.prog) (w:=X.w) hh s.heap.objs.size a (Fd (EO ho)) its.toArray
 refine⟨s.heap.objs.size,_,_,_,_,_,λi=>bs.getD i false,rfl,W,⟨⟨_,EW _ rfl,rfl,rfl⟩,pl.isList.push _⟩,?_,λh' tk k=>?_⟩
 ·have:=pK (X:=X) (A:=X.A.in1) rv
  simpa using this
 ·have e:its.toArray.size=bs.length:=by simpa using hlen
  rw[e,hfg]
  have I1:Inv X pins σ H {s with heap:=s.heap.push {cls:=.type "list_iterator",data:=.fields #[.ref a,.int 0 0]}}:=I.kept (t':=s.toks) λb o e=>EF _ e
  have hf:H s.heap.objs.size=none:=I.hok.fresh (EG _)
  have fp:=I.fpOk (H':=H) (b:=s.heap.objs.size) (EG _) hf
  refine⟨.bl _,H,I1.turned (it:=s.heap.objs.size) (t':=tk) (λb o hb e=>k b o (by simpa using hb) e) hf fp.2.1 fp.2.2.2.1 fp.2.2.2.2.1 fp.2.2.2.2.2,rfl,q⟩
def o9 (hc:X.calm=true):bN X (.builtin "all") (r9 X.K λbs=>bs.all id):=by
 intro pins s σ H xs us Q I r h
 obtain⟨a,bs,rfl,hq,q⟩:=h
 obtain⟨u,rfl,rx⟩:=vals1 r
 cases rx
 exact call_all_walk (kB hc I hq (f:=λbs=>bs.all id) (g:=λtr n=>(List.range n).all tr) (range_all bs) q)
def xX (hc:X.calm=true):bN X (.builtin "any") (r9 X.K λbs=>bs.any id):=by
 intro pins s σ H xs us Q I r h
 obtain⟨a,bs,rfl,hq,q⟩:=h
 obtain⟨u,rfl,rx⟩:=vals1 r
 cases rx
 exact call_any_walk (kB hc I hq (f:=λbs=>bs.any id) (g:=λtr n=>(List.range n).any tr) (range_any bs) q)
def xI:bN X (.type "range") (λxs H Q=>∃n:Int,xs= [.int n]/\∀p,H p=none->Q (.ref p) (upd H p (.j8 0 n))):=by
 intro pins s σ H xs us Q I r h
 obtain⟨n,rfl,q⟩:=h
 obtain⟨u,rfl,rx⟩:=vals1 r
 obtain⟨t,rfl⟩:=rx
 refine call_range_1 ⟨.ref s.heap.objs.size,upd H s.heap.objs.size (.j8 0 n),?_,rfl,q _ (I.hok.fresh (EG _))⟩
 exact I.laid (λb o e=>EF _ e) (EG _) ⟨_,_,_,EW _ rfl⟩
def lN (hc:X.calm=true):bN X (.type "list") (λxs H Q=>∃p n,xs= [.ref p]/\H p=some (.j8 0 n)/\0<=n/\n<=1000/\∀l,H l=none->Q (.ref l) (upd H l (.lst ((List.range n.toNat).map λ(i:Nat)=>V.int (i:Int))))):=by
 intro pins s σ H xs us Q I r h
 obtain⟨p,n,rfl,hp,h0,h1,q⟩:=h
 obtain⟨u,rfl,rx⟩:=vals1 r
 cases rx
 obtain⟨t,u,v,hr⟩:∃t u v,s.heap.get? p=some {cls:=.type "range",data:=.fields #[.int 0 t,.int n u,.int 1 v]}:=I.hok p _ hp
 have hsz:Builtin.Range.rangeSize 0 n 1=(n.toNat:Int):=by rw[rangeSize_one];split <;> omega
 refine call_list_range (I.ok.hd hc) hr (small_one (by omega) (by omega) (by omega) (by omega)) hsz (by omega) λh' tk acc c k hS hacc=>?_
 have hv:Vals ((List.range n.toNat).map λ(i:Nat)=>V.int (i:Int)) acc.toList:=by
  have key:∀(m:Nat) (us:List Value) (j:Nat),us.length=m->(∀(i:Nat) (v:Value),us[i]? =some v->∃t,v=Value.int ((j + i:Nat):Int) t)->Vals ((List.range' j m).map λ(i:Nat)=>V.int (i:Int)) us:=by
   intro m
   induction m with
   |zero=>intro us j hl _;cases us with
    |nil=>exact .nil
    |cons a b=>simp at hl
   |succ m ih=>
    intro us j hl hh
    cases us with
    |nil=>simp at hl
    |cons u us=>
     rw[List.range'_succ,Fw]
     refine .cons (by have:=hh 0 u rfl;simp at this;exact this) (ih us (j + 1) (by simpa using hl) λi v hi=>?_)
     obtain⟨t,e⟩:=hh (i + 1) v (by simpa using hi)
     exact⟨t,by rw[e];congr 2;omega⟩
  have:=key n.toNat acc.toList 0 (by simpa using hacc.1) λi v hi=>by
   obtain⟨t,e⟩:=hacc.2 i v (by simpa using hi)
   exact⟨t,by rw[e];simp⟩
  rw[List.range_eq_range'];exact this
 refine⟨.ref s.heap.objs.size,_,I.laid (t':=tk) k (EG _) (show bF X.prog X.w _ h' _ (.lst _) from⟨by simp;rw[Fl];omega,acc.toList,c,hv,by simpa using hS⟩),rfl,q _ (I.hok.fresh (EG _))⟩
end
def Rc (h:Heap)(e:Addr)(cls:Value)(T:Addr)(fl:Value):Prop:=∃oe vs oT ts,h.get? e=some oe/\oe.cls=cls/\oe.dict=none/\oe.data=.fields vs/\vs[1]? =some (.ref T)/\T≠e/\h.get? T=some oT/\oT.data=.fields ts/\ts[3]? =some fl
abbrev Keeps (F:List Addr)(ch:List Addr)(h h':Heap):Prop:=∀b o,h.get? b=some o->b∉F->b∉ch->h'.get? b=some o
abbrev Slots (F:List Addr)(h h':Heap):Prop:=∀b o,h.get? b=some o->b∈F->∃sl,h'.get? b=some {o with slots:=sl}
section
variable {M:Model}{A:Around}{E:Value->Shared->Prop}{s:Shared}{base:Heap}{env:Env}{outer:List Env}{L e:Addr}{cls:Value}{Q:Unit->Shared->Prop}
def xG {oe:Obj}{vs:Array Value}{head:Value}{hadNext:Bool}(hfr:A.frames=some (env :: outer))(hl:s.heap.FunFrames base (env :: outer))(hf:env.frame=some L)(he:s.heap.get? e=some oe)(hc:oe.cls=cls)(hdd:oe.dict=none)(hd:oe.data=.fields vs)(hsz:1 < vs.size)
  (h:∀h' T,Keeps (fx (env :: outer)) [e] s.heap h'->Slots (fx (env :: outer)) s.heap h'->s.heap.get? T=none->Rc h' e cls T (rawInt L)->Q () {s with heap:=h'}) :
  wpAny M A (do let a <-frameOf env;let pl <-entryPlaceOf L hadNext;let b <-EntryCells.newEntry head a .none (rawInt L) .none pl;setField (.ref e) 1 b) Q E s:=by
 have eF:e∉fx (env :: outer):=λz=>by
  obtain⟨_,o,q,n⟩:=hl.mem z
  rw[he] at q;cases q;exact n _ hd
 refine EE (wpAny_frameOf_fun hfr hl hf λh1 s1=>?_)
 refine EE (wpAny_entryPlaceOf λpl hpl=>?_)
 unfold EntryCells.newEntry newFields
 refine EE (GL ?_ (hpl.sizeOk5 _ _ _ _ _))
 have e1:h1.get? e=some oe:=(s1.2.1 e eF).trans he
 have e2:=EF (h:=h1) {cls:=.type "traceback",dict:=none,data:=.fields ([head,.ref L,.none,rawInt L,.none] ++ (if pl.isEmpty then List.replicate 6 Value.none else pl)).toArray} e1
 have tn:h1.objs.size≠e:=Nat.ne_of_gt (EO e1)
 refine G7 e2 hd hsz (h _ h1.objs.size (λb o q hb hn=>?_) (λb o q hb=>?_) ?_ ?_)
 ·have hbe:b≠e:=by simpa using hn
  have q1:h1.get? b=some o:=(s1.2.1 b hb).trans q
  rw[Ff _ _ (Ne.symm hbe)]
  exact EF _ q1
 ·obtain⟨sl,q1⟩:=s1.2.2 b o q
  have hbe:b≠e:=λz=>eF (z▸hb)
  refine⟨sl,?_⟩
  rw[Ff _ _ (Ne.symm hbe)]
  exact EF _ q1
 ·cases q:s.heap.get? h1.objs.size with
  |none=>rfl
  |some o=>obtain⟨sl,q1⟩:=s1.2.2 _ o q;exact absurd (EO q1) (Fe _)
 ·have d3:=Obj.data_mapFields hd (·.setIfInBounds 1 (Value.ref h1.objs.size))
  have e3:=Fu (Obj.mapFields (·.setIfInBounds 1 (Value.ref h1.objs.size))) e2 (Obj.isFreed_of_fields d3)
  refine⟨_,_,_,_,e3,(Obj.cls_mapFields _ _).trans hc,?_,d3,by simp[hsz],tn,(Ff _ _ (Ne.symm tn)).trans (EW h1 rfl),rfl,?_⟩
  ·unfold Obj.mapFields
   split <;> exact hdd
  ·rcases hpl with rfl | ⟨_,_,_,_,_,_,_,rfl⟩ <;> simp
def qP {oe:Obj}{vs:Array Value}(hfr:A.frames=some (env :: outer))(hl:s.heap.FunFrames base (env :: outer))(hf:env.frame=some L)(he:s.heap.get? e=some oe)(hc:oe.cls=cls)(hdd:oe.dict=none)(hd:oe.data=.fields vs)(h1:vs[1]? =some .none)
  (h:∀h' T,Keeps (fx (env :: outer)) [e] s.heap h'->Slots (fx (env :: outer)) s.heap h'->s.heap.get? T=none->Rc h' e cls T (rawInt L)->Q () {s with heap:=h'}):wpAny M A (noteFrame (.ref e) env) Q E s:=by
 unfold noteFrame
 simp only[hf]
 refine EE (wpAny_field he hd h1 ?_)
 rw[EN (by decide)]
 exact xG hfr hl hf he hc hdd hd (FC.mp h1).1 h
def uz {T0:Addr}(hfr:A.frames=some (env :: outer))(hl:s.heap.FunFrames base (env :: outer))(hf:env.frame=some L)(r:Rc s.heap e cls T0 .none)
  (h:∀h' T,Keeps (fx (env :: outer)) [e,T0] s.heap h'->Slots (fx (env :: outer)) s.heap h'->(s.heap.get? T=none\/T=T0)->Rc h' e cls T (rawInt L)->Q () {s with heap:=h'}):wpAny M A (noteFrame (.ref e) env) Q E s:=by
 obtain⟨oe,vs,oT,ts,he,hc,hdd,hd,h1,hTe,hT,hdT,h3⟩:=r
 have tF:T0∉fx (env :: outer):=λz=>by
  obtain⟨_,o,q,n⟩:=hl.mem z
  rw[hT] at q;cases q;exact n _ hdT
 unfold noteFrame
 simp only[hf]
 refine EE (wpAny_field he hd h1 ?_)
 rw[EI (show (Value.ref T0 != Value.none)=true from by simp)]
 refine EE (wpAny_field hT hdT h3 ?_)
 rw[EN (show ¬((Value.none == rawInt L)=true) from by simp[rawInt])]
 refine EE (G7 hT hdT (FC.mp h3).1 ?_)
 have oth:∀b,b≠T0->(s.heap.update T0 (Obj.mapFields (·.setIfInBounds 3 Value.none))).get? b=s.heap.get? b:=λb hb=>Ff _ _ (Ne.symm hb)
 have nf:∀b o,s.heap.get? b=some o->(∀ws,o.data≠.fields ws)->b≠T0:=λb o q n z=>by
  rw[z,hT] at q;cases q;exact n _ hdT
 refine xG (base:=base) hfr (hl.of_keeps λb o q n=>⟨o,(oth b (nf b o q n)).trans q,rfl⟩) hf ((oth e (Ne.symm hTe)).trans he) hc hdd hd (FC.mp h1).1 λh' T kp sl tn rc=>?_
 refine h h' T (λb o q hb hn=>?_) (λb o q hb=>?_) ?_ rc
 ·simp only[EH,List.not_mem_nil,or_false,not_or] at hn
  exact kp b o ((oth b hn.2).trans q) hb (by simp[hn.1])
 ·exact sl b o ((oth b λz=>tF (z▸hb)).trans q) hb
 ·by_cases z:T=T0
  ·exact .inr z
  ·exact .inl ((oth T z).symm.trans tn)
def tf {T:Addr}{fl:Value}(r:Rc s.heap e cls T fl)(h:∀h',Keeps [] [T] s.heap h'->Rc h' e cls T .none->Q () {s with heap:=h'}):wpAny M A (setFlight (.ref e) none) Q E s:=by
 obtain⟨oe,vs,oT,ts,he,hc,hdd,hd,h1,hTe,hT,hdT,h3⟩:=r
 have sz:3 < ts.size:=(FC.mp h3).1
 unfold setFlight
 refine EE (wpAny_field he hd h1 ?_)
 rw[EI (show (Value.ref T != Value.none)=true from by simp)]
 refine G7 hT hdT sz (h _ (λb o q _ hn=>?_) ?_)
 ·have hb:b≠T:=by simpa using hn
  exact (Ff _ _ (Ne.symm hb)).trans q
 ·have d3:=Obj.data_mapFields hdT (·.setIfInBounds 3 ((none:Option Addr).elim Value.none λf=>rawInt f))
  exact⟨oe,vs,_,_,(Ff _ _ hTe).trans he,hc,hdd,hd,h1,hTe,Fu _ hT (Obj.isFreed_of_fields d3),d3,by simp[sz]⟩
end
section
variable {P:Program}{w:World}
theorem bF.there {H:Hp}{h:Heap}{a:Addr}{o:HO}(x:bF P w H h a o):∃u,h.get? a=some u:=by
 cases o with
 |lst xs=>obtain⟨_,_,_,_,e⟩:=x;exact⟨_,e⟩
 |tup xs=>obtain⟨_,_,_,u,e,_⟩:=x;exact⟨u,e⟩
 |dK kvs=>obtain⟨_,_,_,_,o,_,_,e,_⟩:=x;exact⟨_,e⟩
 |dT kvs=>obtain⟨_,_,_,_,o,_,_,e,_⟩:=x;exact⟨_,e⟩
 |set S n=>obtain⟨o,_,_,_,e,_⟩:=x;exact⟨_,e⟩
 |ins C dx fs=>obtain⟨_,_,_,e,_⟩:=x;exact⟨_,e⟩
 |own y=>obtain⟨_,e⟩:=x;exact⟨_,e⟩
 |xd fs=>obtain⟨_,⟨_,_,_,e,_⟩,_⟩:=x;exact⟨_,e⟩
 |j8 lo hi=>obtain⟨_,_,_,e⟩:=x;exact⟨_,e⟩
 |aL ob u=>obtain⟨e,_⟩:=x;exact⟨_,e⟩
 |tbl ps=>exact⟨_,show h.get? a=some _ from x⟩
 |met f y=>exact⟨_,show h.get? a=some _ from x⟩
 |ext φ=>obtain⟨_,⟨_,e⟩,_⟩:=x;exact⟨_,e⟩
end
structure Lies (h₀:Heap)(H:Hp)(h:Heap)(e:Addr)(cls:Value):Prop where
 free:H e=none
 new:h₀.get? e=none
 ob:∃T,Rc h e cls T .none/\H T=none/\h₀.get? T=none
def j7 (P:Program)(w:World):ux:=λouter H s E e s'=>∃ea cls H',e=.ref ea/\s'.os=s.os/\AllBare s'.gens/\Un (fx outer) [] H H' s.heap s'.heap/\iO P w H' s'.heap/\Lies s.heap H' s'.heap ea cls/\E cls none H'
section
variable {P:Program}{w:World}{M:Model}{A:Around}{E':Value->Shared->Prop}{s:Shared}{env:Env}{outer:List Env}{L e:Addr}{cls:Value}{base h₀:Heap}{H:Hp}{Q:Unit->Shared->Prop}
def pR {h h':Heap}(hok:iO P w H h)(k:∀b o,h.get? b=some o->(∃u,H b=some u)->h'.get? b=some o):iO P w H h':=λa o ha=>
 (hok a o ha).stay (λb u hb q=>k b u q (hb.elim (λz=>⟨o,by rw[z];exact ha⟩) λz=>⟨_,z⟩)) (λ_ q=>q) λ_ _ q=>q
def vI (hfr:A.frames=some (env :: outer))(hf:env.frame=some L)(hfn:s.heap.FunFrames base (env :: outer))(hok:iO P w H s.heap)(hff:∀b∈fx (env :: outer),H b=none)(Ly:Lies h₀ H s.heap e cls)(hex:∀b o,h₀.get? b=some o->∃o',s.heap.get? b=some o')
  (hQ:∀h',(∀b o,s.heap.get? b=some o->b∉fx (env :: outer)->((∃o0,h₀.get? b=some o0)\/∃u,H b=some u)->h'.get? b=some o)->(∀b o,s.heap.get? b=some o->b∈fx (env :: outer)->∃sl,h'.get? b=some {o with slots:=sl})->Lies h₀ H h' e cls->iO P w H h'->Q () {s with heap:=h'}) :
  wpAny M A (leaving env (.ref e)) Q E' s:=by
 obtain⟨fr,nw,T0,rc,hHT,hnT⟩:=Ly
 obtain⟨oe,vs,oT,ts,he,hc,hdd,hd,h1,hTe,hT,hdT,h3⟩:=id rc
 have tF:T0∉fx (env :: outer):=λz=>by
  obtain⟨_,o,q,n⟩:=hfn.mem z
  rw[hT] at q;cases q;exact n _ hdT
 unfold leaving
 refine EE (uz hfr hfn hf rc λh4 T kp sl tn rc4=>tf rc4 λh5 kp5 rc5=>?_)
 have nT:∀b o,s.heap.get? b=some o->b≠T0->b≠T:=λb o q n z=>by
  rcases tn with tn |tn
  ·rw[z,tn] at q;cases q
  ·exact n (z.trans tn)
 have kept:∀b o,s.heap.get? b=some o->b∉fx (env :: outer)->((∃o0,h₀.get? b=some o0)\/∃u,H b=some u)->h5.get? b=some o:=λb o q hb hor=>by
  have be:b≠e:=λz=>by subst z;rcases hor with⟨_,z⟩ | ⟨_,z⟩ <;> simp_all
  have bT:b≠T0:=λz=>by subst z;rcases hor with⟨_,z⟩ | ⟨_,z⟩ <;> simp_all
  exact kp5 b o (kp b o q hb (by simp[be,bT])) (by simp) (by simp[nT b o q bT])
 have slot:∀b o,s.heap.get? b=some o->b∈fx (env :: outer)->∃sl,h5.get? b=some {o with slots:=sl}:=λb o q hb=>by
  obtain⟨x,q4⟩:=sl b o q hb
  exact⟨x,kp5 b _ q4 (by simp) (by simp[nT b o q λz=>tF (z▸hb)])⟩
 have fresh:H T=none/\h₀.get? T=none:=by
  rcases tn with tn |tn
  ·refine⟨?_,?_⟩
   ·cases q:H T with
    |none=>rfl
    |some u=>obtain⟨o,qo⟩:=(hok T u q).there;rw[tn] at qo;cases qo
   ·cases q:h₀.get? T with
    |none=>rfl
    |some u=>obtain⟨o,qo⟩:=hex T u q;rw[tn] at qo;cases qo
  ·rw[tn];exact⟨hHT,hnT⟩
 refine hQ h5 kept slot ⟨fr,nw,T,rc5,fresh.1,fresh.2⟩ (pR hok λb o q hu=>kept b o q (λz=>?_) (.inr hu))
 obtain⟨u,hu⟩:=hu
 rw[hff b z] at hu;cases hu
def qW {h:Heap}{args:List Value}(hfr:A.frames=some (env :: outer))(hf:env.frame=some L)(hfn:h.FunFrames base (env :: outer))(hok:iO P w H h)(hff:∀b∈fx (env :: outer),H b=none)(hex:∀b o,h₀.get? b=some o->∃o',h.get? b=some o')(hx:Heap.MadeExcOf h s.heap e cls args)
  (hQ:∀h',(∀b o,h.get? b=some o->b∉fx (env :: outer)->h'.get? b=some o)->(∀b o,h.get? b=some o->b∈fx (env :: outer)->∃sl,h'.get? b=some {o with slots:=sl})->Lies h₀ H h' e cls->iO P w H h'->Q () {s with heap:=h'}) :
  wpAny M A (leaving env (.ref e)) Q E' s:=by
 obtain⟨t,he,_,_⟩:=hx.there
 unfold leaving
 refine EE (qP (cls:=cls) hfr (hfn.of_keeps λb o q _=>⟨o,hx.keeps b o q,rfl⟩) hf he rfl rfl rfl rfl λh4 T kp sl tn rc4=>tf rc4 λh5 kp5 rc5=>?_)
 have ne:∀b o,h.get? b=some o->b≠e:=λb o q z=>by rw[z,hx.new] at q;cases q
 have nT:∀b o,h.get? b=some o->b≠T:=λb o q z=>by
  have:=hx.keeps b o q
  rw[z,tn] at this;cases this
 have kept:∀b o,h.get? b=some o->b∉fx (env :: outer)->h5.get? b=some o:=λb o q hb=>kp5 b o (kp b o (hx.keeps b o q) hb (by simp[ne b o q])) (by simp) (by simp[nT b o q])
 have slot:∀b o,h.get? b=some o->b∈fx (env :: outer)->∃sl,h5.get? b=some {o with slots:=sl}:=λb o q hb=>by
  obtain⟨x,q4⟩:=sl b o (hx.keeps b o q) hb
  exact⟨x,kp5 b _ q4 (by simp) (by simp[nT b o q])⟩
 have fresh:∀{b:Addr},h.get? b=none->H b=none/\h₀.get? b=none:=λ{b} hb=>by
  refine⟨?_,?_⟩
  ·cases q:H b with
   |none=>rfl
   |some u=>obtain⟨o,qo⟩:=(hok b u q).there;rw[hb] at qo;cases qo
  ·cases q:h₀.get? b with
   |none=>rfl
   |some u=>obtain⟨o,qo⟩:=hex b u q;rw[hb] at qo;cases qo
 have no:h.get? T=none:=by
  cases q:h.get? T with
  |none=>rfl
  |some o=>exact absurd rfl (nT T o q)
 obtain⟨f1,f2⟩:=fresh hx.new
 obtain⟨g1,g2⟩:=fresh no
 refine hQ h5 kept slot ⟨f1,f2,T,rc5,g1,g2⟩ (pR hok λb o q hu=>kept b o q λz=>?_)
 obtain⟨u,hu⟩:=hu
 rw[hff b z] at hu;cases hu
end
section
variable {P:Program}{w:World}{K:Frag}{mg:Str->Option Value}{base:Heap}{N:List Str}{qual:Str}{scope:Scope}{f:Addr}{cd:Value}{A:Around}{outer:List Env}{s0:Shared}{H0:Hp}{E:XK}
def b6:Passes (j7 P w) (iC (j7 P w) P w K mg base N qual scope f cd A outer s0 H0 E) E:=by
 intro pins σ H s e s' I hcx
 obtain⟨ea,cls,H',rfl,os,bare,un,hok,Ly,q⟩:=hcx
 have I':=I.call' os un hok bare (λb hb=>absurd hb (by simp))
 have old:∀{b:Addr},s.heap.get? b=none->s0.heap.get? b=none:=λ{b} hb=>by
  cases z:s0.heap.get? b with
  |none=>rfl
  |some o=>obtain⟨o',z'⟩:=I.base.there b o z (show b∉([]:List Addr) by simp);rw[hb] at z';cases z'
 have Ly0:Lies s0.heap H' s'.heap ea cls:=by
  obtain⟨fr,nw,T,rc,hHT,hnT⟩:=Ly
  exact⟨fr,old nw,T,rc,hHT,old hnT⟩
 have above:s0.heap.objs.size<=(envOfC qual scope s0.heap.objs.size f cd).locals:=I.ok.above
 refine vI (base:=base) (h₀:=s0.heap) I'.ok.frames rfl I'.stack I'.hok I'.stkFree Ly0 (λb o z=>I'.base.there b o z (show b∉([]:List Addr) by simp)) λh' kept slot Ly' hok'=>?_
 have nL:∀{b:Addr} {o:Obj},s0.heap.get? b=some o->b∉fx outer->b∉fx (envOfC qual scope s0.heap.objs.size f cd :: outer):=λ{b o} z hb hm=>by
  rcases EH.mp (I'.stkSub b hm) with e |e
  ·have:=EO z
   rw[e] at this
   exact absurd (E7 this above) (Fe _)
  ·exact hb e
 have inn:∀{b:Addr},b∈fx outer->b∈fx (envOfC qual scope s0.heap.objs.size f cd :: outer):=λ{b} hb=>by
  obtain⟨en,h1,h2⟩:=Gk.mp hb
  exact Gk.mpr ⟨en,EK _ h1,h2⟩
 refine⟨ea,cls,H',rfl,os.trans I.os,bare,⟨λb o z n hb _=>?_,λb o z n hb _=>?_,λb o z n _=>I'.base.free b o z n (show b∉([]:List Addr) by simp),λb o z _=>?_,I'.base.tups,I'.base.frzs,I'.base.tbls⟩,hok',Ly',q⟩
 ·exact kept b o (I'.base.keep b o z n hb (show b∉([]:List Addr) by simp)) (nL z hb) (.inl ⟨o,z⟩)
 ·obtain⟨sl,z1⟩:=I'.base.slot b o z n hb (show b∉([]:List Addr) by simp)
  obtain⟨sl2,z2⟩:=slot b _ z1 (inn hb)
  exact⟨sl2,z2⟩
 ·obtain⟨o',z1⟩:=I'.base.there b o z (show b∉([]:List Addr) by simp)
  by_cases hb:b∈fx (envOfC qual scope s0.heap.objs.size f cd :: outer)
  ·obtain⟨sl,z2⟩:=slot b o' z1 hb
   exact⟨_,z2⟩
  ·exact⟨o',kept b o' z1 hb (.inl ⟨o,z⟩)⟩
def BC (C:Addr)(E:XK)(t:TA):TS:=λ_ σ H=>t σ H λvs H1=>vs.length<=sizeLine/\E (.ref C) none H1
def vL {x:Str}{C:Addr}{np cpos pos:Pos}{e0:Expr}{es:List Expr}{t:TA}{Bn newId initId:String}{bmB:List Value}(FB:ExcBaseFacts Bn newId initId bmB)(hbb:bmB.contains (.type "BaseException")=true)(q:PySem.W.excIn K C bmB newId=true)
  (hg:Gl (iC (j7 P w) P w K mg base N qual scope f cd A outer s0 H0 E) x) (hm:mg x=some (.ref C)) (ha:PA (iC (j7 P w) P w K mg base N qual scope f cd A outer s0 H0 E) (e0 :: es) t)
  (he:starEach (e0 :: es) (envOfC qual scope s0.heap.objs.size f cd)=(false,eval e0 (envOfC qual scope s0.heap.objs.size f cd)) :: starEach es (envOfC qual scope s0.heap.objs.size f cd):=by rfl)
  (hpl:(backTo cpos (starEach es (envOfC qual scope s0.heap.objs.size f cd))).any (·.1)=false:=by rfl) (hdb:(x == ("__debug__":Str))=false:=by decide) :
  PS (iC (j7 P w) P w K mg base N qual scope f cd A outer s0 H0 E) (.Raise (some (.Call (.Name x np) (e0 :: es) [] cpos)) none pos) (BC C E t):=by
 intro pins s σ H D I h
 have own:∀{hh:Heap},K.In hh->∃bm Nn nm qn bs hdct sn sub ab col dd k0 k1 k2 k3 k5 mN,hh.get? C=some (excClassObj nm qn C Nn bs bm hdct sn sub ab col dd k0 k1 k2 k3 k5 newId)/\hh.Ns Nn mN/\mN "__init__"=none/\OwnTail hh bmB bm:=λ{hh} X=>by
  have q:=q
  unfold PySem.W.excIn at q
  split at q
  ·rename_i dd cdd sl ho
   split at q
   ·rename_i C' bm k0 k1 k2 k3 n k5 hm hs
    simp only[Fp,beq_iff_eq,Bool.not_eq_true'] at q
    obtain⟨⟨⟨⟨⟨rfl,rfl⟩,hdel⟩,ht⟩,hok⟩,hni⟩:=q
    obtain⟨nm,bs,mro,ns,qn,hd,sn,sub,ab,col,del⟩:=cdd
    dsimp only at hm hdel hok hni
    subst hm hdel
    have hsl:sl=#[k0,k1,k2,k3,some (.builtin n),k5]:=by
     obtain⟨l⟩:=sl
     simp only at hs
     rw[hs]
    subst hsl
    exact⟨bm,ns,nm,qn,bs,hd,sn,sub,ab,col,dd,k0,k1,k2,k3,k5,_,X _ _ ho,.of_isNs (PySem.W.isNs_of_in X hok),PySem.W.nsMap_none_of_in X hok hni,PySem.W.tail_of_in X ht⟩
   ·cases q
  ·cases q
 obtain⟨bm,Nn,nm,qn,bs,hdct,sn,sub,ab,col,dd,k0,k1,k2,k3,k5,mN,hC,hN,hni,TL⟩:=own I.ok.mod.kin
 have hA:=ha cpos pins s σ H _ I h
 refine wpAny_Raise_call_subT (C:=C) (nm:=nm) (q:=qn) (N:=Nn) (bs:=bs) (bm:=bm) (hdct:=hdct) (sn:=sn) (sub:=sub) (ab:=ab) (col:=col) (dd:=dd) (k0:=k0) (k1:=k1) (k2:=k2) (k3:=k3) (k5:=k5) FB (mN:=mN) (TL.hasType hbb) (I.ok.hd rfl) ?_ hni (nE I hg hm ⟨rfl,?_⟩ hdb)
 ·show (backTo cpos (starEach (e0 :: es) (envOfC qual scope s0.heap.objs.size f cd))).any (·.1)=false
  rw[he]
  show (false || (backTo cpos (starEach es (envOfC qual scope s0.heap.objs.size f cd))).any (·.1))=false
  rw[hpl];rfl
 have hA:wpAny _ _ (spliced (backTo cpos (starEach (e0 :: es) (envOfC qual scope s0.heap.objs.size f cd)))) _ _ s:=hA
 show wpAny _ _ (evalArgs (.ref C) true (backTo cpos (starEach (e0 :: es) (envOfC qual scope s0.heap.objs.size f cd))) []) _ _ s
 rw[he] at hA ⊢
 refine Calls.evalArgs_plain (bP hA λus s2 ⟨vs,H2,I2,r2,hl2,q2⟩=>⟨rfl,by show us.length<=_;rw[<-r2.length];exact hl2,I2.bk _ _ hC,hN.keeps I2.bk,TL.keeps I2.bk,λh' e hx=>?_⟩)
 have above:s0.heap.objs.size<=(envOfC qual scope s0.heap.objs.size f cd).locals:=I2.ok.above
 have nil:∀b:Addr,b∉([]:List Addr):=λb=>by simp
 refine qW (s:={s2 with heap:=h'}) (h:=s2.heap) (base:=base) (h₀:=s0.heap) I2.ok.frames rfl I2.stack I2.hok I2.stkFree (λb o z=>I2.base.there b o z (nil b)) hx λh2 kept slot Ly hok=>?_
 have nL:∀{b:Addr} {o:Obj},s0.heap.get? b=some o->b∉fx outer->b∉fx (envOfC qual scope s0.heap.objs.size f cd :: outer):=λ{b o} z hb hm=>by
  rcases EH.mp (I2.stkSub b hm) with e |e
  ·have:=EO z
   rw[e] at this
   exact absurd (E7 this above) (Fe _)
  ·exact hb e
 have inn:∀{b:Addr},b∈fx outer->b∈fx (envOfC qual scope s0.heap.objs.size f cd :: outer):=λ{b} hb=>by
  obtain⟨en,h1,h2⟩:=Gk.mp hb
  exact Gk.mpr ⟨en,EK _ h1,h2⟩
 refine⟨e,.ref C,H2,rfl,I2.os,I2.bare,⟨λb o z n hb _=>?_,λb o z n hb _=>?_,λb o z n _=>I2.base.free b o z n (nil b),λb o z _=>?_,I2.base.tups,I2.base.frzs,I2.base.tbls⟩,hok,Ly,q2⟩
 ·exact kept b o (I2.base.keep b o z n hb (nil b)) (nL z hb)
 ·obtain⟨sl,z1⟩:=I2.base.slot b o z n hb (nil b)
  obtain⟨sl2,z2⟩:=slot b _ z1 (inn hb)
  exact⟨sl2,z2⟩
 ·obtain⟨o',z1⟩:=I2.base.there b o z (nil b)
  by_cases hb:b∈fx (envOfC qual scope s0.heap.objs.size f cd :: outer)
  ·obtain⟨sl,z2⟩:=slot b o' z1 hb
   exact⟨_,z2⟩
  ·exact⟨o',kept b o' z1 hb⟩
end
def mroIn (K:Frag)(C:Addr):List Value:=match K.lookup C with
 |some ⟨_,_,.cls cd,_⟩=>cd.mro
 |_=>[]
structure wA (k:Nat)(A:Around):Prop where
 dp:A.depth + 3 * k + 5 < recursionLimit
 un:A.units + 16 * k + 200 < cLine
 gd:A.guards=some []
def cH.h {k:Nat}{A:Around}(r:cH k A):wA k A:=⟨r.dp,r.un,r.gd⟩
def wA.units {k:Nat}{A:Around}(r:wA k A):A.units + 64 < cLine:=by have:=r.un;omega
section
variable {P:Program}{w:World}{K:Frag}{mg:Str->Option Value}{base:Heap}
def yc.u9 {x qual:Str}{st:Stmt}{f:Addr}{fd:FuncData}{N ps:List Str}{k:Nat}{sp:Sp}(F:yc K x qual st f fd)(S:aG N ps (ak st))(len:∀vs H Q E,sp vs H Q E->vs.length=ps.length)
  (hbody:∀(cdv:Value) (A:Around) (outer:List Env) (s:Shared) (H:Hp) (vs:List V) (Q:VK) (E:XK),cH k (A.deeper (envOfC qual (ak st) s.heap.objs.size f cdv))->sp vs H Q E->
   ∃t,mS (iC (j7 P w) P w K mg base N qual (ak st) f cdv A outer s H E) (bL st) t/\t {nx:=λ_ H'=>Q .non H',rt:=Q} (start N vs) H):c7 P w K mg base (j7 P w) (k + 1) f fd ps sp:=by
 obtain⟨oc,od,kV,doc,pm,an,cdv,ct,osl,rfl,lk,hcd⟩:=F.ex
 exact z6 lk hcd S len λA outer s H vs Q E hr hsp=>hbody cdv A outer s H vs Q E hr hsp
end
section
variable {X:Cx}
def iu (hu:X.A.units + 100 < cLine):kc X (compareOp .NotIn) (CG X.K true):=by
 intro pins s σ H x y v u Q I rx ry h
 obtain⟨p,xs,d,ds,rfl,hq,hs,hx,s1,s2,q⟩:=h
 cases ry
 obtain⟨bs,r2⟩:=hx.reads I rx
 have key:∀{e:PyData} {as:List Addr} {u:Value},SeqAt.shaped e=true->Reads s.heap u e as->SeqAt.EqAt X.A.in1 s u v (PyData.eqv e d):=λ{e as u} h1 h2=>by
  refine SeqAt.eqAt_reads _ _ _ _ _ _ _ _ h2 r2 (GZ h1) (GZ s1) ?_
  have:=SeqAt.depth_of_shaped h1
  show X.A.units + 1 + _ < _
  omega
 rcases hq with hq |hq
 ·obtain⟨its,r,pl,hz⟩:=I.list hq
  obtain⟨f,e1,e2⟩:=qC I d r hs s2
  refine SeqAt.notIn_listAt f pl.isList (λw hw=>?_) ⟨.bl _,H,I,rfl,?_⟩
  ·obtain⟨e,as,hm,rd,ef⟩:=e2 w (by simpa using hw)
   rw[ef];exact key (s2 e hm) rd
  ·rw[show its.toArray.any f=its.any f by simp,e1];exact q
 ·obtain⟨its,r,pl,hz⟩:=I.tuple hq
  obtain⟨f,e1,e2⟩:=qC I d r hs s2
  refine SeqAt.notIn_tupleAt f pl (λw hw=>?_) ⟨.bl _,H,I,rfl,?_⟩
  ·obtain⟨e,as,hm,rd,ef⟩:=e2 w (by simpa using hw)
   rw[ef];exact key (s2 e hm) rd
  ·rw[show its.toArray.any f=its.any f by simp,e1];exact q
end
abbrev D:=PyData
def kD:Key->D
 | .inl i=>.int i
 | .inr x=>.str x
mutual
inductive Rp (K:Frag)(G:Hp):V->D->Prop
 |non:Rp K G .non .none
 |bl (b:Bool):Rp K G (.bl b) (.bool b)
 |int (i:Int):Rp K G (.int i) (.int i)
 |str (x:Str):Rp K G (.str x) (.str x)
 |tup {a:Addr} {xs:List V} {ds:List D}:eB K G a xs->bB K G xs ds->Rp K G (.ref a) (.tuple ds)
 |lst {a:Addr} {xs:List V} {ds:List D}:G a=some (.lst xs)->bB K G xs ds->Rp K G (.ref a) (.list ds)
 |scr {a:Addr} {ns:List Int}:dS K G a (ns.map V.int)->Rp K G (.ref a) (.dict [(.none,.list (ns.map int))])
 |dK {a:Addr} {kvs:List (Key×V)} {ds:List (D×D)}:G a=some (.dK kvs)->u7 K G kvs ds->Rp K G (.ref a) (.dict ds)
 |dT {a:Addr} {kvs:List (List Key×V)} {ds:List (D×D)}:G a=some (.dT kvs)->u4 K G kvs ds->Rp K G (.ref a) (.dict ds)
inductive bB (K:Frag)(G:Hp):List V->List D->Prop
 |nil:bB K G [] []
 |cons {x:V} {xs:List V} {d:D} {ds:List D}:Rp K G x d->bB K G xs ds->bB K G (x :: xs) (d :: ds)
inductive u7 (K:Frag)(G:Hp):List (Key×V)->List (D×D)->Prop
 |nil:u7 K G [] []
 |cons {k:Key} {x:V} {xs:List (Key×V)} {d:D} {ds:List (D×D)}:Rp K G x d->u7 K G xs ds->u7 K G ((k,x) :: xs) ((kD k,d) :: ds)
inductive u4 (K:Frag)(G:Hp):List (List Key×V)->List (D×D)->Prop
 |nil:u4 K G [] []
 |cons {k:List Key} {x:V} {xs:List (List Key×V)} {d:D} {ds:List (D×D)}:Rp K G x d->u4 K G xs ds->u4 K G ((k,x) :: xs) ((.tuple (k.map kD),d) :: ds)
end
section
variable {K:Frag}{G G' H H':Hp}
def Rd.mono {a:Addr}{u:HO}(h:Rd G a u)(s:ae G G'):Rd G' a u:=h.elim (λe=>.inl (s _ _ e)) λ⟨o,e⟩=>.inr ⟨o,s _ _ e⟩
mutual
theorem Rp.mono (s:ae G G'):∀{x:V} {d:D},Rp K G x d->Rp K G' x d
 |_,_,.non=>.non
 |_,_,.bl b=>.bl b
 |_,_,.int i=>.int i
 |_,_,.str x=>.str x
 |_,_,.tup h hs=>.tup (h.grow s.grow) (bB.mono s hs)
 |_,_,.lst h hs=>.lst (s _ _ h) (bB.mono s hs)
 |_,_,.scr h=>.scr (s.seq h)
 |_,_,.dK h hs=>.dK (s _ _ h) (u7.mono s hs)
 |_,_,.dT h hs=>.dT (s _ _ h) (u4.mono s hs)
theorem bB.mono (s:ae G G'):∀{xs:List V} {ds:List D},bB K G xs ds->bB K G' xs ds
 |_,_,.nil=>.nil
 |_,_,.cons h hs=>.cons (Rp.mono s h) (bB.mono s hs)
theorem u7.mono (s:ae G G'):∀{xs:List (Key×V)} {ds:List (D×D)},u7 K G xs ds->u7 K G' xs ds
 |_,_,.nil=>.nil
 |_,_,.cons h hs=>.cons (Rp.mono s h) (u7.mono s hs)
theorem u4.mono (s:ae G G'):∀{xs:List (List Key×V)} {ds:List (D×D)},u4 K G xs ds->u4 K G' xs ds
 |_,_,.nil=>.nil
 |_,_,.cons h hs=>.cons (Rp.mono s h) (u4.mono s hs)
end
theorem bB.len:∀{xs:List V} {ds:List D},bB K G xs ds->xs.length=ds.length
 |_,_,.nil=>rfl
 |_,_,.cons _ t=>by simp[bB.len t]
theorem bB.at:∀{xs:List V} {ds:List D} {i:Nat} {d:D},bB K G xs ds->ds[i]? =some d->∃x,xs[i]? =some x/\Rp K G x d
 |_,_,_,_,.nil,e=>by simp at e
 |_,_,0,_,.cons r _,e=>by simp at e;subst e;exact⟨_,rfl,r⟩
 |_,_,i + 1,x,.cons _ t,e=>by
  obtain⟨u,h1,h2⟩:=bB.at (i:=i) (d:=x) t (by simpa using e)
  exact⟨u,by simpa using h1,h2⟩
theorem bB.at':∀{xs:List V} {ds:List D} {i:Nat} {x:V},bB K G xs ds->xs[i]? =some x->∃d,ds[i]? =some d/\Rp K G x d
 |_,_,_,_,.nil,e=>by simp at e
 |_,_,0,_,.cons r _,e=>by simp at e;subst e;exact⟨_,rfl,r⟩
 |_,_,i + 1,x,.cons _ t,e=>by
  obtain⟨u,h1,h2⟩:=bB.at' (i:=i) (x:=x) t (by simpa using e)
  exact⟨u,by simpa using h1,h2⟩
theorem bB.append:∀{xs ys:List V} {ds es:List D},bB K G xs ds->bB K G ys es->bB K G (xs ++ ys) (ds ++ es)
 |_,_,_,_,.nil,s=>s
 |_,_,_,_,.cons r t,s=>.cons r (bB.append t s)
def bB.snoc {xs:List V}{ds:List D}{x:V}{d:D}(h:bB K G xs ds)(q:Rp K G x d):bB K G (xs ++ [x]) (ds ++ [d]):=h.append (.cons q .nil)
theorem bB.take:∀{xs:List V} {ds:List D} (n:Nat),bB K G xs ds->bB K G (xs.take n) (ds.take n)
 |_,_,0,_=>.nil
 |_,_,_ + 1,.nil=>.nil
 |_,_,n + 1,.cons r t=>.cons r (bB.take n t)
theorem bB.drop:∀{xs:List V} {ds:List D} (n:Nat),bB K G xs ds->bB K G (xs.drop n) (ds.drop n)
 |_,_,0,r=>r
 |_,_,_ + 1,.nil=>.nil
 |_,_,n + 1,.cons _ t=>bB.drop n t
mutual
def vd:D->Bool
 | .dict _=>false
 | .list ds=>lV ds
 | .tuple ds=>lV ds
 |_=>true
def lV:List D->Bool
 | []=>true
 |d :: ds=>vd d && lV ds
end
mutual
theorem Rp.rep:∀{x:V} {d:D},Rp K G x d->vd d=true->Rep K G x d
 |_,_,.non,_=>.non
 |_,_,.bl b,_=>.bl b
 |_,_,.int i,_=>.int i
 |_,_,.str x,_=>.str x
 |_,_,.tup h hs,e=>.tup h (bB.reps hs (by simpa[vd] using e))
 |_,_,.lst h hs,e=>.lst (.inl (.inl h)) (bB.reps hs (by simpa[vd] using e))
 |_,_,.scr _,e=>by simp[vd] at e
 |_,_,.dK _ _,e=>by simp[vd] at e
 |_,_,.dT _ _,e=>by simp[vd] at e
theorem bB.reps:∀{xs:List V} {ds:List D},bB K G xs ds->lV ds=true->fH K G xs ds
 |_,_,.nil,_=>.nil
 |_,_,.cons h hs,e=>.cons (Rp.rep h (by simp[lV] at e;exact e.1)) (bB.reps hs (by simp[lV] at e;exact e.2))
end
def Own (K:Frag)(G H:Hp)(a:Addr):D->Prop
 | .list ds=>∃xs,H a=some (.lst xs)/\bB K G xs ds
 | .dict ds=>(∃kvs,H a=some (.dK kvs)/\u7 K G kvs ds)\/∃kvs,H a=some (.dT kvs)/\u4 K G kvs ds
 |_=>False
def Own.obj {a:Addr}{d:D}(h:Own K G H a d):∃o,H a=some o:=by
 cases d <;> first |exact h.elim |skip
 ·obtain⟨xs,e,_⟩:=h;exact⟨_,e⟩
 ·rcases h with⟨_,e,_⟩ | ⟨_,e,_⟩ <;> exact⟨_,e⟩
def Own.mono {a:Addr}{d:D}(h:Own K G H a d)(s:ae G G')(m:∀o,H a=some o->H' a=some o):Own K G' H' a d:=by
 cases d <;> first |exact h.elim |skip
 ·obtain⟨xs,e,r⟩:=h;exact⟨xs,m _ e,r.mono s⟩
 ·rcases h with⟨k,e,r⟩ | ⟨k,e,r⟩
  ·exact .inl ⟨k,m _ e,r.mono s⟩
  ·exact .inr ⟨k,m _ e,r.mono s⟩
def Own.rp {a:Addr}{d:D}(h:Own K G H a d)(n:G a=none){G':Hp}(s:ae G G')(e:∀o,H a=some o->G' a=some o):Rp K G' (.ref a) d:=by
 cases d <;> first |exact h.elim |skip
 ·obtain⟨xs,q,r⟩:=h;exact .lst (e _ q) (r.mono s)
 ·rcases h with⟨k,q,r⟩ | ⟨k,q,r⟩
  ·exact .dK (e _ q) (r.mono s)
  ·exact .dT (e _ q) (r.mono s)
def iY (K:Frag)(B:Option Addr)(G H:Hp)(v:V)(d:D):Prop:=Rp K G v d\/∃a,v=.ref a/\B≠some a/\Own K G H a d
def fk (B:Option Addr)(H H':Hp):Prop:=∀b o,H b=some o->B≠some b->H' b=some o
def fk.refl (B:Option Addr)(H:Hp):fk B H H:=λ_ _ h _=>h
def fk.trans {B:Option Addr}{H1:Hp}(x:fk B H H1)(y:fk B H1 H'):fk B H H':=λb o h n=>y b o (x b o h n) n
def ae.mov (s:ae H H')(B:Option Addr):fk B H H':=λb o h _=>s b o h
def iY.mono {B:Option Addr}{v:V}{d:D}(h:iY K B G H v d)(s:ae G G')(m:fk B H H'):iY K B G' H' v d:=by
 rcases h with h | ⟨a,e,n,h⟩
 ·exact .inl (h.mono s)
 ·exact .inr ⟨a,e,n,h.mono s λo q=>m a o q n⟩
def iY.rpH {B:Option Addr}{v:V}{d:D}(h:iY K B G H v d)(s:ae G H):Rp K H v d:=by
 rcases h with h | ⟨a,rfl,n,h⟩
 ·exact h.mono s
 ·cases d <;> first |exact h.elim |skip
  ·obtain⟨xs,q,r⟩:=h;exact .lst q (r.mono s)
  ·rcases h with⟨k,q,r⟩ | ⟨k,q,r⟩
   ·exact .dK q (r.mono s)
   ·exact .dT q (r.mono s)
def iY.list {B:Option Addr}{v:V}{ds:List D}(h:iY K B G H v (.list ds))(s:ae G H):∃a xs,v=.ref a/\Rd H a (.lst xs)/\bB K G xs ds:=by
 rcases h with h | ⟨a,rfl,n,xs,q,r⟩
 ·cases h with
  |lst h r=>exact⟨_,_,rfl,.inl (s _ _ h),r⟩
 ·exact⟨a,xs,rfl,.inl q,r⟩
def iY.tuple {B:Option Addr}{v:V}{ds:List D}(h:iY K B G H v (.tuple ds))(s:ae G H):∃a xs,v=.ref a/\eB K H a xs/\bB K G xs ds:=by
 rcases h with h | ⟨a,rfl,n,h⟩
 ·cases h with
  |tup h r=>exact⟨_,_,rfl,h.grow s.grow,r⟩
 ·exact h.elim
def iY.int {B:Option Addr}{v:V}{i:Int}(h:iY K B G H v (.int i)):v=.int i:=by
 rcases h with h | ⟨a,rfl,n,h⟩
 ·cases h;rfl
 ·exact h.elim
def iY.bool {B:Option Addr}{v:V}{b:Bool}(h:iY K B G H v (.bool b)):v=.bl b:=by
 rcases h with h | ⟨a,rfl,n,h⟩
 ·cases h;rfl
 ·exact h.elim
def iY.str {B:Option Addr}{v:V}{x:Str}(h:iY K B G H v (.str x)):v=.str x:=by
 rcases h with h | ⟨a,rfl,n,h⟩
 ·cases h;rfl
 ·exact h.elim
def iY.none {B:Option Addr}{v:V}(h:iY K B G H v .none):v=.non:=by
 rcases h with h | ⟨a,rfl,n,h⟩
 ·cases h;rfl
 ·exact h.elim
end
def Fz:HO->Prop
 | .tup _=>True
 | .aL _ _=>True
 |_=>False
def Mx (H:Hp)(b:Addr):Prop:=H b≠none/\∀o,H b=some o->¬Fz o
def Mx.lst {H:Hp}{b:Addr}{xs:List V}(h:H b=some (.lst xs)):Mx H b:=⟨by rw[h];simp,λys z=>by rw[h] at z;cases z;exact λy=>y⟩
theorem Mx.same {H H':Hp}{b:Addr}(h:Mx H b)(m:∀o,H b=some o->H' b=some o):Mx H' b:=by
 obtain⟨h1,h2⟩:=h
 cases e:H b with
 |none=>exact absurd e h1
 |some o=>
  refine⟨by rw[m o e];simp,λxs z=>?_⟩
  rw[m o e] at z
  cases z
  exact h2 o e
def Own.mx {K:Frag}{G H:Hp}{a:Addr}{d:D}(h:Own K G H a d):Mx H a:=by
 cases d <;> first |exact h.elim |skip
 ·obtain⟨xs,e,_⟩:=h;exact Mx.lst e
 ·rcases h with⟨k,e,_⟩ | ⟨k,e,_⟩ <;> exact⟨by rw[e];simp,λys z=>by rw[e] at z;cases z;exact λy=>y⟩
open Classical in
noncomputable def dU (G H:Hp):Hp:=λb=>match G b with
 |some o=>some o
 |none=>match H b with
  |some o=>if Fz o then some o else none
  |none=>none
def jy {G H:Hp}:ae G (dU G H):=λb o e=>by unfold dU;rw[e]
theorem sO {G H:Hp}(s:ae G H){b:Addr}{o:HO}(e:H b=some o)(f:Fz o):dU G H b=some o:=by
 unfold dU
 cases q:G b with
 |some u=>have:=s b u q;rw[e] at this;cases this;rfl
 |none=>simp only[e];rw[EI f]
theorem i5 {G H:Hp}(s:ae G H):ae (dU G H) H:=λb o e=>by
 unfold dU at e
 cases q:G b with
 |some u=>rw[q] at e;cases e;exact s b _ q
 |none=>
  rw[q] at e
  cases q2:H b with
  |none=>rw[q2] at e;cases e
  |some u=>
   rw[q2] at e
   dsimp only at e
   split at e
   ·cases e;rfl
   ·cases e
theorem oz {G H H':Hp}(hh:ae H H'){b:Addr}(m:Mx H b):dU G H' b=G b:=by
 unfold dU
 cases q:G b with
 |some u=>rfl
 |none=>
  obtain⟨h1,h2⟩:=m
  cases e:H b with
  |none=>exact absurd e h1
  |some o=>
   simp only[hh b o e]
   rw[EN (h2 o e)]
def i8 {K:Frag}{G H:Hp}(s:ae G H){a:Addr}{xs:List V}(h:eB K H a xs):eB K (dU G H) a xs:=by
 rcases h with (h | ⟨o,h⟩) |h
 ·exact .inl (.inl (sO s h trivial))
 ·exact .inl (.inr ⟨o,sO s h trivial⟩)
 ·exact .inr h
structure Fx where
 K:Frag
 H0:Hp
 G0:Hp
 par:List Addr
 ca:Str->Addr
 br:Nat->Bool
 bx:Option Addr
inductive Sl where
 |no |fz (d:D) |ow (d:D) |bx |br (d:D)
abbrev En:=List Sl
inductive Nv where
 |no |da (d:D) |bx
def Sl.val:Sl->Nv
 | .no=>.no
 | .fz d=>.da d
 | .ow d=>.da d
 | .br d=>.da d
 | .bx=>.bx
def vl (env:En):List Nv:=env.map Sl.val
def Dz (Γ:Fx)(B:Option Addr)(G H:Hp)(i:Nat)(o:Option (Option V)):Sl->Prop
 | .no=>True
 | .fz d=>∃v,o=some (some v)/\Rp Γ.K G v d
 | .ow d=>∃a,o=some (some (.ref a))/\Γ.H0 a=none/\G a=none/\B≠some a/\Own Γ.K G H a d
 | .bx=>∃a,o=some (some (.ref a))/\B=some a
 | .br d=>Γ.br i=true/\∃a,o=some (some (.ref a))/\B≠some a/\a∉Γ.par/\Own Γ.K G H a d
structure SR (Γ:Fx)(B:Option Addr)(G H:Hp)(σ:St)(env:En)(β:Int):Prop where
 sub:ae G H
 old:ae Γ.G0 G
 new:∀b,Mx Γ.H0 b->Γ.G0 b=none->G b=none
 keep:∀b o,Γ.H0 b=some o->b∉Γ.par->H b=some o
 pin:∀b,b∈Γ.par->Mx H b
 fix:∀b,Γ.bx=some b->B=some b
 box:∀b,B=some b->H b=some (.lst [.int β])/\G b=none/\(b∈Γ.par\/Γ.H0 b=none)
 len:σ.length=env.length
 slot:∀(i:Nat) (s:Sl),env[i]? =some s->Dz Γ B G H i (σ[i]?) s
 sep:∀(i j:Nat) (a:Addr) (d e:D),env[i]? =some (.ow d)->env[j]? =some (.ow e)->σ[i]? =some (some (.ref a))->σ[j]? =some (some (.ref a))->i=j
structure Ext (G H G' H':Hp):Prop where
 hh:ae H H'
 gg:ae G G'
 gh:ae G' H'
 on:∀b,Mx H b->G' b=G b
def Ext.refl {G H:Hp}(s:ae G H):Ext G H G H:=⟨ae.refl _,ae.refl _,s,λ_ _=>rfl⟩
def Ext.tups {G H H':Hp}(s:ae G H)(hh:ae H H'):Ext G H (dU G H') H':=⟨hh,jy,i5 (s.trans hh),λ_ m=>oz hh m⟩
def Ext.new {G H:Hp}(s:ae G H){p:Addr}{o:HO}(h:H p=none):Ext G H (upd G p o) (upd H p o):=by
 refine⟨ae.new h,ae.new (s.free h),λb u e=>?_,λb hb=>?_⟩
 ·by_cases z:b=p
  ·subst z;rw[ao] at e ⊢;exact e
  ·rw[ag z] at e ⊢;exact s b u e
 ·exact ag (λz=>hb.1 (by rw[z];exact h))
def Ext.own {G H:Hp}(s:ae G H){p:Addr}{o:HO}(h:H p=none):Ext G H G (upd H p o):=
 ⟨ae.new h,ae.refl _,s.trans (ae.new h),λ_ _=>rfl⟩
def Ext.trans {G H G1 H1 G2 H2:Hp}(x:Ext G H G1 H1)(y:Ext G1 H1 G2 H2):Ext G H G2 H2:=by
 refine⟨x.hh.trans y.hh,x.gg.trans y.gg,y.gh,λb hb=>?_⟩
 rw[y.on b (hb.same λo e=>x.hh b o e),x.on b hb]
section
variable {Γ:Fx}{B:Option Addr}{G H G' H':Hp}{σ:St}{env:En}{β:Int}
def SR.there (I:SR Γ B G H σ env β){b:Addr}(h:Γ.H0 b≠none):H b≠none:=by
 by_cases hp:b∈Γ.par
 ·exact (I.pin b hp).1
 ·cases e:Γ.H0 b with
  |none=>exact absurd e h
  |some o=>rw[I.keep b o e hp];simp
def SR.thereM (I:SR Γ B G H σ env β){b:Addr}(h:Mx Γ.H0 b):Mx H b:=by
 by_cases hp:b∈Γ.par
 ·exact I.pin b hp
 ·exact h.same λo e=>I.keep b o e hp
def SR.ext (I:SR Γ B G H σ env β)(x:Ext G H G' H'):SR Γ B G' H' σ env β:=by
 refine⟨x.gh,I.old.trans x.gg,λb h1 h2=>?_,λb o h1 h2=>x.hh b o (I.keep b o h1 h2),λb hb=>?_,I.fix,λb e=>?_,I.len,λi s e=>?_,I.sep⟩
 ·rw[x.on b (I.thereM h1)];exact I.new b h1 h2
 ·exact (I.pin b hb).same λo e=>x.hh b o e
 ·obtain⟨h1,h2,h3⟩:=I.box b e
  exact⟨x.hh b _ h1,by rw[x.on b (Mx.lst h1)];exact h2,h3⟩
 ·have q:=I.slot i s e
  cases s with
  |no=>trivial
  |fz d=>obtain⟨v,h1,h2⟩:=q;exact⟨v,h1,h2.mono x.gg⟩
  |ow d=>
   obtain⟨a,h1,h2,h3,h4,h5⟩:=q
   exact⟨a,h1,h2,by rw[x.on a h5.mx];exact h3,h4,h5.mono x.gg λo q=>x.hh a o q⟩
  |bx=>exact q
  |br d=>obtain⟨b1,a,h1,h4,hp,h5⟩:=q;exact⟨b1,a,h1,h4,hp,h5.mono x.gg λo q=>x.hh a o q⟩
def fO (env:En)(i:Nat):En:=match env[i]? with
 |some (.ow d)=>env.set i (.fz d)
 |_=>env
def aL (L:List Nat)(env:En):En:=L.foldl fO env
def eG (L M:List Nat)(env:En):aL (L ++ M) env=aL M (aL L env):=by unfold aL;rw[List.foldl_append]
def rN (env:En)(i:Nat)(s:Sl)(h:∀t,env[i]? =some t->t.val=s.val):vl (env.set i s)=vl env:=by
 unfold vl
 apply Hv
 intro j
 rw[ES,ES,List.getElem?_set]
 by_cases e:i=j
 ·subst e
  by_cases hi:i < env.length
  ·simp only[FH,hi]
   have:=h _ (ED hi)
   simp[ED hi,this]
  ·simp only[FH,hi,Fh]
   rw[List.getElem?_eq_none (by omega)]
 ·simp[e]
def zm (env:En)(i:Nat):vl (fO env i)=vl env:=by
 unfold fO
 split
 ·rename_i d e
  exact rN _ _ _ λt ht=>by rw[e] at ht;cases ht;rfl
 ·rfl
theorem lA (L:List Nat)(env:En):vl (aL L env)=vl env:=by
 unfold aL
 induction L generalizing env with
 |nil=>rfl
 |cons i L ih=>rw[foldl_cons,ih,zm]
theorem Ad {i:Nat}{d:D}(h:(vl env)[i]? =some (.da d)):env[i]? =some (.fz d)\/env[i]? =some (.ow d)\/env[i]? =some (.br d):=by
 unfold vl at h
 rw[ES] at h
 cases e:env[i]? with
 |none=>rw[e] at h;simp at h
 |some s=>
  rw[e] at h
  cases s with
  |no=>simp[Sl.val] at h
  |fz d'=>simp[Sl.val] at h;subst h;exact .inl rfl
  |ow d'=>simp[Sl.val] at h;subst h;exact .inr (.inl rfl)
  |bx=>simp[Sl.val] at h
  |br d'=>simp[Sl.val] at h;subst h;exact .inr (.inr rfl)
theorem B5 {i:Nat}(h:(vl env)[i]? =some .bx):env[i]? =some .bx:=by
 unfold vl at h
 rw[ES] at h
 cases e:env[i]? with
 |none=>rw[e] at h;simp at h
 |some s=>
  rw[e] at h
  cases s with
  |bx=>rfl
  |_=>simp[Sl.val] at h
def SR.freeze (I:SR Γ B G H σ env β)(i:Nat)(hb:Γ.br i=false){d:D}(h:(vl env)[i]? =some (.da d)):∃G' v,SR Γ B G' H σ (fO env i) β/\ae G G'/\σ[i]? =some (some v)/\Rp Γ.K G' v d:=by
 rcases Ad h with e |e |e
 ·obtain⟨v,h1,h2⟩:=I.slot i _ e
  exact⟨G,v,by unfold fO;rw[e];exact I,ae.refl _,h1,h2⟩
 rotate_left
 ·obtain⟨z,_⟩:=I.slot i _ e
  rw[hb] at z;cases z
 ·obtain⟨a,h1,h2,h3,h4,h5⟩:=I.slot i _ e
  obtain⟨o,ho⟩:=h5.obj
  have sG:ae G (upd G a o):=ae.new h3
  have hi:i < env.length:=(EV.mp e).1
  have hr:Rp Γ.K (upd G a o) (.ref a) d:=h5.rp h3 sG λo' q=>by rw[ho] at q;cases q;exact ao
  refine⟨upd G a o,.ref a,?_,sG,h1,hr⟩
  unfold fO
  rw[e]
  refine⟨λb u q=>?_,I.old.trans sG,λb n1 n2=>?_,I.keep,I.pin,I.fix,λb q=>?_,by rw[GG];exact I.len,λj s q=>?_,λj k c d1 d2 q1 q2 q3 q4=>?_⟩
  ·by_cases z:b=a
   ·subst z;rw[ao] at q;cases q;exact ho
   ·rw[ag z] at q;exact I.sub b u q
  ·rw[ag (λz=>n1.1 (by rw[z];exact h2))];exact I.new b n1 n2
  ·obtain⟨k1,k2,k3⟩:=I.box b q
   exact⟨k1,by rw[ag (λz=>h4 (by rw[<-z];exact q))];exact k2,k3⟩
  ·by_cases z:j=i
   ·subst z
    rw[E5 hi] at q
    cases q
    exact⟨.ref a,h1,hr⟩
   ·rw[E1 (Ne.symm z)] at q
    have w:=I.slot j s q
    cases s with
    |no=>trivial
    |fz d'=>obtain⟨v,w1,w2⟩:=w;exact⟨v,w1,w2.mono sG⟩
    |ow d'=>
     obtain⟨c,w1,w2,w3,w4,w5⟩:=w
     have ca:c≠a:=λz2=>z (I.sep j i c d' d q e w1 (by rw[z2];exact h1))
     exact⟨c,w1,w2,by rw[ag ca];exact w3,w4,w5.mono sG λo q=>q⟩
    |bx=>exact w
    |br d'=>obtain⟨b1,c,w1,w4,wp,w5⟩:=w;exact⟨b1,c,w1,w4,wp,w5.mono sG λo q=>q⟩
  ·have ne:∀{j:Nat} {d':D},(env.set i (Sl.fz d))[j]? =some (.ow d')->env[j]? =some (.ow d'):=λ{j d'} q=>by
    by_cases z:j=i
    ·subst z;rw[E5 hi] at q;cases q
    ·rw[E1 (Ne.symm z)] at q;exact q
   exact I.sep j k c d1 d2 (ne q1) (ne q2) q3 q4
theorem SR.aL (I:SR Γ B G H σ env β)(L:List Nat)(hb:∀i,i∈L->Γ.br i=false):∃G',SR Γ B G' H σ (aL L env) β/\ae G G':=by
 induction L generalizing env G with
 |nil=>exact⟨G,I,ae.refl _⟩
 |cons i L ih=>
  show ∃G',SR Γ B G' H σ (L2.aL L (fO env i)) β/\ae G G'
  have key:∃G1,SR Γ B G1 H σ (fO env i) β/\ae G G1:=by
   cases e:env[i]? with
   |none=>exact⟨G,by unfold fO;rw[e];exact I,ae.refl _⟩
   |some s=>
    cases s with
    |ow d=>
     obtain⟨G1,v,h1,h2,_⟩:=I.freeze i (hb i (EL ..)) (d:=d) (by unfold vl;rw[ES,e];rfl)
     exact⟨G1,h1,h2⟩
    |_=>exact⟨G,by unfold fO;rw[e];exact I,ae.refl _⟩
  obtain⟨G1,I1,s1⟩:=key
  obtain⟨G2,I2,s2⟩:=ih I1 λj hj=>hb j (EK _ hj)
  exact⟨G2,I2,s1.trans s2⟩
def SR.set (I:SR Γ B G H σ env β){i:Nat}(hi:i < env.length){v:V}{d:D}(h:Rp Γ.K G v d):SR Γ B G H (σ.set i (some v)) (env.set i (.fz d)) β:=by
 have hs:i < σ.length:=by rw[I.len];exact hi
 refine⟨I.sub,I.old,I.new,I.keep,I.pin,I.fix,I.box,by rw[GG,GG];exact I.len,λj s q=>?_,λj k c d1 d2 q1 q2 q3 q4=>?_⟩
 ·by_cases z:j=i
  ·subst z
   rw[E5 hi] at q
   cases q
   exact⟨v,by rw[E5 hs],h⟩
  ·rw[E1 (Ne.symm z)] at q ⊢
   exact I.slot j s q
 ·have ne:∀{j:Nat} {d':D},(env.set i (Sl.fz d))[j]? =some (.ow d')->j≠i/\env[j]? =some (.ow d'):=λ{j d'} q=>by
   by_cases z:j=i
   ·subst z;rw[E5 hi] at q;cases q
   ·rw[E1 (Ne.symm z)] at q;exact⟨z,q⟩
  obtain⟨n1,e1⟩:=ne q1
  obtain⟨n2,e2⟩:=ne q2
  rw[E1 (Ne.symm n1)] at q3
  rw[E1 (Ne.symm n2)] at q4
  exact I.sep j k c d1 d2 e1 e2 q3 q4
def SR.setOw (I:SR Γ B G H σ env β){i:Nat}(hi:i < env.length){a:Addr}{d:D}(h0:Γ.H0 a=none)(hg:G a=none)(hb:B≠some a)(h:Own Γ.K G H a d)(hn:∀(j:Nat) (d':D),env[j]? =some (.ow d')->j≠i->σ[j]?≠some (some (.ref a))):SR Γ B G H (σ.set i (some (.ref a))) (env.set i (.ow d)) β:=by
 have hs:i < σ.length:=by rw[I.len];exact hi
 refine⟨I.sub,I.old,I.new,I.keep,I.pin,I.fix,I.box,by rw[GG,GG];exact I.len,λj s q=>?_,λj k c d1 d2 q1 q2 q3 q4=>?_⟩
 ·by_cases z:j=i
  ·subst z
   rw[E5 hi] at q
   cases q
   exact⟨a,by rw[E5 hs],h0,hg,hb,h⟩
  ·rw[E1 (Ne.symm z)] at q ⊢
   exact I.slot j s q
 ·by_cases z1:j=i
  ·by_cases z2:k=i
   ·rw[z1,z2]
   ·subst z1
    rw[E1 (Ne.symm z2)] at q2 q4
    rw[E5 hs] at q3
    cases q3
    exact absurd q4 (hn k d2 q2 z2)
  ·by_cases z2:k=i
   ·subst z2
    rw[E1 (Ne.symm z1)] at q1 q3
    rw[E5 hs] at q4
    cases q4
    exact absurd q3 (hn j d1 q1 z1)
   ·rw[E1 (Ne.symm z1)] at q1 q3
    rw[E1 (Ne.symm z2)] at q2 q4
    exact I.sep j k c d1 d2 q1 q2 q3 q4
def SR.fresh (I:SR Γ B G H σ env β){a:Addr}(h:H a=none):Γ.H0 a=none/\G a=none/\B≠some a/\∀(j:Nat) (d:D),env[j]? =some (.ow d)->σ[j]?≠some (some (.ref a)):=by
 have hB:B≠some a:=λz=>by rw[(I.box a z).1] at h;cases h
 refine⟨?_,I.sub.free h,hB,λj d e z=>?_⟩
 ·cases e:Γ.H0 a with
  |none=>rfl
  |some o=>exact absurd h (I.there (by rw[e];simp))
 ·obtain⟨c,h1,_,_,_,h5⟩:=I.slot j _ e
  rw[z] at h1
  cases h1
  obtain⟨o,ho⟩:=h5.obj
  rw[h] at ho;cases ho
def SR.write (I:SR Γ B G H σ env β)(hb:∀j,Γ.br j=false){i:Nat}{a:Addr}{d d':D}{o:HO}(e:env[i]? =some (.ow d))(ea:σ[i]? =some (some (.ref a)))(h:∀H',H' a=some o->ae G H'->Own Γ.K G H' a d'):SR Γ B G (upd H a o) σ (env.set i (.ow d')) β:=by
 obtain⟨a',h1,h2,h3,h4,h5⟩:=I.slot i _ e
 rw[ea] at h1;cases h1
 have hi:i < env.length:=(EV.mp e).1
 have sub:ae G (upd H a o):=λb u q=>by rw[ag (λz=>by rw[z,h3] at q;cases q)];exact I.sub b u q
 refine⟨sub,I.old,I.new,λb u q n=>?_,λb q=>?_,I.fix,λb q=>?_,by rw[GG];exact I.len,λj s q=>?_,λj k c d1 d2 q1 q2 q3 q4=>?_⟩
 ·rw[ag (λz=>by rw[z,h2] at q;cases q)];exact I.keep b u q n
 ·by_cases z:b=a
  ·subst z;exact (h _ ao sub).mx
  ·exact (I.pin b q).same λo e=>by rw[ag z];exact e
 ·obtain⟨k1,k2,k3⟩:=I.box b q
  exact⟨by rw[ag (λz=>h4 (by rw[<-z];exact q))];exact k1,k2,k3⟩
 ·by_cases z:j=i
  ·subst z
   rw[E5 hi] at q
   cases q
   exact⟨a,ea,h2,h3,h4,h _ ao sub⟩
  ·rw[E1 (Ne.symm z)] at q
   have w:=I.slot j s q
   cases s with
   |no=>trivial
   |fz d1=>exact w
   |ow d1=>
    obtain⟨c,w1,w2,w3,w4,w5⟩:=w
    have ca:c≠a:=λz2=>z (I.sep j i c d1 d q e w1 (by rw[z2];exact ea))
    exact⟨c,w1,w2,w3,w4,w5.mono (ae.refl _) λo q=>by rw[ag ca];exact q⟩
   |bx=>exact w
   |br d1=>obtain⟨b1,_⟩:=w;rw[hb j] at b1;cases b1
 ·have back:∀{j:Nat} {d1:D},(env.set i (Sl.ow d'))[j]? =some (.ow d1)->∃d2,env[j]? =some (.ow d2):=λ{j d1} q=>by
   by_cases z:j=i
   ·subst z;exact⟨d,e⟩
   ·rw[E1 (Ne.symm z)] at q;exact⟨d1,q⟩
  obtain⟨_,b1⟩:=back q1
  obtain⟨_,b2⟩:=back q2
  exact I.sep j k c _ _ b1 b2 q3 q4
end
inductive R (α:Type) where
 |ok (a:α) (β:Int)
 |exc (c:Str)
 |bad
def R.bnd {α γ:Type}(r:R α)(k:α->Int->R γ):R γ:=match r with
 | .ok a β=>k a β
 | .exc c=>.exc c
 | .bad=>.bad
def R.of {α:Type}(o:Option α)(β:Int):R α:=match o with
 |some a=>.ok a β
 |none=>.bad
abbrev VF (α:Type):=List Nv->Int->R α
def Kp (Γ:Fx)(H':Hp):Prop:=∀b o,Γ.H0 b=some o->b∉Γ.par->H' b=some o
def Out {α:Type}(Γ:Fx)(E:XK)(r:R α)(P:α->Int->Prop):Prop:=match r with
 | .ok a β=>P a β
 | .exc c=>∀H',Kp Γ H'->E (.ref (Γ.ca c)) none H'
 | .bad=>False
section
variable {α γ:Type}{Γ:Fx}{E:XK}
theorem Out.bnd {r:R α}{k:α->Int->R γ}{P:γ->Int->Prop}(h:Out Γ E (r.bnd k) P):Out Γ E r λa β=>Out Γ E (k a β) P:=by
 cases r with
 |ok a β=>exact h
 |exc c=>exact h
 |bad=>exact h
theorem Out.imp {r:R α}{P P':α->Int->Prop}(h:Out Γ E r P)(i:∀a β,P a β->P' a β):Out Γ E r P':=by
 cases r with
 |ok a β=>exact i a β h
 |exc c=>exact h
 |bad=>exact h
theorem Out.of {o:Option α}{β:Int}{P:α->Int->Prop}(h:Out Γ E (R.of o β) P):∃a,o=some a/\P a β:=by
 cases o with
 |none=>exact h.elim
 |some a=>exact⟨a,rfl,h⟩
end
inductive Md where
 |b |v |w
def VO (K:Frag)(B:Option Addr)(H G' H':Hp):Md->D->V->Prop
 | .b,d,v=>iY K B G' H' v d
 | .v,d,v=>Rp K G' v d
 | .w,d,v=>∃a,v=.ref a/\H a=none/\G' a=none/\Own K G' H' a d
def pT (Γ:Fx)(E:XK)(f:VF D)(L:List Nat)(md:Md):TE:=λσ H Q=>∃env G B β,SR Γ B G H σ env β/\
 Out Γ E (f (vl env) β) λd β'=>∀v G' H',SR Γ B G' H' σ (aL L env) β'->ae G G'->fk B H H'->VO Γ.K B H G' H' md d v->Q v H'
def SE (X:Cx)(Γ:Fx)(E:XK)(e:Expr)(f:VF D)(L:List Nat)(md:Md):Prop:=PE X e (pT Γ E f L md)
def qT (Γ:Fx)(E:XK)(f:VF Bool)(L:List Nat):TT:=λσ H Q=>∃env G B β,SR Γ B G H σ env β/\
 Out Γ E (f (vl env) β) λc β'=>∀G' H',SR Γ B G' H' σ (aL L env) β'->ae G G'->fk B H H'->Q c H'
def yb (X:Cx)(Γ:Fx)(E:XK)(e:Expr)(f:VF Bool)(L:List Nat):Prop:=PT X e (qT Γ E f L)
def zc (X:Cx)(Γ:Fx)(E:XK)(e:Expr)(f:VF Bool)(L:List Nat):Prop:=PW X e (qT Γ E f L)
def aT (Γ:Fx)(E:XK)(f:VF (List D))(L:List Nat):TA:=λσ H Q=>∃env G B β,SR Γ B G H σ env β/\
 Out Γ E (f (vl env) β) λds β'=>∀vs G' H',SR Γ B G' H' σ (aL L env) β'->ae G G'->fk B H H'->bB Γ.K G' vs ds->Q vs H'
def SA (X:Cx)(Γ:Fx)(E:XK)(es:List Expr)(f:VF (List D))(L:List Nat):Prop:=PA X es (aT Γ E f L)
def PE.post' {X:Cx}{e:Expr}{t u:TE}(h:PE X e t)(m:∀σ H Q,u σ H Q->t σ H Q):PE X e u:=λpins s σ H Q I q=>h pins s σ H Q I (m σ H Q q)
def PT.post {X:Cx}{e:Expr}{t u:TT}(h:PT X e t)(m:∀σ H Q,u σ H Q->t σ H Q):PT X e u:=λpins s σ H Q I q=>h pins s σ H Q I (m σ H Q q)
def PW.post {X:Cx}{e:Expr}{t u:TT}(h:PW X e t)(m:∀σ H Q,u σ H Q->t σ H Q):PW X e u:=λwh pins s σ H Q I q=>h wh pins s σ H Q I (m σ H Q q)
def PA.post {X:Cx}{es:List Expr}{t u:TA}(h:PA X es t)(m:∀σ H Q,u σ H Q->t σ H Q):PA X es u:=λpos pins s σ H Q I q=>h pos pins s σ H Q I (m σ H Q q)
def PS.post {X:Cx}{st:Stmt}{t u:TS}(h:PS X st t)(m:∀D σ H,u D σ H->t D σ H):PS X st u:=λpins s σ H D I q=>h pins s σ H D I (m D σ H q)
def dat:Option Nv->Option D
 |some (.da d)=>some d
 |_=>none
def gv (i:Nat):VF D:=λvs β=>R.of (dat vs[i]?) β
def cst (d:D):VF D:=λ_ β=>.ok d β
section
variable {X:Cx}{Γ:Fx}{E:XK}{e a b c:Expr}{f fa fb fc:VF D}{L La Lb Lc:List Nat}{md ma mb mc:Md}{pos:Pos}
theorem join_some {o:Option Nv}{d:D}(h:dat o=some d):o=some (.da d):=by
 cases o with
 |none=>cases h
 |some o=>cases o with
  |da x=>cases h;rfl
  |_=>cases h
def SR.letIn {B:Option Addr}{G H:Hp}{σ:St}{env:En}{β:Int}(I:SR Γ B G H σ env β){p:Addr}{d:D}(h0:Γ.H0 p=none)(hg:G p=none)(hb:B≠some p)(hn:∀(j:Nat) (d':D),env[j]? =some (.ow d')->σ[j]?≠some (some (.ref p)))(h:Own Γ.K G H p d) :
  ∃G',SR Γ B G' H σ env β/\ae G G'/\Rp Γ.K G' (.ref p) d:=by
 obtain⟨o,ho⟩:=h.obj
 have sG:ae G (upd G p o):=ae.new hg
 refine⟨upd G p o,⟨λb u q=>?_,I.old.trans sG,λb n1 n2=>?_,I.keep,I.pin,I.fix,λb q=>?_,I.len,λj s q=>?_,I.sep⟩,sG,h.rp hg sG λo' q=>by rw[ho] at q;cases q;exact ao⟩
 ·by_cases z:b=p
  ·subst z;rw[ao] at q;cases q;exact ho
  ·rw[ag z] at q;exact I.sub b u q
 ·rw[ag (λz=>n1.1 (by rw[z];exact h0))];exact I.new b n1 n2
 ·obtain⟨k1,k2,k3⟩:=I.box b q
  exact⟨k1,by rw[ag (λz=>hb (by rw[<-z];exact q))];exact k2,k3⟩
 ·have w:=I.slot j s q
  cases s with
  |no=>trivial
  |fz d'=>obtain⟨v,w1,w2⟩:=w;exact⟨v,w1,w2.mono sG⟩
  |ow d'=>
   obtain⟨c,w1,w2,w3,w4,w5⟩:=w
   have ca:c≠p:=λz2=>hn j d' q (by rw[<-z2];exact w1)
   exact⟨c,w1,w2,by rw[ag ca];exact w3,w4,w5.mono sG λo q=>q⟩
  |bx=>exact w
  |br d'=>obtain⟨b1,c,w1,w4,wp,w5⟩:=w;exact⟨b1,c,w1,w4,wp,w5.mono sG λo q=>q⟩
def sM {env:En}{i j:Nat}{d:D}(h:(fO env i)[j]? =some (.ow d)):env[j]? =some (.ow d):=by
 unfold fO at h
 split at h
 ·rename_i d' e
  by_cases z:i=j
  ·subst z
   rw[E5 (EV.mp e).1] at h;cases h
  ·rw[E1 z] at h;exact h
 ·exact h
theorem ot {L:List Nat}{env:En}{j:Nat}{d:D}(h:(aL L env)[j]? =some (.ow d)):env[j]? =some (.ow d):=by
 unfold aL at h
 induction L generalizing env with
 |nil=>exact h
 |cons i L ih=>exact sM (ih h)
def SR.letW {B:Option Addr}{G H G' H':Hp}{σ:St}{env:En}{β β':Int}{L:List Nat}{d:D}{v:V}(I:SR Γ B G H σ env β)(I':SR Γ B G' H' σ (L2.aL L env) β')(h:VO Γ.K B H G' H' .w d v):∃G2,SR Γ B G2 H' σ (L2.aL L env) β'/\ae G' G2/\Rp Γ.K G2 v d:=by
 obtain⟨p,rfl,h1,h2,h3⟩:=h
 obtain⟨q1,q2,q3,q4⟩:=I.fresh h1
 exact I'.letIn q1 h2 q3 (λj d' e=>q4 j d' (ot e)) h3
def SE.wv (h:SE X Γ E e f L .w):SE X Γ E e f L .v:=by
 refine PE.post' h λσ H Q ⟨env,G,B,β,I,o⟩=>⟨env,G,B,β,I,o.imp λd β' k v G' H' I' s m vo=>?_⟩
 obtain⟨G2,I2,s2,r⟩:=I.letW I' vo
 exact k v G2 H' I2 (s.trans s2) m r
theorem VO.brw {B:Option Addr}{H G' H':Hp}{d:D}{v:V}{K:Frag}(h:VO K B H G' H' md d v)(hB:∀x,B=some x->H x≠none):iY K B G' H' v d:=by
 cases md with
 |b=>exact h
 |v=>exact .inl h
 |w=>
  obtain⟨p,rfl,h1,h2,h3⟩:=h
  exact .inr ⟨p,rfl,λz=>hB p z h1,h3⟩
def SR.boxThere {B:Option Addr}{G H:Hp}{σ:St}{env:En}{β:Int}(I:SR Γ B G H σ env β):∀x,B=some x->H x≠none:=λx e=>by rw[(I.box x e).1];simp
def ah (i:Nat){x:Str}(hN:X.N[i]? =some x:=by rfl)(hv:xi X.env.scope x:=by first |exact Or.inl rfl |exact Or.inr (Or.inl rfl) |exact Or.inr (Or.inr rfl))(hd:(x == ("__debug__":Str))=false:=by decide)
  (hcd:(x == ("__classdict__":Str))=false:=by decide):SE X Γ E (.Name x pos) (gv i) [] .b:=by
 refine PE.post' (hE hN hv hd hcd) λσ H Q ⟨env,G,B,β,I,o⟩=>?_
 obtain⟨d,e,k⟩:=o.of
 have e:=join_some e
 rcases Ad e with q |q |q
 ·obtain⟨v,h1,h2⟩:=I.slot i _ q
  exact⟨v,h1,k v G H I (ae.refl _) (fk.refl _ _) (.inl h2)⟩
 ·obtain⟨p,h1,h2,h3,h4,h5⟩:=I.slot i _ q
  exact⟨.ref p,h1,k _ G H I (ae.refl _) (fk.refl _ _) (.inr ⟨p,rfl,h4,h5⟩)⟩
 ·obtain⟨_,p,h1,h4,_,h5⟩:=I.slot i _ q
  exact⟨.ref p,h1,k _ G H I (ae.refl _) (fk.refl _ _) (.inr ⟨p,rfl,h4,h5⟩)⟩
def aC (i:Nat)(hb:Γ.br i=false){x:Str}(hN:X.N[i]? =some x:=by rfl)(hv:xi X.env.scope x:=by first |exact Or.inl rfl |exact Or.inr (Or.inl rfl) |exact Or.inr (Or.inr rfl))(hd:(x == ("__debug__":Str))=false:=by decide)
  (hcd:(x == ("__classdict__":Str))=false:=by decide):SE X Γ E (.Name x pos) (gv i) [i] .v:=by
 refine PE.post' (hE hN hv hd hcd) λσ H Q ⟨env,G,B,β,I,o⟩=>?_
 obtain⟨d,e,k⟩:=o.of
 obtain⟨G',v,I',s,h1,h2⟩:=I.freeze i hb (join_some e)
 exact⟨v,h1,k v G' H I' s (fk.refl _ _) h2⟩
def zH {v:V}{d:D}(h:PE X e (tC v))(r:∀G,Rp Γ.K G v d):SE X Γ E e (cst d) [] .v:=by
 refine PE.post' h λσ H Q ⟨env,G,B,β,I,o⟩=>?_
 exact o v G H I (ae.refl _) (fk.refl _ _) (r G)
def av {i:Int}{j}:SE X Γ E (.Constant (.int i) j pos) (cst (.int i)) [] .v:=zH m8 λ_=>.int i
def mC {i:Bool}{j}:SE X Γ E (.Constant (.bool i) j pos) (cst (.bool i)) [] .v:=zH tO λ_=>.bl i
def AO {x:Str}{j}:SE X Γ E (.Constant (.str x) j pos) (cst (.str x)) [] .v:=zH Br λ_=>.str x
def zg {x:Str}{i:Int}{t:Tok}(hg:Gl X x)(hm:X.mg x=some (.int i t))(hd:(x == ("__debug__":Str))=false:=by decide):SE X Γ E (.Name x pos) (cst (.int i)) [] .v:=zH (yZ hg hm (show RelV (.int i) _ from⟨_,rfl⟩) hd) λ_=>.int i
def two {W:V->V->Hp->Prop}{B:Option Addr}{G H:Hp}{σ:St}{env:En}{β:Int}(I:SR Γ B G H σ env β)
  (h:Out Γ E (fa (vl env) β) λd1 β1=>Out Γ E (fb (vl env) β1) λd2 β2=>∀x y G2 H2,SR Γ B G2 H2 σ (aL (La ++ Lb) env) β2->ae G G2->fk B H H2->iY Γ.K B G2 H2 x d1->iY Γ.K B G2 H2 y d2->W x y H2) :
  pT Γ E fa La ma σ H λx H1=>pT Γ E fb Lb mb σ H1 λy H2=>W x y H2:=by
 refine⟨env,G,B,β,I,h.imp λd1 β1 h x G1 H1 I1 s1 m1 vx=>⟨aL La env,G1,B,β1,I1,?_⟩⟩
 rw[lA]
 refine h.imp λd2 β2 k y G2 H2 I2 s2 m2 vy=>?_
 refine k x y G2 H2 (by rw[eG];exact I2) (s1.trans s2) (m1.trans m2) ((vx.brw I.boxThere).mono s2 m2) (vy.brw I1.boxThere)
def lH (K:Frag)(r:R2)(g:D->D->Option D)(md:Md):Prop:=∀(B:Option Addr) (G H:Hp) (x y:V) (dx dy d:D) (Q:VK),ae G H->(∀x,B=some x->H x≠none)->iY K B G H x dx->iY K B G H y dy->g dx dy=some d->
 (∀v G' H',Ext G H G' H'->VO K B H G' H' md d v->Q v H')->r x y H Q
def f2 (fa fb:VF D)(g:D->D->Option D):VF D:=λvs β=>(fa vs β).bnd λx β1=>(fb vs β1).bnd λy β2=>R.of (g x y) β2
theorem fK {B:Option Addr}{H H2:Hp}(m:fk B H H2)(hB:∀x,B=some x->H2 x≠none){p:Addr}(h:H2 p=none):H p=none:=by
 cases e:H p with
 |none=>rfl
 |some o=>rw[m p o e λz=>hB p z h] at h;cases h
theorem VO.back {K:Frag}{B:Option Addr}{H H2 G' H':Hp}{d:D}{v:V}(h:VO K B H2 G' H' md d v)(m:fk B H H2)(hB:∀x,B=some x->H2 x≠none):VO K B H G' H' md d v:=by
 cases md with
 |b=>exact h
 |v=>exact h
 |w=>obtain⟨p,e,h1,h2,h3⟩:=h;exact⟨p,e,fK m hB h1,h2,h3⟩
def i7 {r:R2}{g:D->D->Option D}{Q:VK}(pr:lH Γ.K r g md){B:Option Addr}{G H:Hp}{σ:St}{env:En}{β:Int}(I:SR Γ B G H σ env β)
  (h:Out Γ E (f2 fa fb g (vl env) β) λd β'=>∀v G' H',SR Γ B G' H' σ (aL (La ++ Lb) env) β'->ae G G'->fk B H H'->VO Γ.K B H G' H' md d v->Q v H') :
  pT Γ E fa La ma σ H λx H1=>pT Γ E fb Lb mb σ H1 λy H2=>r x y H2 Q:=by
 refine two I (h.bnd.imp λd1 β1 h=>h.bnd.imp λd2 β2 h x y G2 H2 I2 s2 m2 bx by'=>?_)
 obtain⟨d,e,k⟩:=h.of
 refine pr B G2 H2 x y d1 d2 d Q I2.sub I2.boxThere bx by' e λv G' H' x' vo=>?_
 exact k v G' H' (I2.ext x') (s2.trans x'.gg) (m2.trans (x'.hh.mov B)) (vo.back m2 I2.boxThere)
def aX {op:Operator}{r:R2}{g:D->D->Option D}(ho:kc X (binaryOp op) r)(pr:lH Γ.K r g md)(ha:SE X Γ E a fa La ma)(hb:SE X Γ E b fb Lb mb):SE X Γ E (.BinOp a op b pos) (f2 fa fb g) (La ++ Lb) md:=
 PE.post' (qE ho ha hb) λσ H Q ⟨env,G,B,β,I,o⟩=>i7 pr I o
def gQ {op:CmpOp}{r:R2}{g:D->D->Option D}(ho:kc X (compareOp op) r)(pr:lH Γ.K r g md)(ha:SE X Γ E a fa La ma)(hb:SE X Γ E b fb Lb mb)(hm:behindInMarks op b=false):SE X Γ E (.Compare a [op] [b] pos) (f2 fa fb g) (La ++ Lb) md:=
 PE.post' (zD ho ha hb hm) λσ H Q ⟨env,G,B,β,I,o⟩=>i7 pr I o
def cI {r:R2}{g:D->D->Option D}(hr:wX X r)(pr:lH Γ.K r g md)(ha:SE X Γ E a fa La ma)(hb:SE X Γ E b fb Lb mb)(hs:sx b):SE X Γ E (.Subscript a b pos) (f2 fa fb g) (La ++ Lb) md:=
 PE.post' (iE hr ha hb hs) λσ H Q ⟨env,G,B,β,I,o⟩=>i7 pr I o
def uh (K:Frag)(r:V->Hp->VK->Prop)(g:D->Option D)(md:Md):Prop:=∀(B:Option Addr) (G H:Hp) (x:V) (dx d:D) (Q:VK),ae G H->(∀x,B=some x->H x≠none)->iY K B G H x dx->g dx=some d->
 (∀v G' H',Ext G H G' H'->VO K B H G' H' md d v->Q v H')->r x H Q
def f1 (fa:VF D)(g:D->Option D):VF D:=λvs β=>(fa vs β).bnd λx β1=>R.of (g x) β1
def fW {r:V->Hp->VK->Prop}{g:D->Option D}{Q:VK}(pr:uh Γ.K r g md){B:Option Addr}{G H:Hp}{σ:St}{env:En}{β:Int}(I:SR Γ B G H σ env β)
  (h:Out Γ E (f1 fa g (vl env) β) λd β'=>∀v G' H',SR Γ B G' H' σ (aL La env) β'->ae G G'->fk B H H'->VO Γ.K B H G' H' md d v->Q v H') :
  pT Γ E fa La ma σ H λx H1=>r x H1 Q:=by
 refine⟨env,G,B,β,I,h.bnd.imp λd1 β1 h x G1 H1 I1 s1 m1 vx=>?_⟩
 obtain⟨d,e,k⟩:=h.of
 refine pr B G1 H1 x d1 d Q I1.sub I1.boxThere (vx.brw I.boxThere) e λv G' H' x' vo=>?_
 exact k v G' H' (I1.ext x') (s1.trans x'.gg) (m1.trans (x'.hh.mov B)) (vo.back m1 I1.boxThere)
def zT {op:UnaryOp}{r:V->Hp->VK->Prop}{g:D->Option D}(ho:Dd X (unaryOp op) r)(pr:uh Γ.K r g md)(ha:SE X Γ E a fa La ma):SE X Γ E (.UnaryOp op a pos) (f1 fa g) La md:=
 PE.post' (B8 ho ha) λσ H Q ⟨env,G,B,β,I,o⟩=>fW pr I o
def aN {id:String}{r:List V->Hp->VK->Prop}{g:D->Option D}{x:Str}{p:Pos}(hc:bN X (.builtin id) r)(pr:uh Γ.K (λx=>r [x]) g md)(hg:Gl X x)(hm:X.mg x=none)(hv:bootBuiltins x=some (.builtin id))(ha:SE X Γ E a fa La ma)(hn:x≠"__name__":=by decide)(hdb:(x == ("__debug__":Str))=false:=by decide)
  (he:starEach [a] X.env=(false,eval a X.env) :: starEach [] X.env:=by rfl):SE X Γ E (.Call (.Name x p) [a] [] pos) (f1 fa g) La md:=
 PE.post' (hV hc hg hm hv (aB ha aR he) hn hdb he) λσ H Q ⟨env,G,B,β,I,o⟩=>fW (r:=λx=>r [x]) pr I o
def o4 {id:String}{r:List V->Hp->VK->Prop}{g:D->Option D}{x:Str}{p:Pos}(hc:bN X (.type id) r)(pr:uh Γ.K (λx=>r [x]) g md)(hg:Gl X x)(hm:X.mg x=none)(hv:bootBuiltins x=some (.type id))(ha:SE X Γ E a fa La ma)(hn:x≠"__name__":=by decide)(hdb:(x == ("__debug__":Str))=false:=by decide)
  (he:starEach [a] X.env=(false,eval a X.env) :: starEach [] X.env:=by rfl):SE X Γ E (.Call (.Name x p) [a] [] pos) (f1 fa g) La md:=
 PE.post' (fD hc hg hm hv (aB ha aR he) hn hdb he) λσ H Q ⟨env,G,B,β,I,o⟩=>fW (r:=λx=>r [x]) pr I o
def qD {id:String}{r:List V->Hp->VK->Prop}{g:D->D->Option D}{x:Str}{p:Pos}(hc:bN X (.builtin id) r)(pr:lH Γ.K (λx y=>r [x,y]) g md)(hg:Gl X x)(hm:X.mg x=none)(hv:bootBuiltins x=some (.builtin id))(ha:SE X Γ E a fa La ma)(hb:SE X Γ E b fb Lb mb)(hn:x≠"__name__":=by decide)(hdb:(x == ("__debug__":Str))=false:=by decide)
  (he:starEach [a,b] X.env=(false,eval a X.env) :: starEach [b] X.env:=by rfl) (he2:starEach [b] X.env=(false,eval b X.env) :: starEach [] X.env:=by rfl) (hpl:(backTo pos (starEach [b] X.env)).any (·.1)=false:=by rfl):SE X Γ E (.Call (.Name x p) [a,b] [] pos) (f2 fa fb g) (La ++ Lb) md:=
 PE.post' (hV hc hg hm hv (aB ha (aB hb aR he2) he) hn hdb he hpl) λσ H Q ⟨env,G,B,β,I,o⟩=>i7 (r:=λx y=>r [x,y]) pr I o
def dA (fa fb:VF D):VF D:=λvs β=>(fa vs β).bnd λx β1=>match x with
 | .bool true=>fb vs β1
 | .bool false=>.ok (.bool false) β1
 |_=>.bad
def iS {op}(h:SE X Γ E a fa La md):SE X Γ E (.BoolOp op [a] pos) fa La md:=Ao h
theorem fU {rest:List Expr}(ha:SE X Γ E a fa La ma)(hb:SE X Γ E (.BoolOp .And (b :: rest) pos) fb Lb .v)(hbr:∀i,i∈Lb->Γ.br i=false):SE X Γ E (.BoolOp .And (a :: b :: rest) pos) (dA fa fb) (La ++ Lb) .v:=by
 refine PE.post' (BG ha hb) λσ H Q ⟨env,G,B,β,I,o⟩=>?_
 refine⟨env,G,B,β,I,o.bnd.imp λd1 β1 h x G1 H1 I1 s1 m1 vx=>?_⟩
 have bx:=vx.brw I.boxThere
 cases d1 with
 |bool c=>
  obtain rfl:=bx.bool
  refine⟨c,rfl,?_⟩
  cases c with
  |true=>exact rj ⟨_,G1,B,β1,I1,by rw[lA];exact h.imp λd β' k v G' H' I' s' m' vo=>k v G' H' (by rw[eG];exact I') (s1.trans s') (m1.trans m') vo⟩
  |false=>
   obtain⟨G2,I2,s2⟩:=I1.aL Lb hbr
   exact r0 (h _ G2 H1 (by rw[eG];exact I2) (s1.trans s2) m1 (.bl false))
 |_=>exact h.elim
def xN:D->Option D
 | .bool c=>some (.bool (!c))
 |_=>none
theorem wG (ha:SE X Γ E a fa La ma):SE X Γ E (.UnaryOp .Not a pos) (f1 fa xN) La .v:=by
 refine PE.post' (AV ha) λσ H Q ⟨env,G,B,β,I,o⟩=>?_
 refine fW (r:=λx H1 Q=>∃c,x=.bl c/\Q (.bl (!c)) H1) ?_ I o
 intro B G H x dx d Q s hB bx e k
 cases dx with
 |bool c=>
  obtain rfl:=bx.bool
  cases e
  exact⟨c,rfl,k _ G H (Ext.refl s) (.bl _)⟩
 |_=>cases e
def Bh:D->Option Bool
 | .none=>some false
 | .bool b=>some b
 | .int i=>some (i != 0)
 | .str y=>if y.length<=sizeLine then some ((y.length:Int) != 0) else none
 | .list ds=>some (!ds.isEmpty)
 | .tuple ds=>some (!ds.isEmpty)
 | .dict _=>none
def mi (fa:VF D):VF Bool:=λvs β=>(fa vs β).bnd λx β1=>R.of (Bh x) β1
def jU {K:Frag}{G:Hp}{xs:List V}{ds:List D}(r:bB K G xs ds):(!ds.isEmpty)= !xs.isEmpty:=by cases r <;> rfl
theorem fj (hK:X.K=Γ.K)(ha:SE X Γ E a fa La ma)(he:∀whole,isTrue a X.env whole=(do let v <-whole;standAt a.pos;holding [v] (truthy v)):=by intro _;rfl):yb X Γ E a (mi fa) La:=by
 refine PT.post (xq ha he) λσ H Q ⟨env,G,B,β,I,o⟩=>?_
 refine⟨env,G,B,β,I,o.bnd.imp λd1 β1 h x G1 H1 I1 s1 m1 vx=>?_⟩
 obtain⟨c,e,k⟩:=h.of
 have bx:=vx.brw I.boxThere
 refine⟨c,?_,k G1 H1 I1 s1 m1⟩
 rw[hK]
 cases d1 with
 |none=>obtain rfl:=bx.none;cases e;rfl
 |bool b=>obtain rfl:=bx.bool;cases e;rfl
 |int i=>obtain rfl:=bx.int;cases e;rfl
 |str y=>
  obtain rfl:=bx.str
  simp only[Bh] at e
  split at e
  ·cases e;exact⟨by assumption,rfl⟩
  ·cases e
 |list ds=>obtain⟨p,xs,rfl,hq,r⟩:=bx.list I1.sub;cases e;exact .inl ⟨xs,.inl hq,jU r⟩
 |tuple ds=>obtain⟨p,xs,rfl,hq,r⟩:=bx.tuple I1.sub;cases e;exact .inr (.inl ⟨xs,hq,jU r⟩)
 |dict ds=>cases e
def iA (fa:VF D):VF Bool:=λvs β=>(fa vs β).bnd λx β1=>match x with
 | .bool c=>.ok c β1
 |_=>.bad
theorem dP {op:CmpOp}{r:R2}{g:D->D->Option D}(ho:kc X (compareOp op) r)(pr:lH Γ.K r g .v)(ha:SE X Γ E a fa La ma)(hb:SE X Γ E b fb Lb mb)(hm:behindInMarks op b=false):yb X Γ E (.Compare a [op] [b] pos) (iA (f2 fa fb g)) (La ++ Lb):=by
 refine PT.post (zl ho ha hb hm) λσ H Q ⟨env,G,B,β,I,o⟩=>?_
 refine i7 pr I (o.bnd.imp λd β' h v G' H' I' s' m' vo=>?_)
 cases d with
 |bool c=>cases vo;exact⟨c,rfl,h G' H' I' s' m'⟩
 |_=>exact h.elim
def rf (t:VF Bool):VF Bool:=λvs β=>(t vs β).bnd λc β1=>.ok (!c) β1
def Es (t u:VF Bool):VF Bool:=λvs β=>(t vs β).bnd λc β1=>if c=true then u vs β1 else .ok false β1
def qk (t u:VF Bool):VF Bool:=λvs β=>(t vs β).bnd λc β1=>if c=true then .ok true β1 else u vs β1
variable {ta tb tc:VF Bool}
def gW (ha:yb X Γ E a ta La):yb X Γ E (.UnaryOp .Not a pos) (rf ta) La:=by
 refine PT.post (A2 ha) λσ H Q ⟨env,G,B,β,I,o⟩=>?_
 exact⟨env,G,B,β,I,o.bnd.imp λc β1 h=>h⟩
def zc.t (h:zc X Γ E e ta La):yb X Γ E e ta La:=PW.pt h
def oI (ha:yb X Γ E a ta La):zc X Γ E (.BoolOp .Or [a] pos) ta La:=Az ha
theorem sC {rest:List Expr}(ha:yb X Γ E a ta La)(hb:zc X Γ E (.BoolOp .Or (b :: rest) pos) tb Lb)(hbr:∀i,i∈Lb->Γ.br i=false):zc X Γ E (.BoolOp .Or (a :: b :: rest) pos) (qk ta tb) (La ++ Lb):=by
 refine PW.post (CZ ha hb) λσ H Q ⟨env,G,B,β,I,o⟩=>?_
 refine⟨env,G,B,β,I,o.bnd.imp λc β1 h G1 H1 I1 s1 m1=>?_⟩
 cases c with
 |true=>
  obtain⟨G2,I2,s2⟩:=I1.aL Lb hbr
  exact rj (h G2 H1 (by rw[eG];exact I2) (s1.trans s2) m1)
 |false=>exact r0 ⟨_,G1,B,β1,I1,by rw[lA];exact Out.imp h λd β' k G' H' I' s' m'=>k G' H' (by rw[eG];exact I') (s1.trans s') (m1.trans m')⟩
def Er (t:VF Bool)(fa fb:VF D):VF D:=λvs β=>(t vs β).bnd λc β1=>if c=true then fa vs β1 else fb vs β1
def aq:VF (List D):=λ_ β=>.ok [] β
def aa (fa:VF D)(fr:VF (List D)):VF (List D):=λvs β=>(fa vs β).bnd λx β1=>(fr vs β1).bnd λxs β2=>.ok (x :: xs) β2
variable {fr:VF (List D)}{es:List Expr}
def aw:SA X Γ E [] aq []:=PA.post aR λσ H Q ⟨env,G,B,β,I,o⟩=>o [] G H I (ae.refl _) (fk.refl _ _) .nil
def af (ha:SE X Γ E a fa La .v)(hr:SA X Γ E es fr Lb)(hs:starEach (a :: es) X.env=(false,eval a X.env) :: starEach es X.env:=by rfl):SA X Γ E (a :: es) (aa fa fr) (La ++ Lb):=by
 refine PA.post (aB ha hr hs) λσ H Q ⟨env,G,B,β,I,o⟩=>?_
 refine⟨env,G,B,β,I,o.bnd.imp λd1 β1 h x G1 H1 I1 s1 m1 vx=>⟨aL La env,G1,B,β1,I1,?_⟩⟩
 rw[lA]
 refine h.bnd.imp λds β2 k xs G2 H2 I2 s2 m2 r=>?_
 exact k (x :: xs) G2 H2 (by rw[eG];exact I2) (s1.trans s2) (m1.trans m2) (.cons (vx.mono s2) r)
def c8 (fr:VF (List D)):VF D:=λvs β=>(fr vs β).bnd λds β1=>if ds.length<=sizeLine then .ok (.tuple ds) β1 else .bad
def bC (fr:VF (List D)):VF D:=λvs β=>(fr vs β).bnd λds β1=>if ds.length<=sizeLine then .ok (.list ds) β1 else .bad
def gN {x1}(h:SA X Γ E es fr L):SE X Γ E (.Tuple es x1 pos) (c8 fr) L .v:=by
 refine PE.post' (rP h) λσ H Q ⟨env,G,B,β,I,o⟩=>?_
 refine⟨env,G,B,β,I,o.bnd.imp λds β1 k xs G1 H1 I1 s1 m1 r=>?_⟩
 by_cases hz:ds.length<=sizeLine
 ·rw[EI hz] at k
  refine⟨by rw[r.len];exact hz,λp hp=>?_⟩
  have x:=Ext.new I1.sub (o:=.tup xs) hp
  exact k _ _ _ (I1.ext x) (s1.trans x.gg) (m1.trans (x.hh.mov B)) (.tup (.inl (.inl ao)) (r.mono x.gg))
 ·rw[EN hz] at k;exact k.elim
def b7 (h:SA X Γ E es fr L):SE X Γ E (.List es pos) (bC fr) L .w:=by
 refine PE.post' (xy h) λσ H Q ⟨env,G,B,β,I,o⟩=>?_
 refine⟨env,G,B,β,I,o.bnd.imp λds β1 k xs G1 H1 I1 s1 m1 r=>?_⟩
 by_cases hz:ds.length<=sizeLine
 ·rw[EI hz] at k
  refine⟨by rw[r.len];exact hz,λp hp=>?_⟩
  have x:=Ext.own I1.sub (o:=.lst xs) hp
  exact k _ _ _ (I1.ext x) s1 (m1.trans (x.hh.mov B)) ⟨p,rfl,fK m1 I1.boxThere hp,I1.sub.free hp,xs,ao,r⟩
 ·rw[EN hz] at k;exact k.elim
inductive FR where
 |ok (d:D) (fresh:Bool)
 |exc (c:Str)
 |bad
def FV (K:Frag)(H G' H':Hp)(fr:Bool)(d:D)(v:V):Prop:=if fr=true then ∃a,v=.ref a/\H a=none/\G' a=none/\Own K G' H' a d else Rp K G' v d
def u6 (K:Frag)(ca:Str->Addr)(n:Nat)(F:List D->FR):Sp:=λvs H Q E=>∃G ds,ae G H/\ds.length=n/\bB K G vs ds/\match F ds with
 | .ok d fr=>∀v G' H',ae H H'->ae G G'->ae G' H'->(∀b,Mx H b->G b=none->G' b=none)->FV K H G' H' fr d v->Q v H'
 | .exc c=>∀H',ae H H'->E (.ref (ca c)) none H'
 | .bad=>False
structure eH (P:Program)(w:World)(K:Frag)(mg:Str->Option Value)(base:Heap)(ca:Str->Addr)(x:Str)(ps:List Str)(k:Nat)(F:List D->FR):Prop where
 ex:∃f fd,mg x=some (.ref f)/\PySem.W.keepIn K (.ref f)=true/\Binds K fd ps []/\c7 P w K mg base (j7 P w) k f fd ps (u6 K ca ps.length F)
 len:∀ds,F ds≠.bad->ds.length=ps.length
def aF (F:List D->FR)(fr:VF (List D)):VF D:=λvs β=>(fr vs β).bnd λds β1=>match F ds with
 | .ok d _=>.ok d β1
 | .exc c=>.exc c
 | .bad=>.bad
def my (F:List D->FR)(fr:VF (List D)):VF D:=λvs β=>(fr vs β).bnd λds β1=>match F ds with
 | .ok d true=>.ok d β1
 | .ok _ false=>.bad
 | .exc c=>.exc c
 | .bad=>.bad
def SR.called {B:Option Addr}{G1 H1 G2 H2:Hp}{σ:St}{env:En}{β:Int}(I1:SR Γ B G1 H1 σ env β)(h:ae H1 H2)(g:ae G1 G2)(s:ae G2 H2)(n:∀b,Mx H1 b->G1 b=none->G2 b=none):SR Γ B G2 H2 σ env β/\fk B H1 H2:=by
 refine⟨⟨s,I1.old.trans g,λb n1 n2=>?_,λb o e np=>h b o (I1.keep b o e np),λb hb=>?_,I1.fix,λb e=>?_,I1.len,λi t e=>?_,I1.sep⟩,h.mov B⟩
 ·exact n b (I1.thereM n1) (I1.new b n1 n2)
 ·exact (I1.pin b hb).same λo e=>h b o e
 ·obtain⟨h1,h2,h3⟩:=I1.box b e
  exact⟨h b _ h1,n b (Mx.lst h1) h2,h3⟩
 ·have q:=I1.slot i t e
  cases t with
  |no=>trivial
  |fz d=>obtain⟨v,h1,h2⟩:=q;exact⟨v,h1,h2.mono g⟩
  |ow d=>
   obtain⟨p,h1,h2,h3,h4,h5⟩:=q
   exact⟨p,h1,h2,n p h5.mx h3,h4,h5.mono g λo q=>h p o q⟩
  |bx=>exact q
  |br d=>obtain⟨b1,p,h1,h4,hp,h5⟩:=q;exact⟨b1,p,h1,h4,hp,h5.mono g λo q=>h p o q⟩
def SR.kp {B:Option Addr}{G H H':Hp}{σ:St}{env:En}{β:Int}(I:SR Γ B G H σ env β)(h:ae H H'):Kp Γ H':=λb o e n=>h b o (I.keep b o e n)
theorem mh {F:List D->FR}{ps:List Str}{Q:VK}{B:Option Addr}{G H:Hp}{σ:St}{env:En}{β:Int}(I:SR Γ B G H σ env β)(hK:X.K=Γ.K){wv:Bool}
  (h:Out Γ E (if wv=true then my F fr (vl env) β else aF F fr (vl env) β) λd β'=>∀v G' H',SR Γ B G' H' σ (aL L env) β'->ae G G'->fk B H H'->VO Γ.K B H G' H' (if wv=true then .w else .v) d v->Q v H') (hl:∀ds,F ds≠.bad->ds.length=ps.length) :
  aT Γ E fr L σ H λvs H1=>u6 X.K Γ.ca ps.length F vs H1 Q E:=by
 refine⟨env,G,B,β,I,?_⟩
 have h:Out Γ E (fr (vl env) β) λds β1=>Out Γ E (match F ds with
   | .ok d true=>.ok d β1
   | .ok d false=>if wv=true then .bad else .ok d β1
   | .exc c=>.exc c
   | .bad=>.bad) λd β'=>∀v G' H',SR Γ B G' H' σ (aL L env) β'->ae G G'->fk B H H'->VO Γ.K B H G' H' (if wv=true then .w else .v) d v->Q v H':=by
  cases wv with
  |true=>
   simp only[FH] at h ⊢
   refine h.bnd.imp λds β1 h=>?_
   cases q:F ds with
   |ok d b=>rw[q] at h;cases b <;> exact h
   |exc c=>rw[q] at h;exact h
   |bad=>rw[q] at h;exact h
  |false=>
   simp only[EU,Fh] at h ⊢
   refine h.bnd.imp λds β1 h=>?_
   cases q:F ds with
   |ok d b=>rw[q] at h;cases b <;> exact h
   |exc c=>rw[q] at h;exact h
   |bad=>rw[q] at h;exact h
 refine h.imp λds β1 k vs G1 H1 I1 s1 m1 r=>?_
 refine⟨G1,ds,I1.sub,?_,by rw[hK];exact r,?_⟩
 ·exact hl ds λz=>by rw[z] at k;exact k
 cases q:F ds with
 |bad=>rw[q] at k;exact k
 |exc c=>rw[q] at k;exact λH' s=>k H' (I1.kp s)
 |ok d b=>
  rw[q] at k
  intro v G' H' hh hg hs hn fv
  obtain⟨I2,m2⟩:=I1.called hh hg hs hn
  cases b with
  |true=>
   obtain⟨p,rfl,p1,p2,p3⟩:∃a,v=.ref a/\H1 a=none/\G' a=none/\Own X.K G' H' a d:=fv
   rw[hK] at p3
   have hp:=fK m1 I1.boxThere p1
   cases wv with
   |true=>exact k _ G' H' I2 (s1.trans hg) (m1.trans m2) ⟨p,rfl,hp,p2,p3⟩
   |false=>
    obtain⟨q1,q2,q3,q4⟩:=I1.fresh p1
    obtain⟨G3,I3,s3,r3⟩:=I2.letIn q1 p2 q3 q4 p3
    exact k _ G3 H' I3 ((s1.trans hg).trans s3) (m1.trans m2) r3
  |false=>
   cases wv with
   |true=>exact k.elim
   |false=>
    have fv:Rp X.K G' v d:=fv
    rw[hK] at fv
    exact k _ G' H' I2 (s1.trans hg) (m1.trans m2) fv
def bb {x:Str}{ps:List Str}{k:Nat}{F:List D->FR}{p:Pos}(hf:eH X.prog X.w X.K X.mg X.base Γ.ca x ps k F)(hr:cH k X.A)(hx:Passes (j7 X.prog X.w) X E)(hK:X.K=Γ.K)(hg:Gl X x)(ha:SA X Γ E (a :: es) fr L)(hdb:(x == ("__debug__":Str))=false:=by decide)
  (he:starEach (a :: es) X.env=(false,eval a X.env) :: starEach es X.env:=by rfl) (hpl:(backTo pos (starEach es X.env)).any (·.1)=false:=by rfl):SE X Γ E (.Call (.Name x p) (a :: es) [] pos) (aF F fr) L .v:=by
 obtain⟨f,fd,hm,hk,hb,hF⟩:=hf.ex
 refine PE.post' (jm (dvs:=[]) hF hr hg hm hk hb .nil hx ha hdb he hpl) λσ H Q ⟨env,G,B,β,I,o⟩=>?_
 show aT Γ E fr L σ H λvs H1=>u6 X.K Γ.ca ps.length F (vs ++ []) H1 Q E
 have:=mh (Q:=Q) (wv:=false) (ps:=ps) I hK o hf.len
 simpa using this
def qA {x:Str}{ps:List Str}{k:Nat}{F:List D->FR}{p:Pos}(hf:eH X.prog X.w X.K X.mg X.base Γ.ca x ps k F)(hr:cH k X.A)(hx:Passes (j7 X.prog X.w) X E)(hK:X.K=Γ.K)(hg:Gl X x)(ha:SA X Γ E (a :: es) fr L)(hdb:(x == ("__debug__":Str))=false:=by decide)
  (he:starEach (a :: es) X.env=(false,eval a X.env) :: starEach es X.env:=by rfl) (hpl:(backTo pos (starEach es X.env)).any (·.1)=false:=by rfl):SE X Γ E (.Call (.Name x p) (a :: es) [] pos) (my F fr) L .w:=by
 obtain⟨f,fd,hm,hk,hb,hF⟩:=hf.ex
 refine PE.post' (jm (dvs:=[]) hF hr hg hm hk hb .nil hx ha hdb he hpl) λσ H Q ⟨env,G,B,β,I,o⟩=>?_
 show aT Γ E fr L σ H λvs H1=>u6 X.K Γ.ca ps.length F (vs ++ []) H1 Q E
 have:=mh (Q:=Q) (wv:=true) (ps:=ps) I hK o hf.len
 simpa using this
end
inductive SO where
 |nx (env:En) (β:Int)
 |bk (env:En) (β:Int)
 |ct (env:En) (β:Int)
 |rt (d:D) (fr:Bool) (β:Int)
 |exc (c:Str)
 |bad
abbrev SF:=En->Int->SO
def RV (Γ:Fx)(G' H':Hp)(fr:Bool)(d:D)(v:V):Prop:=if fr=true then ∃a,v=.ref a/\Γ.H0 a=none/\G' a=none/\Own Γ.K G' H' a d else Rp Γ.K G' v d
def l6 (Γ:Fx)(E:XK)(G:Hp)(N:Ends):SO->Prop
 | .nx env β=>∀B G' H' σ,SR Γ B G' H' σ env β->ae G G'->N.nx σ H'
 | .bk env β=>∀B G' H' σ,SR Γ B G' H' σ env β->ae G G'->N.bk σ H'
 | .ct env β=>∀B G' H' σ,SR Γ B G' H' σ env β->ae G G'->N.ct σ H'
 | .rt d fr β=>∀B G' H' σ env v,SR Γ B G' H' σ env β->ae G G'->RV Γ G' H' fr d v->N.rt v H'
 | .exc c=>∀H',Kp Γ H'->E (.ref (Γ.ca c)) none H'
 | .bad=>False
def sT (Γ:Fx)(E:XK)(m:SF):TS:=λN σ H=>∃env G B β,SR Γ B G H σ env β/\l6 Γ E G N (m env β)
def SS (X:Cx)(Γ:Fx)(E:XK)(st:Stmt)(m:SF):Prop:=PS X st (sT Γ E m)
def ye (X:Cx)(Γ:Fx)(E:XK)(st:List Stmt)(m:SF):Prop:=mS X st (sT Γ E m)
def mS.post {X:Cx}{st:List Stmt}{t u:TS}(h:mS X st t)(m:∀D σ H,u D σ H->t D σ H):mS X st u:=λpins s σ H D I q=>h pins s σ H D I (m D σ H q)
def aI (m m':SF):SF:=λenv β=>match m env β with
 | .nx env' β'=>m' env' β'
 |r=>r
def nk:SF:=λenv β=>.nx env β
section
variable {X:Cx}{Γ:Fx}{E:XK}{e a b c:Expr}{f fa fb:VF D}{L La Lb:List Nat}{md ma mb:Md}{pos:Pos}{st:Stmt}{sts:List Stmt}{m m':SF}{ta:VF Bool}
theorem l6.weak {G G1:Hp}{N:Ends}{r:SO}(h:l6 Γ E G N r)(s:ae G G1):l6 Γ E G1 N r:=by
 cases r with
 |nx env β=>exact λB G' H' σ I s'=>h B G' H' σ I (s.trans s')
 |bk env β=>exact λB G' H' σ I s'=>h B G' H' σ I (s.trans s')
 |ct env β=>exact λB G' H' σ I s'=>h B G' H' σ I (s.trans s')
 |rt d fr β=>exact λB G' H' σ env v I s'=>h B G' H' σ env v I (s.trans s')
 |exc c=>exact h
 |bad=>exact h
def dM:ye X Γ E [] nk:=mS.post tQ λN σ H ⟨env,G,B,β,I,o⟩=>o B G H σ I (ae.refl _)
theorem ar (h:SS X Γ E st m)(h':ye X Γ E sts m'):ye X Γ E (st :: sts) (aI m m'):=by
 refine mS.post (dQ h h') λN σ H ⟨env,G,B,β,I,o⟩=>?_
 refine⟨env,G,B,β,I,?_⟩
 unfold aI at o
 cases q:m env β with
 |nx env' β'=>rw[q] at o;exact λB' G' H' σ' I' s'=>⟨env',G',B',β',I',o.weak s'⟩
 |bk env' β'=>rw[q] at o;exact o
 |ct env' β'=>rw[q] at o;exact o
 |rt d fr β'=>rw[q] at o;exact o
 |exc c=>rw[q] at o;exact o
 |bad=>rw[q] at o;exact o
def ax (h:SS X Γ E st m):ye X Γ E [st] m:=eY h
def toS {α:Type}(r:R α)(k:α->Int->SO):SO:=match r with
 | .ok x β=>k x β
 | .exc c=>.exc c
 | .bad=>.bad
theorem cn {α:Type}{G:Hp}{N:Ends}{r:R α}{k:α->Int->SO}{P:α->Int->Prop}(h:l6 Γ E G N (toS r k))(i:∀x β,l6 Γ E G N (k x β)->P x β):Out Γ E r P:=by
 cases r with
 |ok x β=>exact i x β h
 |exc c=>exact h
 |bad=>exact h
def SR.set' {B:Option Addr}{G H:Hp}{σ:St}{env:En}{β:Int}(I:SR Γ B G H σ env β)(i:Nat){v:V}{d:D}(h:Rp Γ.K G v d):SR Γ B G H (σ.set i (some v)) (env.set i (.fz d)) β:=by
 by_cases hi:i < env.length
 ·exact I.set hi h
 ·have h1:env.set i (.fz d)=env:=Gs (by omega)
  have h2:σ.set i (some v)=σ:=Gs (by rw[I.len];omega)
  rw[h1,h2];exact I
def SR.setOw' {B:Option Addr}{G H:Hp}{σ:St}{env:En}{β:Int}(I:SR Γ B G H σ env β)(i:Nat){a:Addr}{d:D}(h0:Γ.H0 a=none)(hg:G a=none)(hb:B≠some a)(h:Own Γ.K G H a d)(hn:∀(j:Nat) (d':D),env[j]? =some (.ow d')->σ[j]?≠some (some (.ref a))):SR Γ B G H (σ.set i (some (.ref a))) (env.set i (.ow d)) β:=by
 by_cases hi:i < env.length
 ·exact I.setOw hi h0 hg hb h λj d' e _=>hn j d' e
 ·have h1:env.set i (.ow d)=env:=Gs (by omega)
  have h2:σ.set i (some (.ref a))=σ:=Gs (by rw[I.len];omega)
  rw[h1,h2];exact I
def bh (i:Nat)(L:List Nat)(f:VF D):SF:=λenv β=>toS (f (vl env) β) λd β'=>.nx ((aL L env).set i (.fz d)) β'
def aO {i:Nat}{x:Str}{pos':Pos}(he:SE X Γ E e f L .v)(hN:X.N.Nodup)(hi:X.N[i]? =some x:=by rfl)(hx:Loc X.env.scope x:=by first |exact Or.inl rfl |exact Or.inr rfl)(hs:swapsWith e (some (.Name x pos')) pos.line X.env=pure false:=by rfl)(hf:X.fn x=true\/X.env.scope.names.lookup x=some .local:=by first |exact .inl rfl |exact .inr rfl |assumption) :
  SS X Γ E (.Assign [.Name x pos'] e pos) (bh i L f):=by
 refine PS.post (nZ hN hi hx he hs hf) λN σ H ⟨env,G,B,β,I,o⟩=>?_
 refine⟨env,G,B,β,I,cn o λd β' k v G' H' I' s' m' vo=>?_⟩
 exact k B G' H' _ (I'.set' i vo) s'
def iG (i:Nat)(L:List Nat)(f:VF D):SF:=λenv β=>toS (f (vl env) β) λd β'=>.nx ((aL L env).set i (.ow d)) β'
def h9 {i:Nat}{x:Str}{pos':Pos}(he:SE X Γ E e f L .w)(hN:X.N.Nodup)(hi:X.N[i]? =some x:=by rfl)(hx:Loc X.env.scope x:=by first |exact Or.inl rfl |exact Or.inr rfl)(hs:swapsWith e (some (.Name x pos')) pos.line X.env=pure false:=by rfl)(hf:X.fn x=true\/X.env.scope.names.lookup x=some .local:=by first |exact .inl rfl |exact .inr rfl |assumption) :
  SS X Γ E (.Assign [.Name x pos'] e pos) (iG i L f):=by
 refine PS.post (nZ hN hi hx he hs hf) λN σ H ⟨env,G,B,β,I,o⟩=>?_
 refine⟨env,G,B,β,I,cn o λd β' k v G' H' I' s' m' vo=>?_⟩
 obtain⟨p,rfl,h1,h2,h3⟩:=vo
 obtain⟨q1,q2,q3,q4⟩:=I.fresh h1
 exact k B G' H' _ (I'.setOw' i q1 h2 q3 h3 λj d' z=>q4 j d' (ot z)) s'
def wM (L:List Nat)(f:VF D):SF:=λenv β=>toS (f (vl env) β) λ_ β'=>.nx (aL L env) β'
def zi (he:SE X Γ E e f L md)(hs:swapsWith e none pos.line X.env=pure false:=by rfl):SS X Γ E (.Expr e pos) (wM L f):=by
 refine PS.post (ou he hs) λN σ H ⟨env,G,B,β,I,o⟩=>?_
 exact⟨env,G,B,β,I,cn o λd β' k v G' H' I' s' m' vo=>k B G' H' _ I' s'⟩
def cA (f:VF D):SF:=λenv β=>toS (f (vl env) β) λd β'=>.rt d false β'
def bz (he:SE X Γ E e f L .v):SS X Γ E (.Return (some e) pos) (cA f):=by
 refine PS.post (jG he) λN σ H ⟨env,G,B,β,I,o⟩=>?_
 exact⟨env,G,B,β,I,cn o λd β' k v G' H' I' s' m' vo=>k B G' H' σ _ v I' s' vo⟩
def qd (f:VF D):SF:=λenv β=>toS (f (vl env) β) λd β'=>.rt d true β'
def n9 (he:SE X Γ E e f L .w):SS X Γ E (.Return (some e) pos) (qd f):=by
 refine PS.post (jG he) λN σ H ⟨env,G,B,β,I,o⟩=>?_
 refine⟨env,G,B,β,I,cn o λd β' k v G' H' I' s' m' vo=>?_⟩
 obtain⟨p,rfl,h1,h2,h3⟩:=vo
 obtain⟨q1,_⟩:=I.fresh h1
 exact k B G' H' σ _ _ I' s' ⟨p,rfl,q1,h2,h3⟩
def pM (i:Nat):SF:=λenv β=>match env[i]? with
 |some (.fz d)=>.rt d false β
 |some (.ow d)=>.rt d true β
 |_=>.bad
theorem mY (i:Nat){x:Str}{p:Pos}(hN:X.N[i]? =some x:=by rfl)(hv:xi X.env.scope x:=by first |exact Or.inl rfl |exact Or.inr (Or.inl rfl) |exact Or.inr (Or.inr rfl))(hd:(x == ("__debug__":Str))=false:=by decide)
  (hcd:(x == ("__classdict__":Str))=false:=by decide):SS X Γ E (.Return (some (.Name x p)) pos) (pM i):=by
 refine PS.post (jG (hE hN hv hd hcd)) λN σ H ⟨env,G,B,β,I,o⟩=>?_
 unfold pM at o
 cases q:env[i]? with
 |none=>rw[q] at o;exact o.elim
 |some s=>
  rw[q] at o
  cases s with
  |no=>exact o.elim
  |bx=>exact o.elim
  |br d=>exact o.elim
  |fz d=>
   obtain⟨v,h1,h2⟩:=I.slot i _ q
   exact⟨v,h1,o B G H σ env v I (ae.refl _) h2⟩
  |ow d=>
   obtain⟨p,h1,h2,h3,h4,h5⟩:=I.slot i _ q
   exact⟨_,h1,o B G H σ env _ I (ae.refl _) ⟨p,rfl,h2,h3,h5⟩⟩
def kM (L:List Nat)(t:VF Bool)(m m':SF):SF:=λenv β=>toS (t (vl env) β) λc β'=>if c=true then m (aL L env) β' else m' (aL L env) β'
theorem gY {x y:List Stmt}(hc:yb X Γ E c ta L)(ha:ye X Γ E x m)(hb:ye X Γ E y m'):SS X Γ E (.If c x y pos) (kM L ta m m'):=by
 refine PS.post (zX hc ha hb) λN σ H ⟨env,G,B,β,I,o⟩=>?_
 refine⟨env,G,B,β,I,cn o λd β' k G' H' I' s' m'=>?_⟩
 cases d with
 |true=>exact rj ⟨_,G',B,β',I',l6.weak k s'⟩
 |false=>exact r0 ⟨_,G',B,β',I',l6.weak k s'⟩
def fw (L:List Nat)(t:VF Bool)(m:SF):Nat->SF
 | 0=>λ_ _=>.bad
 |n + 1=>λenv β=>toS (t (vl env) β) λc β'=>if c=true then (match m (aL L env) β' with
   | .nx env2 β2=>fw L t m n env2 β2
   | .ct env2 β2=>fw L t m n env2 β2
   | .bk env2 β2=>.nx env2 β2
   |r=>r) else .nx (aL L env) β'
theorem kU {x:List Stmt}(n:Nat)(hp:PassesOwn (model X.prog X.w) X.A X.env X.xe)(hc:yb X Γ E c ta L)(hb:ye X Γ E x m):SS X Γ E (.While c x [] pos) (fw L ta m n):=by
 refine PS.post (vk hp hc hb) λN σ H ⟨env,G,B,β,I,o⟩=>?_
 refine⟨λk σ H=>∃env G1 B β,SR Γ B G1 H σ env β/\ae G G1/\l6 Γ E G1 N (fw L ta m k env β),⟨n,env,G,B,β,I,ae.refl _,o⟩,?_⟩
 rintro k σ H ⟨env,G1,B,β,I,sG,o⟩
 cases k with
 |zero=>exact o.elim
 |succ k=>
  refine⟨env,G1,B,β,I,cn o λd β' q G' H' I' s' m'=>?_⟩
  cases d with
  |false=>exact r0 (q B G' H' σ I' s')
  |true=>
   refine rj ⟨λσ H=>∃env G1 B β,SR Γ B G1 H σ env β/\ae G G1/\l6 Γ E G1 N (fw L ta m k env β),λσ' H' h=>⟨k,Nat.lt_succ_self k,h⟩,aL L env,G',B,β',I',?_⟩
   rw[EI rfl] at q
   cases r:m (aL L env) β' with
   |nx env2 β2=>rw[r] at q;exact λB2 G2 H2 σ2 I2 s2=>⟨env2,G2,B2,β2,I2,(sG.trans s').trans s2,l6.weak q (s'.trans s2)⟩
   |ct env2 β2=>rw[r] at q;exact λB2 G2 H2 σ2 I2 s2=>⟨env2,G2,B2,β2,I2,(sG.trans s').trans s2,l6.weak q (s'.trans s2)⟩
   |bk env2 β2=>rw[r] at q;exact λB2 G2 H2 σ2 I2 s2=>q B2 G2 H2 σ2 I2 (s'.trans s2)
   |rt d fr β2=>rw[r] at q;exact l6.weak q s'
   |exc c=>rw[r] at q;exact q
   |bad=>rw[r] at q;exact q
def Walk (K:Frag)(B:Option Addr)(G H1:Hp)(ds:List D)(J:It):Prop:=∀Gc H (i:Nat),ae G Gc->ae Gc H->fk B H1 H->
 (i < ds.length->J.go i H/\∀x H',J.yld i H x H'->∃G' d,Ext Gc H G' H'/\ds[i]? =some d/\Rp K G' x d)/\(ds.length<=i->J.stop i H)
def Walk.any {K:Frag}{B:Option Addr}{G H1:Hp}{ds:List D}{J:It}(h:Walk K B G (λ_=>none) ds J):Walk K B G H1 ds J:=λGc H i s1 s2 _=>h Gc H i s1 s2 λb o e=>by cases e
def iT (Γ:Fx)(E:XK)(f:VF (List D))(L:List Nat)(md:Md):TI:=λσ H Rr=>∃env G B β,SR Γ B G H σ env β/\
 Out Γ E (f (vl env) β) λds β'=>∀J G' H',SR Γ B G' H' σ (aL L env) β'->ae G G'->fk B H H'->Walk Γ.K B G' (match md with | .b=>H' |_=>λ_=>none) ds J->Rr J H'
def SI (X:Cx)(Γ:Fx)(E:XK)(tg e:Expr)(f:VF (List D))(L:List Nat)(md:Md):Prop:=PI X tg e (iT Γ E f L md)
def PI.post {X:Cx}{tg e:Expr}{t u:TI}(h:PI X tg e t)(m:∀σ H Q,u σ H Q->t σ H Q):PI X tg e u:=λpins s σ H Q I q=>h pins s σ H Q I (m σ H Q q)
variable {tg:Expr}
def gK:D->Option (List D)
 | .list ds=>some ds
 | .tuple ds=>some ds
 |_=>none
def cT (fa:VF D):VF (List D):=λvs β=>(fa vs β).bnd λx β1=>R.of (gK x) β1
end
def Et (K:Frag)(tl:TE):TI:=λσ H R=>tl σ H λx H1=>∃a xs,x=.ref a/\((dS K H1 a xs/\R (uj K a) H1)\/(eB K H1 a xs/\R (zS K a) H1))
section
variable {X:Cx}{tg l:Expr}{tl:TE}
def zU (hl:PE X l tl):PI X tg l (Et X.K tl):=by
 intro pins s σ H R I h
 refine bP (hl pins s σ H _ I h) λv s1 ⟨x,H1,I1,r1,q1⟩=>?_
 obtain⟨a,xs,e,q⟩:=q1
 subst e
 cases r1
 rcases q with⟨hq,q⟩ | ⟨hq,q⟩
 ·obtain⟨its,rv,p,hz⟩:=I1.list hq
  refine GI p.isList ?_
  refine⟨s1.heap.objs.size,[s1.heap.objs.size],_,_,H1,rfl,I1.kept (t':=s1.toks) λb o e=>EF _ e,jO a _,⟨_,EW _ rfl,rfl,rfl⟩,λb hb=>?_,q⟩
  have e:b=s1.heap.objs.size:=by simpa using hb
  subst e
  exact I1.fpOk (EG _) (I1.hok.fresh (EG _))
 ·obtain⟨its,rv,p,hz⟩:=I1.tuple hq
  refine Hm (show s1.heap.IsTuple a its.toArray from p) ?_
  refine⟨s1.heap.objs.size,[s1.heap.objs.size],_,_,H1,rfl,I1.kept (t':=s1.toks) λb o e=>EF _ e,lJ a _,⟨_,EW _ rfl,rfl,rfl⟩,λb hb=>?_,q⟩
  have e:b=s1.heap.objs.size:=by simpa using hb
  subst e
  exact I1.fpOk (EG _) (I1.hok.fresh (EG _))
end
section
variable {X:Cx}{Γ:Fx}{E:XK}{e a b c:Expr}{f fa fb:VF D}{L La Lb:List Nat}{md ma mb:Md}{pos:Pos}{st:Stmt}{sts:List Stmt}{m m':SF}{ta:VF Bool}{tg:Expr}
def jF {K:Frag}{B:Option Addr}{G H1:Hp}{p:Addr}{xs:List V}{ds:List D}(h:∀Gc H,ae G Gc->ae Gc H->fk B H1 H->dS K H p xs)(r:bB K G xs ds):Walk K B G H1 ds (uj K p):=λGc H i s1 s2 m=>by
 have hq:=h Gc H s1 s2 m
 refine⟨λhi=>⟨?_,λx H' y=>?_⟩,λhi=>⟨xs,hq,by rw[r.len];exact hi⟩⟩
 ·have hi':i < xs.length:=by rw[r.len];exact hi
  exact⟨xs,xs[i],hq,by simp[hi']⟩
 ·obtain⟨rfl,y⟩:=y
  obtain⟨d,e,q⟩:=r.at' (y xs hq)
  exact⟨Gc,d,Ext.refl s2,e,q.mono s1⟩
def oX {K:Frag}{B:Option Addr}{G H1:Hp}{p:Addr}{xs:List V}{ds:List D}(h:∀Gc H,ae G Gc->ae Gc H->fk B H1 H->eB K H p xs)(r:bB K G xs ds):Walk K B G H1 ds (zS K p):=λGc H i s1 s2 m=>by
 have hq:=h Gc H s1 s2 m
 refine⟨λhi=>⟨?_,λx H' y=>?_⟩,λhi=>⟨xs,hq,by rw[r.len];exact hi⟩⟩
 ·have hi':i < xs.length:=by rw[r.len];exact hi
  exact⟨xs,xs[i],hq,by simp[hi']⟩
 ·obtain⟨rfl,y⟩:=y
  obtain⟨d,e,q⟩:=r.at' (y xs hq)
  exact⟨Gc,d,Ext.refl s2,e,q.mono s1⟩
theorem A3 (hK:X.K=Γ.K)(ha:SE X Γ E a fa La .v):SI X Γ E tg a (cT fa) La .v:=by
 refine PI.post (zU ha) λσ H Q ⟨env,G,B,β,I,o⟩=>?_
 refine⟨env,G,B,β,I,o.bnd.imp λd1 β1 h x G1 H1 I1 s1 m1 vx=>?_⟩
 obtain⟨ds,e,k⟩:=h.of
 rw[hK]
 have vx:Rp Γ.K G1 x d1:=vx
 cases d1 with
 |list l=>
  cases e
  cases vx with
  | @lst p xs _ hq r=>exact⟨p,xs,rfl,.inl ⟨.inl (Rd.mono (.inl hq) I1.sub),k _ G1 H1 I1 s1 m1 (jF (λGc H t1 t2 _=>.inl (Rd.mono (.inl hq) (t1.trans t2))) r)⟩⟩
 |tuple l=>
  cases e
  cases vx with
  | @tup p xs _ hq r=>exact⟨p,xs,rfl,.inr ⟨hq.grow I1.sub.grow,k _ G1 H1 I1 s1 m1 (oX (λGc H t1 t2 _=>hq.grow (t1.trans t2).grow) r)⟩⟩
 |_=>cases e
theorem ra (hK:X.K=Γ.K)(ha:SE X Γ E a fa La ma):SI X Γ E tg a (cT fa) La .b:=by
 refine PI.post (zU ha) λσ H Q ⟨env,G,B,β,I,o⟩=>?_
 refine⟨env,G,B,β,I,o.bnd.imp λd1 β1 h x G1 H1 I1 s1 m1 vx=>?_⟩
 obtain⟨ds,e,k⟩:=h.of
 rw[hK]
 have vx:=vx.brw I.boxThere
 cases d1 with
 |list l=>
  cases e
  rcases vx with vx | ⟨p,rfl,hb,xs,q,r⟩
  ·cases vx with
   | @lst p xs _ hq r=>exact⟨p,xs,rfl,.inl ⟨.inl (Rd.mono (.inl hq) I1.sub),k _ G1 H1 I1 s1 m1 (jF (λGc H t1 t2 _=>.inl (Rd.mono (.inl hq) (t1.trans t2))) r)⟩⟩
  ·exact⟨p,xs,rfl,.inl ⟨.inl (.inl q),k _ G1 H1 I1 s1 m1 (jF (λGc H t1 t2 mv=>.inl (.inl (mv p _ q hb))) r)⟩⟩
 |tuple l=>
  cases e
  rcases vx with vx | ⟨p,rfl,hb,q⟩
  ·cases vx with
   | @tup p xs _ hq r=>exact⟨p,xs,rfl,.inr ⟨hq.grow I1.sub.grow,k _ G1 H1 I1 s1 m1 (oX (λGc H t1 t2 _=>hq.grow (t1.trans t2).grow) r)⟩⟩
  ·exact q.elim
 |_=>cases e
def bE (lo:Int)(n:Nat):List D:=(List.range n).map λ(k:Nat)=>int (lo + k)
def jw (lo:Int)(n:Nat):(bE lo n).length=n:=by unfold bE;simp
def pL {K:Frag}{B:Option Addr}{G H1:Hp}(lo:Int)(n:Nat):Walk K B G H1 (bE lo n) (uG lo n):=λGc H i s1 s2 m=>by
 rw[jw]
 refine⟨λhi=>⟨hi,λx H' y=>?_⟩,λhi=>hi⟩
 obtain⟨rfl,rfl⟩:=y
 refine⟨Gc,.int (lo + i),Ext.refl s2,?_,.int _⟩
 unfold bE
 rw[ES,List.getElem?_range hi];rfl
def u9 (j:Int):Bool:=Nat.ble j.natAbs 1000000
def jJ {j:Int}(h:u9 j=true): -(2 ^ 62)<=j/\j < 2 ^ 62:=by
 have:=Nat.le_of_ble_eq_true h
 omega
def jx {j:Int}(h: -1000<=j)(h2:j<=10000):u9 j=true:=Nat.ble_eq_true_of_le (by omega)
def fC (fa:VF D):VF (List D):=λvs β=>(fa vs β).bnd λx β1=>match x with
 | .int j=>if u9 j=true then .ok (bE 0 j.toNat) β1 else .bad
 |_=>.bad
def j4 (fa fb:VF D):VF (List D):=λvs β=>(fa vs β).bnd λx β1=>(fb vs β1).bnd λy β2=>match x,y with
 | .int i,.int j=>if (u9 i && u9 j)=true then .ok (bE i (j - i).toNat) β2 else .bad
 |_,_=>.bad
theorem lE {p:Pos}(hg:Gl X "range")(hm:X.mg "range"=none)(ha:SE X Γ E a fa La ma)(hs:starEach [a] X.env= [(false,eval a X.env)]:=by rfl)(hs':starEach [a] X.env=(false,eval a X.env) :: starEach [] X.env:=by rfl):SI X Γ E tg (.Call (.Name "range" p) [a] [] pos) (fC fa) La md:=by
 refine PI.post (iq hg hm (aB ha aR hs') hs) λσ H Q ⟨env,G,B,β,I,o⟩=>?_
 refine⟨env,G,B,β,I,o.bnd.imp λd1 β1 h x G1 H1 I1 s1 m1 vx=>?_⟩
 have vx:=vx.brw I.boxThere
 cases d1 with
 |int j=>
  obtain rfl:=vx.int
  dsimp only at h
  by_cases hj:u9 j=true
  ·rw[EI hj] at h
   exact⟨j,rfl,(jJ hj).1,(jJ hj).2,h _ G1 H1 I1 s1 m1 (pL 0 _)⟩
  ·rw[EN hj] at h;exact h.elim
 |_=>exact h.elim
def Ab {p:Pos}(hg:Gl X "range")(hm:X.mg "range"=none)(ha:SE X Γ E a fa La ma)(hb:SE X Γ E b fb Lb mb)(hs:starEach [a,b] X.env= [(false,eval a X.env),(false,eval b X.env)]:=by rfl)(hs2:starEach [b] X.env= [(false,eval b X.env)]:=by rfl)(hs':starEach [a,b] X.env=(false,eval a X.env) :: starEach [b] X.env:=by rfl)(hs3:starEach [b] X.env=(false,eval b X.env) :: starEach [] X.env:=by rfl):SI X Γ E tg (.Call (.Name "range" p) [a,b] [] pos) (j4 fa fb) (La ++ Lb) md:=by
 refine PI.post (uX hg hm (aB ha (aB hb aR hs3) hs') hs hs2) λσ H Q ⟨env,G,B,β,I,o⟩=>?_
 refine two (W:=λx y H2=>∃i j:Int,[x,y]= [.int i,.int j]/\(-(2 ^ 62)<=i/\i < 2 ^ 62/\ -(2 ^ 62)<=j/\j < 2 ^ 62)/\Q (uG i (j - i).toNat) H2) I (o.bnd.imp λd1 β1 h=>h.bnd.imp λd2 β2 h x y G2 H2 I2 s2 m2 bx by'=>?_)
 obtain⟨i,j,rfl,rfl⟩:∃i j,d1=.int i/\d2=.int j:=by
  cases d1 <;> cases d2 <;> first |exact h.elim |exact⟨_,_,rfl,rfl⟩
 obtain rfl:=bx.int
 obtain rfl:=by'.int
 dsimp only at h
 by_cases hj:(u9 i && u9 j)=true
 ·rw[EI hj] at h
  rw[Fp] at hj
  exact⟨i,j,rfl,⟨(jJ hj.1).1,(jJ hj.1).2,(jJ hj.2).1,(jJ hj.2).2⟩,h _ G2 H2 I2 s2 m2 (pL i _)⟩
 ·rw[EN hj] at h;exact h.elim
inductive Tg where
 |nm (i:Nat)
 |two (i j:Nat)
def pairD:D->Option (D×D)
 | .tuple [x,y]=>some (x,y)
 |_=>none
def vE {d x y:D}(h:pairD d=some (x,y)):d=.tuple [x,y]:=by
 unfold pairD at h
 split at h
 ·cases h;rfl
 ·cases h
def dg:Tg->D->En->Option En
 | .nm i,d,env=>some (env.set i (.fz d))
 | .two i j,d,env=>(pairD d).map λp=>(env.set i (.fz p.1)).set j (.fz p.2)
def pj:Tg->D->List Nv->Option (List Nv)
 | .nm i,d,vs=>some (vs.set i (.da d))
 | .two i j,d,vs=>(pairD d).map λp=>(vs.set i (.da p.1)).set j (.da p.2)
def rl (env:En)(i:Nat)(s:Sl):vl (env.set i s)=(vl env).set i s.val:=by unfold vl;rw[List.map_set]
theorem yi (t:Tg)(d:D)(env:En):(dg t d env).map vl=pj t d (vl env):=by
 cases t with
 |nm i=>show some (vl _)=some _;rw[rl];rfl
 |two i j=>
  show ((pairD d).map _).map vl=(pairD d).map _
  cases pairD d with
  |none=>rfl
  |some p=>show some (vl _)=some _;rw[rl,rl];rfl
def gT (Γ:Fx)(t:Tg):TG:=λv σ H Q=>∃env G B β d env',SR Γ B G H σ env β/\Rp Γ.K G v d/\dg t d env=some env'/\∀σ',SR Γ B G H σ' env' β->Q σ' H
def SG (X:Cx)(Γ:Fx)(tg:Expr)(t:Tg):Prop:=PG X tg (gT Γ t)
def PG.post {X:Cx}{tg:Expr}{t u:TG}(h:PG X tg t)(m:∀v σ H Q,u v σ H Q->t v σ H Q):PG X tg u:=λpins s σ H v uu Q I r q=>h pins s σ H v uu Q I r (m v σ H Q q)
def dh {i:Nat}{x:Str}(hN:X.N.Nodup)(hi:X.N[i]? =some x:=by rfl)(hx:Loc X.env.scope x:=by first |exact Or.inl rfl |exact Or.inr rfl)(hf:X.fn x=true\/X.env.scope.names.lookup x=some .local:=by first |exact .inl rfl |exact .inr rfl |assumption):SG X Γ (.Name x pos) (.nm i):=by
 refine PG.post (bM hN hi hx hf) λv σ H Q ⟨env,G,B,β,d,env',I,r,e,k⟩=>?_
 cases e
 exact k _ (I.set' i r)
theorem qS {i j:Nat}{x y:Str}{px py:Pos}{n:Nat}(hN:X.N.Nodup)(hc:X.calm=true:=by rfl)(hK:X.K=Γ.K:=by rfl)(hi:X.N[i]? =some x:=by rfl)(hj:X.N[j]? =some y:=by rfl)(hx:Loc X.env.scope x:=by first |exact Or.inl rfl |exact Or.inr rfl)(hy:Loc X.env.scope y:=by first |exact Or.inl rfl |exact Or.inr rfl)
  (hf:X.fn x=true\/X.env.scope.names.lookup x=some .local:=by first |exact .inl rfl |exact .inr rfl |assumption) (hf':X.fn y=true\/X.env.scope.names.lookup y=some .local:=by first |exact .inl rfl |exact .inr rfl |assumption):SG X Γ (.Tuple [.Name x px,.Name y py] n pos) (.two i j):=by
 refine PG.post (lq (n:=2) hc (b8 (bM hN hi hx hf) (b8 (bM hN hj hy hf') jk))) λv σ H Q ⟨env,G,B,β,d,env',I,r,e,k⟩=>?_
 rw[hK]
 have e:(pairD d).map (λp=>(env.set i (.fz p.1)).set j (.fz p.2))=some env':=e
 cases q:pairD d with
 |none=>rw[q] at e;cases e
 |some p=>
  obtain⟨dx,dy⟩:=p
  rw[q] at e
  cases e
  obtain rfl:=vE q
  cases r with
  | @tup p xs _ hq r=>
   cases r with
   |cons r1 r=>
    cases r with
    |cons r2 r=>
     cases r
     exact⟨p,_,rfl,hq.grow I.sub.grow,rfl,_,_,rfl,_,_,rfl,rfl,k _ ((I.set' i r1).set' j r2)⟩
def jL (t:Tg)(m:SF):List D->SF
 | []=>λenv β=>.nx env β
 |d :: ds=>λenv β=>match dg t d env with
  |none=>.bad
  |some env1=>match m env1 β with
   | .nx env2 β2=>jL t m ds env2 β2
   | .ct env2 β2=>jL t m ds env2 β2
   | .bk env2 β2=>.nx env2 β2
   |r=>r
def cJ (t:Tg)(L:List Nat)(fi:VF (List D))(m:SF):SF:=λenv β=>toS (fi (vl env) β) λds β'=>jL t m ds (aL L env) β'
def fo {t:Tg}{fi:VF (List D)}{x:List Stmt}(hp:PassesOwn (model X.prog X.w) X.A X.env X.xe)(hc:X.calm=true)(hi:SI X Γ E tg e fi L .v)(hg:SG X Γ tg t)(hb:ye X Γ E x m)(hs:∀x,foldedSetIterable e X.env x=pure x:=by intro _;rfl):SS X Γ E (.For tg e x [] pos) (cJ t L fi m):=by
 refine PS.post (nR hp hc hi hg hb hs) λN σ H ⟨env,G,B,β,I,o⟩=>?_
 refine⟨env,G,B,β,I,cn o λds β' q J G' H' I' s' m' w=>?_⟩
 have w:Walk Γ.K B G' (λ_=>none) ds J:=w
 refine⟨λi n σ H=>n=ds.length - i/\i<=ds.length/\∃env G1 B β,SR Γ B G1 H σ env β/\ae G' G1/\l6 Γ E G1 N (jL t m (ds.drop i) env β),⟨ds.length,by simp,Fj _,aL L env,G',B,β',I',ae.refl _,by rw[List.drop_zero];exact l6.weak q s'⟩,?_⟩
 rintro i n σ H ⟨rfl,hi,env,G1,B1,β1,I1,s1,q⟩
 obtain⟨w1,w2⟩:=w G1 H i s1 I1.sub λb o e=>by cases e
 by_cases hlt:i < ds.length
 ·obtain⟨go,yl⟩:=w1 hlt
  refine .inr ⟨go,λσ H=>∃env G2 B β,SR Γ B G2 H σ env β/\ae G' G2/\l6 Γ E G2 N (jL t m (ds.drop (i + 1)) env β),λσ2 H2 h=>⟨ds.length - (i + 1),by omega,rfl,hlt,h⟩,λx H2 y=>?_⟩
  obtain⟨G2,d,x2,ed,rd⟩:=yl x H2 y
  have I2:=I1.ext x2
  have q:=l6.weak q x2.gg
  rw[Gq hlt] at q
  have ed':ds[i]=d:=by rw[ED hlt] at ed;exact Option.some.inj ed
  rw[ed'] at q
  unfold jL at q
  cases eb:dg t d env with
  |none=>rw[eb] at q;exact q.elim
  |some env1=>
   rw[eb] at q
   refine⟨env,G2,B1,β1,d,env1,I2,rd,eb,λσ3 I3=>⟨env1,G2,B1,β1,I3,?_⟩⟩
   have s2:=s1.trans x2.gg
   dsimp only at q
   cases r:m env1 β1 with
   |nx env2 β2=>rw[r] at q;exact λB2 G3 H3 σ2 I2 s3=>⟨env2,G3,B2,β2,I2,s2.trans s3,l6.weak q s3⟩
   |ct env2 β2=>rw[r] at q;exact λB2 G3 H3 σ2 I2 s3=>⟨env2,G3,B2,β2,I2,s2.trans s3,l6.weak q s3⟩
   |bk env2 β2=>rw[r] at q;exact λB2 G3 H3 σ2 I2 s3=>q B2 G3 H3 σ2 I2 s3
   |rt d fr β2=>rw[r] at q;exact q
   |exc c=>rw[r] at q;exact q
   |bad=>rw[r] at q;exact q
 ·have e:i=ds.length:=by omega
  subst e
  rw[List.drop_length] at q
  exact .inl ⟨w2 (EG _),q B1 G1 H σ I1 (ae.refl _)⟩
end
abbrev Fx.fm (Γ:Fx)(H0 G0:Hp)(par:List Addr)(br:Nat->Bool)(bx:Option Addr):Fx:=⟨Γ.K,H0,G0,par,Γ.ca,br,bx⟩
def eQ (own:Nat)(ixs:List Nat)(vs:List Nv):List Nv:=List.replicate own .no ++ ixs.map λi=>(vs[i]?).getD .no
def BY:Option Sl->Sl
 |some (.ow d)=>.br d
 |some s=>s
 |none=>.no
def benv (own:Nat)(ixs:List Nat)(env:En):En:=List.replicate own .no ++ ixs.map λi=>BY env[i]?
theorem yG (o:Option Sl):(BY o).val=(o.map Sl.val).getD .no:=by
 cases o with
 |none=>rfl
 |some s=>cases s <;> rfl
def yn (own:Nat)(ixs:List Nat)(env:En):vl (benv own ixs env)=eQ own ixs (vl env):=by
 unfold vl benv eQ
 rw[FA,List.map_replicate,F0]
 congr 1
 refine Gh λi _=>?_
 show (BY env[i]?).val=_
 rw[yG,ES]
def rY (env:En):Prop:=∀(i:Nat) (d:D),env[i]?≠some (.ow d)
theorem qx {env:En}(h:rY env)(L:List Nat):aL L env=env:=by
 unfold aL
 induction L with
 |nil=>rfl
 |cons i L ih=>
  rw[foldl_cons]
  have:fO env i=env:=by
   unfold fO
   split
   ·rename_i d e;exact absurd e (h i d)
   ·rfl
  rw[this];exact ih
def mL (own:Nat)(ixs:List Nat)(env:En):rY (benv own ixs env):=λi d e=>by
 unfold benv at e
 have hm:=EX e
 rcases E6.mp hm with h |h
 ·have:=Hn h;cases this
 ·obtain⟨k,_,hk⟩:=ER.mp h
  cases q:env[k]? with
  |none=>rw[q] at hk;cases hk
  |some s=>rw[q] at hk;cases s <;> cases hk
def lI {env:En}(h:rY env)(i:Nat)(d:D):rY (env.set i (.fz d)):=λj d' e=>by
 by_cases z:i=j
 ·subst z
  by_cases hi:i < env.length
  ·rw[E5 hi] at e;cases e
  ·rw[Gs (by omega)] at e;exact h _ _ e
 ·rw[E1 z] at e;exact h _ _ e
theorem tT {env env1:En}{t:Tg}{d:D}(h:rY env)(e:dg t d env=some env1):rY env1:=by
 cases t with
 |nm i=>cases e;exact lI h i d
 |two i j=>
  have e:(pairD d).map _=some env1:=e
  cases q:pairD d with
  |none=>rw[q] at e;cases e
  |some p=>rw[q] at e;cases e;exact lI (lI h _ _) _ _
theorem ua {env env1:En}{t:Tg}{d:D}(e:dg t d env=some env1)(d':D):dg t d' env1=dg t d' env:=by
 cases t with
 |nm i=>cases e;show some _=some _;rw[set_set]
 |two i j=>
  have e:(pairD d).map _=some env1:=e
  cases q:pairD d with
  |none=>rw[q] at e;cases e
  |some p=>
   rw[q] at e;cases e
   show (pairD d').map _=(pairD d').map _
   cases pairD d' with
   |none=>rfl
   |some p'=>
    show some _=some _
    congr 1
    dsimp only
    by_cases z:i=j
    ·subst z;simp[set_set]
    ·rw[List.set_comm _ _ (Ne.symm z),set_set,set_set]
def Ext.mov {G H G' H':Hp}(x:Ext G H G' H')(B:Option Addr):fk B H H':=x.hh.mov B
section
variable {Γ:Fx}{B:Option Addr}{G H G1 H1 Gc Hc:Hp}{σ σ':St}{env envb:En}{β β':Int}{own:Nat}{ixs:List Nat}{Da:Addr}{acc:List V}
def q5 (envb:En):Nat->Bool:=λj=>match envb[j]? with
 |some (.br _)=>true
 |_=>false
def SR.block (I:SR Γ B G H σ env β)(own:Nat)(ixs:List Nat)(hD:H Da=none):SR (Γ.fm (upd H Da (.lst [])) G (Da :: B.toList) (q5 (benv own ixs env)) B) B G (upd H Da (.lst [])) (nc own ixs σ) (benv own ixs env) β:=by
 obtain⟨q1,q2,q3,q4⟩:=I.fresh hD
 have nB:∀b,B=some b->b≠Da:=λb e z=>q3 (by rw[<-z];exact e)
 refine⟨I.sub.trans (ae.new hD),ae.refl _,λb _ h=>h,λb o h _=>h,λb hb=>?_,λb e=>e,λb e=>?_,?_,λi s e=>?_,λi j c d d' e=>absurd e (mL own ixs env i d)⟩
 ·rcases EH.mp hb with z |z
  ·subst z;exact Mx.lst ao
  ·have z':B=some b:=by simpa using z
   exact Mx.lst (by rw[ag (nB b z')];exact (I.box b z').1)
 ·obtain⟨h1,h2,_⟩:=I.box b e
  exact⟨by rw[ag (nB b e)];exact h1,h2,.inl (EK _ (by simpa using e))⟩
 ·unfold nc benv;simp
 ·by_cases hi:i < own
  ·unfold benv at e
   rw[Ft (by simpa using hi),Gb,EI hi] at e
   cases e;trivial
  ·have e0:=e
   unfold benv at e
   rw[Fm (by simpa using hi),GF,ES] at e
   cases ek:ixs[i - own]? with
   |none=>rw[ek] at e;cases e
   |some k=>
    rw[ek] at e
    have e:BY env[k]? =s:=Option.some.inj e
    have es:(nc own ixs σ)[i]? =some ((σ[k]?).join):=by
     unfold nc
     rw[Fm (by simpa using hi),GF,ES,ek];rfl
    rw[es]
    cases q:env[k]? with
    |none=>rw[q] at e;subst e;trivial
    |some t=>
     rw[q] at e
     have w:=I.slot k t q
     cases t with
     |no=>subst e;trivial
     |fz d=>subst e;obtain⟨v,h1,h2⟩:=w;exact⟨v,by rw[h1];rfl,h2⟩
     |bx=>subst e;obtain⟨a,h1,h2⟩:=w;exact⟨a,by rw[h1];rfl,h2⟩
     |ow d=>
      subst e
      obtain⟨a,h1,h2,h3,h4,h5⟩:=w
      obtain⟨o,ho⟩:=h5.obj
      have aD:a≠Da:=au ho hD
      refine⟨by show q5 _ i=true;unfold q5;rw[e0];rfl,a,by rw[h1];rfl,h4,?_,h5.mono (ae.refl _) λo q=>by rw[ag aD];exact q⟩
      intro hm
      rcases EH.mp hm with z |z
      ·exact aD z
      ·exact h4 (by simpa using z)
     |br d=>
      subst e
      obtain⟨b1,a,h1,h4,hp,h5⟩:=w
      obtain⟨o,ho⟩:=h5.obj
      have aD:a≠Da:=au ho hD
      refine⟨by show q5 _ i=true;unfold q5;rw[e0];rfl,a,by rw[h1];rfl,h4,?_,h5.mono (ae.refl _) λo q=>by rw[ag aD];exact q⟩
      intro hm
      rcases EH.mp hm with z |z
      ·exact aD z
      ·exact h4 (by simpa using z)
def SR.unblock (I:SR Γ B G H σ env β){br:Nat->Bool}(hD:H Da=none)(J:SR (Γ.fm (upd H Da (.lst [])) G (Da :: B.toList) br B) B Gc Hc σ' envb β'):SR Γ B Gc Hc σ env β'/\fk B H Hc/\Gc Da=none:=by
 obtain⟨q1,q2,q3,q4⟩:=I.fresh hD
 have up:∀{b:Addr},Mx H b->Mx (upd H Da (.lst [])) b:=λ{b} h=>h.same λo e=>by rw[ag (au e hD)];exact e
 have mv:fk B H Hc:=λb o e n=>J.keep b o (show upd H Da (.lst []) b=some o by rw[ag (au e hD)];exact e) λhm=>by
  rcases EH.mp hm with z |z
  ·rw[z,hD] at e;cases e
  ·exact n (by simpa using z)
 refine⟨⟨J.sub,I.old.trans J.old,λb h1 h2=>J.new b (up (I.thereM h1)) (I.new b h1 h2),λb o h1 h2=>mv b o (I.keep b o h1 h2) λz=>?_,λb hb=>J.thereM (up (I.pin b hb)),I.fix,λb e=>?_,I.len,λi s e=>?_,I.sep⟩,mv,J.new Da (Mx.lst (show upd H Da (.lst []) Da=some (.lst []) from ao)) q2⟩
 ·obtain⟨_,_,h3⟩:=I.box b z
  rcases h3 with h3 |h3
  ·exact h2 h3
  ·rw[h1] at h3;cases h3
 ·obtain⟨j1,j2,_⟩:=J.box b e
  exact⟨j1,j2,(I.box b e).2.2⟩
 ·have w:=I.slot i s e
  cases s with
  |no=>trivial
  |fz d=>obtain⟨v,h1,h2⟩:=w;exact⟨v,h1,h2.mono J.old⟩
  |bx=>exact w
  |ow d=>
   obtain⟨a,h1,h2,h3,h4,h5⟩:=w
   exact⟨a,h1,h2,J.new a (up h5.mx) h3,h4,h5.mono J.old λo q=>mv a o q h4⟩
  |br d=>
   obtain⟨b1,a,h1,h4,hp,h5⟩:=w
   exact⟨b1,a,h1,h4,hp,h5.mono J.old λo q=>mv a o q h4⟩
def SR.updD {ys:List V}(J:SR Γ B G H σ env β)(hp:Da∈Γ.par)(h0:Mx Γ.H0 Da)(g0:Γ.G0 Da=none)(hB:B≠some Da):SR Γ B G (upd H Da (.lst ys)) σ env β:=by
 have gD:=J.new Da h0 g0
 refine⟨λb u q=>by rw[ag (λz=>by rw[z,gD] at q;cases q)];exact J.sub b u q,J.old,J.new,λb u q n=>by rw[ag (λz=>n (by rw[z];exact hp))];exact J.keep b u q n,λb hb=>?_,J.fix,λb e=>?_,J.len,λi s e=>?_,J.sep⟩
 ·by_cases z:b=Da
  ·subst z;exact Mx.lst ao
  ·exact (J.pin b hb).same λo e=>by rw[ag z];exact e
 ·obtain⟨h1,h2⟩:=J.box b e
  exact⟨by rw[ag (λz=>hB (by rw[<-z];exact e))];exact h1,h2⟩
 ·have w:=J.slot i s e
  cases s with
  |no=>trivial
  |fz d=>exact w
  |bx=>exact w
  |ow d=>
   obtain⟨a,h1,h2,h3,h4,h5⟩:=w
   have aD:a≠Da:=λz=>h0.1 (by rw[<-z];exact h2)
   exact⟨a,h1,h2,h3,h4,h5.mono (ae.refl _) λo q=>by rw[ag aD];exact q⟩
  |br d=>
   obtain⟨b1,a,h1,h4,hpa,h5⟩:=w
   have aD:a≠Da:=λz=>hpa (by rw[z];exact hp)
   exact⟨b1,a,h1,h4,hpa,h5.mono (ae.refl _) λo q=>by rw[ag aD];exact q⟩
end
def R.okb {α γ:Type}(r:R α)(k:α->Int->R γ):R γ:=match r with
 | .ok a β=>k a β
 |_=>.bad
def fI (t:Tg)(ft:VF Bool)(fe:VF D)(vs:List Nv):List D->Int->R (List D)
 | [],β=>.ok [] β
 |d :: ds,β=>match pj t d vs with
  |none=>.bad
  |some vs1=>(ft vs1 β).okb λc β1=>if c=true then (fe vs1 β1).okb λx β2=>(fI t ft fe vs ds β2).okb λxs β3=>.ok (x :: xs) β3 else fI t ft fe vs ds β1
def aY (own:Nat)(ixs:List Nat)(t:Tg)(fi:VF (List D))(ft:VF Bool)(fe:VF D):VF D:=λvs β=>(fi vs β).bnd λds β1=>if ds.length<=sizeLine then (fI t ft fe (eQ own ixs vs) ds β1).okb λxs β2=>.ok (.list xs) β2 else .bad
def qK:VF Bool:=λ_ β=>.ok true β
def Ae (own:Nat)(ixs Lc:List Nat)(j:Nat):Bool:=decide (j < own) || (match ixs[j - own]? with
 |some i=>Lc.contains i
 |none=>false)
theorem zq {α γ:Type}{Γ:Fx}{E:XK}{r:R α}{k:α->Int->R γ}{P:γ->Int->Prop}(h:Out Γ E (r.okb k) P):∃a β,r=.ok a β/\Out Γ E (k a β) P:=by
 cases r with
 |ok a β=>exact⟨a,β,rfl,h⟩
 |exc c=>exact h.elim
 |bad=>exact h.elim
section
variable {X:Cx}{Γ:Fx}{E:XK}{tg iter elt:Expr}{ifs:List Expr}{scope:Scope}{NB:List Str}{own:Nat}{ixs Li Lc Lt Le:List Nat}{t:Tg}{fi:VF (List D)}{ft:VF Bool}{fe:VF D}{pos:Pos}
def hZ {X:Cx}{Γ:Fx}{E:XK}:wm X [] (qT Γ E qK []):=λpins s σ H Q I ⟨env,G,B,β,J,o⟩=>nD pins s σ H Q I (o G H J (ae.refl _) (fk.refl _ _))
def oH {X:Cx}{Γ:Fx}{E:XK}{c:Expr}{ta:VF Bool}{L:List Nat}(h:yb X Γ E c ta L):wm X [c] (qT Γ E ta L):=sW h
def xw {NB:List Str}{scope:Scope}{C:Addr}{ex:List Addr}{s3:Shared}{H3:Hp}{pn:List (Addr×Obj)}{P:Program}{w:World}:Passes (j7 P w) (fm X NB scope C ex s3 H3 pn) E0:=λpins σ H s e s' I h=>by
 obtain⟨_,_,_,_,_,_,_,_,_,q⟩:=h
 exact q.elim
abbrev gU (Γ:Fx)(t:Tg):TG:=λv σ H Q=>∃H0 G0 par br bx,gT (Γ.fm H0 G0 par br bx) t v σ H Q
abbrev tU (Γ:Fx)(own:Nat)(ixs Lc:List Nat)(ft:VF Bool)(Lt:List Nat):TT:=λσ H Q=>∃H0 G0 par br bx,(∀j,Ae own ixs Lc j=true->br j=false)/\qT (Γ.fm H0 G0 par br bx) E0 ft Lt σ H Q
abbrev eU (Γ:Fx)(own:Nat)(ixs Lc:List Nat)(fe:VF D)(Le:List Nat):TE:=λσ H Q=>∃H0 G0 par br bx,(∀j,Ae own ixs Lc j=true->br j=false)/\pT (Γ.fm H0 G0 par br bx) E0 fe Le .v σ H Q
def Ag {σ:St}{H:Hp}{Q:VK}(hLc:∀i,i∈Lc->Γ.br i=false)(h:pT Γ E (aY own ixs t fi ft fe) (Li ++ Lc) .w σ H Q):rK own ixs (iT Γ E fi Li .b) (gU Γ t) (tU Γ own ixs Lc ft Lt) (eU Γ own ixs Lc fe Le) σ H Q:=by
 obtain⟨env,G,B,β,I,o⟩:=h
 refine⟨env,G,B,β,I,o.bnd.imp λds β1 h J G1 H1 I1 s1 m1 wk Da hD=>?_⟩
 have wk:Walk Γ.K B G1 H1 ds J:=wk
 by_cases hz:ds.length<=sizeLine
 case neg=>rw[EN hz] at h;exact h.elim
 rw[EI hz] at h
 obtain⟨xs0,β0,e0,h⟩:=zq h
 have h:∀v G' H',SR Γ B G' H' σ (aL (Li ++ Lc) env) β0->ae G G'->fk B H H'->VO Γ.K B H G' H' .w (.list xs0) v->Q v H':=h
 obtain⟨G2,I2,s2⟩:=I1.aL Lc hLc
 rw[<-eG] at I2
 obtain⟨q1,q2,q3,q4⟩:=I2.fresh hD
 have Ib0:=I2.block own ixs hD
 generalize hbr:q5 (benv own ixs (aL (Li ++ Lc) env))=br at Ib0
 have hbo:∀j,Ae own ixs Lc j=true->br j=false:=by
  intro j hj
  rw[<-hbr]
  unfold q5
  split
  ·rename_i d e
   exfalso
   unfold benv at e
   by_cases hjo:j < own
   ·rw[Ft (by simpa using hjo),Gb,EI hjo] at e;cases e
   ·rw[Fm (by simpa using hjo),GF,ES] at e
    unfold Ae at hj
    rw[E3 hjo,Bool.false_or] at hj
    cases ek:ixs[j - own]? with
    |none=>rw[ek] at hj;cases hj
    |some k=>
     rw[ek] at hj e
     have hk:k∈Lc:=by simpa using hj
     have e:BY (aL (Li ++ Lc) env)[k]? =.br d:=Option.some.inj e
     cases q:(aL (Li ++ Lc) env)[k]? with
     |none=>rw[q] at e;cases e
     |some s=>
      rw[q] at e
      cases s with
      |no=>cases e
      |fz _=>cases e
      |bx=>cases e
      |br d'=>
       obtain⟨b1,_⟩:=I2.slot k _ q
       rw[hLc k hk] at b1;cases b1
      |ow d'=>
       rw[eG] at q
       have key:∀(M:List Nat) (en:En),k∈M->∀d',(aL M en)[k]?≠some (.ow d'):=by
        intro M
        induction M with
        |nil=>intro en hm;cases hm
        |cons i M ih=>
         intro en hm d' z
         rcases EH.mp hm with y |y
         ·subst y
          have z1:(fO en k)[k]? =some (.ow d'):=ot (L:=M) z
          have z2:=sM z1
          unfold fO at z1
          rw[z2] at z1
          dsimp only at z1
          rw[E5 (EV.mp z2).1] at z1;cases z1
         ·exact ih (fO en i) y d' z
       exact key Lc _ hk d' q
  ·rfl
 have evb:vl (benv own ixs (aL (Li ++ Lc) env))=eQ own ixs (vl env):=by rw[yn,lA]
 refine⟨λi n σ' H'=>n=ds.length - i/\i<=ds.length/\∃envb Gc β' acc accd,SR (Γ.fm (upd H1 Da (.lst [])) G2 (Da :: B.toList) br B) B Gc H' σ' envb β'/\(envb=benv own ixs (aL (Li ++ Lc) env)\/∃d,dg t d (benv own ixs (aL (Li ++ Lc) env))=some envb)/\
   H' Da=some (.lst acc)/\bB Γ.K Gc acc accd/\accd.length<=i/\∃xs,fI t ft fe (eQ own ixs (vl env)) (ds.drop i) β'=.ok xs β0/\accd ++ xs=xs0,
  ⟨ds.length,by simp,Fj _,_,G2,β1,[],[],Ib0,.inl rfl,ao,.nil,Fj _,xs0,by rw[List.drop_zero];exact e0,rfl⟩,?_⟩
 rintro i n σ' H' ⟨rfl,hi',envb,Gc,β',acc,accd,Ib,eb,hacc,racc,lacc,xs,ec,exs⟩
 obtain⟨Io,mv,gD⟩:=I2.unblock hD Ib
 obtain⟨w1,w2⟩:=wk Gc H' i (s2.trans Ib.old) Ib.sub mv
 by_cases hlt:i < ds.length
 ·obtain⟨go,yl⟩:=w1 hlt
  refine .inr ⟨go,λσ' H'=>∃envb Gc β' acc accd,SR (Γ.fm (upd H1 Da (.lst [])) G2 (Da :: B.toList) br B) B Gc H' σ' envb β'/\(envb=benv own ixs (aL (Li ++ Lc) env)\/∃d,dg t d (benv own ixs (aL (Li ++ Lc) env))=some envb)/\
   H' Da=some (.lst acc)/\bB Γ.K Gc acc accd/\accd.length<=i + 1/\∃xs,fI t ft fe (eQ own ixs (vl env)) (ds.drop (i + 1)) β'=.ok xs β0/\accd ++ xs=xs0,λσ2 H2 hh=>⟨ds.length - (i + 1),by omega,rfl,hlt,hh⟩,λx H2 y=>?_⟩
  obtain⟨G3,d,x3,ed,rd⟩:=yl x H2 y
  have I3:=Ib.ext x3
  have ed':ds[i]=d:=by rw[ED hlt] at ed;exact Option.some.inj ed
  rw[Gq hlt,ed'] at ec
  unfold fI at ec
  cases ebv:pj t d (eQ own ixs (vl env)) with
  |none=>rw[ebv] at ec;cases ec
  |some vs1=>
   rw[ebv] at ec
   dsimp only at ec
   obtain⟨env1,eb1,ev1⟩:∃env1,dg t d (benv own ixs (aL (Li ++ Lc) env))=some env1/\vl env1=vs1:=by
    have:=yi t d (benv own ixs (aL (Li ++ Lc) env))
    rw[evb,ebv] at this
    cases q:dg t d (benv own ixs (aL (Li ++ Lc) env)) with
    |none=>rw[q] at this;cases this
    |some env1=>rw[q] at this;exact⟨env1,rfl,Option.some.inj this⟩
   have eb2:dg t d envb=some env1:=by
    rcases eb with rfl | ⟨d0,eb⟩
    ·exact eb1
    ·rw[ua eb];exact eb1
   have no1:rY env1:=tT (mL _ _ _) eb1
   have a2:H2 Da=some (.lst acc):=x3.hh _ _ hacc
   refine⟨_,_,_,_,_,envb,G3,B,β',d,env1,I3,rd,eb2,λσ3 I4=>?_⟩
   refine⟨_,_,_,_,_,hbo,env1,G3,B,β',I4,?_⟩
   rw[ev1]
   cases et:ft vs1 β' with
   |exc c=>rw[et] at ec;cases ec
   |bad=>rw[et] at ec;cases ec
   |ok c β2=>
    rw[et] at ec
    intro G4 H4 I5 s4 m4
    rw[qx no1] at I5
    have a4:H4 Da=some (.lst acc):=m4 _ _ a2 q3
    cases c with
    |false=>
     refine r0 ⟨env1,G4,β2,acc,accd,I5,.inr ⟨d,eb1⟩,a4,racc.mono (x3.gg.trans s4),by omega,xs,?_,exs⟩
     exact ec
    |true=>
     refine rj ⟨_,_,_,_,_,hbo,env1,G4,B,β2,I5,?_⟩
     rw[ev1]
     have ec:((fe vs1 β2).okb λx β3=>(fI t ft fe (eQ own ixs (vl env)) (ds.drop (i + 1)) β3).okb λxs β4=>R.ok (x :: xs) β4)=R.ok xs β0:=ec
     cases ee:fe vs1 β2 with
     |exc c=>rw[ee] at ec;cases ec
     |bad=>rw[ee] at ec;cases ec
     |ok dx β3=>
      rw[ee] at ec
      intro v G5 H5 I6 s5 m5 vo
      rw[qx no1] at I6
      have a5:H5 Da=some (.lst acc):=m5 _ _ a4 q3
      have ec:((fI t ft fe (eQ own ixs (vl env)) (ds.drop (i + 1)) β3).okb λxs β4=>R.ok (dx :: xs) β4)=R.ok xs β0:=ec
      cases er:fI t ft fe (eQ own ixs (vl env)) (ds.drop (i + 1)) β3 with
      |exc c=>rw[er] at ec;cases ec
      |bad=>rw[er] at ec;cases ec
      |ok ys β4=>
       rw[er] at ec
       cases ec
       refine⟨acc,a5,by rw[racc.len];omega,env1,G5,β3,acc ++ [v],accd ++ [dx],?_,.inr ⟨d,eb1⟩,ao,(racc.mono ((x3.gg.trans s4).trans s5)).snoc vo,by rw[Fs];simp;omega,ys,er,by rw[<-exs,GJ];rfl⟩
       refine I6.updD (EL ..) (Mx.lst (show upd H1 Da (.lst []) Da=some (.lst []) from ao)) (I2.sub.free hD) q3
 ·have e:i=ds.length:=by omega
  subst e
  rw[List.drop_length] at ec
  cases ec
  rw[Hh] at exs
  subst exs
  refine .inl ⟨w2 (EG _),⟨acc,hacc⟩,h _ Gc H' Io ((s1.trans s2).trans Ib.old) (m1.trans mv) ⟨Da,rfl,fK m1 I1.boxThere hD,gD,acc,hacc,racc⟩⟩
def bU (hg:∀H0 G0 par br bx C ex s3 H3 pn,SG (fm X NB scope C ex s3 H3 pn) (Γ.fm H0 G0 par br bx) tg t)(C:Addr)(ex:List Addr)(s3:Shared)(H3:Hp)(pn:List (Addr×Obj)):PG (fm X NB scope C ex s3 H3 pn) tg (gU Γ t):=by
 rintro pins s σ H v u Q I r ⟨H0,G0,par,br,bx,q⟩
 exact hg H0 G0 par br bx C ex s3 H3 pn pins s σ H v u Q I r q
def eZ (Lc:List Nat)(hc:X.calm=true)(S:bX X NB own ixs scope)(hLc:∀i,i∈Lc->Γ.br i=false)(hi:SI X Γ E tg iter fi Li .b)
  (hg:∀H0 G0 par br bx C ex s3 H3 pn,SG (fm X NB scope C ex s3 H3 pn) (Γ.fm H0 G0 par br bx) tg t)
  (ht:∀H0 G0 par br bx C ex s3 H3 pn,(∀j,Ae own ixs Lc j=true->br j=false)->wm (fm X NB scope C ex s3 H3 pn) ifs (qT (Γ.fm H0 G0 par br bx) E0 ft Lt))
  (he:∀H0 G0 par br bx C ex s3 H3 pn,(∀j,Ae own ixs Lc j=true->br j=false)->SE (fm X NB scope C ex s3 H3 pn) (Γ.fm H0 G0 par br bx) E0 elt fe Le .v)
  (hs:∀x,foldedSetIterable iter X.env x=pure x:=by intro _;rfl) :
  SE X Γ E (.ListComp elt [⟨tg,iter,ifs,0⟩] scope pos) (aY own ixs t fi ft fe) (Li ++ Lc) .w:=by
 refine PE.post' (pI (g:=gU Γ t) (tt:=tU Γ own ixs Lc ft Lt) (te:=eU Γ own ixs Lc fe Le) hc S hi (bU hg) (λC ex s3 H3 pn=>?_) (λC ex s3 H3 pn=>?_) hs) λσ H Q h=>Ag hLc h
 ·rintro pins s σ H Q I ⟨H0,G0,par,br,bx,b,q⟩
  exact ht H0 G0 par br bx C ex s3 H3 pn b pins s σ H Q I q
 ·rintro pins s σ H Q I ⟨H0,G0,par,br,bx,b,q⟩
  exact he H0 G0 par br bx C ex s3 H3 pn b pins s σ H Q I q
def zE {i:Nat}{y:Str}{py spos:Pos}(Lc:List Nat)(hc:X.calm=true)(S:bX X NB own ixs scope)(hLc:∀i,i∈Lc->Γ.br i=false)(hi:SI X Γ E tg iter fi Li .b)
  (hg:∀H0 G0 par br bx C ex s3 H3 pn,SG (fm X NB scope C ex s3 H3 pn) (Γ.fm H0 G0 par br bx) tg t)
  (ht:∀H0 G0 par br bx C ex s3 H3 pn,(∀j,Ae own ixs Lc j=true->br j=false)->wm (fm X NB scope C ex s3 H3 pn) ifs (qT (Γ.fm H0 G0 par br bx) E0 ft Lt))
  (he:∀H0 G0 par br bx C ex s3 H3 pn,(∀j,Ae own ixs Lc j=true->br j=false)->SE (fm X NB scope C ex s3 H3 pn) (Γ.fm H0 G0 par br bx) E0 elt fe Le .v)
  (hN:X.N.Nodup) (hy:X.N[i]? =some y:=by rfl) (hl:X.env.scope.names.lookup y=some .local:=by rfl)
  (hsw:swapsWith (.ListComp elt [⟨tg,iter,ifs,0⟩] scope pos) (some (.Name y py)) spos.line X.env=pure true:=by rfl)
  (hs:∀x,foldedSetIterable iter X.env x=pure x:=by intro _;rfl) :
  SS X Γ E (.Assign [.Name y py] (.ListComp elt [⟨tg,iter,ifs,0⟩] scope pos) spos) (bh i (Li ++ Lc) (aY own ixs t fi ft fe)):=by
 refine PS.post (wa (g:=gU Γ t) (tt:=tU Γ own ixs Lc ft Lt) (te:=eU Γ own ixs Lc fe Le) hc S hi (bU hg) (λC ex s3 H3 pn=>?_) (λC ex s3 H3 pn=>?_) hN hy hl hsw hs) λN σ H ⟨env,G,B,β,I,o⟩=>?_
 ·rintro pins s σ H Q I ⟨H0,G0,par,br,bx,b,q⟩
  exact ht H0 G0 par br bx C ex s3 H3 pn b pins s σ H Q I q
 ·rintro pins s σ H Q I ⟨H0,G0,par,br,bx,b,q⟩
  exact he H0 G0 par br bx C ex s3 H3 pn b pins s σ H Q I q
 refine Ag hLc ⟨env,G,B,β,I,cn o λd β' k v G' H' I' s' m' vo=>?_⟩
 obtain⟨G2,I2,s2,r⟩:=I.letW I' vo
 exact k B G2 H' _ (I2.set' i r) (s'.trans s2)
end
def fin:SO->FR
 | .nx _ _=>.ok .none false
 | .rt d fr _=>.ok d fr
 | .exc c=>.exc c
 |_=>.bad
def tW (n:Nat)(ds:List D):En:=ds.map Sl.fz ++ List.replicate (n - ds.length) .no
def bw (n p:Nat)(m:SF):List D->FR:=λds=>if ds.length=p then fin (m (tW n ds) 0) else .bad
abbrev Fx.fn (K:Frag)(H G:Hp)(ca:Str->Addr):Fx:=⟨K,H,G,[],ca,λ_=>false,none⟩
def SR.start {K:Frag}{H G:Hp}{ca:Str->Addr}{N:List Str}{vs:List V}{ds:List D}(s:ae G H)(r:bB K G vs ds)(hn:ds.length<=N.length):SR (Fx.fn K H G ca) none G H (start N vs) (tW N.length ds) 0:=by
 have hl:=r.len
 refine⟨s,ae.refl _,λb _ h=>h,λb o h _=>h,λb h=>(by cases h),λb h=>(by cases h),λb h=>(by cases h),?_,λi t e=>?_,λi j a d e h=>?_⟩
 ·unfold L2.start tW;simp;omega
 ·unfold tW at e
  by_cases hi:i < ds.length
  ·rw[Ft (by simpa using hi),ES,ED hi] at e
   cases e
   obtain⟨x,hx,rx⟩:=r.at (ED hi)
   refine⟨x,?_,rx⟩
   unfold L2.start
   rw[Ft (by simpa[hl] using hi),ES,hx];rfl
  ·rw[Fm (by simpa using hi),Gb] at e
   split at e
   ·cases e;trivial
   ·cases e
 ·unfold tW at h
  have hm:=EX h
  rcases E6.mp hm with z |z
  ·obtain⟨_,_,z⟩:=ER.mp z;cases z
  ·have:=Hn z;cases this
section
variable {P:Program}{w:World}{K:Frag}{mg:Str->Option Value}{base:Heap}{ca:Str->Addr}
def aW {x qual:Str}{st:Stmt}{f:Addr}{fd:FuncData}{N ps:List Str}{k:Nat}{m:SF}(F:yc K x qual st f fd)(S:aG N ps (ak st))
  (hbody:∀(cdv:Value) (A:Around) (outer:List Env) (s:Shared) (H G:Hp) (E:XK),cH k (A.deeper (envOfC qual (ak st) s.heap.objs.size f cdv))->ye (iC (j7 P w) P w K mg base N qual (ak st) f cdv A outer s H E) (Fx.fn K H G ca) E (bL st) m) :
  c7 P w K mg base (j7 P w) (k + 1) f fd ps (u6 K ca ps.length (bw N.length ps.length m)):=by
 have hpn:ps.length<=N.length:=by have:=congrArg List.length S.pre;rw[FG] at this;omega
 refine F.u9 S (λvs H Q E h=>?_) (λcdv A outer s H vs Q E hr h=>?_)
 ·obtain⟨G,ds,sG,hl,r,_⟩:=h
  rw[r.len];exact hl
 ·obtain⟨G,ds,sG,hl,r,h⟩:=h
  refine⟨_,hbody cdv A outer s H G E hr,?_⟩
  have I:=SR.start (ca:=ca) (N:=N) sG r (by omega)
  refine⟨_,G,none,0,I,?_⟩
  unfold bw at h
  rw[EI hl] at h
  have fin':∀{B G' H' σ env β},SR (Fx.fn K H G ca) B G' H' σ env β->ae H H':=λJ b o e=>J.keep b o e (λz=>by cases z)
  cases q:m (tW N.length ds) 0 with
  |nx env β=>rw[q] at h;exact λB G' H' σ J s'=>h .non G' H' (fin' J) s' J.sub (λb h1 h2=>J.new b h1 h2) Rp.non
  |bk env β=>rw[q] at h;exact h.elim
  |ct env β=>rw[q] at h;exact h.elim
  |rt d fr β=>
   rw[q] at h
   refine λB G' H' σ env v J s' rv=>h v G' H' (fin' J) s' J.sub (λb h1 h2=>J.new b h1 h2) ?_
   cases fr with
   |true=>exact rv
   |false=>exact rv
  |exc c=>rw[q] at h;exact λH' kp=>h H' λb o e=>kp b o e (λz=>by cases z)
  |bad=>rw[q] at h;exact h.elim
def y9 {n:Nat}{F F':List D->FR}(h:∀ds,ds.length=n->F' ds≠.bad->F ds=F' ds){vs:List V}{H:Hp}{Q:VK}{E:XK}(q:u6 K ca n F' vs H Q E):u6 K ca n F vs H Q E:=by
 obtain⟨G,ds,s,hl,r,q⟩:=q
 refine⟨G,ds,s,hl,r,?_⟩
 by_cases hb:F' ds=.bad
 ·rw[hb] at q;exact q.elim
 ·rw[h ds hl hb];exact q
def eH.imp {x:Str}{ps:List Str}{k:Nat}{F F':List D->FR}(h:eH P w K mg base ca x ps k F)(i:∀ds,F' ds≠.bad->F ds=F' ds):eH P w K mg base ca x ps k F':=by
 obtain⟨f,fd,a,b,c,d⟩:=h.ex
 exact⟨⟨f,fd,a,b,c,d.imp λvs H Q E q=>y9 (λds _=>i ds) q⟩,λds hn=>h.len ds (by rw[i ds hn];exact hn)⟩
def aM {n p:Nat}{m:SF}(ds:List D)(h:bw n p m ds≠.bad):ds.length=p:=by
 unfold bw at h
 by_cases hl:ds.length=p
 ·exact hl
 ·rw[EN hl] at h;exact absurd rfl h
def wb {N:List Str}{qual:Str}{scope:Scope}{f:Addr}{cd:Value}{A:Around}{outer:List Env}{s0:Shared}{H0:Hp}{E:XK}{Γ:Fx}{x:Str}{C:Addr}{np cpos pos:Pos}{e0:Expr}{es:List Expr}{fr:VF (List D)}{L:List Nat}(q:PySem.W.excIn K C [.type "ValueError",.type "Exception",.type "BaseException",.type "object"] "ValueError.__new__"=true)(hca:Γ.ca x=C)
  (hg:Gl (iC (j7 P w) P w K mg base N qual scope f cd A outer s0 H0 E) x) (hm:mg x=some (.ref C)) (ha:SA (iC (j7 P w) P w K mg base N qual scope f cd A outer s0 H0 E) Γ E (e0 :: es) fr L)
  (he:starEach (e0 :: es) (envOfC qual scope s0.heap.objs.size f cd)=(false,eval e0 (envOfC qual scope s0.heap.objs.size f cd)) :: starEach es (envOfC qual scope s0.heap.objs.size f cd):=by rfl)
  (hpl:(backTo cpos (starEach es (envOfC qual scope s0.heap.objs.size f cd))).any (·.1)=false:=by rfl) (hdb:(x == ("__debug__":Str))=false:=by decide) :
  SS (iC (j7 P w) P w K mg base N qual scope f cd A outer s0 H0 E) Γ E (.Raise (some (.Call (.Name x np) (e0 :: es) [] cpos)) none pos) (λenv β=>toS (fr (vl env) β) λds _=>if ds.length<=sizeLine then .exc x else .bad):=by
 refine PS.post (vL PySem.F.excBase_ValueError (by decide +kernel) q hg hm ha he hpl hdb) λD σ H ⟨env,G,B,β,I,o⟩=>?_
 refine⟨env,G,B,β,I,cn o λds β' k vs G' H' I' s' m' r=>?_⟩
 by_cases hz:ds.length<=sizeLine
 ·rw[EI hz] at k
  refine⟨by rw[r.len];exact hz,?_⟩
  have:=k H' (I'.kp (ae.refl _))
  rw[hca] at this
  exact this
 ·rw[EN hz] at k;exact k.elim
end
section
variable {X:Cx}{Γ:Fx}{E:XK}{e a b c:Expr}{f fa fb:VF D}{L La Lb:List Nat}{md ma mb:Md}{pos apos cpos np:Pos}
def rC:Option Sl->Bool
 |some (.ow (.list _))=>true
 |_=>false
theorem oA {o:Option Sl}(h:rC o=true):∃ds,o=some (.ow (.list ds)):=by
 cases o with
 |none=>cases h
 |some s=>
  cases s with
  |ow d=>cases d with
   |list ds=>exact⟨ds,rfl⟩
   |_=>cases h
  |_=>cases h
def BQ (i:Nat)(env:En)(β:Int)(g:List D->Option (List D)):SO:=match env[i]? with
 |some (.ow (.list ds))=>(match g ds with
  |some es=>.nx (env.set i (.ow (.list es))) β
  |none=>.bad)
 |_=>.bad
def jv (i:Nat)(L:List Nat)(f:VF D):SF:=λenv β=>if rC env[i]? =true then toS (f (vl env) β) λd β'=>BQ i (aL L env) β' λds=>if ds.length < sizeLine then some (ds ++ [d]) else none else .bad
def tP {Γ:Fx}{E:XK}{G:Hp}{N:Ends}{i:Nat}{env:En}{β:Int}{g:List D->Option (List D)}(h:l6 Γ E G N (BQ i env β g)):∃ds es,env[i]? =some (.ow (.list ds))/\g ds=some es/\l6 Γ E G N (.nx (env.set i (.ow (.list es))) β):=by
 unfold BQ at h
 split at h
 ·rename_i ds q
  cases e:g ds with
  |none=>rw[e] at h;exact h.elim
  |some es=>rw[e] at h;exact⟨ds,es,q,e,h⟩
 ·exact h.elim
def iy (i:Nat){x:Str}(hb:∀j,Γ.br j=false)(he:SE X Γ E e f L .v)(hN:X.N[i]? =some x:=by rfl)(hv:xi X.env.scope x:=by first |exact Or.inl rfl |exact Or.inr (Or.inl rfl) |exact Or.inr (Or.inr rfl))(hd:(x == ("__debug__":Str))=false:=by decide)
  (hcd:(x == ("__classdict__":Str))=false:=by decide)
  (hbase:attributeBase (.Name x np) "append" X.env (eval (.Name x np) X.env)=eval (.Name x np) X.env:=by rfl)
  (hfew:((backTo cpos (starEach [e] X.env)).all (λx=> !x.1) && (backToKw cpos (keywordEach [] X.env)).all (λx=>x.1.isSome)
   && decide ([e].length + ([]:List Keyword).length + (if ([]:List Keyword).isEmpty then 0 else 1) < 30))=true:=by rfl)
  (hline:(apos.endLine == cpos.line)=true:=by rfl) (hs:starEach [e] X.env=(false,eval e X.env) :: starEach [] X.env:=by rfl)
  (hsw:swapsWith (.Call (.Attribute (.Name x np) "append" apos) [e] [] cpos) none pos.line X.env=pure false:=by rfl) :
  SS X Γ E (.Expr (.Call (.Attribute (.Name x np) "append" apos) [e] [] cpos) pos) (jv i L f):=by
 refine PS.post (ou (xU PySem.F.plainAttrs_list PySem.F.slot_list_append PySem.F.type_list_append jC (hE hN hv hd hcd) (aB he aR hs) hbase hfew hline hs rfl) hsw) λN σ H ⟨env,G,B,β,I,o⟩=>?_
 unfold jv at o
 by_cases hO:rC env[i]? =true
 case neg=>rw[EN hO] at o;exact o.elim
 rw[EI hO] at o
 obtain⟨ds0,q0⟩:=oA hO
 obtain⟨p,h1,_,_,_,xs,h5,_⟩:=I.slot i _ q0
 refine⟨_,h1,.inl ⟨rfl,xs,.inl (.inl h5)⟩,?_⟩
 refine⟨env,G,B,β,I,cn o λd β' k v G' H' I' s' m' vo=>?_⟩
 obtain⟨ds,es,q,eg,k⟩:=tP k
 by_cases hz:ds.length < sizeLine
 case neg=>rw[EN hz] at eg;cases eg
 rw[EI hz] at eg
 cases eg
 obtain⟨p',g1,_,_,_,ys,g5,g6⟩:=I'.slot i _ q
 rw[h1] at g1;cases g1
 refine⟨p,ys,v,rfl,rfl,g5,by rw[g6.len];exact hz,?_⟩
 exact k B G' _ σ (I'.write hb q h1 λH2 e2 s2=>⟨_,e2,g6.snoc vo⟩) s'
def Inv.lstR {pins:List (Addr×Obj)}{σ:St}{H:Hp}{s:Shared}{l:Addr}{xs:List V}(I:Inv X pins σ H s)(hH:Rd H l (.lst xs)):xs.length<=sizeLine/\∃(its:List Value) (n:Nat),Vals xs its/\xs.length=its.length/\s.heap.get? l=some {cls:=.type "list",data:=.seq its.toArray n}:=by
 obtain⟨z,its,n,r,e⟩:=hH.ok I.hok
 exact⟨z,its,n,r,r.length,e⟩
end
section
variable {K:Frag}{X:Cx}
def wK {g:Int->Int->V}{gd:D->D->Option D}(h:∀dx dy d,gd dx dy=some d->∃i j,dx=.int i/\dy=.int j/\∀G,Rp K G (g i j) d):lH K (yv g) gd .v:=by
 intro B G H x y dx dy d Q s hB bx by' e k
 obtain⟨i,j,rfl,rfl,r⟩:=h _ _ _ e
 obtain rfl:=bx.int
 obtain rfl:=by'.int
 exact⟨i,j,rfl,rfl,k _ G H (Ext.refl s) (r G)⟩
def xR {C:Int->Int->Prop}{g:Int->Int->V}{gd:D->D->Option D}(h:∀dx dy d,gd dx dy=some d->∃i j,dx=.int i/\dy=.int j/\C i j/\∀G,Rp K G (g i j) d):lH K (rI C g) gd .v:=by
 intro B G H x y dx dy d Q s hB bx by' e k
 obtain⟨i,j,rfl,rfl,c,r⟩:=h _ _ _ e
 obtain rfl:=bx.int
 obtain rfl:=by'.int
 exact⟨i,j,rfl,rfl,c,k _ G H (Ext.refl s) (r G)⟩
def gI (c:Int->Int->Bool)(g:Int->Int->D):D->D->Option D
 | .int i,.int j=>if c i j=true then some (g i j) else none
 |_,_=>none
def uC (g:Int->Int->D):D->D->Option D
 | .int i,.int j=>some (g i j)
 |_,_=>none
def xk {c:Int->Int->Bool}{g:Int->Int->D}{dx dy d:D}(h:gI c g dx dy=some d):∃i j,dx=.int i/\dy=.int j/\c i j=true/\d=g i j:=by
 unfold gI at h
 split at h
 ·split at h
  ·cases h;exact⟨_,_,rfl,rfl,by assumption,rfl⟩
  ·cases h
 ·cases h
def lL {g:Int->Int->D}{dx dy d:D}(h:uC g dx dy=some d):∃i j,dx=.int i/\dy=.int j/\d=g i j:=by
 unfold uC at h
 split at h
 ·cases h;exact⟨_,_,rfl,rfl,rfl⟩
 ·cases h
def wz:D->D->Option D:=gI (λ_ j=>decide (0 < j) && decide (j < 1073741824)) λi j=>.int (i / j)
def yW:lH K (rI za λi j=>.int (i / j)) wz .v:=xR λdx dy d h=>by obtain⟨i,j,rfl,rfl,c,rfl⟩:=xk h;exact⟨i,j,rfl,rfl,by simpa[za] using c,λ_=>.int _⟩
def i4:D->D->Option D:=gI (λ_ j=>decide (0 < j)) λi j=>.int (i % j)
def mQ:lH K (rI (λ_ j=>0 < j) λi j=>.int (i % j)) i4 .v:=xR λdx dy d h=>by obtain⟨i,j,rfl,rfl,c,rfl⟩:=xk h;exact⟨i,j,rfl,rfl,by simpa using c,λ_=>.int _⟩
def AR:D->D->Option D:=uC λi j=>.bool (decide (i < j))
def wJ:D->D->Option D:=uC λi j=>.bool (decide (i<=j))
def CI:lH K (yv λi j=>.bl (decide (i < j))) AR .v:=wK λdx dy d h=>by obtain⟨i,j,rfl,rfl,rfl⟩:=lL h;exact⟨i,j,rfl,rfl,λ_=>.bl _⟩
def Bk:lH K (yv λi j=>.bl (decide (i<=j))) wJ .v:=wK λdx dy d h=>by obtain⟨i,j,rfl,rfl,rfl⟩:=lL h;exact⟨i,j,rfl,rfl,λ_=>.bl _⟩
mutual
theorem nC:∀d:D,d.canLay0=true->vd d=true
 | .none,_=>rfl
 | .bool _,_=>rfl
 | .int _,_=>rfl
 | .str _,_=>rfl
 | .list ds,h=>by simp only[PyData.canLay0] at h;simp only[vd];exact la ds h
 | .tuple ds,h=>by simp only[PyData.canLay0] at h;simp only[vd];exact la ds h
 | .dict _,h=>by simp[PyData.canLay0] at h
theorem la:∀ds:List D,PyData.canLayAll0 ds=true->lV ds=true
 | [],_=>rfl
 |d :: ds,h=>by
  simp only[PyData.canLayAll0,Fp] at h
  simp only[lV,Fp]
  exact⟨nC d h.1,la ds h.2⟩
end
def oi {d:D}(h:SeqAt.shaped d=true):vd d=true:=nC d (GZ h)
theorem tq:∀{ds:List D},(ds.all SeqAt.shaped)=true->lV ds=true
 | [],_=>rfl
 |d :: ds,h=>by
  rw[List.all_cons,Fp] at h
  simp only[lV,Fp]
  exact⟨oi h.1,tq h.2⟩
def fF (neg:Bool)(x y:D):Option D:=if (SeqAt.shaped x && SeqAt.shaped y)=true then some (.bool (if neg then !PyData.eqv x y else PyData.eqv x y)) else none
def jP {neg:Bool}:lH K (AD K neg) (fF neg) .v:=by
 intro B G H x y dx dy d Q s hB bx by' e k
 unfold fF at e
 split at e
 ·rename_i h
  rw[Fp] at h
  cases e
  exact⟨dx,dy,(bx.rpH s).rep (oi h.1),(by'.rpH s).rep (oi h.2),h.1,h.2,k _ G H (Ext.refl s) (.bl _)⟩
 ·cases e
def yd (neg:Bool)(x y:D):Option D:=match gK y with
 |some ds=>if (SeqAt.shaped x && ds.all SeqAt.shaped)=true then some (.bool (if neg then !(ds.any λe=>PyData.eqv e x) else ds.any λe=>PyData.eqv e x)) else none
 |none=>none
theorem iY.seq {B:Option Addr}{G H:Hp}{v:V}{d:D}{ds:List D}(h:iY K B G H v d)(e:gK d=some ds)(s:ae G H):∃a xs,v=.ref a/\(dS K H a xs\/eB K H a xs)/\bB K G xs ds:=by
 cases d with
 |list l=>cases e;obtain⟨a,xs,e,q,r⟩:=h.list s;exact⟨a,xs,e,.inl (.inl q),r⟩
 |tuple l=>cases e;obtain⟨a,xs,e,q,r⟩:=h.tuple s;exact⟨a,xs,e,.inr q,r⟩
 |_=>cases e
theorem yx {neg:Bool}:lH K (CG K neg) (yd neg) .v:=by
 intro B G H x y dx dy d Q s hB bx by' e k
 unfold yd at e
 cases q:gK dy with
 |none=>rw[q] at e;cases e
 |some ds=>
  rw[q] at e
  dsimp only at e
  split at e
  ·rename_i h
   rw[Fp] at h
   cases e
   obtain⟨a,xs,rfl,hq,r⟩:=by'.seq q s
   refine⟨a,xs,dx,ds,rfl,hq,(r.mono s).reps (tq h.2),(bx.rpH s).rep (oi h.1),h.1,λe he=>Ga.mp h.2 e he,k _ G H (Ext.refl s) (.bl _)⟩
  ·cases e
def yu:D->Bool
 | .none=>true
 |_=>false
theorem bB.ints {G:Hp}:∀ns:List Int,bB K G (ns.map V.int) (ns.map int)
 | []=>.nil
 |n :: ns=>.cons (.int n) (bB.ints ns)
theorem u7.noNone {G:Hp}{kvs:List (Key×V)}{d:D}{r:List (D×D)}(h:u7 K G kvs ((.none,d) :: r)):False:=by
 generalize e:(PyData.none,d) :: r=l at h
 cases h with
 |nil=>cases e
 | @cons k x xs d' ds _ _=>
  injection e with e1 _
  injection e1 with e2 _
  cases k <;> cases e2
theorem u4.noNone {G:Hp}{kvs:List (List Key×V)}{d:D}{r:List (D×D)}(h:u4 K G kvs ((.none,d) :: r)):False:=by
 generalize e:(PyData.none,d) :: r=l at h
 cases h with
 |nil=>cases e
 | @cons k x xs d' ds _ _=>
  injection e with e1 _
  injection e1 with e2 _
  cases e2
def iY.scr {B:Option Addr}{G H:Hp}{v:V}{ds:List D}(h:iY K B G H v (.dict [(.none,.list ds)]))(s:ae G H):∃a xs,v=.ref a/\dS K H a xs/\bB K G xs ds:=by
 rcases h with h | ⟨a,rfl,n,h⟩
 ·cases h with
  | @scr a ns q=>exact⟨a,_,rfl,s.seq q,bB.ints ns⟩
  |dK _ r=>exact r.noNone.elim
  |dT _ r=>exact r.noNone.elim
 ·rcases h with⟨_,_,r⟩ | ⟨_,_,r⟩
  ·exact r.noNone.elim
  ·exact r.noNone.elim
def dB:D->D->Option D
 | .list ds,.int i=>iB ds i
 | .tuple ds,.int i=>iB ds i
 | .str z,.int i=>if z.length<=sizeLine then (iB z.cps.toList i).map λc=>.str ⟨#[c]⟩ else none
 | .dict [(.none,.list ds)],.int i=>iB ds i
 |_,_=>none
theorem oE {G:Hp}{xs:List V}{ds:List D}{i:Int}{d:D}(r:bB K G xs ds)(h:iB ds i=some d):∃x,iB xs i=some x/\Rp K G x d:=by
 unfold iB at h ⊢
 rw[r.len]
 cases e:uW ds.length i with
 |none=>rw[e] at h;cases h
 |some j=>rw[e] at h;exact r.at h
theorem gJ:lH K (Eo K) dB .v:=by
 intro B G H x y dx dy d Q s hB bx by' e k
 cases dx with
 |list ds=>
  cases dy with
  |int i=>
   obtain rfl:=by'.int
   obtain⟨a,xs,rfl,q,r⟩:=bx.list s
   obtain⟨v,ev,rv⟩:=oE r e
   exact .inl ⟨a,xs,i,v,rfl,rfl,.inl q,ev,k _ G H (Ext.refl s) rv⟩
  |_=>cases e
 |tuple ds=>
  cases dy with
  |int i=>
   obtain rfl:=by'.int
   obtain⟨a,xs,rfl,q,r⟩:=bx.tuple s
   obtain⟨v,ev,rv⟩:=oE r e
   exact .inr (.inl ⟨a,xs,i,v,rfl,rfl,q,ev,k _ G H (Ext.refl s) rv⟩)
  |_=>cases e
 |str z=>
  cases dy with
  |int i=>
   obtain rfl:=by'.int
   obtain rfl:=bx.str
   simp only[dB] at e
   split at e
   ·rename_i hz
    cases q:iB z.cps.toList i with
    |none=>rw[q] at e;cases e
    |some c=>rw[q] at e;cases e;exact .inr (.inr ⟨z,i,c,rfl,rfl,hz,q,k _ G H (Ext.refl s) (.str _)⟩)
   ·cases e
  |_=>cases e
 |none=>cases dy <;> cases e
 |bool b=>cases dy <;> cases e
 |int b=>cases dy <;> cases e
 |dict b=>
  obtain⟨ds,i,rfl,rfl,e⟩:∃ds i,b= [(.none,.list ds)]/\dy=.int i/\iB ds i=some d:=by
   unfold dB at e
   split at e
   ·contradiction
   ·contradiction
   ·contradiction
   ·rename_i h;cases h;exact⟨_,_,rfl,rfl,e⟩
   ·cases e
  obtain rfl:=by'.int
  obtain⟨a,xs,rfl,q,r⟩:=bx.scr s
  obtain⟨v,ev,rv⟩:=oE r e
  exact .inl ⟨a,xs,i,v,rfl,rfl,q,ev,k _ G H (Ext.refl s) rv⟩
def fh:D->Option D
 | .list ds=>some (.int ds.length)
 | .tuple ds=>some (.int ds.length)
 | .str z=>if z.length<=sizeLine then some (.int z.length) else none
 | .dict [(.none,.list ds)]=>some (.int ds.length)
 |_=>none
def DD (K:Frag):List V->Hp->VK->Prop:=λxs H Q=>∃x n,xs= [x]/\BR K x H n/\Q (.int n) H
def i3:uh K (λx=>DD K [x]) fh .v:=by
 intro B G H x dx d Q s hB bx e k
 unfold fh at e
 split at e
 ·cases e;obtain⟨a,xs,rfl,q,r⟩:=bx.list s;exact⟨_,_,rfl,.inl ⟨xs,.inl q,r.len.symm⟩,k _ G H (Ext.refl s) (.int _)⟩
 ·cases e;obtain⟨a,xs,rfl,q,r⟩:=bx.tuple s;exact⟨_,_,rfl,.inr ⟨xs,q,r.len.symm⟩,k _ G H (Ext.refl s) (.int _)⟩
 ·obtain rfl:=bx.str
  split at e
  ·rename_i hz;cases e;exact⟨_,_,rfl,⟨hz,rfl⟩,k _ G H (Ext.refl s) (.int _)⟩
  ·cases e
 ·cases e;obtain⟨a,xs,rfl,q,r⟩:=bx.scr s;exact⟨_,_,rfl,.inl ⟨xs,q,r.len.symm⟩,k _ G H (Ext.refl s) (.int _)⟩
 ·cases e
def w8:D->Option D
 | .list ds=>some (.tuple ds)
 | .tuple ds=>some (.tuple ds)
 |_=>none
theorem yY:uh K (λx H Q=>∃p ys,[x]= [.ref p]/\((dS K H p ys/\∀l,H l=none->Q (.ref l) (upd H l (.tup ys)))\/(eB K H p ys/\Q (.ref p) H))) w8 .v:=by
 intro B G H x dx d Q s hB bx e k
 cases dx with
 |list ds=>
  cases e
  obtain⟨a,xs,rfl,q,r⟩:=bx.list s
  refine⟨a,xs,rfl,.inl ⟨.inl q,λl hl=>?_⟩⟩
  have x:=Ext.new s (o:=.tup xs) hl
  exact k _ _ _ x (.tup (.inl (.inl ao)) (r.mono x.gg))
 |tuple ds=>
  cases e
  rcases bx with bx | ⟨_,_,_,z⟩
  ·cases bx with
   | @tup a xs _ hq r=>exact⟨a,xs,rfl,.inr ⟨hq.grow s.grow,k _ G H (Ext.refl s) (.tup hq r)⟩⟩
  ·exact z.elim
 |_=>cases e
def Ah:D->Option D
 | .list ds=>some (.list ds)
 | .tuple ds=>some (.list ds)
 |_=>none
def AJ:uh K (λx H Q=>∃p ys,[x]= [.ref p]/\(dS K H p ys\/eB K H p ys)/\∀l,H l=none->Q (.ref l) (upd H l (.lst ys))) Ah .w:=by
 intro B G H x dx d Q s hB bx e k
 obtain⟨ds,e1,rfl⟩:∃ds,gK dx=some ds/\d=.list ds:=by
  cases dx <;> cases e <;> exact⟨_,rfl,rfl⟩
 obtain⟨a,xs,rfl,hq,r⟩:=bx.seq e1 s
 refine⟨a,xs,rfl,hq,λl hl=>?_⟩
 exact k _ _ _ (Ext.own s (o:=.lst xs) hl) ⟨l,rfl,hl,s.free hl,xs,ao,r⟩
def g8:List D->Option (List Bool)
 | []=>some []
 | .bool b :: ds=>(g8 ds).map (b :: ·)
 |_=>none
theorem mJ {G:Hp}:∀{ds:List D} {bs:List Bool} {xs:List V},g8 ds=some bs->bB K G xs ds->xs=bs.map V.bl
 | [],bs,xs,e,r=>by cases e;cases r;rfl
 | .bool b :: ds,bs,xs,e,r=>by
  cases r with
  |cons r1 r2=>
   cases r1
   simp only[g8] at e
   cases q:g8 ds with
   |none=>rw[q] at e;cases e
   |some cs=>rw[q] at e;cases e;rw[mJ q r2];rfl
 | .none :: _,_,_,e,_=>by cases e
 | .int _ :: _,_,_,e,_=>by cases e
 | .str _ :: _,_,_,e,_=>by cases e
 | .list _ :: _,_,_,e,_=>by cases e
 | .tuple _ :: _,_,_,e,_=>by cases e
 | .dict _ :: _,_,_,e,_=>by cases e
def c9 (f:List Bool->Bool):D->Option D
 | .list ds=>(g8 ds).map λbs=>.bool (f bs)
 |_=>none
theorem nG {f:List Bool->Bool}:uh K (λx=>r9 K f [x]) (c9 f) .v:=by
 intro B G H x dx d Q s hB bx e k
 cases dx with
 |list ds=>
  simp only[c9] at e
  cases q:g8 ds with
  |none=>rw[q] at e;cases e
  |some bs=>
   rw[q] at e
   cases e
   obtain⟨a,xs,rfl,hq,r⟩:=bx.list s
   obtain rfl:=mJ q r
   exact⟨a,bs,rfl,.inl hq,k _ G H (Ext.refl s) (.bl _)⟩
 |_=>cases e
def Aj:R2:=λx y H Q=>∃l b xs zs,x=.ref l/\y=.ref b/\Rd H l (.lst xs)/\Rd H b (.lst zs)/\xs.length + zs.length<=sizeLine/\∀p,H p=none->Q (.ref p) (upd H p (.lst (xs ++ zs)))
def iZ:kc X (binaryOp .Add) Aj:=by
 intro pins s σ H x y v u Q I rx ry h
 obtain⟨l,b,xs,zs,rfl,rfl,hH,hB,hz,q⟩:=h
 cases rx
 cases ry
 obtain⟨z,its,n,r,hl,e⟩:=I.lstR hH
 obtain⟨z2,its2,n2,r2,hl2,e2⟩:=I.lstR hB
 refine PySem.P.add_list e e2 ?_ (by rw[EY,EY];omega)
 have ea:its.toArray ++ its2.toArray=(its ++ its2).toArray:=by simp
 rw[ea]
 exact⟨.ref _,_,I.lnew (t':=s.toks) (r.append r2) (by rw[Fs];omega),rfl,q _ I.fresh⟩
def gk:D->D->Option D
 | .list a,.list b=>if a.length + b.length<=sizeLine then some (.list (a ++ b)) else none
 |_,_=>none
def pJ:lH K Aj gk .w:=by
 intro B G H x y dx dy d Q s hB bx by' e k
 cases dx <;> cases dy <;> first | (cases e;done) |skip
 rename_i a b
 simp only[gk] at e
 split at e
 ·rename_i hz
  cases e
  obtain⟨p,xs,rfl,q1,r1⟩:=bx.list s
  obtain⟨p2,ys,rfl,q2,r2⟩:=by'.list s
  refine⟨p,p2,xs,ys,rfl,rfl,q1,q2,by rw[r1.len,r2.len];exact hz,λl hl=>?_⟩
  exact k _ _ _ (Ext.own s (o:=.lst (xs ++ ys)) hl) ⟨l,rfl,hl,s.free hl,_,ao,r1.append r2⟩
 ·cases e
def b5:D->D->Option D:=uC λi j=>.int (i + j)
def hW:lH K (yv λi j=>.int (i + j)) b5 .v:=wK λdx dy d h=>by obtain⟨i,j,rfl,rfl,rfl⟩:=lL h;exact⟨i,j,rfl,rfl,λ_=>.int _⟩
def cY:D->D->Option D:=gI (λi j=>(decide (-(2 ^ 64) < i) && decide (i < 2 ^ 64)) || (decide (-(2 ^ 64) < j) && decide (j < 2 ^ 64))) λi j=>.int (i * j)
def iR:lH K (rI xt λi j=>.int (i * j)) cY .v:=xR λdx dy d h=>by obtain⟨i,j,rfl,rfl,c,rfl⟩:=xk h;exact⟨i,j,rfl,rfl,by simpa[xt] using c,λ_=>.int _⟩
def wV:D->Option D
 | .int i=>some (.int (-i))
 |_=>none
theorem zY:uh K (rU λi=>.int (-i)) wV .v:=by
 intro B G H x dx d Q s hB bx e k
 cases dx with
 |int i=>cases e;obtain rfl:=bx.int;exact⟨i,rfl,k _ G H (Ext.refl s) (.int _)⟩
 |_=>cases e
def CJ:D->String
 | .none=>"NoneType"
 | .bool _=>"bool"
 | .int _=>"int"
 | .str _=>"str"
 | .list _=>"list"
 | .tuple _=>"tuple"
 | .dict _=>"dict"
def xT (d:D)(T:String):Bool:=CJ d == T || (T == "int" && CJ d == "bool")
def dJ:D->Bool
 | .dict ((.none,_) :: _)=>true
 |_=>false
def jc (T:String)(d:D):Option D:=if dJ d=true then none else some (.bool (xT d T))
def D9 (K:Frag)(H:Hp)(x:V)(t:String):Prop:=yQ K H x t\/(t="dict"/\∃a kvs,x=.ref a/\H a=some (.dT kvs))
def CU (K:Frag):List V->Hp->VK->Prop:=λxs H Q=>∃x T t b,xs= [x,.ty T]/\D9 K H x t/\PySem.W.kitOne K (.type t) (.type T)=some b/\Q (.bl b) H
def xB:bN X (.builtin "isinstance") (CU X.K):=by
 intro pins s σ H xs us Q I r h
 obtain⟨x,T,t,b,rfl,ty,e,q⟩:=h
 rcases ty with ty | ⟨rfl,a,kvs,rfl,hk⟩
 ·exact xb pins s σ H _ us Q I r ⟨x,T,t,b,rfl,ty,e,q⟩
 ·obtain⟨u,c,rfl,rx,rc⟩:=vals2 r
  cases rc
  cases rx
  obtain⟨_,_,_,_,o,_,_,e2,ex,_⟩:=I.hok a _ hk
  exact Fy PySem.W.kitx_dict I.kIn ⟨o,e2,ex.1⟩ e (λz=>nomatch z) λtk=>⟨.bl b,H,I.tok tk,rfl,q⟩
theorem iY.ty {B:Option Addr}{G H:Hp}{v:V}{d:D}(h:iY K B G H v d)(s:ae G H)(n:dJ d=false):D9 K H v (CJ d):=by
 cases d with
 |none=>obtain rfl:=h.none;exact .inl .non
 |bool b=>obtain rfl:=h.bool;exact .inl (.bl b)
 |int b=>obtain rfl:=h.int;exact .inl (.int b)
 |str b=>obtain rfl:=h.str;exact .inl (.str b)
 |list b=>obtain⟨a,xs,rfl,q,_⟩:=h.list s;exact .inl (.lst (.inl q))
 |tuple b=>obtain⟨a,xs,rfl,q,_⟩:=h.tuple s;exact .inl (.tup q)
 |dict b=>
  rcases h with h | ⟨a,rfl,_,h⟩
  ·cases h with
   |scr _=>cases n
   |dK q _=>exact .inl (.dic (s _ _ q))
   |dT q _=>exact .inr ⟨rfl,_,_,rfl,s _ _ q⟩
  ·rcases h with⟨_,q,_⟩ | ⟨_,q,_⟩
   ·exact .inl (.dic q)
   ·exact .inr ⟨rfl,_,_,rfl,q⟩
theorem Cd {d:D}{T:String}(hT:T∈ ["int","bool","str","list","tuple","dict"]):PySem.W.kitOne K (.type (CJ d)) (.type T)=some (xT d T):=by
 simp only[EH,List.not_mem_nil,or_false] at hT
 cases d with
 |dict l=>rcases hT with rfl |rfl |rfl |rfl |rfl |rfl <;> rfl
 |none=>rcases hT with rfl |rfl |rfl |rfl |rfl |rfl <;> rfl
 |bool _=>rcases hT with rfl |rfl |rfl |rfl |rfl |rfl <;> rfl
 |int _=>rcases hT with rfl |rfl |rfl |rfl |rfl |rfl <;> rfl
 |str _=>rcases hT with rfl |rfl |rfl |rfl |rfl |rfl <;> rfl
 |list _=>rcases hT with rfl |rfl |rfl |rfl |rfl |rfl <;> rfl
 |tuple _=>rcases hT with rfl |rfl |rfl |rfl |rfl |rfl <;> rfl
def jK {a:Expr}{fa:VF D}{La:List Nat}{ma:Md}{Γ:Fx}{E:XK}{pos p p2:Pos}(T:String){y:Str}(hT:T∈ ["int","bool","str","list","tuple","dict"])(hK:X.K=Γ.K)(hg:Gl X "isinstance")(hm:X.mg "isinstance"=none)(hgT:Gl X y)(hmT:X.mg y=none)(hvT:bootBuiltins y=some (.type T))(ha:SE X Γ E a fa La ma)
  (hnT:y≠"__name__":=by decide) (hdT:(y == ("__debug__":Str))=false:=by decide)
  (he:starEach [a,.Name y p2] X.env=(false,eval a X.env) :: starEach [.Name y p2] X.env:=by rfl) (he2:starEach [.Name y p2] X.env=(false,eval (.Name y p2) X.env) :: starEach [] X.env:=by rfl) (hpl:(backTo pos (starEach [.Name y p2] X.env)).any (·.1)=false:=by rfl) :
  SE X Γ E (.Call (.Name "isinstance" p) [a,.Name y p2] [] pos) (f1 fa (jc T)) La .v:=by
 refine PE.post' (hV xB hg hm (by decide +kernel) (aB ha (aB (yj hgT hmT hvT (show RelV (.ty T) _ from rfl) hnT hdT) aR he2) he) (by decide) (by decide) he hpl) λσ H Q ⟨env,G,B,β,I,o⟩=>?_
 refine fW (r:=λx H1 Q=>CU X.K [x,.ty T] H1 Q) ?_ I o
 intro B G H x dx d Q s hB bx e k
 unfold jc at e
 split at e
 ·cases e
 ·rename_i hn
  cases e
  rw[hK]
  exact⟨x,T,CJ dx,xT dx T,rfl,bx.ty s (by simpa using hn),Cd hT,k _ G H (Ext.refl s) (.bl _)⟩
def gm (fa fb fc:VF D)(g g':D->D->Option D):VF D:=λvs β=>(fa vs β).bnd λx β1=>(fb vs β1).bnd λy β2=>match g x y with
 |some (.bool true)=>(fc vs β2).bnd λz β3=>R.of (g' y z) β3
 |some (.bool false)=>.ok (.bool false) β2
 |_=>.bad
theorem pA {a b c:Expr}{fa fb fc:VF D}{ma mb mc:Md}{Γ:Fx}{E:XK}{pos:Pos}{op op':CmpOp}{r r':R2}{g g':D->D->Option D}(ho:kc X (compareOp op) r)(ho':kc X (compareOp op') r')(pr:lH Γ.K r g .v)(pr':lH Γ.K r' g' .v)(ha:SE X Γ E a fa [] ma)(hb:SE X Γ E b fb [] mb)(hc:SE X Γ E c fc [] mc)
  (hm:lastMarks [op,op'] [b,c]=false:=by with_unfolding_all rfl):SE X Γ E (.Compare a [op,op'] [b,c] pos) (gm fa fb fc g g') [] .v:=by
 refine PE.post' (vf ho ho' ha hb hc hm) λσ H Q ⟨env,G,B,β,I,o⟩=>?_
 refine two (W:=λx y H2=>r x y H2 λz H3=>∃k,z=.bl k/\(if k=true then pT Γ E fc [] mc σ H3 λw' H4=>r' y w' H4 Q else Q (.bl false) H3)) I (o.bnd.imp λd1 β1 h=>h.bnd.imp λd2 β2 h x y G2 H2 I2 s2 m2 bx by'=>?_)
 obtain⟨cb,ec,h⟩:∃cb,g d1 d2=some (.bool cb)/\Out Γ E (if cb=true then (fc (vl env) β2).bnd λz β3=>R.of (g' d2 z) β3 else .ok (.bool false) β2) λd β'=>∀v G' H',SR Γ B G' H' σ (aL [] env) β'->ae G G'->fk B H H'->VO Γ.K B H G' H' .v d v->Q v H':=by
  split at h
  ·rename_i q;exact⟨true,q,by rw[EI rfl];exact h⟩
  ·rename_i q;exact⟨false,q,by rw[EN E8];exact h⟩
  ·exact h.elim
 refine pr B G2 H2 x y d1 d2 _ _ I2.sub I2.boxThere bx by' ec λv G' H' x' vo=>?_
 cases vo
 refine⟨cb,rfl,?_⟩
 have I3:=I2.ext x'
 cases cb with
 |false=>rw[EN E8] at h;exact r0 (h _ G' H' I3 (s2.trans x'.gg) (m2.trans (x'.mov B)) (.bl false))
 |true=>
  rw[EI rfl] at h
  refine rj ⟨env,G',B,β2,I3,h.bnd.imp λd3 β3 h z G4 H4 I4 s4 m4 vz=>?_⟩
  obtain⟨d,e,k⟩:=h.of
  refine pr' B G4 H4 y z d2 d3 d Q I4.sub I4.boxThere (by'.mono (x'.gg.trans s4) ((x'.mov B).trans m4)) (vz.brw I3.boxThere) e λv G5 H5 x5 vo=>?_
  exact k v G5 H5 (I4.ext x5) (((s2.trans x'.gg).trans s4).trans x5.gg) (((m2.trans (x'.mov B)).trans m4).trans (x5.mov B)) vo
end
def cH.u1 {k:Nat}{A:Around}(r:cH k A):A.units + 100 < cLine:=by have:=r.un;omega
def Eh (N:List Str)(sc:Scope)(NB:List Str)(own:Nat)(ixs:List Nat)(scope:Scope):Bool:=
 decide (scope.kind=.function) && (scope.names.all λy=>decide (y.2≠.cell)) && (scope.names.all λy=>decide (scope.names.lookup y.1=some y.2)) &&
 (scope.names.all λy=>decide (y.2=.free->(sc.names.lookup y.1=some .cell\/sc.names.lookup y.1=some .free))) && decide NB.Nodup && decide (NB.length=own + ixs.length) &&
 ((List.range ixs.length).all λk=>decide (NB[own + k]? =N[ixs.getD k 0]?) && (match NB[own + k]? with |some x=>decide ((x,NameKind.free)∈scope.names) |none=>true))
def fR {X:Cx}{NB:List Str}{own:Nat}{ixs:List Nat}{scope:Scope}(h:Eh X.N X.env.scope NB own ixs scope=true):bX X NB own ixs scope:=by
 unfold Eh at h
 simp only[Fp,Ga,Gf,E2] at h
 obtain⟨⟨⟨⟨⟨⟨h1,h2⟩,h3⟩,h4⟩,h5⟩,h6⟩,h7⟩:=h
 refine⟨h1,h2,h3,h4,h5,h6,λk hk=>⟨(h7 k hk).1,λx hx=>?_⟩⟩
 have:=(h7 k hk).2
 rw[hx] at this
 simpa using this
section
variable {X:Cx}{Γ:Fx}{E:XK}{e a b c:Expr}{f fa fb fc:VF D}{L La Lb:List Nat}{md ma mb mc:Md}{pos:Pos}{K:Frag}
def tN (fa:VF D)(neg:Bool):VF Bool:=λvs β=>(fa vs β).bnd λx β1=>.ok (if neg then !yu x else yu x) β1
def oT (Γ:Fx)(E:XK)(f:VF (Option Int))(L:List Nat):TO:=λσ H Q=>∃env G B β,SR Γ B G H σ env β/\
 Out Γ E (f (vl env) β) λd β'=>∀G' H',SR Γ B G' H' σ (aL L env) β'->ae G G'->fk B H H'->Q d H'
def Bj:lH K (λx y H Q=>∃i j,[x,y]= [.int i,.int j]/\Q (.int (if j > i then j else i)) H) (uC λi j=>.int (if j > i then j else i)) .v:=by
 intro B G H x y dx dy d Q s hB bx by' e k
 obtain⟨i,j,rfl,rfl,rfl⟩:=lL e
 obtain rfl:=bx.int
 obtain rfl:=by'.int
 exact⟨i,j,rfl,k _ G H (Ext.refl s) (.int _)⟩
def Ax:lH K (λx y H Q=>∃i j,[x,y]= [.int i,.int j]/\Q (.int (if j < i then j else i)) H) (uC λi j=>.int (if j < i then j else i)) .v:=by
 intro B G H x y dx dy d Q s hB bx by' e k
 obtain⟨i,j,rfl,rfl,rfl⟩:=lL e
 obtain rfl:=bx.int
 obtain rfl:=by'.int
 exact⟨i,j,rfl,k _ G H (Ext.refl s) (.int _)⟩
end
structure jZ (K:Frag)(mg:Str->Option Value)(x:Str)(st:Stmt)(ps:List Str)(f:Addr)(fd:FuncData):Prop where
 mg:mg x=some (.ref f)
 F:yc K x x st f fd
 b:Binds K fd ps []
structure Exc (K:Frag)(mg:Str->Option Value)(ca:Str->Addr)(x:Str):Prop where
 mg:mg x=some (.ref (ca x))
 ex:PySem.W.excIn K (ca x) [.type "ValueError",.type "Exception",.type "BaseException",.type "object"] "ValueError.__new__"=true
def Exc.ca {K:Frag}{mg:Str->Option Value}{ca:Str->Addr}{x:Str}(h:Exc K mg ca x):ca x=ca x:=rfl
structure ke (mg:Str->Option Value):Prop where
 len:mg "len"=none
 range:mg "range"=none
 enumerate:mg "enumerate"=none
 zip:mg "zip"=none
 min:mg "min"=none
 max:mg "max"=none
 sum:mg "sum"=none
 abs:mg "abs"=none
 sorted:mg "sorted"=none
 reversed:mg "reversed"=none
 int:mg "int"=none
 str:mg "str"=none
 bool:mg "bool"=none
 list:mg "list"=none
 tuple:mg "tuple"=none
 dict:mg "dict"=none
 set:mg "set"=none
 isinstance:mg "isinstance"=none
 repr:mg "repr"=none
 any:mg "any"=none
 all:mg "all"=none
 divmod:mg "divmod"=none
inductive FB where
 |ok (d:D) (fresh:Bool) (β:Int)
 |bad
def BN (K:Frag)(n:Nat)(F:List D->Int->FB):Sp:=λvs H Q _=>∃b rest G ds β,vs=.ref b :: rest/\H b=some (.lst [.int β])/\G b=none/\ae G H/\ds.length=n/\bB K G rest ds/\match F ds β with
 | .ok d fr β'=>∀v G' H',fk (some b) H H'->H' b=some (.lst [.int β'])->ae G G'->ae G' H'->(∀c,Mx H c->G c=none->G' c=none)->FV K H G' H' fr d v->Q v H'
 | .bad=>False
structure ox (P:Program)(w:World)(K:Frag)(mg:Str->Option Value)(base:Heap)(x:Str)(ps:List Str)(k:Nat)(F:List D->Int->FB):Prop where
 ex:∃f fd,mg x=some (.ref f)/\PySem.W.keepIn K (.ref f)=true/\Binds K fd ps []/\c7 P w K mg base (j7 P w) k f fd ps (BN K (ps.length - 1) F)
 len:∀ds β,F ds β≠.bad->ds.length=ps.length - 1
def rZ (vs:List Nv)(i:Nat):Bool:=match vs[i]? with
 |some .bx=>true
 |_=>false
def kY (i:Nat)(F:List D->Int->FB)(fr:VF (List D)):VF D:=λvs β=>if rZ vs i=true then (fr vs β).bnd λds β1=>match F ds β1 with
 | .ok d _ β2=>.ok d β2
 | .bad=>.bad else .bad
def D1 (i:Nat)(F:List D->Int->FB)(fr:VF (List D)):VF D:=λvs β=>if rZ vs i=true then (fr vs β).bnd λds β1=>match F ds β1 with
 | .ok d true β2=>.ok d β2
 |_=>.bad else .bad
section
variable {X:Cx}{Γ:Fx}{E:XK}{e a b c:Expr}{f fa fb fc:VF D}{L La Lb:List Nat}{md ma mb mc:Md}{pos:Pos}{K:Frag}{es:List Expr}{fr:VF (List D)}
def yP {env:En}{i:Nat}(h:rZ (vl env) i=true):env[i]? =some .bx:=by
 unfold rZ at h
 split at h
 ·exact B5 (by assumption)
 ·cases h
def zN {env:En}{i j:Nat}{d:D}(h:(fO env i)[j]? =some (.br d)):env[j]? =some (.br d):=by
 unfold fO at h
 split at h
 ·rename_i d' e
  by_cases z:i=j
  ·subst z
   rw[E5 (EV.mp e).1] at h;cases h
  ·rw[E1 z] at h;exact h
 ·exact h
theorem AI {L:List Nat}{env:En}{j:Nat}{d:D}(h:(aL L env)[j]? =some (.br d)):env[j]? =some (.br d):=by
 unfold aL at h
 induction L generalizing env with
 |nil=>exact h
 |cons i L ih=>exact zN (ih h)
def SR.calledB {p:Addr}{β β':Int}{G1 H1 G2 H2:Hp}{σ:St}{env:En}(I1:SR Γ (some p) G1 H1 σ env β)(h:fk (some p) H1 H2)(hp:H2 p=some (.lst [.int β']))(g:ae G1 G2)(s:ae G2 H2)(n:∀b,Mx H1 b->G1 b=none->G2 b=none):SR Γ (some p) G2 H2 σ env β':=by
 obtain⟨b1,b2,b3⟩:=I1.box p rfl
 refine⟨s,I1.old.trans g,λb n1 n2=>n b (I1.thereM n1) (I1.new b n1 n2),λb o e np=>h b o (I1.keep b o e np) λz=>?_,λb hb=>?_,I1.fix,λb e=>?_,I1.len,λi t e=>?_,I1.sep⟩
 ·cases z
  rcases b3 with b3 |b3
  ·exact np b3
  ·rw[e] at b3;cases b3
 ·by_cases z:p=b
  ·subst z;exact Mx.lst hp
  ·exact (I1.pin b hb).same λo q=>h b o q λy=>z (Option.some.inj y)
 ·cases e
  exact⟨hp,n p (Mx.lst b1) b2,b3⟩
 ·have q:=I1.slot i t e
  cases t with
  |no=>trivial
  |fz d=>obtain⟨v,h1,h2⟩:=q;exact⟨v,h1,h2.mono g⟩
  |ow d=>
   obtain⟨c,h1,h2,h3,h4,h5⟩:=q
   exact⟨c,h1,h2,n c h5.mx h3,h4,h5.mono g λo q=>h c o q h4⟩
  |bx=>exact q
  |br d=>obtain⟨b1,c,h1,h4,hpp,h5⟩:=q;exact⟨b1,c,h1,h4,hpp,h5.mono g λo q=>h c o q h4⟩
theorem yk {F:List D->Int->FB}{ps:List Str}{Q:VK}{B:Option Addr}{G H:Hp}{σ:St}{env:En}{β:Int}{i:Nat}{p:Addr}(I:SR Γ B G H σ env β)(hK:X.K=Γ.K)(hp:B=some p){wv:Bool}
  (h:Out Γ E (fr (vl env) β) λds β1=>Out Γ E (match F ds β1 with
   | .ok d true β2=>.ok d β2
   | .ok d false β2=>if wv=true then .bad else .ok d β2
   | .bad=>.bad) λd β'=>∀v G' H',SR Γ B G' H' σ (aL L env) β'->ae G G'->fk B H H'->VO Γ.K B H G' H' (if wv=true then .w else .v) d v->Q v H') (hl:∀ds β,F ds β≠.bad->ds.length=ps.length - 1) :
  aT Γ E fr L σ H λvs H1=>BN X.K (ps.length - 1) F (.ref p :: vs) H1 Q E:=by
 subst hp
 refine⟨env,G,_,β,I,h.imp λds β1 k vs G1 H1 I1 s1 m1 r=>?_⟩
 obtain⟨b1,b2,b3⟩:=I1.box p rfl
 refine⟨p,vs,G1,ds,β1,rfl,b1,b2,I1.sub,hl ds β1 λz=>by rw[z] at k;exact k,by rw[hK];exact r,?_⟩
 cases q:F ds β1 with
 |bad=>rw[q] at k;exact k
 |ok d fr' β2=>
  rw[q] at k
  intro v G' H' hh hb hg hs hn fv
  have I2:=I1.calledB hh hb hg hs hn
  cases fr' with
  |true=>
   obtain⟨c,rfl,p1,p2,p3⟩:∃a,v=.ref a/\H1 a=none/\G' a=none/\Own X.K G' H' a d:=fv
   rw[hK] at p3
   have hp:=fK m1 I1.boxThere p1
   cases wv with
   |true=>exact k _ G' H' I2 (s1.trans hg) (m1.trans hh) ⟨c,rfl,hp,p2,p3⟩
   |false=>
    obtain⟨q1,q2,q3,q4⟩:=I1.fresh p1
    obtain⟨G3,I3,s3,r3⟩:=I2.letIn q1 p2 q3 q4 p3
    exact k _ G3 H' I3 ((s1.trans hg).trans s3) (m1.trans hh) r3
  |false=>
   cases wv with
   |true=>exact k.elim
   |false=>
    have fv:Rp X.K G' v d:=fv
    rw[hK] at fv
    exact k _ G' H' I2 (s1.trans hg) (m1.trans hh) fv
theorem Bo {F:List D->Int->FB}{ps:List Str}{Q:VK}{i:Nat}{σ:St}{H:Hp}(hK:X.K=Γ.K){wv:Bool}(hl:∀ds β,F ds β≠.bad->ds.length=ps.length - 1)(h:pT Γ E (if wv=true then D1 i F fr else kY i F fr) L (if wv=true then .w else .v) σ H Q) :
  zF i σ H λx H1=>aT Γ E fr L σ H1 λvs H2=>BN X.K (ps.length - 1) F (x :: vs) H2 Q E:=by
 obtain⟨env,G,B,β,I,o⟩:=h
 have hi:rZ (vl env) i=true:=by
  by_cases hi:rZ (vl env) i=true
  ·exact hi
  ·exfalso
   cases wv with
   |true=>simp only[FH] at o;unfold D1 at o;rw[EN hi] at o;exact o
   |false=>simp only[EU,Fh] at o;unfold kY at o;rw[EN hi] at o;exact o
 obtain⟨p,e1,e2⟩:=I.slot i _ (yP hi)
 refine⟨.ref p,e1,yk (i:=i) (ps:=ps) I hK e2 (wv:=wv) ?_ hl⟩
 cases wv with
 |true=>
  simp only[FH] at o ⊢
  unfold D1 at o
  rw[EI hi] at o
  refine o.bnd.imp λds β1 h=>?_
  cases q:F ds β1 with
  |bad=>rw[q] at h;exact h
  |ok d b β2=>rw[q] at h;cases b <;> exact h
 |false=>
  simp only[EU,Fh] at o ⊢
  unfold kY at o
  rw[EI hi] at o
  refine o.bnd.imp λds β1 h=>?_
  cases q:F ds β1 with
  |bad=>rw[q] at h;exact h
  |ok d b β2=>rw[q] at h;cases b <;> exact h
def p9 {x y:Str}{ps:List Str}{k:Nat}{F:List D->Int->FB}{p np:Pos}(i:Nat)(hf:ox X.prog X.w X.K X.mg X.base x ps k F)(hr:cH k X.A)(hx:Passes (j7 X.prog X.w) X E)(hK:X.K=Γ.K)(hg:Gl X x)(ha:SA X Γ E es fr L)(hN:X.N[i]? =some y:=by rfl)(hv:xi X.env.scope y:=by first |exact Or.inl rfl |exact Or.inr (Or.inl rfl) |exact Or.inr (Or.inr rfl))(hd:(y == ("__debug__":Str))=false:=by decide)
  (hcd:(y == ("__classdict__":Str))=false:=by decide) (hdb:(x == ("__debug__":Str))=false:=by decide)
  (he:starEach (.Name y np :: es) X.env=(false,eval (.Name y np) X.env) :: starEach es X.env:=by rfl) (hpl:(backTo pos (starEach es X.env)).any (·.1)=false:=by rfl):SE X Γ E (.Call (.Name x p) (.Name y np :: es) [] pos) (kY i F fr) L .v:=by
 obtain⟨f,fd,hm,hk,hb,hF⟩:=hf.ex
 refine PE.post' (jm (dvs:=[]) hF hr hg hm hk hb .nil hx (aB (hE hN hv hd hcd) ha he) hdb he hpl) λσ H Q h=>?_
 have:=Bo (Q:=Q) (wv:=false) (ps:=ps) hK hf.len (by simpa using h)
 show zF i σ H λx H1=>aT Γ E fr L σ H1 λvs H2=>BN X.K (ps.length - 1) F ((x :: vs) ++ []) H2 Q E
 simpa using this
def wc:D->Option Int
 | .list [.int z]=>some z
 |_=>none
def yE {d:D}{z:Int}(h:wc d=some z):d=.list [.int z]:=by
 unfold wc at h
 split at h
 ·cases h;rfl
 ·cases h
def C4 (f0:VF D)(F:List D->Int->FB)(n:Int):VF D:=λvs β=>(f0 vs β).bnd λd0 β1=>match wc d0 with
 |some z=>(match F [.int n] z with
  | .ok d _ _=>.ok d β1
  | .bad=>.bad)
 |none=>.bad
theorem Ci {x:Str}{ps:List Str}{k:Nat}{F:List D->Int->FB}{p cp:Pos}{n:Int}{j}(hf:ox X.prog X.w X.K X.mg X.base x ps k F)(hr:cH k X.A)(hx:Passes (j7 X.prog X.w) X E)(hK:X.K=Γ.K)(hg:Gl X x)(h0:SE X Γ E a fa La .w)(hdb:(x == ("__debug__":Str))=false:=by decide)
  (he:starEach [a,.Constant (.int n) j cp] X.env=(false,eval a X.env) :: starEach [.Constant (.int n) j cp] X.env:=by rfl) (he2:starEach [.Constant (.int n) j cp] X.env=(false,eval (.Constant (.int n) j cp) X.env) :: starEach [] X.env:=by rfl) (hpl:(backTo pos (starEach [.Constant (.int n) j cp] X.env)).any (·.1)=false:=by rfl):SE X Γ E (.Call (.Name x p) [a,.Constant (.int n) j cp] [] pos) (C4 fa F n) La .v:=by
 obtain⟨f,fd,hm,hk,hb,hF⟩:=hf.ex
 refine PE.post' (jm (dvs:=[]) hF hr hg hm hk hb .nil hx (aB h0 (aB m8 aR he2) he) hdb he hpl) λσ H Q ⟨env,G,B,β,I,o⟩=>?_
 show pT Γ E fa La .w σ H λx H1=>BN X.K (ps.length - 1) F ([x,.int n] ++ []) H1 Q E
 refine⟨env,G,B,β,I,o.bnd.imp λd0 β1 h x G1 H1 I1 s1 m1 vx=>?_⟩
 obtain⟨c,rfl,c1,c2,c3⟩:=vx
 cases q:wc d0 with
 |none=>rw[q] at h;exact h.elim
 |some z=>
  rw[q] at h
  obtain rfl:=yE q
  obtain⟨xs,c3,rx⟩:=c3
  obtain⟨q1,q2,q3,q4⟩:=I.fresh c1
  have hx2:H1 c=some (.lst [.int z]):=by
   cases rx with
   |cons r1 r2=>
    cases r1
    cases r2
    exact c3
  refine⟨c,[.int n],G1,[.int n],z,rfl,hx2,c2,I1.sub,hf.len [.int n] z λy=>?_,.cons (.int n) .nil,?_⟩
  ·dsimp only at h;rw[y] at h;exact h
  cases qF:F [.int n] z with
  |bad=>dsimp only at h;rw[qF] at h;exact h
  |ok d fr' β2=>
   dsimp only at h
   rw[qF] at h
   intro v G' H' hh hb' hg' hs hn fv
   have I2:SR Γ B G' H' σ (aL La env) β1:=by
    refine⟨hs,I1.old.trans hg',λb n1 n2=>hn b (I1.thereM n1) (I1.new b n1 n2),λb o e np=>hh b o (I1.keep b o e np) λz=>?_,λb hb=>?_,I1.fix,λb e=>?_,I1.len,λi t e=>?_,I1.sep⟩
    ·cases z;rw[q1] at e;cases e
    ·by_cases z:c=b
     ·subst z;exact Mx.lst hb'
     ·exact (I1.pin b hb).same λo qq=>hh b o qq λy=>z (Option.some.inj y)
    ·obtain⟨b1,b2,b3⟩:=I1.box b e
     have bc:b≠c:=λz=>q3 (by rw[<-z];exact e)
     exact⟨hh b _ b1 λy=>bc (Option.some.inj y).symm,hn b (Mx.lst b1) b2,b3⟩
    ·have w:=I1.slot i t e
     cases t with
     |no=>trivial
     |fz d=>obtain⟨v,h1,h2⟩:=w;exact⟨v,h1,h2.mono hg'⟩
     |ow d=>
      obtain⟨a',h1,h2,h3,h4,h5⟩:=w
      have ac:a'≠c:=λz=>q4 i d (ot e) (by rw[<-z];exact h1)
      exact⟨a',h1,h2,hn a' h5.mx h3,h4,h5.mono hg' λo q=>hh a' o q λy=>ac (Option.some.inj y).symm⟩
     |bx=>exact w
     |br d=>
      obtain⟨b1,a',h1,h4,hpp,h5⟩:=w
      have e0:env[i]? =some (.br d):=AI e
      obtain⟨_,a2,g1,_,_,g5⟩:=I.slot i _ e0
      rw[h1] at g1;cases g1
      obtain⟨o,ho⟩:=g5.obj
      have ac:a'≠c:=au ho c1
      exact⟨b1,a',h1,h4,hpp,h5.mono hg' λo q=>hh a' o q λy=>ac (Option.some.inj y).symm⟩
   have m2:fk B H H':=λb o e nb=>by
    have e1:=m1 b o e nb
    exact hh b o e1 λy=>by cases y;rw[c1] at e;cases e
   cases fr' with
   |true=>
    obtain⟨c',rfl,p1,p2,p3⟩:∃a,v=.ref a/\H1 a=none/\G' a=none/\Own X.K G' H' a d:=fv
    rw[hK] at p3
    obtain⟨w1,w2,w3,w4⟩:=I1.fresh p1
    obtain⟨G3,I3,s3,r3⟩:=I2.letIn w1 p2 w3 w4 p3
    exact h _ G3 H' I3 ((s1.trans hg').trans s3) m2 r3
   |false=>
    have fv:Rp X.K G' v d:=fv
    rw[hK] at fv
    exact h _ G' H' I2 (s1.trans hg') m2 fv
end
section
variable {P:Program}{w:World}{K:Frag}{mg:Str->Option Value}{base:Heap}{ca:Str->Addr}
def yt:SO->FB
 | .nx _ β=>.ok .none false β
 | .rt d fr β=>.ok d fr β
 |_=>.bad
def rM (n:Nat)(ds:List D):En:=.bx :: ds.map Sl.fz ++ List.replicate (n - 1 - ds.length) .no
def p7 (n p:Nat)(m:SF):List D->Int->FB:=λds β=>if ds.length=p then yt (m (rM n ds) β) else .bad
abbrev Fx.fb (K:Frag)(H G:Hp)(ca:Str->Addr)(b:Addr):Fx:=⟨K,H,G,[b],ca,λ_=>false,some b⟩
def SR.startB {H G:Hp}{N:List Str}{b:Addr}{vs:List V}{ds:List D}{β:Int}(s:ae G H)(hb:H b=some (.lst [.int β]))(gb:G b=none)(r:bB K G vs ds)(hn:ds.length + 1<=N.length):SR (Fx.fb K H G ca b) (some b) G H (L2.start N (.ref b :: vs)) (rM N.length ds) β:=by
 have hl:=r.len
 refine⟨s,ae.refl _,λc _ h=>h,λc o h _=>h,λc h=>?_,λc h=>h,λc h=>?_,?_,λi t e=>?_,λi j a d e h=>?_⟩
 ·have:c=b:=by simpa using h
  subst this;exact Mx.lst hb
 ·cases h;exact⟨hb,gb,.inl (by simp)⟩
 ·unfold L2.start rM;simp;omega
 ·cases i with
  |zero=>
   unfold rM at e
   cases e
   exact⟨b,rfl,rfl⟩
  |succ i=>
   unfold rM at e
   have e:(ds.map Sl.fz ++ List.replicate (N.length - 1 - ds.length) Sl.no)[i]? =some t:=by simpa using e
   by_cases hi:i < ds.length
   ·rw[Ft (by simpa using hi),ES,ED hi] at e
    cases e
    obtain⟨x,hx,rx⟩:=r.at (ED hi)
    refine⟨x,?_,rx⟩
    unfold L2.start
    have hi':i < vs.length:=by rw[hl];exact hi
    rw[Ft (by simp;exact hi'),ES,List.getElem?_cons_succ,hx];rfl
   ·rw[Fm (by simpa using hi),Gb] at e
    split at e
    ·cases e;trivial
    ·cases e
 ·unfold rM at h
  have hm:=EX h
  rcases EH.mp hm with z |hm
  ·cases z
  rcases E6.mp hm with z |z
  ·obtain⟨_,_,z⟩:=ER.mp z;cases z
  ·have:=Hn z;cases this
def pk {x qual:Str}{st:Stmt}{f:Addr}{fd:FuncData}{N:List Str}{ps:List Str}{k:Nat}{m:SF}(F:yc K x qual st f fd)(S:aG N ps (ak st))(hp:1<=ps.length)
  (hbody:∀(cdv:Value) (A:Around) (outer:List Env) (s:Shared) (H G:Hp) (b:Addr) (E:XK),cH k (A.deeper (envOfC qual (ak st) s.heap.objs.size f cdv))->ye (iC (j7 P w) P w K mg base N qual (ak st) f cdv A outer s H E) (Fx.fb K H G ca b) E (bL st) m) :
  c7 P w K mg base (j7 P w) (k + 1) f fd ps (BN K (ps.length - 1) (p7 N.length (ps.length - 1) m)):=by
 have hpn:ps.length<=N.length:=by have:=congrArg List.length S.pre;rw[FG] at this;omega
 refine F.u9 S (λvs H Q E h=>?_) (λcdv A outer s H vs Q E hr h=>?_)
 ·obtain⟨b,rest,G,ds,β,rfl,hb,gb,sG,hl,r,_⟩:=h
  rw[EZ,r.len];omega
 ·obtain⟨b,rest,G,ds,β,rfl,hb,gb,sG,hl,r,h⟩:=h
  refine⟨_,hbody cdv A outer s H G b E hr,?_⟩
  have I:=SR.startB (ca:=ca) (N:=N) sG hb gb r (by omega)
  refine⟨_,G,some b,β,I,?_⟩
  unfold p7 at h
  rw[EI hl] at h
  have fin':∀{B G' H' σ env β},SR (Fx.fb K H G ca b) B G' H' σ env β->fk (some b) H H'/\H' b=some (.lst [.int β]):=λJ=>by
   have e:=J.fix b rfl
   refine⟨λc o ec n=>J.keep c o ec λz=>n ?_,(J.box b e).1⟩
   have:c=b:=by simpa using z
   rw[this]
  cases q:m (rM N.length ds) β with
  |nx env β'=>rw[q] at h;exact λB G' H' σ J s'=>h .non G' H' (fin' J).1 (fin' J).2 s' J.sub (λc h1 h2=>J.new c h1 h2) Rp.non
  |bk env β'=>rw[q] at h;exact h.elim
  |ct env β'=>rw[q] at h;exact h.elim
  |rt d fr β'=>
   rw[q] at h
   refine λB G' H' σ env v J s' rv=>h v G' H' (fin' J).1 (fin' J).2 s' J.sub (λc h1 h2=>J.new c h1 h2) ?_
   cases fr with
   |true=>exact rv
   |false=>exact rv
  |exc c=>rw[q] at h;exact h.elim
  |bad=>rw[q] at h;exact h.elim
def qh {n p:Nat}{m:SF}(ds:List D)(β:Int)(h:p7 n p m ds β≠.bad):ds.length=p:=by
 unfold p7 at h
 by_cases hl:ds.length=p
 ·exact hl
 ·rw[EN hl] at h;exact absurd rfl h
end
def az (p:Pr):D:=.tuple [.int p.1,.int p.2]
def ku:D->Option Pr
 | .tuple [.int a,.int b]=>some (a,b)
 |_=>none
def p0 {d:D}{p:Pr}(h:ku d=some p):d=az p:=by
 unfold ku at h
 split at h
 ·cases h;rfl
 ·cases h
def tY (p:Pr):ku (az p)=some p:=rfl
def dc:List D->Option (List Pr)
 | []=>some []
 |d :: ds=>match ku d,dc ds with
  |some p,some ps=>some (p :: ps)
  |_,_=>none
theorem ic:∀{ds:List D} {ps:List Pr},dc ds=some ps->ds=ps.map az
 | [],ps,h=>by cases h;rfl
 |d :: ds,ps,h=>by
  unfold dc at h
  split at h
  ·rename_i p qs h1 h2;cases h;rw[p0 h1,ic h2];rfl
  ·cases h
theorem dW:∀ps:List Pr,dc (ps.map az)=some ps
 | []=>rfl
 |p :: ps=>by
  show (match ku (az p),dc (ps.map az) with
   |some p,some ps=>some (p :: ps)
   |_,_=>none)=_
  rw[tY,dW ps]
section
variable {K:Frag}{X:Cx}{G H:Hp}
theorem bB.pairs:∀{ps:List Pr} {xs:List V},bB K G xs (ps.map az)->aA K G xs ps
 | [],_,.nil=>.nil
 |p :: ps,_,.cons r t=>by
  cases r with
  |tup hq r=>
   cases r with
   |cons r1 r=>
    cases r with
    |cons r2 r=>cases r;cases r1;cases r2;exact .cons ⟨_,rfl,hq⟩ (bB.pairs t)
theorem aA.rps:∀{ps:List Pr} {xs:List V},aA K G xs ps->bB K G xs (ps.map az)
 | [],_,.nil=>.nil
 |p :: ps,_,.cons r t=>by
  obtain⟨a,rfl,q⟩:=r
  exact .cons (.tup q (.cons (.int _) (.cons (.int _) .nil))) (aA.rps t)
def BP (p:Pr):Bool:=decide (0<=p.1) && decide (p.1 < 8) && decide (0<=p.2) && decide (p.2 < 8)
def BB {p:Pr}(h:BP p=true):Sm p:=by
 unfold BP at h
 simp only[Fp,Gf] at h
 exact⟨⟨h.1.1.1,h.1.1.2⟩,h.1.2,h.2⟩
noncomputable def bG (d:D):Option D:=match gK d with
 |some ds=>(match dc ds with
  |some ps=>if ps.all BP=true/\(OM.bq 8 (OM.Mem ps)).length < 64 then some (.list ((OM.bq 8 (OM.Mem ps)).map az)) else none
  |none=>none)
 |none=>none
variable {Γ:Fx}{E:XK}{e a b c:Expr}{f fa fb fc:VF D}{L La Lb:List Nat}{md ma mb mc:Md}{pos:Pos}
theorem k9 {p1 p2 pos2:Pos}(hc:X.calm=true)(hu:X.A.units + 64 < cLine)(hK:X.K=Γ.K)(hg:Gl X "sorted")(hm:X.mg "sorted"=none)(hg2:Gl X "set")(hm2:X.mg "set"=none)(ha:SE X Γ E a fa La ma)
  (he:starEach [a] X.env=(false,eval a X.env) :: starEach [] X.env:=by rfl)
  (he2:starEach [.Call (.Name "set" p2) [a] [] pos2] X.env=(false,eval (.Call (.Name "set" p2) [a] [] pos2) X.env) :: starEach [] X.env:=by rfl) :
  SE X Γ E (.Call (.Name "sorted" p1) [.Call (.Name "set" p2) [a] [] pos2] [] pos) (f1 fa bG) La .w:=by
 refine PE.post' (hV (ni hc) hg hm (by decide +kernel) (aB (fD (xD hc hu) hg2 hm2 (by decide +kernel) (aB ha aR he) (by decide) (by decide) he) aR he2) (by decide) (by decide) he2) λσ H Q ⟨env,G,B,β,I,o⟩=>?_
 refine fW (r:=λx H1 Q=>Ca X.prog X.w X.K [x] H1 λy H2=>o6 X.prog X.w X.K [y] H2 Q) ?_ I o
 intro B G H x dx d Q s hB bx e k
 rw[hK]
 unfold bG at e
 cases q:gK dx with
 |none=>rw[q] at e;cases e
 |some ds=>
  rw[q] at e
  dsimp only at e
  cases q2:dc ds with
  |none=>rw[q2] at e;cases e
  |some ps=>
   rw[q2] at e
   dsimp only at e
   split at e
   ·rename_i hh
    obtain⟨h1,h2⟩:=hh
    cases e
    obtain⟨p,xs,rfl,hq,r⟩:=bx.seq q s
    rw[ic q2] at r
    have pv:=(r.mono s).pairs
    have sm:∀p,p∈ps->Sm p:=λp hp=>BB (Ga.mp h1 p hp)
    refine⟨p,xs,ps,rfl,hq,pv,sm,λS qs hS hpv nd hm=>?_⟩
    have qsl:qs.length < 64:=by
     have:(pq qs).length<=(OM.bq 8 (OM.Mem ps)).length:=OM.lK nd λx hx=>by
      have hx':=(hm x).mp hx
      have hs:=sm x hx'
      exact OM.aJ.mpr ⟨⟨⟨hs.1.1,hs.1.2⟩,hs.2.1,hs.2.2⟩,hx'⟩
     simp only[EM] at this
     omega
    have xS:=Ext.own s (o:=ur X.prog X.w S qs) hS
    refine⟨S,qs,rfl,ao,hpv.grow (dt.new hS),λp hp=>sm p ((hm p).mp hp),nd,qsl,λl ws rs hl hpw hr hmem=>?_⟩
    have ers:rs=OM.bq 8 (OM.Mem ps):=OM.gn hr (OM.cf _ _) λx=>by
     rw[hmem x,hm x,OM.aJ]
     constructor
     ·intro hx;have hs:=sm x hx;exact⟨⟨⟨hs.1.1,hs.1.2⟩,hs.2.1,hs.2.2⟩,hx⟩
     ·intro hx;exact hx.2
    subst ers
    have hlH:H l=none:=by
     by_cases z:l=S
     ·subst z;exact hS
     ·rw[ag z] at hl;exact hl
    have lS:l≠S:=λz=>by subst z;rw[ao] at hl;cases hl
    have hh:ae H (upd (upd H S (ur X.prog X.w S qs)) l (.lst ws)):=(ae.new hS).trans (ae.new hl)
    have xx:=Ext.tups s hh
    refine k _ _ _ xx ⟨l,rfl,hlH,?_,ws,ao,?_⟩
    ·unfold dU
     rw[s.free hlH,ao]
     exact EN λy=>y
    ·refine aA.rps (Paired.mapP hpw λv p ⟨a,ea,qa⟩=>⟨a,ea,i8 (s.trans hh) ?_⟩)
     exact qa.grow (dt.new hl)
   ·cases e
end
section
variable {K:Frag}{X:Cx}{G H:Hp}{Γ:Fx}{E:XK}{e a b c:Expr}{f fa fb fc:VF D}{L La Lb:List Nat}{md ma mb mc:Md}{pos apos cpos np:Pos}
def dY:D->Option D
 | .int n=>if 0<=n/\n<=1000 then some (.list (bE 0 n.toNat)) else none
 |_=>none
def tZ (n:Nat):bB K G ((List.range n).map λ(i:Nat)=>V.int (i:Int)) (bE 0 n):=by
 have key:∀l:List Nat,bB K G (l.map λ(i:Nat)=>V.int (i:Int)) (l.map λ(k:Nat)=>int (0 + k)):=by
  intro l
  induction l with
  |nil=>exact .nil
  |cons x l ih=>exact .cons (by show Rp K G (.int (x:Int)) (.int (0 + (x:Int)));rw[G8];exact .int _) ih
 exact key _
theorem rR {p1 p2 pos2:Pos}(hc:X.calm=true)(hg:Gl X "list")(hm:X.mg "list"=none)(hg2:Gl X "range")(hm2:X.mg "range"=none)(ha:SE X Γ E a fa La ma)
  (he:starEach [a] X.env=(false,eval a X.env) :: starEach [] X.env:=by rfl)
  (he2:starEach [.Call (.Name "range" p2) [a] [] pos2] X.env=(false,eval (.Call (.Name "range" p2) [a] [] pos2) X.env) :: starEach [] X.env:=by rfl) :
  SE X Γ E (.Call (.Name "list" p1) [.Call (.Name "range" p2) [a] [] pos2] [] pos) (f1 fa dY) La .w:=by
 refine PE.post' (fD (lN hc) hg hm (by decide +kernel) (aB (fD xI hg2 hm2 (by decide +kernel) (aB ha aR he) (by decide) (by decide) he) aR he2) (by decide) (by decide) he2) λσ H Q ⟨env,G,B,β,I,o⟩=>?_
 refine fW (r:=λx H1 Q=>∃n:Int,[x]= [.int n]/\∀p,H1 p=none->(λ(y:V) (H2:Hp)=>∃(p:Addr) (n:Int),[y]= [V.ref p]/\H2 p=some (.j8 0 n)/\0<=n/\n<=1000/\∀l,H2 l=none->Q (.ref l) (upd H2 l (.lst ((List.range n.toNat).map λ(i:Nat)=>V.int (i:Int))))) (V.ref p) (upd H1 p (.j8 0 n))) ?_ I o
 intro B G H x dx d Q s hB bx e k
 cases dx with
 |int n=>
  obtain rfl:=bx.int
  simp only[dY] at e
  split at e
  ·rename_i hh
   cases e
   refine⟨n,rfl,λp hp=>⟨p,n,rfl,ao,hh.1,hh.2,λl hl=>?_⟩⟩
   have hlp:l≠p:=λz=>by subst z;rw[ao] at hl;cases hl
   have hlH:H l=none:=by rw[ag hlp] at hl;exact hl
   have x1:=Ext.own s (o:=.j8 0 n) hp
   have x2:=Ext.own x1.gh (o:=.lst ((List.range n.toNat).map λ(i:Nat)=>V.int (i:Int))) hl
   exact k _ _ _ (x1.trans x2) ⟨l,rfl,hlH,s.free hlH,_,ao,tZ _⟩
  ·cases e
 |_=>cases e
def zp:D->Option D
 | .int i=>some (.int (if i < 0 then -i else i))
 |_=>none
theorem Cp:uh K (λx H Q=>∃i,[x]= [.int i]/\Q (.int (if i < 0 then -i else i)) H) zp .v:=by
 intro B G H x dx d Q s hB bx e k
 cases dx with
 |int i=>cases e;obtain rfl:=bx.int;exact⟨i,rfl,k _ G H (Ext.refl s) (.int _)⟩
 |_=>cases e
def mH (d:D):Option D:=match gK d with
 |some _=>if d.showable=true/\d.hasDict=false/\d.depth<=64/\d.shown.length<=sizeLine/\vd d=true then some (.str d.shown) else none
 |none=>none
theorem vM:uh K (λx=>Ac K [x]) mH .v:=by
 intro B G H x dx d Q s hB bx e k
 unfold mH at e
 cases q:gK dx with
 |none=>rw[q] at e;cases e
 |some ds=>
  rw[q] at e
  dsimp only at e
  split at e
  ·rename_i hh
   cases e
   obtain⟨a,xs,rfl,_,_⟩:=bx.seq q s
   exact⟨a,dx,rfl,(bx.rpH s).rep hh.2.2.2.2,hh.1,hh.2.1,hh.2.2.1,hh.2.2.2.1,k _ G H (Ext.refl s) (.str _)⟩
  ·cases e
noncomputable def Dv (d:D):Option D:=match d with
 | .list ds=>(match dc ds with
  |some ps=>if ps.all BP=true/\ps.Nodup/\ps.length < 64 then some (.list ((OM.bq 8 (OM.Mem ps)).map az)) else none
  |none=>none)
 |_=>none
def ub (ds:List D)(k:D):Option (D×List D):=match k with
 | .int i=>if -(2 ^ 63)<=i/\i < 2 ^ 63 then (match seqIndex? i ds.length with
  |some n=>(match ds[n]? with
   |some d=>some (d,ds.eraseIdx n)
   |none=>none)
  |none=>none) else none
 |_=>none
def fV (i j:Nat)(L:List Nat)(f:VF D):SF:=λenv β=>if rC env[i]? =true/\rC env[j]? =true/\i≠j then toS (f (vl env) β) λk β'=>match (aL L env)[j]? with
 |some (.ow (.list es))=>(match ub es k with
  |some (d,es')=>BQ i ((aL L env).set j (.ow (.list es'))) β' λds=>if ds.length < sizeLine then some (ds ++ [d]) else none
  |none=>.bad)
 |_=>.bad else .bad
theorem bB.eraseIdx:∀{xs:List V} {ds:List D} (i:Nat),bB K G xs ds->bB K G (xs.eraseIdx i) (ds.eraseIdx i)
 |_,_,_,.nil=>.nil
 |_,_,0,.cons _ t=>t
 |_,_,i + 1,.cons r t=>.cons r (bB.eraseIdx i t)
theorem uT (i j:Nat){x y:Str}{np2 apos2 cpos2:Pos}(hb:∀j,Γ.br j=false)(he:SE X Γ E e f L md)(hN:X.N[i]? =some x:=by rfl)(hv:xi X.env.scope x:=by first |exact Or.inl rfl |exact Or.inr (Or.inl rfl) |exact Or.inr (Or.inr rfl))(hd:(x == ("__debug__":Str))=false:=by decide)
  (hcd:(x == ("__classdict__":Str))=false:=by decide)
  (hN2:X.N[j]? =some y:=by rfl) (hv2:xi X.env.scope y:=by first |exact Or.inl rfl |exact Or.inr (Or.inl rfl) |exact Or.inr (Or.inr rfl)) (hd2:(y == ("__debug__":Str))=false:=by decide)
  (hcd2:(y == ("__classdict__":Str))=false:=by decide)
  (hbase:attributeBase (.Name x np) "append" X.env (eval (.Name x np) X.env)=eval (.Name x np) X.env:=by rfl)
  (hfew:((backTo cpos (starEach [.Call (.Attribute (.Name y np2) "pop" apos2) [e] [] cpos2] X.env)).all (λx=> !x.1) && (backToKw cpos (keywordEach [] X.env)).all (λx=>x.1.isSome)
   && decide ([Expr.Call (.Attribute (.Name y np2) "pop" apos2) [e] [] cpos2].length + ([]:List Keyword).length + (if ([]:List Keyword).isEmpty then 0 else 1) < 30))=true:=by rfl)
  (hline:(apos.endLine == cpos.line)=true:=by rfl) (hs:starEach [.Call (.Attribute (.Name y np2) "pop" apos2) [e] [] cpos2] X.env=(false,eval (.Call (.Attribute (.Name y np2) "pop" apos2) [e] [] cpos2) X.env) :: starEach [] X.env:=by rfl)
  (hbase2:attributeBase (.Name y np2) "pop" X.env (eval (.Name y np2) X.env)=eval (.Name y np2) X.env:=by rfl)
  (hfew2:((backTo cpos2 (starEach [e] X.env)).all (λx=> !x.1) && (backToKw cpos2 (keywordEach [] X.env)).all (λx=>x.1.isSome)
   && decide ([e].length + ([]:List Keyword).length + (if ([]:List Keyword).isEmpty then 0 else 1) < 30))=true:=by rfl)
  (hline2:(apos2.endLine == cpos2.line)=true:=by rfl) (hs2:starEach [e] X.env=(false,eval e X.env) :: starEach [] X.env:=by rfl)
  (hsw:swapsWith (.Call (.Attribute (.Name x np) "append" apos) [.Call (.Attribute (.Name y np2) "pop" apos2) [e] [] cpos2] [] cpos) none pos.line X.env=pure false:=by rfl) :
  SS X Γ E (.Expr (.Call (.Attribute (.Name x np) "append" apos) [.Call (.Attribute (.Name y np2) "pop" apos2) [e] [] cpos2] [] cpos) pos) (fV i j L f):=by
 refine PS.post (ou (xU PySem.F.plainAttrs_list PySem.F.slot_list_append PySem.F.type_list_append jC (hE hN hv hd hcd)
  (aB (xU PySem.F.plainAttrs_list PySem.F.slot_list_pop PySem.F.type_list_pop xl (hE hN2 hv2 hd2 hcd2) (aB he aR hs2) hbase2 hfew2 hline2 hs2 rfl) aR hs) hbase hfew hline hs rfl) hsw) λN σ H ⟨env,G,B,β,I,o⟩=>?_
 unfold fV at o
 by_cases hO:rC env[i]? =true/\rC env[j]? =true/\i≠j
 case neg=>rw[EN hO] at o;exact o.elim
 rw[EI hO] at o
 obtain⟨hO1,hO2,hij⟩:=hO
 obtain⟨ds0,q0⟩:=oA hO1
 obtain⟨es0,w0⟩:=oA hO2
 obtain⟨p,h1,_,_,_,xs,h5,_⟩:=I.slot i _ q0
 obtain⟨q,k1,_,_,_,ys,k5,_⟩:=I.slot j _ w0
 refine⟨_,h1,.inl ⟨rfl,xs,.inl (.inl h5)⟩,?_⟩
 refine⟨_,k1,.inl ⟨rfl,ys,.inl (.inl k5)⟩,?_⟩
 refine⟨env,G,B,β,I,cn o λkd β' k v G' H' I' s' m' vo=>?_⟩
 cases ej:(aL L env)[j]? with
 |none=>rw[ej] at k;exact k.elim
 |some sj=>
  rw[ej] at k
  cases sj with
  |ow dj=>
   cases dj with
   |list es=>
    dsimp only at k
    cases ep:ub es kd with
    |none=>rw[ep] at k;exact k.elim
    |some pr=>
     obtain⟨d,es'⟩:=pr
     rw[ep] at k
     dsimp only at k
     unfold ub at ep
     cases kd <;> first | (cases ep;done) |skip
     rename_i ii
     dsimp only at ep
     split at ep
     ·rename_i hr
      cases eI:seqIndex? ii es.length with
      |none=>rw[eI] at ep;cases ep
      |some n=>
       rw[eI] at ep
       dsimp only at ep
       cases eD:es[n]? with
       |none=>rw[eD] at ep;cases ep
       |some d0=>
        rw[eD] at ep
        cases ep
        obtain rfl:=(vo.brw I.boxThere).int
        obtain⟨q',g1,_,_,_,zs,g5,g6⟩:=I'.slot j _ ej
        rw[k1] at g1;cases g1
        obtain⟨xv,ex,rx⟩:=g6.at eD
        refine⟨q,zs,ii,n,xv,rfl,rfl,g5,hr.1,hr.2,by rw[g6.len];exact eI,ex,?_⟩
        have I2:=I'.write hb ej k1 (o:=.lst (zs.eraseIdx n)) (d':=.list (es.eraseIdx n)) λH2 e2 s2=>⟨_,e2,g6.eraseIdx n⟩
        obtain⟨ds,fs,eq,eg,k⟩:=tP k
        by_cases hz:ds.length < sizeLine
        case neg=>rw[EN hz] at eg;cases eg
        rw[EI hz] at eg
        cases eg
        obtain⟨p',f1,_,_,_,us,f5,f6⟩:=I2.slot i _ eq
        rw[h1] at f1;cases f1
        refine⟨p,us,xv,rfl,rfl,f5,by rw[f6.len];exact hz,?_⟩
        exact k B G' _ σ (I2.write hb eq h1 λH2 e2 s2=>⟨_,e2,f6.snoc rx⟩) s'
     ·cases ep
   |_=>exact k.elim
  |_=>exact k.elim
end
def cB:List D->Int->FB
 | [.int m],β=>if 0 < m/\m < 1073741824 then .ok (.int (β % m)) false (β / m) else .bad
 |_,_=>.bad
def sk {ds:List D}{β:Int}(h:cB ds β≠.bad):∃m,ds= [.int m]/\0 < m/\m < 1073741824:=by
 unfold cB at h
 split at h
 ·rename_i m
  by_cases hh:0 < m/\m < 1073741824
  ·exact⟨m,rfl,hh.1,hh.2⟩
  ·rw[EN hh] at h;exact absurd rfl h
 ·exact absurd rfl h
def n5 {m β:Int}(h0:0 < m)(h1:m < 1073741824):cB [.int m] β=.ok (.int (β % m)) false (β / m):=EI ⟨h0,h1⟩
def constsOf:List Expr->Option (List Int)
 | []=>some []
 | .Constant (.int i) _ _ :: es=>(constsOf es).map λr=>i :: r
 |_=>none
def Ej (ns:List Int):VF (List D):=λ_ β=>.ok (ns.map int) β
theorem mW {X:Cx}{Γ:Fx}{E:XK}:∀{es:List Expr} {ns:List Int},constsOf es=some ns->SA X Γ E es (Ej ns) []
 | [],ns,h=>by
  have e:ns= []:=by unfold constsOf at h;exact (Option.some.inj h).symm
  subst e
  exact aw
 |e :: es,ns,h=>by
  unfold constsOf at h
  split at h
  ·cases ‹_ :: _= []›
  ·next i a b es' heq=>
   cases heq
   cases q:constsOf es with
   |none=>rw[q] at h;cases h
   |some r=>
    rw[q] at h
    have e2:i :: r=ns:=Option.some.inj h
    subst e2
    exact af av (mW q) rfl
  ·cases h
section
variable {P:Program}{w:World}{K:Frag}{mg:Str->Option Value}{base:Heap}
def yB {X:Cx}{i j:Nat}{x y:Str}{px py pos:Pos}{k:Nat}(hN:X.N.Nodup)(hi:X.N[i]? =some x)(hj:X.N[j]? =some y)(hx:X.env.scope.names.lookup x=some .local)(hy:X.env.scope.names.lookup y=some .local)(hc:X.calm=true) :
  PG X (.Tuple [.Name x px,.Name y py] k pos) (yL X.K 2 (kr (iD i) (kr (iD j) ym))):=
 lq hc (b8 (bM hN hi (Or.inl hx) (Or.inr hx)) (b8 (bM hN hj (Or.inl hy) (Or.inr hy)) jk))
def wC {b:Addr}{β m:Int}{H:Hp}{Q:VK}{G:Hp}(hb:H b=some (.lst [.int β]))(s:ae G H){p:Addr}(hp:H p=none)
  (kk:∀v G' H',fk (some b) H H'->H' b=some (.lst [.int (β / m)])->ae G G'->ae G' H'->(∀c,Mx H c->G c=none->G' c=none)->FV K H G' H' false (.int (β % m)) v->Q v H') (gb:G b=none) :
  Q (.int (β % m)) (upd (upd H p (.tup [.int (β / m),.int (β % m)])) b (.lst [.int (β / m)])):=by
 have hbp:b≠p:=au hb hp
 refine kk _ G _ (λc o e n=>?_) ao (ae.refl _) (λc o e=>?_) (λc _ h=>h) (.int _)
 ·rw[ag (λz=>n (by rw[z])),ag (au e hp)];exact e
 ·rw[ag (λz=>by rw[z,gb] at e;cases e),ag (au (s c o e) hp)];exact s c o e
end
end L2
namespace L2
open PySem PySem.SeqAt PySem.Spec PyProof.Rows
section
variable {K:Frag}{X:Cx}{G H:Hp}{Γ:Fx}{E:XK}{e a b c:Expr}{f fa fb fc:VF D}{L La Lb:List Nat}{md ma mb mc:Md}{pos apos cpos np:Pos}
def fG:List D->Option (List Int)
 | []=>some []
 | .int i :: ds=>(fG ds).map (i :: ·)
 |_=>none
theorem lx:∀{ds:List D} {ns:List Int},fG ds=some ns->ds=ns.map int
 | [],ns,h=>by cases h;rfl
 | .int i :: ds,ns,h=>by
  unfold fG at h
  cases q:fG ds with
  |none=>rw[q] at h;cases h
  |some ms=>rw[q] at h;cases h;rw[lx q];rfl
 | .none :: _,_,h=>by cases h
 | .bool _ :: _,_,h=>by cases h
 | .str _ :: _,_,h=>by cases h
 | .list _ :: _,_,h=>by cases h
 | .tuple _ :: _,_,h=>by cases h
 | .dict _ :: _,_,h=>by cases h
theorem fE:∀ns:List Int,fG (ns.map int)=some ns
 | []=>rfl
 |n :: ns=>by show (fG (ns.map int)).map (n :: ·)=_;rw[fE ns];rfl
abbrev Fx.at (Γ:Fx)(H0:Hp):Fx:=⟨Γ.K,H0,Γ.G0,Γ.par,Γ.ca,Γ.br,Γ.bx⟩
end
end L2
namespace L2
open PySem PySem.Spec PyProof.Rows
section
variable {K:Frag}{X:Cx}{G H:Hp}
def Bb (neg:Bool):D->D->Option D
 | .str x,.str y=>some (.bool (if neg then !decide (x=y) else decide (x=y)))
 |_,_=>none
def xH (x y:Str):decide (V.str x=V.str y)=decide (x=y):=by
 rw[FY];simp
def B7:lH K Ee (Bb true) .v:=by
 intro B G H x y dx dy d Q s hB bx by' e k
 cases dx <;> cases dy <;> first | (cases e;done) |skip
 cases e
 obtain rfl:=bx.str
 obtain rfl:=by'.str
 refine⟨rfl,?_⟩
 rw[xH]
 exact k _ G H (Ext.refl s) (.bl _)
end
def ny:En->Bool
 | []=>true
 | .no :: env=>ny env
 | .fz _ :: env=>ny env
 |_=>false
theorem ig:∀{env:En} {i:Nat} {s:Sl},ny env=true->env[i]? =some s->s=.no\/∃d,s=.fz d
 | [],_,_,_,e=>by simp at e
 | .no :: env,0,_,_,e=>by simp at e;exact .inl e.symm
 | .fz d :: env,0,_,_,e=>by simp at e;exact .inr ⟨d,e.symm⟩
 | .no :: env,i + 1,s,h,e=>ig (env:=env) h (by simpa using e)
 | .fz d :: env,i + 1,s,h,e=>ig (env:=env) h (by simpa using e)
 | .ow _ :: _,_,_,h,_=>by cases h
 | .br _ :: _,_,_,h,_=>by cases h
 | .bx :: _,_,_,h,_=>by cases h
section
variable {X:Cx}{Γ:Fx}{E:XK}{m:SF}
def SR.drop {B:Option Addr}{G H:Hp}{σ:St}{env:En}{β:Int}(I:SR Γ B G H σ env β)(hf:ny env=true):SR (Fx.fn Γ.K H G Γ.ca) none G H σ env 0:=by
 refine⟨I.sub,ae.refl _,λb _ h=>h,λb o h _=>h,λb h=>(by cases h),λb h=>(by cases h),λb h=>(by cases h),I.len,λi s e=>?_,λi j a d e h=>?_⟩
 ·rcases ig hf e with rfl | ⟨d,rfl⟩
  ·trivial
  ·exact I.slot i _ e
 ·rcases ig hf h with z | ⟨_,z⟩ <;> cases z
end
end L2
namespace L2
open PySem
section
variable {α γ:Type}
@[simp] theorem iQ (a:α)(β:Int)(k:α->Int->R γ):(R.ok a β).bnd k=k a β:=rfl
@[simp] theorem De (c:Str)(k:α->Int->R γ):(R.exc c:R α).bnd k=.exc c:=rfl
@[simp] theorem C5 (k:α->Int->R γ):(R.bad:R α).bnd k=.bad:=rfl
@[simp] theorem DS (a:α)(β:Int)(k:α->Int->R γ):(R.ok a β).okb k=k a β:=rfl
@[simp] theorem nH (a:α)(β:Int):R.of (some a) β=.ok a β:=rfl
@[simp] theorem of_none (β:Int):(R.of none β:R α)=.bad:=rfl
@[simp] theorem DO (a:α)(β:Int)(k:α->Int->SO):toS (.ok a β) k=k a β:=rfl
@[simp] theorem C0 (c:Str)(k:α->Int->SO):toS (.exc c:R α) k=.exc c:=rfl
@[simp] theorem C7 (k:α->Int->SO):toS (.bad:R α) k=.bad:=rfl
end
section
variable (f fa fb fc:VF D)(t u:VF Bool)(m m':SF)(vs:List Nv)(β:Int)(env:En)(i j:Nat)(L:List Nat)
@[simp] theorem Ak:gv i vs β=R.of (dat vs[i]?) β:=rfl
@[simp] theorem qV (d:D):dat (some (.da d))=some d:=rfl
@[simp] theorem Dq (d:D):cst d vs β=.ok d β:=rfl
@[simp] theorem Ec (g:D->Option D):f1 fa g vs β=(fa vs β).bnd λx β1=>R.of (g x) β1:=rfl
@[simp] theorem D8 (g:D->D->Option D):f2 fa fb g vs β=(fa vs β).bnd λx β1=>(fb vs β1).bnd λy β2=>R.of (g x y) β2:=rfl
@[simp] theorem sZ:aq vs β=.ok [] β:=rfl
@[simp] theorem bO (fr:VF (List D)):aa fa fr vs β=(fa vs β).bnd λx β1=>(fr vs β1).bnd λxs β2=>.ok (x :: xs) β2:=rfl
@[simp] theorem oy:mi fa vs β=(fa vs β).bnd λx β1=>R.of (Bh x) β1:=rfl
@[simp] theorem om:rf t vs β=(t vs β).bnd λc β1=>.ok (!c) β1:=rfl
@[simp] theorem DB:Es t u vs β=(t vs β).bnd λc β1=>if c=true then u vs β1 else .ok false β1:=rfl
@[simp] theorem sE:qk t u vs β=(t vs β).bnd λc β1=>if c=true then .ok true β1 else u vs β1:=rfl
@[simp] theorem Ef (n:Bool):tN fa n vs β=(fa vs β).bnd λx β1=>.ok (if n then !yu x else yu x) β1:=rfl
@[simp] theorem D4:Er t fa fb vs β=(t vs β).bnd λc β1=>if c=true then fa vs β1 else fb vs β1:=rfl
@[simp] theorem lC (c:Bool){β1:Int}(h:fa vs β=.ok (.bool c) β1):iA fa vs β=.ok c β1:=by unfold iA;rw[h];rfl
@[simp] theorem qO:vl []= []:=rfl
@[simp] theorem nM (s:Sl):vl (s :: env)=s.val :: vl env:=rfl
@[simp] theorem sf (d:D):(Sl.fz d).val=.da d:=rfl
@[simp] theorem DE (d:D):(Sl.ow d).val=.da d:=rfl
@[simp] theorem DP:Sl.no.val=.no:=rfl
@[simp] theorem DH:Sl.bx.val=.bx:=rfl
@[simp] theorem Dc:aL [] env=env:=rfl
@[simp] theorem Ck:aL (i :: L) env=aL L (fO env i):=rfl
@[simp] theorem C1:aI m m' env β=(match m env β with
 | .nx env' β'=>m' env' β'
 |r=>r):=rfl
@[simp] theorem Du:kM L t m m' env β=toS (t (vl env) β) λc β'=>if c=true then m (aL L env) β' else m' (aL L env) β':=rfl
@[simp] theorem yr:cA f env β=toS (f (vl env) β) λd β'=>.rt d false β':=rfl
@[simp] theorem CW:qd f env β=toS (f (vl env) β) λd β'=>.rt d true β':=rfl
@[simp] theorem Ds:nk env β=.nx env β:=rfl
@[simp] theorem tS:bh i L f env β=toS (f (vl env) β) λd β'=>.nx ((aL L env).set i (.fz d)) β':=rfl
@[simp] theorem x9:iG i L f env β=toS (f (vl env) β) λd β'=>.nx ((aL L env).set i (.ow d)) β':=rfl
@[simp] theorem v9:wM L f env β=toS (f (vl env) β) λ_ β'=>.nx (aL L env) β':=rfl
end
def ay {m m':SF}{env env':En}{β β':Int}(h:m env β=.nx env' β'):aI m m' env β=m' env' β':=by unfold aI;rw[h]
def sP {m m':SF}{env:En}{β β':Int}{d:D}{b:Bool}(h:m env β=.rt d b β'):aI m m' env β=.rt d b β':=by unfold aI;rw[h]
def qH {L:List Nat}{t:VF Bool}{m m':SF}{env:En}{β β':Int}(h:t (vl env) β=.ok true β'):kM L t m m' env β=m (aL L env) β':=by unfold kM;rw[h];rfl
def jq {L:List Nat}{t:VF Bool}{m m':SF}{env:En}{β β':Int}(h:t (vl env) β=.ok false β'):kM L t m m' env β=m' (aL L env) β':=by unfold kM;rw[h];rfl
def bA {F:List D->FR}{fr:VF (List D)}{vs:List Nv}{β β1:Int}{ds:List D}{d:D}{b:Bool}(h:fr vs β=.ok ds β1)(e:F ds=.ok d b):aF F fr vs β=.ok d β1:=by unfold aF;rw[h];dsimp only[R.bnd];rw[e]
def p8 {F:List D->FR}{fr:VF (List D)}{vs:List Nv}{β β1:Int}{ds:List D}{d:D}(h:fr vs β=.ok ds β1)(e:F ds=.ok d true):my F fr vs β=.ok d β1:=by unfold my;rw[h];dsimp only[R.bnd];rw[e]
def dH {fa:VF D}{g:D->Option D}{vs:List Nv}{β β1:Int}{x d:D}(h:fa vs β=.ok x β1)(e:g x=some d):f1 fa g vs β=.ok d β1:=by unfold f1;rw[h];dsimp only[R.bnd];rw[e];rfl
def aH {fa fb:VF D}{g:D->D->Option D}{vs:List Nv}{β β1 β2:Int}{x y d:D}(h:fa vs β=.ok x β1)(h':fb vs β1=.ok y β2)(e:g x y=some d):f2 fa fb g vs β=.ok d β2:=by unfold f2;rw[h];dsimp only[R.bnd];rw[h'];dsimp only[R.bnd];rw[e];rfl
def kZ {i:Nat}{F:List D->Int->FB}{fr:VF (List D)}{vs:List Nv}{β β1 β2:Int}{ds:List D}{d:D}{b:Bool}(hi:rZ vs i=true)(h:fr vs β=.ok ds β1)(e:F ds β1=.ok d b β2):kY i F fr vs β=.ok d β2:=by unfold kY;rw[EI hi,h];dsimp only[R.bnd];rw[e]
def BD {f0:VF D}{F:List D->Int->FB}{n:Int}{vs:List Nv}{β β1 z β2:Int}{d:D}{b:Bool}(h:f0 vs β=.ok (.list [.int z]) β1)(e:F [.int n] z=.ok d b β2):C4 f0 F n vs β=.ok d β1:=by unfold C4;rw[h];dsimp only[R.bnd,wc];rw[e]
def sz (n:Nat)(h:n<=1000):n<=sizeLine:=by rw[Fl];omega
def CK (n:Nat)(h:n<=1000):n < sizeLine:=by rw[Fl];omega
def km {fr:VF (List D)}{vs:List Nv}{β β1:Int}{ds:List D}(h:fr vs β=.ok ds β1)(hz:ds.length<=1000):c8 fr vs β=.ok (.tuple ds) β1:=by unfold c8;rw[h];exact EI (sz _ hz)
def eV {fr:VF (List D)}{vs:List Nv}{β β1:Int}{ds:List D}(h:fr vs β=.ok ds β1)(hz:ds.length<=1000):bC fr vs β=.ok (.list ds) β1:=by unfold bC;rw[h];exact EI (sz _ hz)
def xW {i:Nat}{env:En}{β:Int}{g:List D->Option (List D)}{ds es:List D}(h:env[i]? =some (.ow (.list ds)))(e:g ds=some es):BQ i env β g=.nx (env.set i (.ow (.list es))) β:=by unfold BQ;rw[h];dsimp only;rw[e]
def nv {i:Nat}{L:List Nat}{f:VF D}{env:En}{β β':Int}{ds:List D}{d:D}(hi:env[i]? =some (.ow (.list ds)))(hf:f (vl env) β=.ok d β')(hL:(aL L env)[i]? =some (.ow (.list ds)))(hz:ds.length<=1000):jv i L f env β=.nx ((aL L env).set i (.ow (.list (ds ++ [d])))) β':=by
 unfold jv
 rw[EI (by rw[hi];rfl),hf]
 exact xW hL (EI (CK _ hz))
def se {i j:Nat}{L:List Nat}{f:VF D}{env:En}{β β':Int}{ds es es':List D}{k d:D}(hi:env[i]? =some (.ow (.list ds)))(hj:env[j]? =some (.ow (.list es)))(hij:i≠j)(hf:f (vl env) β=.ok k β')(hL:aL L env=env)(hp:ub es k=some (d,es'))(hz:ds.length<=1000):fV i j L f env β=.nx ((env.set j (.ow (.list es'))).set i (.ow (.list (ds ++ [d])))) β':=by
 unfold fV
 rw[EI ⟨by rw[hi];rfl,by rw[hj];rfl,hij⟩,hf,hL]
 dsimp only[toS]
 rw[hj]
 dsimp only
 rw[hp]
 exact xW (by rw[E1 (Ne.symm hij)];exact hi) (EI (CK _ hz))
def dI {α:Type}{own:Nat}{ixs:List Nat}{t:Tg}{fi:VF (List D)}{fe:VF D}{vs:List Nv}{β β1:Int}{l:List α}{e:α->D}(h:α->D)(hi:fi vs β=.ok (l.map e) β1)(hz:l.length<=1000)
  (hh:∀x,x∈l->∃vs1,pj t (e x) (eQ own ixs vs)=some vs1/\fe vs1 β1=.ok (h x) β1):aY own ixs t fi qK fe vs β=.ok (.list (l.map h)) β1:=by
 unfold aY
 rw[hi]
 dsimp only[R.bnd]
 rw[EI (sz _ (by rw[EM];exact hz))]
 have key:∀m:List α,(∀x,x∈m->x∈l)->fI t qK fe (eQ own ixs vs) (m.map e) β1=.ok (m.map h) β1:=by
  intro m
  induction m with
  |nil=>intro _;rfl
  |cons x m ih=>
   intro hm
   obtain⟨vs1,e1,e2⟩:=hh x (hm x (EL ..))
   rw[Fw]
   unfold fI
   rw[e1]
   dsimp only
   show (R.ok true β1).okb _=_
   dsimp only[R.okb]
   rw[EI rfl,e2]
   dsimp only
   rw[ih λy hy=>hm y (EK _ hy)];rfl
 rw[key l λ_ h=>h];rfl
def iP {α:Type}{own:Nat}{ixs:List Nat}{t:Tg}{fi:VF (List D)}{ft:VF Bool}{fe:VF D}{vs:List Nv}{β β1:Int}{l:List α}{e:α->D}(g:α->Bool)(h:α->D)(hi:fi vs β=.ok (l.map e) β1)(hz:l.length<=1000)
  (hh:∀x,x∈l->∃vs1,pj t (e x) (eQ own ixs vs)=some vs1/\ft vs1 β1=.ok (g x) β1/\(g x=true->fe vs1 β1=.ok (h x) β1)):aY own ixs t fi ft fe vs β=.ok (.list ((l.filter g).map h)) β1:=by
 unfold aY
 rw[hi]
 dsimp only[R.bnd]
 rw[EI (sz _ (by rw[EM];exact hz))]
 have key:∀m:List α,(∀x,x∈m->x∈l)->fI t ft fe (eQ own ixs vs) (m.map e) β1=.ok ((m.filter g).map h) β1:=by
  intro m
  induction m with
  |nil=>intro _;rfl
  |cons x m ih=>
   intro hm
   obtain⟨vs1,e1,e2,e3⟩:=hh x (hm x (EL ..))
   have ih:=ih λy hy=>hm y (EK _ hy)
   rw[Fw]
   unfold fI
   rw[e1]
   dsimp only
   rw[e2]
   dsimp only[R.okb]
   cases q:g x with
   |true=>
    rw[EI rfl,e3 q]
    dsimp only
    rw[ih,Gw q];rfl
   |false=>
    rw[EN E8,ih,Gx (by rw[q];exact E8)]
 rw[key l λ_ h=>h];rfl
theorem dX {t:Tg}{m:SF}(Pv:Nat->En->Int->Prop):∀{ds:List D} {k:Nat} {env:En} {β:Int},Pv k env β->
  (∀i d env β,ds[i]? =some d->Pv (k + i) env β->∃env1,dg t d env=some env1/\∃env2 β2,m env1 β=.nx env2 β2/\Pv (k + i + 1) env2 β2)->∃env' β',jL t m ds env β=.nx env' β'/\Pv (k + ds.length) env' β'
 | [],k,env,β,h0,_=>⟨env,β,rfl,h0⟩
 |d :: ds,k,env,β,h0,hs=>by
  obtain⟨env1,e1,env2,β2,e2,h1⟩:=hs 0 d env β rfl h0
  obtain⟨env',β',e3,h2⟩:=dX Pv (t:=t) (m:=m) (ds:=ds) (k:=k + 1) h1 λi d' en be hi hp=>by
   have:=hs (i + 1) d' en be (by simpa using hi) (by rw[show k + (i + 1)=k + 1 + i by omega];exact hp)
   rw[show k + (i + 1) + 1=k + 1 + i + 1 by omega] at this
   exact this
  refine⟨env',β',?_,by rw[EZ,show k + (ds.length + 1)=k + 1 + ds.length by omega];exact h2⟩
  unfold jL
  rw[e1]
  dsimp only
  rw[e2]
  exact e3
theorem fT {L:List Nat}{t:VF Bool}{m:SF}(Pv:Nat->En->Int->Prop)(Dn:En->Int->Prop):∀{n k:Nat} {env:En} {β:Int},k < n->Pv k env β->
  (∀k env β,Pv k env β->∃c β1,t (vl env) β=.ok c β1/\((c=false/\Dn (aL L env) β1)\/(c=true/\∃env2 β2 k',m (aL L env) β1=.nx env2 β2/\k' < k/\Pv k' env2 β2)))->∃env' β',fw L t m n env β=.nx env' β'/\Dn env' β'
 | 0,k,env,β,hk,_,_=>by omega
 |n + 1,k,env,β,hk,h0,hs=>by
  obtain⟨c,β1,e1,hc⟩:=hs k env β h0
  unfold fw
  rw[e1]
  dsimp only[toS]
  rcases hc with⟨rfl,hd⟩ | ⟨rfl,env2,β2,k',e2,hl,h1⟩
  ·exact⟨_,_,rfl,hd⟩
  ·rw[EI rfl,e2]
   exact fT Pv Dn (n:=n) (k:=k') (by omega) h1 hs
end L2
namespace RM
open PySem L2
def lg:SF:=(cA (dA (f1 (gv 0) (jc "int")) (f1 (f1 (gv 0) (jc "bool")) xN)))
def lD (aV:List D->FR):SF:=(cA (dA (aF aV (aa (gv 0) aq)) (gm (cst (.int 0)) (gv 0) (gv 1) wJ AR)))
def mM (aV:List D->FR):SF:=(cA (dA (aF aV (aa (gv 0) aq)) (gm (cst (.int 1)) (gv 0) (cst (.int 8)) wJ wJ)))
def mq (cv:List D->FR):SF:=(aI (kM ([] ++ ([] ++ [])) (qk (rf (mi (f1 (gv 0) (jc "tuple")))) (iA (f2 (f1 (gv 0) fh) (cst (.int 2)) (fF true))))
 (cA (cst (.bool false)))
 nk)
 (cA (dA (aF cv (aa (f2 (gv 0) (cst (.int 0)) dB) (aa (gv 1) aq))) (aF cv (aa (f2 (gv 0) (cst (.int 1)) dB) (aa (gv 1) aq))))))
def oK:SF:=(qd (aY 1 [0] (.nm 0) (fC (f2 (gv 0) (gv 0) cY)) qK (c8 (aa (f2 (gv 0) (gv 1) wz) (aa (f2 (gv 0) (gv 1) i4) aq)))))
def kE:SF:=(cA (f1 (aY 2 [] (.two 0 1) (cT (gv 0)) qK (f2 (gv 0) (gv 1) (fF false))) (c9 λbs=>bs.any id)))
def dG (dE dD fJ cP:List D->FR):SF:=(aI (kM ([] ++ ([] ++ [])) (qk (rf (mi (f1 (gv 0) (jc "tuple")))) (iA (f2 (f1 (gv 0) fh) (cst (.int 2)) (fF true))))
 (cA (cst (.bool false)))
 nk)
 (aI (bh 1 ([] ++ []) (f2 (gv 0) (cst (.int 0)) dB))
 (aI (bh 2 ([] ++ []) (f2 (gv 0) (cst (.int 1)) dB))
 (aI (kM (([1] ++ []) ++ []) (qk (rf (mi (aF dE (aa (gv 1) aq)))) (rf (mi (f1 (gv 2) (jc "tuple")))))
 (cA (cst (.bool false)))
 nk)
 (aI (kM ([] ++ [1]) (rf (mi (f1 (aY 1 [1] (.nm 0) (cT (gv 2)) qK (aF dD (aa (gv 0) (aa (gv 1) aq)))) (c9 λbs=>bs.all id))))
 (cA (cst (.bool false)))
 nk)
 (cA (dA (f2 (gv 2) (aF fJ (aa (gv 1) (aa (gv 2) aq))) (fF false)) (f1 (aF cP (aa (gv 2) aq)) xN))))))))
def dv (cL:List D->FR):SF:=(kM ([0] ++ []) (rf (mi (aF cL (aa (gv 0) aq))))
 (λenv β=>toS ((aa (cst (.str "this is no order")) aq) (vl env) β) λds _=>if ds.length<=sizeLine then .exc "NoOrder" else .bad)
 nk)
def j5:SF:=(cA (dA (f2 (gv 1) (gv 2) (fF true)) (dA (f2 (c8 (aa (gv 1) (aa (gv 2) aq))) (f2 (gv 0) (cst (.int 1)) dB) (yd true)) (f2 (c8 (aa (gv 2) (aa (gv 1) aq))) (f2 (gv 0) (cst (.int 1)) dB) (yd true)))))
def ck (cx:List D->FR):SF:=(aI (iG 2 [] (bC aq))
 (aI (cJ (.nm 3) [1] (cT (gv 1))
 (cJ (.nm 4) ((([] ++ []) ++ []) ++ ([] ++ [])) (j4 (f2 (f2 (gv 3) (f1 (cst (.int 1)) wV) dB) (cst (.int 1)) b5) (f2 (gv 0) (cst (.int 0)) dB))
 (kM ([] ++ [0,4]) (mi (f1 (aY 1 [0,4] (.nm 0) (cT (gv 3)) qK (aF cx (aa (gv 1) (aa (gv 0) (aa (gv 2) aq))))) (c9 λbs=>bs.all id)))
 (jv 2 ([] ++ ([4] ++ [])) (f2 (gv 3) (bC (aa (gv 4) aq)) gk))
 nk)))
 (pM 2)))
def dw (bS ba:List D->FR):SF:=(aI (wM ([0] ++ []) (aF bS (aa (gv 0) aq)))
 (aI (bh 1 (([] ++ []) ++ []) (aY 1 [] (.nm 0) (fC (f2 (gv 0) (cst (.int 0)) dB)) qK (bC (aa (gv 0) aq))))
 (aI (bh 2 [1] (gv 1))
 (aI (fw [] (mi (gv 2))
 (aI (bh 1 [2] (gv 2))
 (bh 2 ([0] ++ ([1] ++ [])) (aF ba (aa (gv 0) (aa (gv 1) aq))))) 1000)
 (cA (f2 (gv 1) (cst (.int 0)) dB))))))
def c4:SF:=(aI (kM ([] ++ []) (iA (f2 (gv 1) (f1 (gv 0) fh) AR))
 (cA (f2 (gv 0) (gv 1) dB))
 nk)
 (cA (cst (.int 0))))
def fP:SF:=(aI (bh 2 [] (bC (Ej [48271,69621,16807,39373,30269,40014,40692,50021,61687,71993,83869,95561,30307]))) (aI (bh 3 ((((([] ++ []) ++ []) ++ ([] ++ ([] ++ []))) ++ ([] ++ [])) ++ ([] ++ ([] ++ []))) (f2 (f2 (f2 (f2 (f2 (gv 0) (cst (.int 2147483647)) i4) (cst (.int 12345)) b5) (f2 (gv 2) (f2 (gv 1) (cst (.int 13)) i4) dB) cY) (f2 (cst (.int 977)) (gv 1) cY) b5) (f2 (cst (.int 7919)) (f2 (gv 1) (cst (.int 13)) wz) cY) b5))
 (aI (bh 3 ([] ++ []) (f2 (gv 3) (cst (.int 1000000007)) i4))
 (cA (f2 (f2 (f2 (f2 (gv 3) (gv 3) cY) (f2 (cst (.int 48271)) (gv 1) cY) b5) (cst (.int 1000000007)) i4) (cst (.int 7)) wz)))))
def gi (cy cS:List D->FR):SF:=(aI (bh 2 ([0] ++ ([1] ++ [])) (aF cy (aa (gv 0) (aa (gv 1) aq))))
 (aI (kM (([] ++ []) ++ []) (iA (f2 (f2 (gv 2) (cst (.int 2)) i4) (cst (.int 0)) (fF false)))
 (qd (bC (aa (f2 (f1 (gv 2) zp) (cst (.int 2)) wz) aq)))
 nk)
 (aI (bh 3 [] (cst (.int 0)))
 (aI (cJ (.nm 4) [] (fC (cst (.int 40)))
 (bh 3 (([] ++ []) ++ ([2] ++ ([4] ++ []))) (f2 (f2 (gv 3) (cst (.int 142857143)) cY) (aF cS (aa (gv 2) (aa (gv 4) aq))) b5)))
 (qd (bC (aa (gv 3) aq)))))))
def cg (aK:List D->Int->FB):SF:=(aI (iG 2 [] (f1 (gv 1) Ah))
 (aI (iG 3 [] (bC aq))
 (aI (fw ([] ++ []) (iA (f2 (gv 2) (bC aq) (fF true)))
 (fV 3 2 ([] ++ []) (kY 0 aK (aa (f1 (gv 2) fh) aq))) 1000)
 (pM 3))))
noncomputable def cW:SF:=(aI (bh 1 [] (f1 (gv 0) bG))
 (aI (bh 2 [] (f1 (cst (.int 1)) wV))
 (aI (fw ([] ++ []) (iA (f2 (gv 2) (f1 (gv 1) fh) (fF true)))
 (aI (bh 2 [] (f1 (gv 1) fh))
 (aI (bh 3 [] (bC aq))
 (aI (cJ (.two 4 5) [1] (cT (gv 1))
 (bh 3 ([] ++ ([] ++ [4])) (f2 (gv 3) (aY 2 [5,4] (.two 0 1) (cT (gv 1)) (iA (f2 (gv 0) (gv 2) (fF false))) (c8 (aa (gv 3) (aa (gv 1) aq)))) gk)))
 (bh 1 ([] ++ []) (f1 (f2 (gv 1) (gv 3) gk) bG))))) 1000)
 (cA (f1 (gv 1) w8)))))
def du (bI:List D->FR)(aK a8:List D->Int->FB):SF:=(aI (bh 2 ([] ++ ([1] ++ [])) (f2 (cst (.int 1)) (kY 0 aK (aa (gv 1) aq)) b5))
 (aI (bh 3 ([] ++ []) (kY 0 a8 (aa (f1 (gv 2) dY) aq)))
 (aI (bh 4 (([] ++ ([] ++ ([] ++ ([] ++ [])))) ++ ([] ++ [])) (f2 (bC (aa (cst (.int 2)) (aa (cst (.int 3)) (aa (cst (.int 4)) (aa (cst (.int 7)) aq))))) (kY 0 aK (aa (cst (.int 4)) aq)) dB))
 (aI (iG 5 [] (bC aq))
 (aI (cJ (.nm 6) [] (fC (gv 2))
 (cJ (.nm 7) (([] ++ []) ++ []) (j4 (f2 (gv 6) (cst (.int 1)) b5) (gv 2))
 (kM (([4] ++ []) ++ []) (iA (f2 (kY 0 aK (aa (gv 4) aq)) (cst (.int 0)) (fF false)))
 (jv 5 (([] ++ []) ++ (([] ++ []) ++ [])) (c8 (aa (f2 (gv 3) (gv 6) dB) (aa (f2 (gv 3) (gv 7) dB) aq))))
 nk)))
 (cA (c8 (aa (gv 2) (aa (aF bI (aa (gv 5) aq)) aq)))))))))
def jr:SF:=(cA (dA (f2 (gv 1) (gv 2) (fF true)) (dA (f2 (c8 (aa (gv 1) (aa (gv 2) aq))) (f2 (gv 0) (cst (.int 1)) dB) (yd true)) (f2 (c8 (aa (gv 2) (aa (gv 1) aq))) (f2 (gv 0) (cst (.int 1)) dB) (yd true)))))
def Cy:D->Bool
 | .int _=>true
 |_=>false
def gP:List D->FR
 | [d]=>if dJ d=true then .bad else .ok (.bool (Cy d)) false
 |_=>.bad
def nj {d:D}(h:dJ d=false):gP [d]=.ok (.bool (Cy d)) false:=EN (by rw[h];exact E8)
def zk (ds:List D)(h:gP ds≠.bad):bw 1 1 lg ds=gP ds:=by
 unfold gP at h
 split at h
 ·rename_i d
  cases q:dJ d with
  |true=>rw[q] at h;exact absurd rfl h
  |false=>
   rw[nj q]
   have e1:jc "int" d=some (.bool (xT d "int")):=by unfold jc;rw[q];rfl
   have e2:jc "bool" d=some (.bool (xT d "bool")):=by unfold jc;rw[q];rfl
   show fin (cA (dA (f1 (gv 0) (jc "int")) (f1 (f1 (gv 0) (jc "bool")) xN)) [.fz d] 0)=_
   unfold cA dA f1 gv
   simp only[nM,qO,sf,List.getElem?_cons_zero,qV,nH,iQ,e1,e2]
   cases d <;> rfl
 ·exact absurd rfl h
def xJ (d:D)(n:Int):Bool:=match d with
 | .int i=>decide (0<=i/\i < n)
 |_=>false
def gj:List D->FR
 | [d,.int n]=>if dJ d=true then .bad else .ok (.bool (xJ d n)) false
 |_=>.bad
def zw {d:D}{n:Int}(h:dJ d=false):gj [d,.int n]=.ok (.bool (xJ d n)) false:=EN (by rw[h];exact E8)
def pw {i lo n:Int}{vs:List Nv}{β:Int}{fa fb fc:VF D}{g':D->D->Option D}{q:Bool}(ha:fa vs β=.ok (.int lo) β)(hb:fb vs β=.ok (.int i) β)(hc:fc vs β=.ok (.int n) β)(hq:g' (.int i) (.int n)=some (.bool q)):gm fa fb fc wJ g' vs β=.ok (.bool (decide (lo<=i) && q)) β:=by
 unfold gm
 rw[ha];dsimp only[R.bnd];rw[hb];dsimp only[R.bnd]
 show (match (some (PyData.bool (decide (lo<=i))):Option D) with
  |some (.bool true)=>_
  |some (.bool false)=>_
  |_=>_)=_
 by_cases h:lo<=i
 ·rw[ET h]
  dsimp only
  rw[hc]
  dsimp only[R.bnd]
  rw[hq];rfl
 ·rw[E3 h];rfl
def zo (ds:List D)(h:gj ds≠.bad):bw 2 2 (lD gP) ds=gj ds:=by
 unfold gj at h
 split at h
 ·rename_i d n
  cases q:dJ d with
  |true=>rw[q] at h;exact absurd rfl h
  |false=>
   rw[zw q]
   show fin (cA (dA (aF gP (aa (gv 0) aq)) (gm (cst (.int 0)) (gv 0) (gv 1) wJ AR)) [.fz d,.fz (.int n)] 0)=_
   unfold cA dA aF
   simp only[nM,qO,sf,bO,sZ,Ak,List.getElem?_cons_zero,qV,nH,iQ,nj q]
   cases d with
   |int i=>
    show fin (toS (gm (cst (.int 0)) (gv 0) (gv 1) wJ AR [.da (.int i),.da (.int n)] 0) _)=_
    rw[pw (lo:=0) (i:=i) (n:=n) rfl rfl rfl rfl]
    show FR.ok (.bool (decide (0<=i) && decide (i < n))) false=.ok (.bool (decide (0<=i/\i < n))) false
    rw[Bool.decide_and]
   |_=>rfl
 ·exact absurd rfl h
def zZ (d:D):Bool:=match d with
 | .int i=>decide (1<=i/\i<=8)
 |_=>false
def iH:List D->FR
 | [d]=>if dJ d=true then .bad else .ok (.bool (zZ d)) false
 |_=>.bad
def xV {d:D}(h:dJ d=false):iH [d]=.ok (.bool (zZ d)) false:=EN (by rw[h];exact E8)
def Au (ds:List D)(h:iH ds≠.bad):bw 1 1 (mM gP) ds=iH ds:=by
 unfold iH at h
 split at h
 ·rename_i d
  cases q:dJ d with
  |true=>rw[q] at h;exact absurd rfl h
  |false=>
   rw[xV q]
   show fin (cA (dA (aF gP (aa (gv 0) aq)) (gm (cst (.int 1)) (gv 0) (cst (.int 8)) wJ wJ)) [.fz d] 0)=_
   unfold cA dA aF
   simp only[nM,qO,sf,bO,sZ,Ak,List.getElem?_cons_zero,qV,nH,iQ,nj q]
   cases d with
   |int i=>
    show fin (toS (gm (cst (.int 1)) (gv 0) (cst (.int 8)) wJ wJ [.da (.int i)] 0) _)=_
    rw[pw (lo:=1) (i:=i) (n:=8) rfl rfl rfl rfl]
    show FR.ok (.bool (decide (1<=i) && decide (i<=8))) false=.ok (.bool (decide (1<=i/\i<=8))) false
    rw[Bool.decide_and]
   |_=>rfl
 ·exact absurd rfl h
def pairF:List D->FR
 | [d,.int n]=>(match ku d with
  |some p=>.ok (.bool (decide ((0<=p.1/\p.1 < n)/\(0<=p.2/\p.2 < n)))) false
  |none=>.bad)
 |_=>.bad
def wI (p:Pr)(n:Int):pairF [az p,.int n]=.ok (.bool (decide ((0<=p.1/\p.1 < n)/\(0<=p.2/\p.2 < n)))) false:=rfl
def AG (ds:List D)(h:pairF ds≠.bad):bw 2 2 (mq gj) ds=pairF ds:=by
 unfold pairF at h
 split at h
 ·rename_i d n
  cases q:ku d with
  |none=>rw[q] at h;exact absurd rfl h
  |some p=>
   obtain rfl:=p0 q
   rw[wI]
   obtain⟨a,b⟩:=p
   show fin (toS (dA (aF gj (aa (f2 (gv 0) (cst (.int 0)) dB) (aa (gv 1) aq))) (aF gj (aa (f2 (gv 0) (cst (.int 1)) dB) (aa (gv 1) aq))) [.da (.tuple [.int a,.int b]),.da (.int n)] 0) λd β'=>.rt d false β')=_
   have e1:aF gj (aa (f2 (gv 0) (cst (.int 0)) dB) (aa (gv 1) aq)) [.da (.tuple [.int a,.int b]),.da (.int n)] 0=.ok (.bool (decide (0<=a/\a < n))) 0:=rfl
   have e2:aF gj (aa (f2 (gv 0) (cst (.int 1)) dB) (aa (gv 1) aq)) [.da (.tuple [.int a,.int b]),.da (.int n)] 0=.ok (.bool (decide (0<=b/\b < n))) 0:=rfl
   unfold dA
   rw[e1]
   dsimp only[R.bnd]
   by_cases c:0<=a/\a < n
   ·rw[ET c,e2]
    show FR.ok (.bool (decide (0<=b/\b < n))) false=.ok (.bool (decide ((0<=a/\a < n)/\(0<=b/\b < n)))) false
    simp[c]
   ·rw[E3 c]
    show FR.ok (.bool false) false=.ok (.bool (decide ((0<=a/\a < n)/\(0<=b/\b < n)))) false
    simp[c]
 ·exact absurd rfl h
def aE (n:Nat)(l:List Pr):D:=.tuple [.int n,.tuple (l.map az)]
open Classical in
noncomputable def mn (f:Nat->List Pr->FR):D->FR:=λd=>if h:∃nl:Nat×List Pr,d=aE nl.1 nl.2/\OM.Ord nl.1 nl.2 then f (Classical.choose h).1 (Classical.choose h).2 else .bad
def yX {p q:Pr}(h:az p=az q):p=q:=by
 obtain⟨a,b⟩:=p
 obtain⟨c,d⟩:=q
 unfold az at h
 simp at h
 rw[h.1,h.2]
theorem j6:∀{l m:List Pr},l.map az=m.map az->l=m
 | [],[],_=>rfl
 | [],_ :: _,h=>by cases h
 |_ :: _,[],h=>by cases h
 |p :: l,q :: m,h=>by
  simp only[Fw,List.cons.injEq] at h
  rw[yX h.1,j6 h.2]
def vV {n m:Nat}{l k:List Pr}(h:aE n l=aE m k):n=m/\l=k:=by
 unfold aE at h
 simp only[PyData.tuple.injEq,List.cons.injEq,int.injEq,and_true] at h
 exact⟨by omega,j6 h.2⟩
def pe {f:Nat->List Pr->FR}{n:Nat}{l:List Pr}(O:OM.Ord n l):mn f (aE n l)=f n l:=by
 unfold mn
 have h:∃nl:Nat×List Pr,aE n l=aE nl.1 nl.2/\OM.Ord nl.1 nl.2:=⟨(n,l),rfl,O⟩
 rw[dif_pos h]
 obtain⟨e,_⟩:=Classical.choose_spec h
 obtain⟨e1,e2⟩:=vV e
 rw[<-e1,<-e2]
def pX {f:Nat->List Pr->FR}{d:D}(h:mn f d≠.bad):∃n l,d=aE n l/\OM.Ord n l:=by
 unfold mn at h
 by_cases q:∃nl:Nat×List Pr,d=aE nl.1 nl.2/\OM.Ord nl.1 nl.2
 ·obtain⟨nl,e,O⟩:=q;exact⟨nl.1,nl.2,e,O⟩
 ·rw[dif_neg q] at h;exact absurd rfl h
noncomputable def bR:List D->FR
 | [.int n,d]=>(match gK d with
  |some ds=>(match dc ds with
   |some ps=>(open Classical in if 1<=n/\n<=8/\OM.Wn n.toNat ps then .ok (.tuple ((OM.bq n.toNat (OM.Tr (OM.Mem ps))).map az)) false else .bad)
   |none=>.bad)
  |none=>.bad)
 |_=>.bad
def xo {n:Nat}{ps:List Pr}(h1:1<=n)(h8:n<=8)(w:OM.Wn n ps):bR [.int n,.tuple (ps.map az)]=.ok (.tuple ((OM.bq n (OM.Tr (OM.Mem ps))).map az)) false:=by
 unfold bR
 simp only[gK,dW]
 rw[EI ⟨by omega,by omega,by rw[FJ];exact w⟩,FJ]
def gH:List D->FR
 | [.tuple ds]=>(match dc ds with
  |some ps=>if ps.length<=1000 then .ok (.bool (ps.any λp=>decide (p.1=p.2))) false else .bad
  |none=>.bad)
 |_=>.bad
theorem iz {α:Type}(f:α->Bool):∀l:List α,g8 (l.map λx=>PyData.bool (f x))=some (l.map f)
 | []=>rfl
 |x :: l=>by
  show (g8 (l.map λx=>PyData.bool (f x))).map (f x :: ·)=_
  rw[iz f l];rfl
def BM (ds:List D)(h:gH ds≠.bad):bw 1 1 kE ds=gH ds:=by
 unfold gH at h
 split at h
 ·rename_i ds
  cases q:dc ds with
  |none=>rw[q] at h;exact absurd rfl h
  |some ps=>
   rw[q] at h
   dsimp only at h
   by_cases hz:ps.length<=1000
   case neg=>rw[EN hz] at h;exact absurd rfl h
   obtain rfl:=ic q
   have e:gH [.tuple (ps.map az)]=.ok (.bool (ps.any λp=>decide (p.1=p.2))) false:=by
    unfold gH;simp only[dW];rw[EI hz]
   rw[e]
   have ec:aY 2 [] (.two 0 1) (cT (gv 0)) qK (f2 (gv 0) (gv 1) (fF false)) [.da (.tuple (ps.map az))] 0=.ok (.list (ps.map λp=>PyData.bool (decide (p.1=p.2)))) 0:=by
    exact dI (l:=ps) (e:=az) (λp=>PyData.bool (decide (p.1=p.2))) rfl hz λp hp=>⟨_,rfl,rfl⟩
   show fin (toS ((aY 2 [] (.two 0 1) (cT (gv 0)) qK (f2 (gv 0) (gv 1) (fF false)) [.da (.tuple (ps.map az))] 0).bnd λx β1=>R.of (c9 (λbs=>bs.any id) x) β1) λd β'=>.rt d false β')=_
   rw[ec]
   simp only[iQ,c9]
   rw[iz]
   simp[fin,List.any_map]
 ·exact absurd rfl h
def mR (p:Pr):SeqAt.shaped (az p)=true:=rfl
theorem sJ:∀l:List Pr,PyData.canLayAll0 (l.map az)=true
 | []=>rfl
 |p :: l=>by
  show ((az p).canLay0 && PyData.canLayAll0 (l.map az))=true
  rw[sJ l];rfl
theorem su:∀l:List Pr,PyData.depthAll (l.map az)<=1
 | []=>by show (0:Nat)<=1;omega
 |p :: l=>by
  show max (az p).depth (PyData.depthAll (l.map az))<=1
  have h1:(az p).depth=1:=by simp[az,PyData.depth,PyData.depthAll]
  have h2:=su l
  omega
def kz (l:List Pr):SeqAt.shaped (.tuple (l.map az))=true:=by
 unfold SeqAt.shaped
 have h1:(PyData.tuple (l.map az)).canLay0=true:=by simp only[PyData.canLay0];exact sJ l
 have h2:(PyData.tuple (l.map az)).depth<=64:=by simp only[PyData.depth];have:=su l;omega
 rw[h1,ET h2];rfl
def xr (p q:Pr):PyData.eqv (az p) (az q)=decide (p=q):=by
 obtain⟨a,b⟩:=p
 obtain⟨c,d⟩:=q
 simp only[az,PyData.eqv,PyData.eqvAll,Bool.and_true]
 rw[FY]
 simp
theorem si:∀l m:List Pr,PyData.eqvAll (l.map az) (m.map az)=decide (l=m)
 | [],[]=>rfl
 | [],_ :: _=>rfl
 |_ :: _,[]=>rfl
 |p :: l,q :: m=>by
  show (PyData.eqv (az p) (az q) && PyData.eqvAll (l.map az) (m.map az))=_
  rw[xr,si l m,FY]
  simp
def tG {n:Nat}{l:List Pr}(O:OM.Ord n l):l.length < 64:=by
 have h8:=O.hi
 have e:=O.closed
 by_cases h:l.length < 64
 ·exact h
 ·exfalso
  have h1:l.length<=n * n:=by rw[<-e];exact OM.wL _ _
  have h2:n * n<=64:=Gn h8 h8
  have hn:n=8:=by
   by_cases h7:n<=7
   ·have:n * n<=7 * 7:=Gn h7 h7
    omega
   ·omega
  have hlen:l.length=n * n:=by subst hn;omega
  have hg:l=OM.dO n:=by
   refine OM.sub_eq O.ris (OM.p5 n) (λx hx=>OM.dR.mpr (O.wn x hx)) ?_
   rw[hlen];unfold OM.dO;simp
  have:((0:Int),(0:Int))∈l:=by rw[hg];exact OM.dR.mpr ⟨⟨by omega,by omega⟩,by omega,by omega⟩
  exact O.irr 0 this
def xO {n:Nat}(h1:1<=n)(h8:n<=8):iH [.int n]=.ok (.bool true) false:=by
 rw[xV rfl]
 show FR.ok (.bool (decide (1<=(n:Int)/\(n:Int)<=8))) false=_
 rw[ET (by omega)]
def xm (neg:Bool)(l m:List Pr):fF neg (.tuple (l.map az)) (.tuple (m.map az))=some (.bool (if neg then !decide (l=m) else decide (l=m))):=by
 unfold fF
 rw[kz,kz]
 simp only[Hd,FH,PyData.eqv,si]
def zj {n:Nat}{l:List Pr}(O:OM.Ord n l):gH [.tuple (l.map az)]=.ok (.bool false) false:=by
 have hl:=tG O
 unfold gH
 simp only[dW]
 rw[EI (by omega)]
 have:(l.any λp=>decide (p.1=p.2))=false:=by
  rw[List.any_eq_false]
  intro p hp
  simp only[Gf]
  intro e
  obtain⟨a,b⟩:=p
  simp only at e
  subst e
  exact O.irr a hp
 rw[this]
def t7 {n:Nat}{l:List Pr}(O:OM.Ord n l):bw 3 1 (dG iH pairF bR gH) [aE n l]=.ok (.bool true) false:=by
 have hl:=tG O
 show fin (dG iH pairF bR gH [.fz (aE n l),.no,.no] 0)=_
 unfold dG
 rw[ay (env':=[.fz (aE n l),.no,.no]) (β':=0) (by rfl)]
 rw[ay (env':=[.fz (aE n l),.fz (.int n),.no]) (β':=0) (by rfl)]
 rw[ay (env':=[.fz (aE n l),.fz (.int n),.fz (.tuple (l.map az))]) (β':=0) (by rfl)]
 have e4:aF iH (aa (gv 1) aq) [.da (aE n l),.da (.int n),.da (.tuple (l.map az))] 0=.ok (.bool true) 0:=bA rfl (xO O.lo O.hi)
 rw[ay (env':=[.fz (aE n l),.fz (.int n),.fz (.tuple (l.map az))]) (β':=0) ?h4]
 case h4=>
  refine jq ?_
  show qk (rf (mi (aF iH (aa (gv 1) aq)))) _ [.da (aE n l),.da (.int n),.da (.tuple (l.map az))] 0=_
  rw[sE,om,oy,e4]
  rfl
 have e5:aY 1 [1] (.nm 0) (cT (gv 2)) qK (aF pairF (aa (gv 0) (aa (gv 1) aq))) [.da (aE n l),.da (.int n),.da (.tuple (l.map az))] 0=.ok (.list (l.map λ_=>PyData.bool true)) 0:=by
  refine dI (l:=l) (e:=az) (λ_=>PyData.bool true) rfl (by omega) λp hp=>⟨_,rfl,?_⟩
  refine bA (b:=false) (ds:=[az p,.int n]) rfl ?_
  rw[wI,ET (by have:=O.wn p hp;exact this)]
 rw[ay (env':=[.fz (aE n l),.fz (.int n),.fz (.tuple (l.map az))]) (β':=0) ?h5]
 case h5=>
  refine jq ?_
  show rf (mi (f1 (aY 1 [1] (.nm 0) (cT (gv 2)) qK (aF pairF (aa (gv 0) (aa (gv 1) aq)))) (c9 λbs=>bs.all id))) [.da (aE n l),.da (.int n),.da (.tuple (l.map az))] 0=_
  rw[om,oy,dH (d:=.bool true) e5 (by simp only[c9];rw[iz];simp)]
  rfl
 have e6:aF bR (aa (gv 1) (aa (gv 2) aq)) [.da (aE n l),.da (.int n),.da (.tuple (l.map az))] 0=.ok (.tuple (l.map az)) 0:=bA rfl (by rw[xo O.lo O.hi O.wn,O.closed])
 have e7:aF gH (aa (gv 2) aq) [.da (aE n l),.da (.int n),.da (.tuple (l.map az))] 0=.ok (.bool false) 0:=bA rfl (zj O)
 show fin (toS (dA (f2 (gv 2) (aF bR (aa (gv 1) (aa (gv 2) aq))) (fF false)) (f1 (aF gH (aa (gv 2) aq)) xN) [.da (aE n l),.da (.int n),.da (.tuple (l.map az))] 0) _)=_
 unfold dA
 rw[aH (d:=.bool true) (x:=.tuple (l.map az)) rfl e6 (by rw[xm];simp)]
 dsimp only[R.bnd]
 rw[dH (d:=.bool true) e7 rfl]
 rfl
noncomputable def cE:List D->FR
 | [d]=>mn (λ_ _=>.ok (.bool true) false) d
 |_=>.bad
def mD {n:Nat}{l:List Pr}(O:OM.Ord n l):cE [aE n l]=.ok (.bool true) false:=by simp only[cE];exact pe O
def rB (ds:List D)(h:cE ds≠.bad):bw 3 1 (dG iH pairF bR gH) ds=cE ds:=by
 unfold cE at h
 split at h
 ·obtain⟨n,l,rfl,O⟩:=pX h
  rw[t7 O,mD O]
 ·exact absurd rfl h
noncomputable def kC:List D->FR
 | [d]=>mn (λ_ _=>.ok .none false) d
 |_=>.bad
def xf {n:Nat}{l:List Pr}(O:OM.Ord n l):kC [aE n l]=.ok .none false:=by simp only[kC];exact pe O
def y2 (ds:List D)(h:kC ds≠.bad):bw 1 1 (dv cE) ds=kC ds:=by
 unfold kC at h
 split at h
 ·obtain⟨n,l,rfl,O⟩:=pX h
  rw[xf O]
  have e:aF cE (aa (gv 0) aq) [.da (aE n l)] 0=.ok (.bool true) 0:=bA (ds:=[aE n l]) rfl (mD O)
  show fin (dv cE [.fz (aE n l)] 0)=_
  unfold dv
  rw[jq (β':=0)]
  ·rfl
  ·show rf (mi (aF cE (aa (gv 0) aq))) [.da (aE n l)] 0=_
   rw[om,oy,e];rfl
 ·exact absurd rfl h
abbrev bK (ns:List Int):D:=.dict [(.none,.list (ns.map int))]
def kx {i j:Int}(h: -(2 ^ 64) < i/\i < 2 ^ 64):cY (.int i) (.int j)=some (.int (i * j)):=EI (by dsimp only;rw[ET h.1,ET h.2];rfl)
def Ba {i j:Int}(h: -(2 ^ 64) < j/\j < 2 ^ 64):cY (.int i) (.int j)=some (.int (i * j)):=EI (by dsimp only;rw[ET h.1,ET h.2,Hd,Bool.or_true])
def kO {i j:Int}(h:0 < j):i4 (.int i) (.int j)=some (.int (i % j)):=EI (ET h)
def wo {i j:Int}(h:0 < j)(h2:j < 1073741824):wz (.int i) (.int j)=some (.int (i / j)):=EI (by dsimp only;rw[ET h,ET h2];rfl)
theorem iw {α β:Type}(f:α->β)(l:List α)(i:Int):iB (l.map f) i=(iB l i).map f:=by
 unfold iB
 rw[EM]
 cases uW l.length i with
 |none=>rfl
 |some j=>simp
def nK {α:Type}{l:List α}{k:Nat}(h:k < l.length):iB l (k:Int)=some l[k]:=ko (ED h)
def AH {fa fb:VF D}{vs:List Nv}{β β1 β2:Int}{i j:Int}(h:fa vs β=.ok (.int i) β1)(h':fb vs β1=.ok (.int j) β2):iA (f2 fa fb AR) vs β=.ok (decide (i < j)) β2:=lC _ _ _ _ (aH h h' rfl)
def je {neg:Bool}{fa fb:VF D}{vs:List Nv}{β β1 β2:Int}{i j:Int}(h:fa vs β=.ok (.int i) β1)(h':fb vs β1=.ok (.int j) β2):iA (f2 fa fb (fF neg)) vs β=.ok (if neg then !decide (i=j) else decide (i=j)) β2:=by
 refine lC _ _ _ _ (aH h h' ?_)
 cases neg <;> rfl
def AA (ns:List Int)(k:Nat):∃z,bw 2 2 c4 [bK ns,.int k]=.ok (.int z) false:=by
 show ∃z,fin (c4 [.fz (bK ns),.fz (.int k)] 0)=.ok (.int z) false
 unfold c4
 have e:iA (f2 (gv 1) (f1 (gv 0) fh) AR) [.da (bK ns),.da (.int k)] 0=.ok (decide ((k:Int) < (ns.map int).length)) 0:=AH rfl rfl
 by_cases h:k < ns.length
 ·refine⟨ns[k],?_⟩
  rw[ET (by simp;exact h)] at e
  rw[sP (d:=.int ns[k]) (b:=false) (β':=0)]
  ·rfl
  ·rw[qH e]
   show toS (f2 (gv 0) (gv 1) dB [.da (bK ns),.da (.int k)] 0) _=_
   rw[aH (x:=bK ns) (y:=.int k) (d:=.int ns[k]) (β1:=0) (β2:=0) rfl rfl]
   ·rfl
   ·show iB (ns.map int) (k:Int)=_
    rw[iw,nK h];rfl
 ·refine⟨0,?_⟩
  rw[E3 (by simp;omega)] at e
  rw[ay (env':=[.fz (bK ns),.fz (.int k)]) (β':=0)]
  ·rfl
  ·rw[jq e];rfl
noncomputable def sX:List D->FR:=bw 2 2 c4
noncomputable def w9:List D->FR:=bw 4 2 fP
abbrev r6:List Int:=[48271,69621,16807,39373,30269,40014,40692,50021,61687,71993,83869,95561,30307]
def BU (c k:Int):∃z,w9 [.int c,.int k]=.ok (.int z) false:=by
 show ∃z,fin (fP [.fz (.int c),.fz (.int k),.no,.no] 0)=.ok (.int z) false
 unfold fP
 rw[ay (env':=[.fz (.int c),.fz (.int k),.fz (.list (r6.map int)),.no]) (β':=0) (by rfl)]
 obtain⟨j,hj⟩:∃j:Nat,k % 13=j:=⟨(k % 13).toNat,by omega⟩
 have hj13:j < r6.length:=by show j < 13;omega
 have e1:f2 (f2 (f2 (f2 (f2 (gv 0) (cst (.int 2147483647)) i4) (cst (.int 12345)) b5) (f2 (gv 2) (f2 (gv 1) (cst (.int 13)) i4) dB) cY) (f2 (cst (.int 977)) (gv 1) cY) b5) (f2 (cst (.int 7919)) (f2 (gv 1) (cst (.int 13)) wz) cY) b5 [.da (.int c),.da (.int k),.da (.list (r6.map int)),.no] 0
   =.ok (.int ((c % 2147483647 + 12345) * r6[j] + 977 * k + 7919 * (k / 13))) 0:=by
  refine aH (aH (aH (aH (aH (x:=.int c) (y:=.int 2147483647) rfl rfl (kO (by omega))) rfl rfl) (aH (x:=.list (r6.map int)) rfl (aH (x:=.int k) (y:=.int 13) rfl rfl (kO (by omega))) (d:=.int r6[j]) ?_) (kx ⟨by omega,by omega⟩)) (aH (x:=.int 977) (y:=.int k) rfl rfl (kx ⟨by omega,by omega⟩)) rfl) (aH (x:=.int 7919) rfl (aH (x:=.int k) (y:=.int 13) rfl rfl (wo (by omega) (by omega))) (kx ⟨by omega,by omega⟩)) rfl
  show iB (r6.map int) (k % 13)=_
  rw[hj,iw,nK hj13];rfl
 generalize ((c % 2147483647 + 12345) * r6[j] + 977 * k + 7919 * (k / 13))=st at e1
 rw[ay (env':=[.fz (.int c),.fz (.int k),.fz (.list (r6.map int)),.fz (.int st)]) (β':=0) ?h]
 case h=>
  show toS (f2 _ _ b5 [.da (.int c),.da (.int k),.da (.list (r6.map int)),.no] 0) _=_
  rw[e1];rfl
 have e2:f2 (gv 3) (cst (.int 1000000007)) i4 [.da (.int c),.da (.int k),.da (.list (r6.map int)),.da (.int st)] 0=.ok (.int (st % 1000000007)) 0:=aH rfl rfl (kO (by omega))
 rw[ay (env':=[.fz (.int c),.fz (.int k),.fz (.list (r6.map int)),.fz (.int (st % 1000000007))]) (β':=0) ?h2]
 case h2=>
  show toS (f2 (gv 3) (cst (.int 1000000007)) i4 [.da (.int c),.da (.int k),.da (.list (r6.map int)),.da (.int st)] 0) _=_
  rw[e2];rfl
 have hb: -(2 ^ 64) < st % 1000000007/\st % 1000000007 < 2 ^ 64:=⟨by omega,by omega⟩
 generalize st % 1000000007=u at hb
 have e3:f2 (f2 (f2 (f2 (gv 3) (gv 3) cY) (f2 (cst (.int 48271)) (gv 1) cY) b5) (cst (.int 1000000007)) i4) (cst (.int 7)) wz [.da (.int c),.da (.int k),.da (.list (r6.map int)),.da (.int u)] 0=.ok (.int ((u * u + 48271 * k) % 1000000007 / 7)) 0:=
  aH (aH (aH (aH (x:=.int u) (y:=.int u) rfl rfl (kx hb)) (aH (x:=.int 48271) (y:=.int k) rfl rfl (kx ⟨by omega,by omega⟩)) rfl) rfl (kO (by omega))) rfl (wo (by omega) (by omega))
 refine⟨(u * u + 48271 * k) % 1000000007 / 7,?_⟩
 show fin (toS (f2 _ (cst (.int 7)) wz [.da (.int c),.da (.int k),.da (.list (r6.map int)),.da (.int u)] 0) _)=_
 rw[e3];rfl
noncomputable def Bz:List D->FR:=bw 5 2 (gi sX w9)
def Cu (ns:List Int)(k:Nat):∃z,Bz [bK ns,.int k]=.ok (.list [.int z]) true:=by
 obtain⟨c,hc⟩:=AA ns k
 show ∃z,fin (gi sX w9 [.fz (bK ns),.fz (.int k),.no,.no,.no] 0)=.ok (.list [.int z]) true
 unfold gi
 have e0:aF sX (aa (gv 0) (aa (gv 1) aq)) [.da (bK ns),.da (.int k),.no,.no,.no] 0=.ok (.int c) 0:=bA rfl hc
 rw[ay (env':=[.fz (bK ns),.fz (.int k),.fz (.int c),.no,.no]) (β':=0) ?h]
 case h=>
  show toS (aF sX _ [.da (bK ns),.da (.int k),.no,.no,.no] 0) _=_
  rw[e0];rfl
 have e1:iA (f2 (f2 (gv 2) (cst (.int 2)) i4) (cst (.int 0)) (fF false)) [.da (bK ns),.da (.int k),.da (.int c),.no,.no] 0=.ok (decide (c % 2=0)) 0:=je (neg:=false) (aH rfl rfl (kO (by omega))) rfl
 by_cases h:c % 2=0
 ·rw[ET h] at e1
  refine⟨(if c < 0 then -c else c) / 2,?_⟩
  rw[sP (d:=.list [.int ((if c < 0 then -c else c) / 2)]) (b:=true) (β':=0)]
  ·rfl
  ·rw[qH e1]
   show toS (bC (aa (f2 (f1 (gv 2) zp) (cst (.int 2)) wz) aq) [.da (bK ns),.da (.int k),.da (.int c),.no,.no] 0) _=_
   rw[eV (ds:=[.int ((if c < 0 then -c else c) / 2)]) (β1:=0)]
   ·rfl
   ·have e2:f2 (f1 (gv 2) zp) (cst (.int 2)) wz [.da (bK ns),.da (.int k),.da (.int c),.no,.no] 0=.ok (.int ((if c < 0 then -c else c) / 2)) 0:=aH (dH (x:=.int c) rfl rfl) rfl (wo (by omega) (by omega))
    rw[bO,e2];rfl
   ·simp
 ·rw[E3 h] at e1
  rw[ay (env':=[.fz (bK ns),.fz (.int k),.fz (.int c),.no,.no]) (β':=0) (by rw[jq e1];rfl)]
  rw[ay (env':=[.fz (bK ns),.fz (.int k),.fz (.int c),.fz (.int 0),.no]) (β':=0) (by rfl)]
  obtain⟨env',β',el,z,x,rfl,rfl⟩:=dX (t:=.nm 4) (m:=bh 3 (([] ++ []) ++ ([2] ++ ([4] ++ []))) (f2 (f2 (gv 3) (cst (.int 142857143)) cY) (aF w9 (aa (gv 2) (aa (gv 4) aq))) b5)) (ds:=bE 0 40) (k:=0)
   (λ_ env β=>∃(z:Int) (x:Sl),env= [.fz (bK ns),.fz (.int k),.fz (.int c),.fz (.int z),x]/\β=0) (env:=[.fz (bK ns),.fz (.int k),.fz (.int c),.fz (.int 0),.no]) (β:=0) ⟨0,.no,rfl,rfl⟩ (by
    rintro i d env β hi ⟨z,x,rfl,rfl⟩
    obtain⟨j,rfl⟩:∃j:Int,d=.int j:=by
     unfold bE at hi
     rw[ES] at hi
     cases q:(List.range 40)[i]? with
     |none=>rw[q] at hi;cases hi
     |some j=>rw[q] at hi;cases hi;exact⟨_,rfl⟩
    obtain⟨y,hy⟩:=BU c j
    refine⟨_,rfl,_,_,?_,z * 142857143 + y,.fz (.int j),rfl,rfl⟩
    show toS (f2 (f2 (gv 3) (cst (.int 142857143)) cY) (aF w9 (aa (gv 2) (aa (gv 4) aq))) b5 [.da (bK ns),.da (.int k),.da (.int c),.da (.int z),.da (.int j)] 0) _=_
    rw[aH (d:=.int (z * 142857143 + y)) (aH (x:=.int z) (y:=.int 142857143) (β1:=0) (β2:=0) rfl rfl (Ba ⟨by omega,by omega⟩)) (bA (ds:=[.int c,.int j]) (β1:=0) rfl hy) rfl]
    rfl)
  refine⟨z,?_⟩
  rw[ay (env':=[.fz (bK ns),.fz (.int k),.fz (.int c),.fz (.int z),x]) (β':=0) ?h2]
  case h2=>exact el
  show fin (toS (bC (aa (gv 3) aq) [.da (bK ns),.da (.int k),.da (.int c),.da (.int z),x.val] 0) _)=_
  rw[eV (ds:=[.int z]) (β1:=0) rfl (by simp)]
  rfl
noncomputable def kW:List D->Int->FB:=p7 4 1 (cg cB)
theorem lay_ints:∀ns:List Int,PyData.canLayAll0 (ns.map int)=true
 | []=>rfl
 |n :: ns=>by
  show ((int n).canLay0 && PyData.canLayAll0 (ns.map int))=true
  rw[lay_ints ns];rfl
theorem qr:∀ns:List Int,PyData.depthAll (ns.map int)=0
 | []=>rfl
 |n :: ns=>by
  show max (int n).depth (PyData.depthAll (ns.map int))=0
  rw[qr ns];rfl
def shaped_ints (ns:List Int):SeqAt.shaped (.list (ns.map int))=true:=by
 unfold SeqAt.shaped
 have h1:(PyData.list (ns.map int)).canLay0=true:=by simp only[PyData.canLay0];exact lay_ints ns
 have h2:(PyData.list (ns.map int)).depth<=64:=by simp only[PyData.depth];rw[qr];omega
 rw[h1,ET h2];rfl
theorem qf:∀l m:List Int,PyData.eqvAll (l.map int) (m.map int)=decide (l=m)
 | [],[]=>rfl
 | [],_ :: _=>rfl
 |_ :: _,[]=>rfl
 |p :: l,q :: m=>by
  show ((p == q) && PyData.eqvAll (l.map int) (m.map int))=_
  rw[qf l m,FY]
  simp
def pH (neg:Bool)(l m:List Int):fF neg (.list (l.map int)) (.list (m.map int))=some (.bool (if neg then !decide (l=m) else decide (l=m))):=by
 unfold fF
 rw[shaped_ints,shaped_ints]
 simp only[Hd,FH,PyData.eqv,qf]
theorem dN {α:Type}:∀{l:List α} {k:Nat} {x:α},l[k]? =some x->(x :: l.eraseIdx k).Perm l
 | [],_,_,h=>by simp at h
 |y :: l,0,x,h=>by simp at h;subst h;exact List.Perm.refl _
 |y :: l,k + 1,x,h=>by
  have h:l[k]? =some x:=by simpa using h
  have ih:=dN h
  show (x :: y :: l.eraseIdx k).Perm (y :: l)
  exact (List.Perm.swap y x _).trans (ih.cons y)
theorem mr {α β:Type}(f:α->β):∀(l:List α) (k:Nat),(l.map f).eraseIdx k=(l.eraseIdx k).map f
 | [],_=>rfl
 |_ :: _,0=>rfl
 |x :: l,k + 1=>by simp[mr f l k]
def zb (ns:List Int)(hz:ns.length<=100)(β:Int):∃(ms:List Int) (β':Int),kW [.list (ns.map int)] β=.ok (.list (ms.map int)) true β'/\ms.Perm ns:=by
 show ∃(ms:List Int) (β':Int),yt (cg cB [.bx,.fz (.list (ns.map int)),.no,.no] β)=.ok (.list (ms.map int)) true β'/\ms.Perm ns
 unfold cg
 rw[ay (env':=[.bx,.fz (.list (ns.map int)),.ow (.list (ns.map int)),.no]) (β':=β) (by rfl)]
 have ez:bC aq [Nv.bx,.da (.list (ns.map int)),.da (.list (ns.map int)),.no] β=.ok (.list []) β:=eV rfl (by simp)
 rw[ay (env':=[.bx,.fz (.list (ns.map int)),.ow (.list (ns.map int)),.ow (.list [])]) (β':=β) ?h]
 case h=>
  show toS (bC aq [Nv.bx,.da (.list (ns.map int)),.da (.list (ns.map int)),.no] β) _=_
  rw[ez];rfl
 obtain⟨env',β',ew,ms,rfl,hp⟩:=fT (L:=[] ++ []) (t:=iA (f2 (gv 2) (bC aq) (fF true))) (m:=fV 3 2 ([] ++ []) (kY 0 cB (aa (f1 (gv 2) fh) aq)))
  (λk env β=>∃ls ms:List Int,env= [.bx,.fz (.list (ns.map int)),.ow (.list (ls.map int)),.ow (.list (ms.map int))]/\(ms ++ ls).Perm ns/\k=ls.length)
  (λenv β=>∃ms:List Int,env= [.bx,.fz (.list (ns.map int)),.ow (.list []),.ow (.list (ms.map int))]/\ms.Perm ns) (n:=1000) (k:=ns.length) (env:=[.bx,.fz (.list (ns.map int)),.ow (.list (ns.map int)),.ow (.list [])]) (β:=β) (by omega) ⟨ns,[],rfl,by simp,rfl⟩ (by
   rintro k env β ⟨ls,ms,rfl,hp,rfl⟩
   have e1:bC aq [Nv.bx,.da (.list (ns.map int)),.da (.list (ls.map int)),.da (.list (ms.map int))] β=.ok (.list (([]:List Int).map int)) β:=eV rfl (by simp)
   have et:iA (f2 (gv 2) (bC aq) (fF true)) [Nv.bx,.da (.list (ns.map int)),.da (.list (ls.map int)),.da (.list (ms.map int))] β=.ok (!decide (ls= [])) β:=
    lC _ _ _ _ (aH (x:=.list (ls.map int)) rfl e1 (by rw[pH];rfl))
   refine⟨_,_,et,?_⟩
   have hlen:=hp.length_eq
   rw[Fs] at hlen
   cases ls with
   |nil=>exact .inl ⟨rfl,ms,rfl,by simpa using hp⟩
   |cons y ys=>
    refine .inr ⟨rfl,?_⟩
    have hm:(0:Int) < ((y :: ys).length:Nat)/\(((y :: ys).length:Nat):Int) < 1073741824:=by
     have:(y :: ys).length<=100:=by omega
     constructor
     ·simp
     ·omega
    obtain⟨j,hj⟩:∃j:Nat,β % (((y :: ys).length:Nat):Int)=j:=⟨(β % (((y :: ys).length:Nat):Int)).toNat,by have:=Int.emod_nonneg β (b:=(((y :: ys).length:Nat):Int)) (by omega);omega⟩
    have hj2:j < (y :: ys).length:=by have:=Int.emod_lt_of_pos β hm.1;omega
    have ef:kY 0 cB (aa (f1 (gv 2) fh) aq) [Nv.bx,.da (.list (ns.map int)),.da (.list ((y :: ys).map int)),.da (.list (ms.map int))] β=.ok (.int (j:Int)) (β / (((y :: ys).length:Nat):Int)):=by
     refine kZ (ds:=[.int (((y :: ys).length:Nat):Int)]) (b:=false) (by rfl) ?_ (by rw[n5 hm.1 hm.2,hj])
     show R.ok [int ((((y :: ys).map int).length:Nat):Int)] β=_
     rw[EM]
    have hpop:ub ((y :: ys).map int) (.int (j:Int))=some (.int (y :: ys)[j],((y :: ys).eraseIdx j).map int):=by
     unfold ub
     dsimp only
     rw[EI ⟨by omega,by omega⟩]
     have es:seqIndex? (j:Int) ((y :: ys).map int).length=some j:=by
      rw[EM]
      exact PySem.StrLaws.seqIndex_nonneg (by omega) (by omega)
     rw[es]
     dsimp only
     rw[ES,ED hj2,mr];rfl
    refine⟨[.bx,.fz (.list (ns.map int)),.ow (.list (((y :: ys).eraseIdx j).map int)),.ow (.list ((ms ++ [(y :: ys)[j]]).map int))],β / (((y :: ys).length:Nat):Int),((y :: ys).eraseIdx j).length,?_,?_,(y :: ys).eraseIdx j,ms ++ [(y :: ys)[j]],rfl,?_,rfl⟩
    ·show fV 3 2 ([] ++ []) (kY 0 cB (aa (f1 (gv 2) fh) aq)) [.bx,.fz (.list (ns.map int)),.ow (.list ((y :: ys).map int)),.ow (.list (ms.map int))] β=_
     rw[se (ds:=ms.map int) (es:=(y :: ys).map int) (by rfl) (by rfl) (by decide) ef (by rfl) hpop (by rw[EM];omega),FA]
     rfl
    ·rw[List.length_eraseIdx]
     rw[EI hj2]
     show (y :: ys).length - 1 < (y :: ys).length
     simp
    ·rw[GJ]
     exact (List.Perm.append_left ms (dN (ED hj2))).trans hp)
 refine⟨ms,β',?_,hp⟩
 rw[ay ew]
 rfl
def B6 {n:Nat}{l:List Pr}(h8:n<=8)(w:OM.Wn n l):OM.bq 8 (OM.Mem l)=OM.bq n (OM.Mem l):=by
 refine OM.gn (OM.cf _ _) (OM.cf _ _) λx=>?_
 rw[OM.aJ,OM.aJ]
 constructor
 ·rintro⟨_,h⟩;exact⟨w x h,h⟩
 ·rintro⟨h1,h⟩;exact⟨⟨⟨h1.1.1,by omega⟩,h1.2.1,by omega⟩,h⟩
def zy {n:Nat}{l:List Pr}(h1:1<=n)(h8:n<=8)(w:OM.Wn n l)(nd:l.Nodup)(irr:∀a,(a,a)∉l):l.length < 64:=by
 have:=OM.lK (l:=(0,0) :: l) (m:=OM.dO n) (Fq.mpr ⟨irr 0,nd⟩) (λx hx=>by
  rcases EH.mp hx with e |e
  ·subst e;exact OM.dR.mpr ⟨⟨by simp,by simp;omega⟩,by simp,by simp;omega⟩
  ·exact OM.dR.mpr (w x e))
 have hg:(OM.dO n).length=n * n:=by unfold OM.dO;simp
 have hn:n * n<=64:=Gn h8 h8
 rw[hg,EZ] at this
 omega
def AB {n:Nat}{l:List Pr}(h8:n<=8)(w:OM.Wn n l):l.all BP=true:=by
 rw[Ga]
 intro p hp
 have:=w p hp
 unfold BP
 rw[ET this.1.1,ET (by omega:p.1 < 8),ET this.2.1,ET (by omega:p.2 < 8)];rfl
def j3 {n:Nat}{l:List Pr}{d:D}(h8:n<=8)(w:OM.Wn n l)(hl:(OM.bq n (OM.Mem l)).length < 64)(hd:gK d=some (l.map az)):bG d=some (.list ((OM.bq n (OM.Mem l)).map az)):=by
 unfold bG
 rw[hd]
 simp only[dW]
 rw[B6 h8 w,EI ⟨AB h8 w,hl⟩]
def qL (l:List Pr)(p:Pr):List Pr:=(l.filter λq=>decide (q.1=p.2)).map λq=>(p.1,q.2)
def sr (l:List Pr)(p:Pr):(qL l p).length<=l.length:=by unfold qL;rw[EM];exact FZ ..
theorem pC (l m:List Pr):(m.flatMap (qL l)).length<=m.length * l.length:=by
 induction m with
 |nil=>simp
 |cons p m ih=>
  rw[List.flatMap_cons,Fs,EZ,Nat.succ_mul]
  have:=sr l p
  omega
def jg {a b:List D}(h:a.length + b.length<=10000):gk (.list a) (.list b)=some (.list (a ++ b)):=EI (by rw[Fl];omega)
noncomputable def fA:List D->FR:=bw 6 1 cW
def ui {n:Nat}{ps:List Pr}(h1:1<=n)(h8:n<=8)(w:OM.Wn n ps)(irr:∀a,¬OM.Tr (OM.Mem ps) a a):fA [.list (ps.map az)]=.ok (.tuple ((OM.bq n (OM.Tr (OM.Mem ps))).map az)) false:=by
 have blen:∀{l:List Pr},OM.Aa n ps l->l.length < 64:=λ{l} B=>zy h1 h8 B.wn (OM.fM B.ris) λa ha=>irr a (B.sup _ ha)
 show fin (cW [.fz (.list (ps.map az)),.no,.no,.no,.no,.no] 0)=_
 unfold cW
 have B0:=OM.uo (ps:=ps) w
 have e0:f1 (gv 0) bG [.da (.list (ps.map az)),.no,.no,.no,.no,.no] 0=.ok (.list ((OM.bq n (OM.Mem ps)).map az)) 0:=dH rfl (j3 h8 w (blen B0) rfl)
 rw[ay (env':=[.fz (.list (ps.map az)),.fz (.list ((OM.bq n (OM.Mem ps)).map az)),.no,.no,.no,.no]) (β':=0) ?h0]
 case h0=>
  show toS (f1 (gv 0) bG [.da (.list (ps.map az)),.no,.no,.no,.no,.no] 0) _=_
  rw[e0];rfl
 rw[ay (env':=[.fz (.list (ps.map az)),.fz (.list ((OM.bq n (OM.Mem ps)).map az)),.fz (.int (-1)),.no,.no,.no]) (β':=0) (by rfl)]
 obtain⟨env',β',ew,rfl,x,sz,a,b,rfl⟩:=fT (L:=[] ++ []) (t:=iA (f2 (gv 2) (f1 (gv 1) fh) (fF true)))
  (m:=aI (bh 2 [] (f1 (gv 1) fh)) (aI (bh 3 [] (bC aq)) (aI (cJ (.two 4 5) [1] (cT (gv 1)) (bh 3 ([] ++ ([] ++ [4])) (f2 (gv 3) (aY 2 [5,4] (.two 0 1) (cT (gv 1)) (iA (f2 (gv 0) (gv 2) (fF false))) (c8 (aa (gv 3) (aa (gv 1) aq)))) gk))) (bh 1 ([] ++ []) (f1 (f2 (gv 1) (gv 3) gk) bG)))))
  (λk env β=>β=0/\∃(l:List Pr) (sz:Int) (x a b:Sl),env= [.fz (.list (ps.map az)),.fz (.list (l.map az)),.fz (.int sz),x,a,b]/\OM.Aa n ps l/\(sz= -1\/∃lp,OM.Aa n ps lp/\l=OM.hG n lp/\sz=lp.length)/\k=2 * (64 - l.length) + (if sz=l.length then 0 else 1))
  (λenv β=>β=0/\∃(x sz a b:Sl),env= [.fz (.list (ps.map az)),.fz (.list ((OM.bq n (OM.Tr (OM.Mem ps))).map az)),sz,x,a,b])
  (n:=1000) (k:=2 * (64 - (OM.bq n (OM.Mem ps)).length) + (if (-1:Int)=(OM.bq n (OM.Mem ps)).length then 0 else 1)) (env:=[.fz (.list (ps.map az)),.fz (.list ((OM.bq n (OM.Mem ps)).map az)),.fz (.int (-1)),.no,.no,.no]) (β:=0)
  (by split <;> omega) ⟨rfl,_,_,_,_,_,rfl,B0,.inl rfl,rfl⟩ (by
   rintro k env β ⟨rfl,l,sz,x,a,b,rfl,B,hsz,rfl⟩
   have hl:=blen B
   have et:iA (f2 (gv 2) (f1 (gv 1) fh) (fF true)) [.da (.list (ps.map az)),.da (.list (l.map az)),.da (.int sz),x.val,a.val,b.val] 0=.ok (!decide (sz=((l.map az).length:Nat))) 0:=je (neg:=true) rfl rfl
   rw[EM] at et
   refine⟨_,_,et,?_⟩
   by_cases c:sz=(l.length:Nat)
   ·refine .inl ⟨by rw[ET c];rfl,rfl,x,.fz (.int sz),a,b,?_⟩
    rcases hsz with h | ⟨lp,Bp,rfl,h⟩
    ·omega
    ·show [Sl.fz (.list (ps.map az)),.fz (.list ((OM.hG n lp).map az)),.fz (.int sz),x,a,b]=_
     rw[OM.v7 Bp (by omega)]
   ·refine .inr ⟨by rw[E3 c];rfl,?_⟩
    obtain⟨B2,hs⟩:=OM.p6 B
    have hl2:=blen B2
    have hge:l.length<=(OM.hG n l).length:=OM.lK (OM.fM B.ris) hs
    have eturn:∃x' a' b':Sl,aI (bh 2 [] (f1 (gv 1) fh)) (aI (bh 3 [] (bC aq)) (aI (cJ (.two 4 5) [1] (cT (gv 1)) (bh 3 ([] ++ ([] ++ [4])) (f2 (gv 3) (aY 2 [5,4] (.two 0 1) (cT (gv 1)) (iA (f2 (gv 0) (gv 2) (fF false))) (c8 (aa (gv 3) (aa (gv 1) aq)))) gk))) (bh 1 ([] ++ []) (f1 (f2 (gv 1) (gv 3) gk) bG)))) [.fz (.list (ps.map az)),.fz (.list (l.map az)),.fz (.int sz),x,a,b] 0
      =.nx [.fz (.list (ps.map az)),.fz (.list ((OM.hG n l).map az)),.fz (.int (l.length:Nat)),x',a',b'] 0:=by
     rw[ay (env':=[.fz (.list (ps.map az)),.fz (.list (l.map az)),.fz (.int (l.length:Nat)),x,a,b]) (β':=0) ?g1]
     case g1=>
      show SO.nx [.fz (.list (ps.map az)),.fz (.list (l.map az)),.fz (.int ((l.map az).length:Nat)),x,a,b] 0=_
      rw[EM]
     have e3:bC aq [.da (.list (ps.map az)),.da (.list (l.map az)),.da (.int (l.length:Nat)),x.val,a.val,b.val] 0=.ok (.list []) 0:=eV rfl (by simp)
     rw[ay (env':=[.fz (.list (ps.map az)),.fz (.list (l.map az)),.fz (.int (l.length:Nat)),.fz (.list []),a,b]) (β':=0) ?g2]
     case g2=>
      show toS (bC aq [.da (.list (ps.map az)),.da (.list (l.map az)),.da (.int (l.length:Nat)),x.val,a.val,b.val] 0) _=_
      rw[e3];rfl
     obtain⟨env2,β2,ef,rfl,a2,b2,rfl⟩:=dX (t:=.two 4 5) (m:=bh 3 ([] ++ ([] ++ [4])) (f2 (gv 3) (aY 2 [5,4] (.two 0 1) (cT (gv 1)) (iA (f2 (gv 0) (gv 2) (fF false))) (c8 (aa (gv 3) (aa (gv 1) aq)))) gk)) (ds:=l.map az) (k:=0)
      (λi env β=>β=0/\∃a b:Sl,env= [.fz (.list (ps.map az)),.fz (.list (l.map az)),.fz (.int (l.length:Nat)),.fz (.list (((l.take i).flatMap (qL l)).map az)),a,b]) (env:=[.fz (.list (ps.map az)),.fz (.list (l.map az)),.fz (.int (l.length:Nat)),.fz (.list []),a,b]) (β:=0) ⟨rfl,a,b,rfl⟩ (by
       rintro i d env β hi ⟨rfl,a,b,rfl⟩
       rw[ES] at hi
       cases q:l[i]? with
       |none=>rw[q] at hi;cases hi
       |some p=>
        rw[q] at hi
        cases hi
        have hil:i < l.length:=(EV.mp q).1
        refine⟨[.fz (.list (ps.map az)),.fz (.list (l.map az)),.fz (.int (l.length:Nat)),.fz (.list (((l.take (0 + i)).flatMap (qL l)).map az)),.fz (.int p.1),.fz (.int p.2)],rfl,[.fz (.list (ps.map az)),.fz (.list (l.map az)),.fz (.int (l.length:Nat)),.fz (.list (((l.take (0 + i + 1)).flatMap (qL l)).map az)),.fz (.int p.1),.fz (.int p.2)],0,?_,rfl,_,_,rfl⟩
        have ec:aY 2 [5,4] (.two 0 1) (cT (gv 1)) (iA (f2 (gv 0) (gv 2) (fF false))) (c8 (aa (gv 3) (aa (gv 1) aq))) [.da (.list (ps.map az)),.da (.list (l.map az)),.da (.int (l.length:Nat)),.da (.list (((l.take (0 + i)).flatMap (qL l)).map az)),.da (.int p.1),.da (.int p.2)] 0=.ok (.list ((qL l p).map az)) 0:=by
         rw[iP (l:=l) (e:=az) (λq=>decide (q.1=p.2)) (λq=>az (p.1,q.2)) rfl (by omega) (β1:=0)]
         ·unfold qL;rw[F0];rfl
         ·intro q hq
          refine⟨_,rfl,je (neg:=false) (i:=q.1) (j:=p.2) rfl rfl,λ_=>?_⟩
          exact km (ds:=[.int p.1,.int q.2]) rfl (by simp)
        have hk:(l.take (0 + i)).length<=63:=by rw[FG];omega
        have hfl:=pC l (l.take (0 + i))
        have hfl2:(l.take (0 + i)).length * l.length<=63 * 63:=Gn hk (by omega)
        have hm1:=sr l p
        have e5:f2 (gv 3) (aY 2 [5,4] (.two 0 1) (cT (gv 1)) (iA (f2 (gv 0) (gv 2) (fF false))) (c8 (aa (gv 3) (aa (gv 1) aq)))) gk [.da (.list (ps.map az)),.da (.list (l.map az)),.da (.int (l.length:Nat)),.da (.list (((l.take (0 + i)).flatMap (qL l)).map az)),.da (.int p.1),.da (.int p.2)] 0=.ok (.list (((l.take (0 + i + 1)).flatMap (qL l)).map az)) 0:=by
         refine aH rfl ec ?_
         rw[jg (by rw[EM,EM];omega),<-FA]
         have:l.take (0 + i + 1)=l.take (0 + i) ++ [p]:=by rw[Gr,GK,q];rfl
         rw[this,List.flatMap_append,List.flatMap_cons,List.flatMap_nil,Hh]
        show toS (f2 (gv 3) (aY 2 [5,4] (.two 0 1) (cT (gv 1)) (iA (f2 (gv 0) (gv 2) (fF false))) (c8 (aa (gv 3) (aa (gv 1) aq)))) gk [.da (.list (ps.map az)),.da (.list (l.map az)),.da (.int (l.length:Nat)),.da (.list (((l.take (0 + i)).flatMap (qL l)).map az)),.da (.int p.1),.da (.int p.2)] 0) _=_
        rw[e5];rfl)
     rw[Gr,EM,GX (EG _)] at ef
     rw[ay (env':=[.fz (.list (ps.map az)),.fz (.list (l.map az)),.fz (.int (l.length:Nat)),.fz (.list ((l.flatMap (qL l)).map az)),a2,b2]) (β':=0) ?g3]
     case g3=>exact ef
     have hfl:=pC l l
     have hfl2:l.length * l.length<=63 * 63:=Gn (by omega) (by omega)
     have e6:f1 (f2 (gv 1) (gv 3) gk) bG [.da (.list (ps.map az)),.da (.list (l.map az)),.da (.int (l.length:Nat)),.da (.list ((l.flatMap (qL l)).map az)),a2.val,b2.val] 0=.ok (.list ((OM.hG n l).map az)) 0:=by
      refine dH (x:=.list ((l ++ OM.more l).map az)) (aH rfl rfl ?_) (j3 h8 (OM.vA B) hl2 rfl)
      rw[jg (by rw[EM,EM];omega),<-FA];rfl
     refine⟨.fz (.list ((l.flatMap (qL l)).map az)),a2,b2,?_⟩
     show toS (f1 (f2 (gv 1) (gv 3) gk) bG [.da (.list (ps.map az)),.da (.list (l.map az)),.da (.int (l.length:Nat)),.da (.list ((l.flatMap (qL l)).map az)),a2.val,b2.val] 0) _=_
     rw[e6];rfl
    obtain⟨x',a',b',et2⟩:=eturn
    refine⟨_,_,_,et2,?_,rfl,_,_,_,_,_,rfl,B2,.inr ⟨l,B,rfl,rfl⟩,rfl⟩
    rw[EN c]
    split <;> omega)
 rw[ay ew]
 rfl
def oS (ms:List Int)(ps:List Pr):Prop:=∀p,p∈ps->∃i j:Nat,i < j/\ms[i]? =some p.1/\ms[j]? =some p.2
theorem lj {α:Type}:∀{l:List α} {i j:Nat} {x:α},l.Nodup->l[i]? =some x->l[j]? =some x->i=j
 | [],_,_,_,_,h,_=>by simp at h
 |y :: l,0,0,_,_,_,_=>rfl
 |y :: l,0,j + 1,x,nd,h1,h2=>by
  simp at h1
  subst h1
  exact absurd (EX (by simpa using h2)) (Fq.mp nd).1
 |y :: l,i + 1,0,x,nd,h1,h2=>by
  simp at h2
  subst h2
  exact absurd (EX (by simpa using h1)) (Fq.mp nd).1
 |y :: l,i + 1,j + 1,x,nd,h1,h2=>by
  rw[lj (l:=l) (i:=i) (j:=j) (Fq.mp nd).2 (by simpa using h1) (by simpa using h2)]
def vS {ms:List Int}{ps:List Pr}(nd:ms.Nodup)(h:oS ms ps){a b:Int}(t:OM.Tr (OM.Mem ps) a b):∃i j:Nat,i < j/\ms[i]? =some a/\ms[j]? =some b:=by
 refine t.least (S:=λa b=>∃i j:Nat,i < j/\ms[i]? =some a/\ms[j]? =some b) (λa b r=>h _ r) ?_
 rintro a b c ⟨i,j,hij,h1,h2⟩ ⟨k,l,hkl,h3,h4⟩
 have:=lj nd h2 h3
 exact⟨i,l,by omega,h1,h4⟩
def uY {ms:List Int}{ps:List Pr}(nd:ms.Nodup)(h:oS ms ps)(a:Int):¬OM.Tr (OM.Mem ps) a a:=λt=>by
 obtain⟨i,j,hij,h1,h2⟩:=vS nd h t
 have:=lj nd h1 h2
 omega
def j8 (n:Nat):List Int:=(List.range n).map λ(k:Nat)=>(k:Int)
def oF (n:Nat):(j8 n).length=n:=by unfold j8;simp
def nY {n:Nat}{x:Int}:x∈j8 n↔0<=x/\x < n:=by
 unfold j8
 rw[ER]
 constructor
 ·rintro⟨k,hk,rfl⟩
  have:=E2.mp hk
  omega
 ·intro h
  exact⟨x.toNat,E2.mpr (by omega),by omega⟩
def uR (n:Nat):(j8 n).Nodup:=by
 unfold j8
 rw[GH,FI]
 exact (GH.mp GQ).imp λ{a b} h e=>h (by omega)
def uB (n:Nat):bE 0 n=(j8 n).map int:=by
 unfold bE j8
 rw[F0]
 refine Gh λk _=>?_
 show int (0 + (k:Int))=_
 rw[G8];rfl
theorem js {lo:Int}{n i:Nat}{d:D}(h:(bE lo n)[i]? =some d):i < n/\d=.int (lo + i):=by
 unfold bE at h
 rw[ES] at h
 cases q:(List.range n)[i]? with
 |none=>rw[q] at h;cases h
 |some j=>
  rw[q] at h
  cases h
  obtain⟨hi,ej⟩:=EV.mp q
  rw[FO] at hi
  rw[List.getElem_range] at ej
  subst ej
  exact⟨hi,rfl⟩
def o5 {n:Nat}(h:n<=1000):dY (.int n)=some (.list ((j8 n).map int)):=by
 unfold dY
 dsimp only
 rw[EI ⟨by omega,by omega⟩,FJ,uB]
def g9 {fa:VF D}{vs:List Nv}{β β1:Int}{n:Nat}(h:fa vs β=.ok (.int n) β1)(hn:n<=1000):fC fa vs β=.ok (bE 0 n) β1:=by
 unfold fC
 rw[h]
 simp only[iQ]
 rw[EI (jx (by omega) (by omega)),FJ]
def qy {fa fb:VF D}{vs:List Nv}{β β1 β2:Int}{i j:Int}(h:fa vs β=.ok (.int i) β1)(h':fb vs β1=.ok (.int j) β2)(hi:0<=i/\i<=1000)(hj:0<=j/\j<=1000):j4 fa fb vs β=.ok (bE i (j - i).toNat) β2:=by
 unfold j4
 rw[h]
 simp only[iQ]
 rw[h']
 simp only[iQ]
 rw[EI (by rw[jx (by omega) (by omega),jx (by omega) (by omega)];rfl)]
def gZ {t:Tg}{L:List Nat}{fi:VF (List D)}{m:SF}{env:En}{β β1:Int}{ds:List D}(h:fi (vl env) β=.ok ds β1):cJ t L fi m env β=jL t m ds (aL L env) β1:=by unfold cJ;rw[h];rfl
noncomputable def oh:List D->Int->FB:=p7 8 1 (du fA cB kW)
def uK {n:Nat}{ms:List Int}{ps:List Pr}(h1:1<=n)(h8:n<=8)(hp:ms.Perm (j8 n))(ha:oS ms ps):OM.Wn n ps/\(∀a,¬OM.Tr (OM.Mem ps) a a)/\OM.Ord n (OM.bq n (OM.Tr (OM.Mem ps))):=by
 have nd:ms.Nodup:=hp.nodup_iff.mpr (uR n)
 have w:OM.Wn n ps:=λp hm=>by
  obtain⟨i,j,_,e1,e2⟩:=ha p hm
  have m1:=nY.mp (hp.mem_iff.mp (EX e1))
  have m2:=nY.mp (hp.mem_iff.mp (EX e2))
  exact⟨m1,m2⟩
 have ir:=λa=>uY nd ha a
 exact⟨w,ir,OM.Bl h1 h8 w ir⟩
def k6 {m:Nat}(h:1<=m)(h2:m<=1000)(β:Int):∃j:Nat,j < m/\cB [.int m] β=.ok (.int (j:Int)) false (β / m):=by
 refine⟨(β % m).toNat,?_,?_⟩
 ·have h0:=Int.emod_nonneg β (b:=(m:Int)) (by omega)
  have h3:=Int.emod_lt_of_pos β (b:=(m:Int)) (by omega)
  omega
 ·rw[n5 (by omega) (by omega)]
  have h0:=Int.emod_nonneg β (b:=(m:Int)) (by omega)
  rw[show ((β % m).toNat:Int)=β % m by omega]
def wt {most:Nat}(hm1:1<=most)(hm8:most<=8)(β:Int):∃(n:Nat) (l:List Pr) (β':Int),oh [.int most] β=.ok (aE n l) false β'/\OM.Ord n l/\n<=most:=by
 obtain⟨j,hj,ej⟩:=k6 hm1 (by omega) β
 show ∃(n:Nat) (l:List Pr) (β':Int),yt (du fA cB kW [.bx,.fz (.int most),.no,.no,.no,.no,.no,.no] β)=.ok (aE n l) false β'/\OM.Ord n l/\n<=most
 unfold du
 generalize hβ1:β / (most:Int)=β1 at ej
 have n8:1 + j<=8:=by omega
 have e1:f2 (cst (.int 1)) (kY 0 cB (aa (gv 1) aq)) b5 [Nv.bx,.da (.int most),.no,.no,.no,.no,.no,.no] β=.ok (.int ((1 + j:Nat):Int)) β1:=by
  refine aH (x:=.int 1) rfl (kZ (by rfl) rfl ej) ?_
  show some (int (1 + (j:Int)))=_
  rw[show ((1 + j:Nat):Int)=1 + (j:Int) by omega]
 rw[ay (env':=[.bx,.fz (.int most),.fz (.int ((1 + j:Nat):Int)),.no,.no,.no,.no,.no]) (β':=β1) ?g1]
 case g1=>
  show toS (f2 (cst (.int 1)) (kY 0 cB (aa (gv 1) aq)) b5 [Nv.bx,.da (.int most),.no,.no,.no,.no,.no,.no] β) _=_
  rw[e1];rfl
 generalize hn:1 + j=n at n8
 have n1:1<=n:=by omega
 obtain⟨ms,β2,em,hp⟩:=zb (j8 n) (by rw[oF];omega) β1
 have hml:ms.length=n:=by rw[hp.length_eq,oF]
 have e2:kY 0 kW (aa (f1 (gv 2) dY) aq) [Nv.bx,.da (.int most),.da (.int n),.no,.no,.no,.no,.no] β1=.ok (.list (ms.map int)) β2:=by
  refine kZ (ds:=[.list ((j8 n).map int)]) (b:=true) (β1:=β1) (by rfl) ?_ em
  rw[bO,dH (x:=.int n) (d:=.list ((j8 n).map int)) (β1:=β1) rfl (o5 (by omega))];rfl
 rw[ay (env':=[.bx,.fz (.int most),.fz (.int n),.fz (.list (ms.map int)),.no,.no,.no,.no]) (β':=β2) ?g2]
 case g2=>
  show toS (kY 0 kW (aa (f1 (gv 2) dY) aq) [Nv.bx,.da (.int most),.da (.int n),.no,.no,.no,.no,.no] β1) _=_
  rw[e2];rfl
 obtain⟨q,hq,eq⟩:=k6 (m:=4) (by omega) (by omega) β2
 obtain⟨th,hth,hthv⟩:∃th:Nat,([2,3,4,7]:List Nat)[q]? =some th/\1<=th/\th<=7:=by
  rcases (show q=0\/q=1\/q=2\/q=3 by omega) with rfl |rfl |rfl |rfl
  ·exact⟨2,rfl,by omega,by omega⟩
  ·exact⟨3,rfl,by omega,by omega⟩
  ·exact⟨4,rfl,by omega,by omega⟩
  ·exact⟨7,rfl,by omega,by omega⟩
 generalize hβ3:β2 / ((4:Nat):Int)=β3 at eq
 have e3:f2 (bC (aa (cst (.int 2)) (aa (cst (.int 3)) (aa (cst (.int 4)) (aa (cst (.int 7)) aq))))) (kY 0 cB (aa (cst (.int 4)) aq)) dB [Nv.bx,.da (.int most),.da (.int n),.da (.list (ms.map int)),.no,.no,.no,.no] β2=.ok (.int th) β3:=by
  refine aH (x:=.list (([2,3,4,7]:List Nat).map λ(k:Nat)=>int (k:Int))) (y:=.int q) (eV rfl (by simp)) (kZ (ds:=[.int 4]) (by rfl) rfl eq) ?_
  show iB (([2,3,4,7]:List Nat).map λ(k:Nat)=>int (k:Int)) (q:Int)=_
  rw[iw,ko hth];rfl
 rw[ay (env':=[.bx,.fz (.int most),.fz (.int n),.fz (.list (ms.map int)),.fz (.int th),.no,.no,.no]) (β':=β3) ?g3]
 case g3=>
  show toS (f2 (bC (aa (cst (.int 2)) (aa (cst (.int 3)) (aa (cst (.int 4)) (aa (cst (.int 7)) aq))))) (kY 0 cB (aa (cst (.int 4)) aq)) dB [Nv.bx,.da (.int most),.da (.int n),.da (.list (ms.map int)),.no,.no,.no,.no] β2) _=_
  rw[e3];rfl
 have e4:bC aq [Nv.bx,.da (.int most),.da (.int n),.da (.list (ms.map int)),.da (.int th),.no,.no,.no] β3=.ok (.list []) β3:=eV rfl (by simp)
 rw[ay (env':=[.bx,.fz (.int most),.fz (.int n),.fz (.list (ms.map int)),.fz (.int th),.ow (.list []),.no,.no]) (β':=β3) ?g4]
 case g4=>
  show toS (bC aq [Nv.bx,.da (.int most),.da (.int n),.da (.list (ms.map int)),.da (.int th),.no,.no,.no] β3) _=_
  rw[e4];rfl
 obtain⟨env',β',ef,ps,a,b,rfl,hal,hpl⟩:=dX (t:=.nm 6) (m:=cJ (.nm 7) (([] ++ []) ++ []) (j4 (f2 (gv 6) (cst (.int 1)) b5) (gv 2))
   (kM (([4] ++ []) ++ []) (iA (f2 (kY 0 cB (aa (gv 4) aq)) (cst (.int 0)) (fF false)))
   (jv 5 (([] ++ []) ++ (([] ++ []) ++ [])) (c8 (aa (f2 (gv 3) (gv 6) dB) (aa (f2 (gv 3) (gv 7) dB) aq)))) nk)) (ds:=bE 0 n) (k:=0)
  (λi env β=>∃(ps:List Pr) (a b:Sl),env= [.bx,.fz (.int most),.fz (.int n),.fz (.list (ms.map int)),.fz (.int th),.ow (.list (ps.map az)),a,b]/\oS ms ps/\ps.length<=8 * i)
  (env:=[.bx,.fz (.int most),.fz (.int n),.fz (.list (ms.map int)),.fz (.int th),.ow (.list []),.no,.no]) (β:=β3) ⟨[],.no,.no,rfl,λp hp=>(by cases hp),by simp⟩ (by
   rintro i d env β hi ⟨ps,a,b,rfl,hal,hpl⟩
   obtain⟨hin,rfl⟩:=js hi
   refine⟨[.bx,.fz (.int most),.fz (.int n),.fz (.list (ms.map int)),.fz (.int th),.ow (.list (ps.map az)),.fz (.int (0 + (i:Int))),b],rfl,?_⟩
   have er:j4 (f2 (gv 6) (cst (.int 1)) b5) (gv 2) [Nv.bx,.da (.int most),.da (.int n),.da (.list (ms.map int)),.da (.int th),.da (.list (ps.map az)),.da (.int (0 + (i:Int))),b.val] β=.ok (bE (0 + (i:Int) + 1) ((n:Int) - (0 + (i:Int) + 1)).toNat) β:=qy rfl rfl ⟨by omega,by omega⟩ ⟨by omega,by omega⟩
   rw[gZ (env:=[.bx,.fz (.int most),.fz (.int n),.fz (.list (ms.map int)),.fz (.int th),.ow (.list (ps.map az)),.fz (.int (0 + (i:Int))),b]) er]
   obtain⟨env',β',ef,qs,b,rfl,hal2,hql⟩:=dX (t:=.nm 7) (m:=kM (([4] ++ []) ++ []) (iA (f2 (kY 0 cB (aa (gv 4) aq)) (cst (.int 0)) (fF false)))
     (jv 5 (([] ++ []) ++ (([] ++ []) ++ [])) (c8 (aa (f2 (gv 3) (gv 6) dB) (aa (f2 (gv 3) (gv 7) dB) aq)))) nk) (ds:=bE (0 + (i:Int) + 1) ((n:Int) - (0 + (i:Int) + 1)).toNat) (k:=0)
    (λk env β=>∃(qs:List Pr) (b:Sl),env= [.bx,.fz (.int most),.fz (.int n),.fz (.list (ms.map int)),.fz (.int th),.ow (.list (qs.map az)),.fz (.int (0 + (i:Int))),b]/\oS ms qs/\qs.length<=8 * i + k)
    (env:=[.bx,.fz (.int most),.fz (.int n),.fz (.list (ms.map int)),.fz (.int th),.ow (.list (ps.map az)),.fz (.int (0 + (i:Int))),b]) (β:=β) ⟨ps,b,rfl,hal,by omega⟩ (by
     rintro k d env β hk ⟨qs,b,rfl,hal,hql⟩
     obtain⟨hkn,rfl⟩:=js hk
     have hkn:i + 1 + k < n:=by omega
     refine⟨[.bx,.fz (.int most),.fz (.int n),.fz (.list (ms.map int)),.fz (.int th),.ow (.list (qs.map az)),.fz (.int (0 + (i:Int))),.fz (.int (0 + (i:Int) + 1 + (k:Int)))],rfl,?_⟩
     obtain⟨z,hz,ez⟩:=k6 hthv.1 (by omega) β
     have et:iA (f2 (kY 0 cB (aa (gv 4) aq)) (cst (.int 0)) (fF false)) [Nv.bx,.da (.int most),.da (.int n),.da (.list (ms.map int)),.da (.int th),.da (.list (qs.map az)),.da (.int (0 + (i:Int))),.da (.int (0 + (i:Int) + 1 + (k:Int)))] β=.ok (decide ((z:Int)=0)) (β / th):=je (neg:=false) (kZ (ds:=[.int th]) (by rfl) rfl ez) rfl
     by_cases c:(z:Int)=0
     ·rw[ET c] at et
      have h1:i < ms.length:=by omega
      have h2:i + 1 + k < ms.length:=by omega
      refine⟨[.bx,.fz (.int most),.fz (.int n),.fz (.list (ms.map int)),.fz (.int th),.ow (.list ((qs ++ [(ms[i],ms[i + 1 + k])]).map az)),.fz (.int (0 + (i:Int))),.fz (.int (0 + (i:Int) + 1 + (k:Int)))],β / th,?_,qs ++ [(ms[i],ms[i + 1 + k])],_,rfl,?_,?_⟩
      ·rw[qH et]
       have ep:c8 (aa (f2 (gv 3) (gv 6) dB) (aa (f2 (gv 3) (gv 7) dB) aq)) [Nv.bx,.da (.int most),.da (.int n),.da (.list (ms.map int)),.da (.int th),.da (.list (qs.map az)),.da (.int (0 + (i:Int))),.da (.int (0 + (i:Int) + 1 + (k:Int)))] (β / th)=.ok (az (ms[i],ms[i + 1 + k])) (β / th):=by
        refine km (ds:=[.int ms[i],.int ms[i + 1 + k]]) ?_ (by simp)
        have a1:f2 (gv 3) (gv 6) dB [Nv.bx,.da (.int most),.da (.int n),.da (.list (ms.map int)),.da (.int th),.da (.list (qs.map az)),.da (.int (0 + (i:Int))),.da (.int (0 + (i:Int) + 1 + (k:Int)))] (β / th)=.ok (.int ms[i]) (β / th):=by
         refine aH rfl rfl ?_
         show iB (ms.map int) (0 + (i:Int))=_
         rw[G8,iw,nK h1];rfl
        have a2:f2 (gv 3) (gv 7) dB [Nv.bx,.da (.int most),.da (.int n),.da (.list (ms.map int)),.da (.int th),.da (.list (qs.map az)),.da (.int (0 + (i:Int))),.da (.int (0 + (i:Int) + 1 + (k:Int)))] (β / th)=.ok (.int ms[i + 1 + k]) (β / th):=by
         refine aH rfl rfl ?_
         show iB (ms.map int) (0 + (i:Int) + 1 + (k:Int))=_
         rw[show (0 + (i:Int) + 1 + (k:Int))=((i + 1 + k:Nat):Int) by omega,iw,nK h2];rfl
        rw[bO,a1]
        dsimp only[R.bnd]
        rw[bO,a2];rfl
       have:=nv (i:=5) (L:=([] ++ []) ++ (([] ++ []) ++ [])) (env:=[.bx,.fz (.int most),.fz (.int n),.fz (.list (ms.map int)),.fz (.int th),.ow (.list (qs.map az)),.fz (.int (0 + (i:Int))),.fz (.int (0 + (i:Int) + 1 + (k:Int)))]) (ds:=qs.map az) (by rfl) ep (by rfl) (by rw[EM];omega)
       rw[FA]
       exact this
      ·intro p hp
       rcases E6.mp hp with hp |hp
       ·exact hal p hp
       ·have:p=(ms[i],ms[i + 1 + k]):=by simpa using hp
        subst this
        exact⟨i,i + 1 + k,by omega,ED h1,ED h2⟩
      ·rw[Fs];simp;omega
     ·rw[E3 c] at et
      refine⟨_,_,by rw[jq et];rfl,qs,_,rfl,hal,by omega⟩)
   have hlen:(bE (0 + (i:Int) + 1) ((n:Int) - (0 + (i:Int) + 1)).toNat).length<=7:=by rw[jw];omega
   exact⟨_,_,ef,qs,_,b,rfl,hal2,by omega⟩)
 rw[ay (env':=[.bx,.fz (.int most),.fz (.int n),.fz (.list (ms.map int)),.fz (.int th),.ow (.list (ps.map az)),a,b]) (β':=β') ?g5]
 case g5=>
  rw[gZ (env:=[.bx,.fz (.int most),.fz (.int n),.fz (.list (ms.map int)),.fz (.int th),.ow (.list []),.no,.no]) (g9 (n:=n) rfl (by omega))]
  exact ef
 obtain⟨w,ir,O⟩:=uK n1 n8 hp hal
 refine⟨n,OM.bq n (OM.Tr (OM.Mem ps)),β',?_,O,by omega⟩
 have e9:c8 (aa (gv 2) (aa (aF fA (aa (gv 5) aq)) aq)) [Nv.bx,.da (.int most),.da (.int n),.da (.list (ms.map int)),.da (.int th),.da (.list (ps.map az)),a.val,b.val] β'=.ok (aE n (OM.bq n (OM.Tr (OM.Mem ps)))) β':=by
  refine km (ds:=[.int n,.tuple ((OM.bq n (OM.Tr (OM.Mem ps))).map az)]) ?_ (by simp)
  have a1:aF fA (aa (gv 5) aq) [Nv.bx,.da (.int most),.da (.int n),.da (.list (ms.map int)),.da (.int th),.da (.list (ps.map az)),a.val,b.val] β'=.ok (.tuple ((OM.bq n (OM.Tr (OM.Mem ps))).map az)) β':=bA rfl (ui n1 n8 w ir)
  rw[bO]
  show (R.ok (int n) β').bnd _=_
  dsimp only[R.bnd]
  rw[bO,a1];rfl
 show yt (toS (c8 (aa (gv 2) (aa (aF fA (aa (gv 5) aq)) aq)) [Nv.bx,.da (.int most),.da (.int n),.da (.list (ms.map int)),.da (.int th),.da (.list (ps.map az)),a.val,b.val] β') _)=_
 rw[e9];rfl
theorem td (p:Pr):∀l:List Pr,((l.map az).any λe=>PyData.eqv e (az p))=decide (p∈l)
 | []=>rfl
 |q :: l=>by
  rw[Fw,Gv,td p l,xr,FY]
  simp only[Bool.or_eq_true,Gf,EH]
  exact⟨λh=>h.imp Eq.symm id,λh=>h.imp Eq.symm id⟩
def yh (l:List Pr):(l.map az).all SeqAt.shaped=true:=by
 rw[Ga]
 intro d hd
 obtain⟨p,_,rfl⟩:=ER.mp hd
 exact mR p
def sH (neg:Bool)(p:Pr)(l:List Pr):yd neg (az p) (.tuple (l.map az))=some (.bool (if neg then !decide (p∈l) else decide (p∈l))):=by
 unfold yd
 simp only[gK,mR,yh,Hd,FH,td]
def y7 (neg:Bool)(i j:Int):fF neg (.int i) (.int j)=some (.bool (if neg then !decide (i=j) else decide (i=j))):=rfl
theorem tj {fa fb:VF D}{vs:List Nv}{β:Int}{a b:Bool}(h:fa vs β=.ok (.bool a) β)(h':fb vs β=.ok (.bool b) β):dA fa fb vs β=.ok (.bool (a && b)) β:=by
 unfold dA
 rw[h]
 dsimp only[R.bnd]
 cases a with
 |true=>exact h'
 |false=>rfl
def ph {fa fb:VF D}{vs:List Nv}{β:Int}{a b:Int}(h:fa vs β=.ok (.int a) β)(h':fb vs β=.ok (.int b) β):c8 (aa fa (aa fb aq)) vs β=.ok (az (a,b)) β:=by
 refine km (ds:=[.int a,.int b]) ?_ (by simp)
 rw[bO,h]
 dsimp only[R.bnd]
 rw[bO,h'];rfl
def DY (l:List Pr)(p:Pr):Bool:= !decide (p.1=p.2) && (!decide ((p.1,p.2)∈l) && !decide ((p.2,p.1)∈l))
def El {n:Nat}{l:List Pr}{fa:VF D}{vs:List Nv}{β:Int}(h:fa vs β=.ok (aE n l) β):f2 fa (cst (.int 1)) dB vs β=.ok (.tuple (l.map az)) β:=aH h rfl rfl
def Ez {n:Nat}{l:List Pr}{fa:VF D}{vs:List Nv}{β:Int}(h:fa vs β=.ok (aE n l) β):f2 fa (cst (.int 0)) dB vs β=.ok (.int n) β:=aH h rfl rfl
def CL:List D->FR:=bw 3 3 j5
def wy:List D->FR:=bw 3 3 jr
def CP (n:Nat)(l:List Pr)(a b:Int):CL [aE n l,.int a,.int b]=.ok (.bool (DY l (a,b))) false:=by
 show fin (toS (dA (f2 (gv 1) (gv 2) (fF true)) (dA (f2 (c8 (aa (gv 1) (aa (gv 2) aq))) (f2 (gv 0) (cst (.int 1)) dB) (yd true)) (f2 (c8 (aa (gv 2) (aa (gv 1) aq))) (f2 (gv 0) (cst (.int 1)) dB) (yd true))) [.da (aE n l),.da (.int a),.da (.int b)] 0) _)=_
 rw[tj (aH (x:=.int a) (y:=.int b) rfl rfl (y7 true a b)) (tj (aH (ph (a:=a) (b:=b) rfl rfl) (El (n:=n) (l:=l) rfl) (sH true (a,b) l)) (aH (ph (a:=b) (b:=a) rfl rfl) (El (n:=n) (l:=l) rfl) (sH true (b,a) l)))]
 rfl
def CC (n:Nat)(l:List Pr)(a b:Int):wy [aE n l,.int a,.int b]=.ok (.bool (DY l (a,b))) false:=CP n l a b
def gX (n:Nat):(OM.dO n).length=n * n:=by unfold OM.dO;simp
def vg {fa:VF D}{vs:List Nv}{β:Int}{c:Bool}(h:fa vs β=.ok (.bool c) β):mi fa vs β=.ok c β:=by rw[oy,h];rfl
theorem xa {c:Nat}:∀(ts:List Str) (k:Nat) (acc:Str),(∀t∈ts,t.length + 2<=c)->(textFrom k acc ts).length<=acc.length + c * ts.length
 | [],k,acc,_=>by show acc.length<=_;omega
 |t :: r,k,acc,h=>by
  have ih:=xa r (k + 1) (acc ++ (if k > 0 then ", " else "":String) ++ t) λu hu=>h u (EK _ hu)
  have e:(acc ++ (if k > 0 then ", " else "":String) ++ t).length=acc.length + (if k > 0 then 2 else 0) + t.length:=by
   rw[GV,GV]
   split <;> rfl
  rw[e] at ih
  have ht:=h t (EL ..)
  show (textFrom (k + 1) _ r).length<=_
  have e2:c * (t :: r).length=c * r.length + c:=by rw[EZ,Nat.mul_succ]
  rw[e2]
  have:(if k > 0 then 2 else 0:Nat)<=2:=by split <;> omega
  omega
end RM
namespace L2
open PySem PySem.Spec PyProof.Rows
section
variable {κ:Type}[DecidableEq κ]
def yM (kvs:List (κ×V))(k:κ):Option V:=(kvs.find? λkv=>decide (kv.1=k)).map (·.2)
def putK (kvs:List (κ×V))(k:κ)(v:V):List (κ×V):=
 if (kvs.any λkv=>decide (kv.1=k))=true then kvs.map (λkv=>if kv.1=k then (kv.1,v) else kv) else kvs ++ [(k,v)]
def Am (kvs:List (κ×V))(k:κ):List (κ×V):=kvs.filter λkv=>decide (kv.1≠k)
theorem KV.any {kvs:List (κ×V)}{vs:List (κ×Value)}(r:KV kvs vs)(k:κ):(kvs.any λkv=>decide (kv.1=k))=vs.any λkv=>decide (kv.1=k):=by
 unfold KV at r
 induction r with
 |nil=>rfl
 |cons h t ih=>rw[Gv,Gv,ih,h.1]
theorem KV.drop {kvs:List (κ×V)}{vs:List (κ×Value)}(r:KV kvs vs)(k:κ):KV (Am kvs k) (without vs k):=by
 unfold KV at r ⊢
 unfold Am without
 induction r with
 |nil=>exact .nil
 | @cons p q ps qs h t ih=>
  obtain⟨h1,h2⟩:=h
  rw[List.filter_cons,List.filter_cons]
  by_cases e:p.1=k
  ·have a:¬decide (p.1≠k)=true:=by simp[e]
   have b:¬decide (q.1≠k)=true:=by simp[h1.symm.trans e]
   rw[EN a,EN b];exact ih
  ·have e':¬q.1=k:=λz=>e (h1.trans z)
   have a:decide (p.1≠k)=true:=by simp[e]
   have b:decide (q.1≠k)=true:=by simp[e']
   rw[EI a,EI b];exact .cons ⟨h1,h2⟩ ih
end
def zh (H:Hp)(a:Addr)(y:V)(r:Option V):Prop:=
 (∃kvs k,Rd H a (.dK kvs)/\y=kV k/\r=yM kvs k)\/∃kvs k b,Rd H a (.dT kvs)/\y=.ref b/\Rd H b (.tup (k.map kV))/\r=yM kvs k
def zM (H:Hp)(a:Addr)(y v:V)(H':Hp):Prop:=
 (∃kvs k,H a=some (.dK kvs)/\y=kV k/\kvs.length < sizeLine/\H'=upd H a (.dK (putK kvs k v)))\/
 ∃kvs k b,H a=some (.dT kvs)/\y=.ref b/\Rd H b (.tup (k.map kV))/\kvs.length < sizeLine/\H'=upd H a (.dT (putK kvs k v))
def zh.k {H:Hp}{a:Addr}{kvs:List (Key×V)}{k:Key}(e:H a=some (.dK kvs)):zh H a (kV k) (yM kvs k):=.inl ⟨kvs,k,.inl e,rfl,rfl⟩
def zh.t {H:Hp}{a b:Addr}{kvs:List (List Key×V)}{k:List Key}(e:H a=some (.dT kvs))(eb:Rd H b (.tup (k.map kV))):zh H a (.ref b) (yM kvs k):=.inr ⟨kvs,k,b,.inl e,rfl,eb,rfl⟩
def zM.k {H:Hp}{a:Addr}{kvs:List (Key×V)}{k:Key}{v:V}(e:H a=some (.dK kvs))(hl:kvs.length < sizeLine):zM H a (kV k) v (upd H a (.dK (putK kvs k v))):=.inl ⟨kvs,k,e,rfl,hl,rfl⟩
def zM.t {H:Hp}{a b:Addr}{kvs:List (List Key×V)}{k:List Key}{v:V}(e:H a=some (.dT kvs))(eb:Rd H b (.tup (k.map kV)))(hl:kvs.length < sizeLine) :
  zM H a (.ref b) v (upd H a (.dT (putK kvs k v))):=.inr ⟨kvs,k,b,e,rfl,eb,hl,rfl⟩
section
variable {X:Cx}{pos:Pos}
end
mutual
def zR:D->Bool
 | .list ds=>vO ds
 | .tuple ds=>vO ds
 | .dict kvs=> !kvs.isEmpty && kvs.all λkv=>match kv.1,kv.2 with
  | .str _,.int _=>true
  |_,_=>false
 |_=>true
def vO:List D->Bool
 | []=>true
 |d :: ds=>zR d && vO ds
end
end L2
namespace L2
open PySem PyProof.Rows
section
variable {X:Cx}{K:Frag}{pins:List V}{σ:St}{H:Hp}{s:Shared}{E:XK}
theorem bB.intsB {G:Hp}:∀{ns:List Int} {xs:List V},bB K G xs (ns.map int)->xs=ns.map V.int
 | [],_,.nil=>rfl
 |n :: ns,_,.cons r t=>by cases r;rw[bB.intsB t];rfl
variable {Γ:Fx}{e a b c:Expr}{f fa fb fc:VF D}{L La Lb:List Nat}{md ma mb mc:Md}{pos:Pos}
end
end L2
namespace L2
open PySem
mutual
def gS:D->Bool
 | .none=>true
 | .bool _=>true
 | .int _=>true
 | .str _=>true
 | .tuple ds=>bu ds
 | .list _=>false
 | .dict _=>false
def bu:List D->Bool
 | []=>true
 |d :: ds=>gS d && bu ds
end
section
variable {P:Program}{w:World}{K:Frag}{mg:Str->Option Value}{base:Heap}{ca:Str->Addr}{G G' H H':Hp}
mutual
theorem Rp.flat (s:ae G H)(s':ae G' H):∀{x:V} {d:D},Rp K G' x d->gS d=true->Rp K (dU G H) x d
 |_,_,.non,_=>.non
 |_,_,.bl b,_=>.bl b
 |_,_,.int i,_=>.int i
 |_,_,.str x,_=>.str x
 |_,_,.tup h hs,e=>.tup (i8 s (h.grow s'.grow)) (bB.flat s s' hs (by simpa[gS] using e))
 |_,_,.lst h hs,e=>by simp[gS] at e
 |_,_,.scr h,e=>by simp[gS] at e
 |_,_,.dK h hs,e=>by simp[gS] at e
 |_,_,.dT h hs,e=>by simp[gS] at e
theorem bB.flat (s:ae G H)(s':ae G' H):∀{xs:List V} {ds:List D},bB K G' xs ds->bu ds=true->bB K (dU G H) xs ds
 |_,_,.nil,_=>.nil
 |_,_,.cons h hs,e=>by
  simp only[bu,Fp] at e
  exact .cons (Rp.flat s s' h e.1) (bB.flat s s' hs e.2)
end
def qJ (F:List D->FR):List D->FR:=λds=>match F ds with
 | .ok (.list es) false=>.ok (.list es) (bu ds && bu es)
 |r=>r
def tH {F:List D->FR}{ds es:List D}(e:F ds=.ok (.list es) false)(h1:bu ds=true)(h2:bu es=true):qJ F ds=.ok (.list es) true:=by
 unfold qJ;rw[e];dsimp only;rw[h1,h2];rfl
def AS:Hp:=λ_=>none
def pG:ae AS H:=λb o e=>by cases e
theorem zC {b:Addr}{o:HO}(h:dU AS H b=some o):Fz o:=by
 unfold dU at h
 have e:AS b=none:=rfl
 rw[e] at h
 cases q:H b with
 |none=>rw[q] at h;cases h
 |some u=>
  rw[q] at h
  dsimp only at h
  split at h
  ·rename_i f;cases h;exact f
  ·cases h
def yI {n:Nat}{F:List D->FR}{vs:List V}{Q:VK}{E:XK}(q:u6 K ca n (qJ F) vs H Q E):u6 K ca n F vs H Q E:=by
 obtain⟨G,ds,sG,hl,r,q⟩:=q
 by_cases z:∃es,F ds=.ok (.list es) false/\bu ds=true/\bu es=true
 ·obtain⟨es,e,h1,h2⟩:=z
  rw[tH e h1 h2] at q
  have sn:ae (dU AS G) H:=(i5 pG).trans sG
  refine⟨dU AS G,ds,sn,hl,r.flat pG (ae.refl _) h1,?_⟩
  rw[e]
  intro v G' H' hh g1 g2 hn fv
  have fv:Rp K G' v (.list es):=fv
  cases fv with
  | @lst a xs _ ha hs=>
   have hH':H' a=some (.lst xs):=g2 _ _ ha
   have hHa:H a=none:=by
    cases z:H a with
    |none=>rfl
    |some o=>
     have z':=hh _ _ z
     rw[hH'] at z'
     cases z'
     have hm:Mx H a:=Mx.lst z
     have:dU AS G a=none:=by
      cases y:dU AS G a with
      |none=>rfl
      |some o=>
       have y':=sn _ _ y
       rw[z] at y'
       cases y'
       exact (zC y).elim
     rw[hn a hm this] at ha
     cases ha
   have sG':ae G H':=sG.trans hh
   refine q (.ref a) (dU G H') H' hh jy (i5 sG') (λb m e=>by rw[oz hh m];exact e) ?_
   refine⟨a,rfl,hHa,?_,xs,hH',hs.flat sG' g2 h2⟩
   unfold dU
   rw[sG.free hHa,hH']
   exact EN λf=>f
 ·have:qJ F ds=F ds:=by
   unfold qJ
   split
   ·rename_i es e
    have hf:(bu ds && bu es)=false:=by
     cases y:(bu ds && bu es) with
     |false=>rfl
     |true=>rw[Fp] at y;exact absurd ⟨es,e,y.1,y.2⟩ z
    rw[hf,e]
   ·rfl
  rw[this] at q
  exact⟨G,ds,sG,hl,r,q⟩
def eH.new {x:Str}{ps:List Str}{k:Nat}{F:List D->FR}(h:eH P w K mg base ca x ps k F):eH P w K mg base ca x ps k (qJ F):=by
 obtain⟨f,fd,a,b,c,d⟩:=h.ex
 refine⟨⟨f,fd,a,b,c,d.imp λvs H Q E q=>yI q⟩,λds hn=>h.len ds λz=>hn ?_⟩
 unfold qJ;rw[z]
end
section
variable {K:Frag}{h:Heap}{mg:Str->Option Value}
theorem yf {α:Type}{P:List α->Prop}(q:∀a,P [a]):∀us:List α,us.length=1->P us
 | [a],_=>q a
theorem ln2 {α:Type}{P:List α->Prop}(q:∀a b,P [a,b]):∀us:List α,us.length=2->P us
 | [a,b],_=>q a b
theorem Eb {α:Type}{P:List α->Prop}(q:∀a b c,P [a,b,c]):∀us:List α,us.length=3->P us
 | [a,b,c],_=>q a b c
def aZ (x:Str)(st:Stmt)(ps:List Str):Prop:=∀(kV doc pm:Value) (an:Option Addr) (cdv ct:Value) (us:List Value),us.length=ps.length->bindArgs (PySem.W.fnOf x x (eR st) (bL st) (ak st) .none kV doc pm an cdv ct) ⟨us,[]⟩=pure (ps.zip us)
structure Fo (K:Frag)(mg:Str->Option Value)(x:Str)(st:Stmt)(ps:List Str):Prop where
 ex:∃f fd,jZ K mg x st ps f fd
def cc {x:Str}{st:Stmt}{ps:List Str}{f:Addr}{oc:Value}{od an:Option Addr}{sl:Array (Option Value)}{kV doc pm cdv ct:Value}(X:K.In h)(G:h.Ns mainGlobals mg)(b:aZ x st ps)(a:PySem.W.nsIn K mainGlobals x=some (some (.ref f)))
  (l:K.lookup f=some ⟨oc,od,.func (PySem.W.fnOf x x (eR st) (bL st) (ak st) .none kV doc pm an cdv ct),sl⟩) (c:PySem.W.codeIn K cdv x=true) (k:PySem.W.keepIn K (.ref f)=true):Fo K mg x st ps:=
 ⟨⟨f,_,PySem.W.mg_of X G a,rq l c k,(rq l c k).binds b⟩⟩
def DC:List Str:=["len","range","enumerate","zip","min","max","sum","abs","sorted","reversed","int","str","bool","list","tuple","dict","set","isinstance","repr","any","all","divmod"]
def DU (K:Frag):Bool:=DC.all λx=>match PySem.W.nsIn K mainGlobals x with
 |some none=>true
 |_=>false
def BF (q:DU K=true){x:Str}(hx:x∈DC):PySem.W.nsIn K mainGlobals x=some none:=by
 have:=Ga.mp q x hx
 split at this
 ·assumption
 ·cases this
def CY (X:K.In h)(G:h.Ns mainGlobals mg)(q:DU K=true):ke mg:=by
 have key:∀{x:Str},x∈DC->mg x=none:=λhx=>PySem.W.mg_none_of X G (BF q hx)
 constructor <;> exact key (by decide)
end
end L2
namespace L2
open PySem PyProof.Rows
section
variable {X:Cx}{K:Frag}{pins:List V}{σ:St}{H:Hp}{s:Shared}{E:XK}
def rz (ns:List Int):Int:=ns.getD (argBest (λi j=>decide (ns.getD i 0 > ns.getD j 0)) (ns.length - 1)) 0
def getD_mem {ns:List Int}{i:Nat}(h:i < ns.length):ns.getD i 0∈ns:=by
 rw[Fb,ED h];exact FN h
def mem_getD {ns:List Int}{x:Int}(h:x∈ns):∃i,i < ns.length/\ns.getD i 0=x:=by
 obtain⟨i,hi,e⟩:=List.getElem_of_mem h
 exact⟨i,hi,by rw[Fb,ED hi];exact e⟩
def wQ {ns:List Int}(h:ns≠ []):rz ns∈ns:=by
 have h1:=(argBest_gt (λi=>ns.getD i 0) (ns.length - 1)).1
 have:=List.length_pos_iff.mpr h
 exact getD_mem (by omega)
def yT {ns:List Int}{x:Int}(h:x∈ns):x<=rz ns:=by
 obtain⟨i,hi,e⟩:=mem_getD h
 rw[<-e];exact (argBest_gt (λi=>ns.getD i 0) (ns.length - 1)).2 i (by omega)
theorem kF:∀{us:List Value} {ns:List Int},IntsAre us ns->∃xs:List (Int×Tok),us=xs.map (λp=>Value.int p.1 p.2)/\xs.map (·.1)=ns
 |_,_,.nil=>⟨[],rfl,rfl⟩
 |_,_,.cons n t hr=>by
  obtain⟨xs,e1,e2⟩:=kF hr
  exact⟨(n,t) :: xs,by rw[e1];rfl,by rw[<-e2];rfl⟩
def pW {us:List Value}{ns:List Int}(h:IntsAre us ns):∃xs:Array (Int×Tok),us.toArray=intItems xs/\(∀i,numAt xs i=ns.getD i 0)/\xs.size=ns.length:=by
 obtain⟨xs,e1,e2⟩:=kF h
 refine⟨xs.toArray,?_,λi=>?_,?_⟩
 ·rw[e1,intItems,List.map_toArray]
 ·rw[numAt_eq];show ((xs.map (·.1)).getD i 0)=_;rw[e2]
 ·rw[<-e2];simp
def wq (K:Frag)(g:List Int->Int):List V->Hp->VK->Prop:=λxs H Q=>∃a ns,xs= [.ref a]/\(dS K H a (ns.map V.int)\/eB K H a (ns.map V.int))/\0 < ns.length/\Q (.int (g ns)) H
def vT {t:Addr}{A:Around}{prog:Program}{w:World}{xs:Array (Int×Tok)}{Em:Value->Shared->Prop}{op:CmpOp}{bt:Nat->Nat->Bool}{Q:Value->Shared->Prop}(hh:A.handled=none)(hT:s.heap.IsTuple t (intItems xs))(hne:0 < xs.size)(hc:CmpOf prog w A op (λi v=>(intItems xs)[i]? =some v) bt)
  (h:∀v h' tk,(intItems xs)[argBest bt (xs.size - 1)]? =some v->(∀b o,s.heap.get? b=some o->h'.get? b=some o)->Q v {s with heap:=h',toks:=tk}) :
  wpAny (model prog w) A (pyIter (.ref t)) (λit s₂=>∃I fp wr n P St bt,it=.ref I/\Walks prog w A I fp wr n P St/\St 0 s₂.heap/\(∀b∈fp,b < s₂.heap.objs.size)/\0 < n/\CmpOf prog w A op P bt/\
   ∀v h' tk,P (argBest bt (n - 1)) v->(∀b o,b∉wr->s₂.heap.get? b=some o->h'.get? b=some o)->Q v {s₂ with heap:=h',toks:=tk}) Em s:=by
 have hlt:t < s.heap.objs.size:=by obtain⟨_,e,_⟩:=hT;exact EO e
 refine Hm hT ?_
 refine⟨_,[_,t],[_],_,_,_,bt,rfl,Walks.tuple (A:=A) hh _ t (Fd hlt) (intItems xs),⟨⟨_,EW _ rfl,rfl,rfl⟩,?_⟩,λc hc=>?_,by simpa[intItems] using hne,hc,λv h' tk hP hk=>?_⟩
 ·exact hT.push _
 ·show c < (s.heap.push _).objs.size
  rw[Gz]
  rcases EH.mp hc with rfl |hc
  ·exact Nat.lt_succ_self _
  ·rcases EH.mp hc with rfl |hc
   ·exact Hw hlt
   ·cases hc
 ·refine h v h' tk (by simpa[intItems] using hP) λc o e=>hk c o (λhm=>?_) (EF _ e)
  rcases EH.mp hm with e1 |hm
  ·exact absurd (e1▸EO e) (Fe _)
  ·cases hm
def pF {xs:Array (Int×Tok)}{ns:List Int}{bt:Nat->Nat->Bool}{v:Value}(hx:∀i,numAt xs i=ns.getD i 0)(hp:(intItems xs)[argBest bt (xs.size - 1)]? =some v):∃t,v=.int (ns.getD (argBest bt (xs.size - 1)) 0) t:=by
 obtain⟨t,e⟩:=intItems_at hp
 exact⟨t,by rw[e,hx]⟩
def uD (hc:X.calm=true):bN X (.builtin "max") (wq X.K rz):=by
 intro pins s σ H xs us Q I r h
 obtain⟨a,ns,rfl,hq,hz,q⟩:=h
 obtain⟨u,rfl,rx⟩:=vals1 r
 cases rx
 have hh:=I.ok.hd hc
 rcases hq with hq |hq
 ·obtain⟨its,rv,pl,_⟩:=I.list hq
  obtain⟨xs,e,hx,hs⟩:=pW (intsAre_of rv)
  refine max_intList (xs:=xs) hh (e▸pl.isList) (by omega) λv h' tk hp k=>⟨_,H,I.kept k,?_,q⟩
  obtain⟨t,rfl⟩:=pF hx hp
  simp only[hx,hs];exact⟨t,rfl⟩
 ·obtain⟨its,rv,pl,_⟩:=I.tuple hq
  obtain⟨xs,e,hx,hs⟩:=pW (intsAre_of rv)
  refine call_max_walk (vT (xs:=xs) hh (e▸pl) (by omega) (CmpOf.ints_gt (numAt xs) (λ_ _=>intItems_at)) λv h' tk hp k=>⟨_,H,I.kept k,?_,q⟩)
  obtain⟨t,rfl⟩:=pF hx hp
  simp only[hx,hs];exact⟨t,rfl⟩
def k8 (g:List Int->Int)(d:D):Option D:=match gK d with
 |some ds=>(match fG ds with
  |some ns=>if 0 < ns.length then some (.int (g ns)) else none
  |none=>none)
 |none=>none
theorem yO {g:List Int->Int}:uh K (λx=>wq K g [x]) (k8 g) .v:=by
 intro B G H x dx d Q s hB bx e k
 unfold k8 at e
 cases q:gK dx with
 |none=>rw[q] at e;cases e
 |some ds=>
  rw[q] at e
  dsimp only at e
  cases q2:fG ds with
  |none=>rw[q2] at e;cases e
  |some ns=>
   rw[q2] at e
   dsimp only at e
   split at e
   ·rename_i hz
    cases e
    obtain⟨p,xs,rfl,hq,r⟩:=bx.seq q s
    rw[lx q2] at r
    have r:=r.intsB
    subst r
    exact⟨p,ns,rfl,hq,hz,k _ G H (Ext.refl s) (.int _)⟩
   ·cases e
end
section
variable {X:Cx}{K:Frag}{σ:St}{G H:Hp}{s:Shared}{E:XK}
def kP (p:Int×Int):List Key:=[.inl p.1,.inl p.2]
def AF {p q:Int×Int}:kP p=kP q↔p=q:=by
 unfold kP
 constructor
 ·intro h
  simp at h
  exact Prod.ext h.1 h.2
 ·intro h;rw[h]
abbrev KP (K:Frag)(G:Hp):List (List Key×V)->List ((Int×Int)×D)->Prop:=Paired λa b=>a.1=kP b.1/\Rp K G a.2 b.2
theorem KP.any {kvs:List (List Key×V)}{acc:List ((Int×Int)×D)}(h:KP K G kvs acc)(p:Int×Int):(kvs.any λkv=>decide (kv.1=kP p))=acc.any λkv=>decide (kv.1=p):=by
 induction h with
 |nil=>rfl
 |cons h _ ih=>
  rw[Gv,Gv,ih,h.1]
  congr 1
  rw[decide_eq_decide];exact AF
end
end L2
namespace L2
open PySem PySem.Spec PyProof.Rows
namespace HM
def lexLt:List Int->List Int->Bool
 |_,[]=>false
 | [],_ :: _=>true
 |x :: xs,y :: ys=>if x=y then lexLt xs ys else decide (x < y)
def dZ (x y:Int)(xs ys:List Int):lexLt (x :: xs) (y :: ys)=if x=y then lexLt xs ys else decide (x < y):=rfl
def oU (A:Around)(s:Shared)(a:Int)(t:Tok)(c:Int)(u:Tok)(prog:Program)(w:World)(E:Value->Shared->Prop)(Q:Value->Shared->Prop)(h:Q (.bool (decide (a < c))) s) :
  wpAny (model prog w) A (richCompare .Lt (.int a t) (.int c u)) Q E s:=
 (PyProof.Rows.lt_int h:wpAny (model prog w) A (compareOp .Lt (.int a t) (.int c u)) Q E s)
theorem tx {vs:List Value}{ns:List Int}(h:IntsAre vs ns){i:Nat}{v:Value}(e:vs[i]? =some v):∃a t,ns[i]? =some a/\v=.int a t:=by
 induction h generalizing i with
 |nil=>cases e
 |cons n t hr ih=>
  cases i with
  |zero=>cases e;exact⟨n,t,rfl,rfl⟩
  |succ i=>exact ih (by simpa using e)
def xh {ns ms:List Int}{i:Nat}{a c:Int}(h1:ns[i]? =some a)(h2:ms[i]? =some c):lexLt (ns.drop i) (ms.drop i)=if a=c then lexLt (ns.drop (i + 1)) (ms.drop (i + 1)) else decide (a < c):=by
 obtain⟨g1,rfl⟩:=EV.mp h1
 obtain⟨g2,rfl⟩:=EV.mp h2
 rw[Gq g1,Gq g2,dZ]
def sv {ns ms:List Int}{i:Nat}(h:ns.length<=i\/ms.length<=i)(hi:i<=ns.length)(hj:i<=ms.length):lexLt (ns.drop i) (ms.drop i)=decide (ns.length < ms.length):=by
 by_cases c:ms.length<=i
 ·rw[List.drop_of_length_le c,E3 (by omega)]
  cases ns.drop i <;> rfl
 ·have:ns.length<=i:=h.resolve_right c
  rw[List.drop_of_length_le this,ET (by omega),Gq (show i < ms.length by omega)];rfl
section
open PySem.SeqAt
open PySem.AutoSeq1 (wpAny_loadPart')
open PySem.MeetsSeq PySem.MeetsSeq2 PySem.MeetsSeq3
theorem zG (l b:Addr)(items items2:Array Value)(n n2:Nat)(dd dd2:Option Addr)(sl sl2:Array (Option Value))(ns ms:List Int)(hi:IntsAre items.toList ns)(hj:IntsAre items2.toList ms)(k:Nat) :
  ∀i:Nat,items.size - i=k->i<=items.size->i<=items2.size->Meets (Builtin.«list.__eq__.loop» ⟨[.ref l,.ref b,rawInt i,rawInt 0],[]⟩)
   (λA R s=>s.heap.get? l=some {cls:=.type "list",dict:=dd,data:=.seq items n,slots:=sl}/\s.heap.get? b=some {cls:=.type "list",dict:=dd2,data:=.seq items2 n2,slots:=sl2}/\R (.ok (.ret (.bool (lexLt (ns.drop i) (ms.drop i))))) s):=by
 have z1:items.size=ns.length:=by rw[<-hi.length];simp
 have z2:items2.size=ms.length:=by rw[<-hj.length];simp
 induction k with
 |zero=>
  intro i hk h1 h2 prog w A R s h
  obtain⟨hp,g,d,tk,os⟩:=s;obtain⟨hl,hb,h⟩:=h
  rw[sv (.inl (by omega)) (by omega) (by omega)] at h
  wp_walk using wpAny_loadPart' hl,wpAny_loadPart' hb
  have e1:items[((i:Nat):Int).toNat]? =none:=by simp;omega
  rw[e1]
  wp_walk using wpAny_loadPart' hl,wpAny_loadPart' hb
  show R (.ok (.ret (.bool (decide (items.size < items2.size))))) _
  rw[z1,z2];exact h
 |succ k ih=>
  intro i hk h1 h2 prog w A R s h
  obtain⟨hp,g,d,tk,os⟩:=s;obtain⟨hl,hb,h⟩:=h
  have lt1:i < items.size:=by omega
  by_cases c2:items2.size<=i
  ·rw[sv (.inr (by omega)) (by omega) (by omega)] at h
   wp_walk using wpAny_loadPart' hl,wpAny_loadPart' hb
   have e1:items[((i:Nat):Int).toNat]? =some items[i]:=by simp[lt1]
   have e2:items2[((i:Nat):Int).toNat]? =none:=by simp;omega
   rw[e1,e2]
   wp_walk using wpAny_loadPart' hl,wpAny_loadPart' hb
   show R (.ok (.ret (.bool (decide (items.size < items2.size))))) _
   rw[z1,z2];exact h
  ·have lt2:i < items2.size:=by omega
   have e1:items[((i:Nat):Int).toNat]? =some items[i]:=by simp[lt1]
   have e2:items2[((i:Nat):Int).toNat]? =some items2[i]:=by simp[lt2]
   obtain⟨a,t,ea,va⟩:=tx hi (i:=i) (v:=items[i]) (by simp[lt1])
   obtain⟨c,u,ec,vc⟩:=tx hj (i:=i) (v:=items2[i]) (by simp[lt2])
   rw[xh ea ec] at h
   rw[va] at e1
   rw[vc] at e2
   wp_walk using wpAny_loadPart' hl,wpAny_loadPart' hb
   rw[e1,e2]
   obtain⟨e,he,hiff⟩:=HT.xg A.in1 ⟨hp,g,d,tk,os⟩ a t c u
   refine EE (he prog w _ _ ?_)
   cases e with
   |true=>
    rw[EI (hiff.mp rfl)] at h
    have hc:((i:Int) + 1)=((i + 1:Nat):Int):=by omega
    wp_walk
    rw[hc]
    exact⟨Gj plain_eq_loop _,FQ entry_eq_loop (by
     rw[FF plain_eq_loop _]
     exact ih (i + 1) (by omega) (by omega) (by omega) prog w A R _ ⟨hl,hb,h⟩)⟩
   |false=>
    rw[EN (λq=>absurd (hiff.mpr q) E8)] at h
    have hri:=oU A.in1 ⟨hp,g,d,tk,os⟩ a t c u prog w
    wp_walk using wpAny_loadPart' hl,wpAny_loadPart' hb
    rw[e1,e2]
    wp_walk using hri
    exact h
def yV (l b:Addr)(items items2:Array Value)(n n2:Nat)(dd dd2:Option Addr)(sl sl2:Array (Option Value))(ns ms:List Int)(hi:IntsAre items.toList ns)(hj:IntsAre items2.toList ms) :
  Meets (Builtin.«list.__lt__» ⟨[.ref l,.ref b],[]⟩)
   (λA R s=>s.heap.get? l=some {cls:=.type "list",dict:=dd,data:=.seq items n,slots:=sl}/\s.heap.get? b=some {cls:=.type "list",dict:=dd2,data:=.seq items2 n2,slots:=sl2}/\R (.ok (.ret (.bool (lexLt ns ms)))) s):=by
 intro prog w A R s h
 obtain⟨hp,g,d,tk,os⟩:=s;obtain⟨hl,hb,h⟩:=h
 have f3:=AutoSeq1.sub_list_list
 wp_walk using wpAny_loadPart' hl,wpAny_loadPart' hb
 exact⟨Gj plain_eq_loop _,FQ entry_eq_loop (by
  rw[FF plain_eq_loop _]
  exact zG l b items items2 n n2 dd dd2 sl sl2 ns ms hi hj _ 0 rfl (Fj _) (Fj _) prog w A R _ ⟨hl,hb,h⟩)⟩
end
section
variable {prog:Program}{w:World}{A:Around}{E:Value->Shared->Prop}{s:Shared}
def wF {l b:Addr}{o o2:Obj}{items items2:Array Value}{n n2:Nat}{ns ms:List Int}{Q:Value->Shared->Prop}(ho:s.heap.get? l=some o)(hc:o.cls=.type "list")(hd:o.data=.seq items n)(ho2:s.heap.get? b=some o2)(hc2:o2.cls=.type "list")(hd2:o2.data=.seq items2 n2)(hi:IntsAre items.toList ns)(hj:IntsAre items2.toList ms)
  (hu:A.units < cLine) (h:Q (.bool (lexLt ns ms)) s):wpAny (model prog w) A (richCompare .Lt (.ref l) (.ref b)) Q E s:=by
 obtain⟨cls,dd,data,sl⟩:=o
 obtain⟨cls2,dd2,data2,sl2⟩:=o2
 simp only at hc hd hc2 hd2
 subst hc hd hc2 hd2
 exact richCompare_meets_room (op:=.Lt) ⟨_,ho,rfl⟩ ⟨_,ho2,rfl⟩ PySem.F.slot_list_lt PySem.F.entry_list_lt (PySem.F.args_list_lt_2 _ _) (yV l b items items2 n n2 dd dd2 sl sl2 ns ms hi hj)
  ⟨ho,ho2,show Value.bool (lexLt ns ms)≠Value.notImplemented/\Q (.bool (lexLt ns ms)) s from⟨(λx=>nomatch x),h⟩⟩ hu
end
end HM
namespace HM
section
variable {prog:Program}{w:World}{A:Around}{R:Result->Shared->Prop}{I:Addr}{fp wr:List Addr}{n:Nat}{P:Nat->Value->Prop}{St:Nat->Heap->Prop}
theorem t9 (W:Walks prog w A.in1 I fp wr n P St)(bt:Nat->Nat->Bool)(Hk:Heap->Prop)(S:Addr)(hSf:S∉fp)(hH:∀g g':Heap,Hk g->(∀b o,b∉wr->b≠S->g.get? b=some o->g'.get? b=some o)->Hk g')
  (hc:∀i j vi vj (z:Shared) (Q:Value->Shared->Prop) (E:Value->Shared->Prop),Hk z.heap->P i vi->P j vj->Q (.bool (bt i j)) z->wpAny (model prog w) A.in1 (richCompare .Lt vi vj) Q E z) :
  ∀(r j:Nat) (z:Shared) (vb:Value) (c:Nat),n - (j + 1)=r->j + 1<=n->Hk z.heap->St (j + 1) z.heap->P (argBest bt j) vb->z.heap.get? S=some {cls:=.type "list",dict:=none,data:=.seq #[vb,vb] c,slots:=#[]}->
  (∀v g tk,P (argBest bt (n - 1)) v->(∀b o,b∉wr->b≠S->z.heap.get? b=some o->g.get? b=some o)->R (.ok (.ret v)) {z with heap:=g,toks:=tk})->
  codeAny (model prog w) A (.builtin "min.loop" ⟨[.ref I,.none,.ref S],[]⟩) R z:=by
 have nS:S∉wr:=λq=>hSf (W.sub _ q)
 have hn:(toString "min" ++ toString ".loop":String)="min.loop":=by decide
 intro r
 induction r with
 |zero=>
  intro j z vb c hr hj hk st pb eS k
  have hin:j + 1=n:=by omega
  refine FQ PySem.F.entry_min_loop ?_
  rw[FF FW _]
  refine EE (Hr eS rfl (EE (wpAny_tryCatch (W.done z _ _ (hin▸st) λg tk kk=>?_))))
  have eS2:=kk S _ nS eS
  refine EE (show wpAny _ A.in1 (updateSeq S (λ_=>#[])) _ _ _ from Hi eS2 rfl (EE (wpAny_letGo (EJ ?_))))
  exact k vb _ tk (by rw[<-hin];exact pb) λb o n1 n2 e=>(Ff _ _ (Ne.symm n2)).trans (kk b o n1 e)
 |succ r ih=>
  intro j z vb c hr hj hk st pb eS k
  have hlt:j + 1 < n:=by omega
  refine FQ PySem.F.entry_min_loop ?_
  rw[FF FW _]
  refine EE (Hr eS rfl (EE (wpAny_tryCatch (W.item (j + 1) z _ _ hlt st λv g tk pv st2 kk=>?_))))
  have eS2:=kk S _ nS eS
  have hk2:Hk g:=hH _ _ hk λb o n1 _ e=>kk b o n1 e
  refine show wpAny _ A.in1 (tryCatch (holding [v,v] (richCompare .Lt v vb >>= _)) _ >>= _) _ _ _ from EE (wpAny_tryCatch (FU (EE (hc (j + 1) (argBest bt j) v vb _ _ _ hk2 pv pb ?_))))
  refine EE (FU (FX (EE (wpAny_letGo (EJ ?_)))))
  cases hb:bt (j + 1) (argBest bt j) with
  |true=>
   simp only[FH]
   refine EE (Hi eS2 rfl (EE (wpAny_letGo ?_)))
   rw[hn]
   have kS:∀b o,b∉wr->b≠S->z.heap.get? b=some o->(g.update S (Obj.mapSeq λ_=>#[v,v])).get? b=some o:=λb o n1 n2 e=>(Ff _ _ (Ne.symm n2)).trans (kk b o n1 e)
   refine EJ ⟨Gj FW _,ih (j + 1) _ v _ (by omega) hlt (hH _ _ hk kS) (W.frame _ _ _ st2 λb hbf o e=>(Ff _ _ (λq:S=b=>hSf (by rw[q];exact hbf))).trans e) (by simp only[argBest,hb,FH];exact pv) (Fu _ eS2 rfl) λv' g' tk' pv' k2=>?_⟩
   exact k v' g' tk' pv' λb o n1 n2 e=>k2 b o n1 n2 (kS b o n1 n2 e)
  |false=>
   simp only[EU,Fh]
   refine EE (wpAny_letGo ?_)
   rw[hn]
   refine EJ ⟨Gj FW _,ih (j + 1) _ vb c (by omega) hlt hk2 st2 (by simp only[argBest,hb,EU,Fh];exact pb) eS2 λv' g' tk' pv' k2=>?_⟩
   exact k v' g' tk' pv' λb o n1 n2 e=>k2 b o n1 n2 (kk b o n1 e)
def qN (W:Walks prog w A.in1 I fp wr n P St)(bt:Nat->Nat->Bool)(Hk:Heap->Prop)(S:Addr)(hSf:S∉fp)(hH:∀g g':Heap,Hk g->(∀b o,b∉wr->b≠S->g.get? b=some o->g'.get? b=some o)->Hk g')
  (hc:∀i j vi vj (z:Shared) (Q:Value->Shared->Prop) (E:Value->Shared->Prop),Hk z.heap->P i vi->P j vj->Q (.bool (bt i j)) z->wpAny (model prog w) A.in1 (richCompare .Lt vi vj) Q E z)
  (h0:0 < n) {z:Shared} {c:Nat} (hk:Hk z.heap) (st:St 0 z.heap) (eS:z.heap.get? S=some {cls:=.type "list",dict:=none,data:=.seq #[] c,slots:=#[]})
  (k:∀v g tk,P (argBest bt (n - 1)) v->(∀b o,b∉wr->b≠S->z.heap.get? b=some o->g.get? b=some o)->R (.ok (.ret v)) {z with heap:=g,toks:=tk}) :
  codeAny (model prog w) A (.builtin "min.loop" ⟨[.ref I,.none,.ref S],[]⟩) R z:=by
 have nS:S∉wr:=λq=>hSf (W.sub _ q)
 have hn:(toString "min" ++ toString ".loop":String)="min.loop":=by decide
 refine FQ PySem.F.entry_min_loop ?_
 rw[FF FW _]
 refine EE (Hr eS rfl (EE (wpAny_tryCatch (W.item 0 z _ _ h0 st λv g tk pv st2 kk=>?_))))
 have eS2:=kk S _ nS eS
 refine show wpAny _ A.in1 (updateSeq S (λ_=>#[v,v]) >>= _) _ _ _ from EE ?_
 refine Hi eS2 rfl ?_
 rw[hn]
 have kS:∀b o,b∉wr->b≠S->z.heap.get? b=some o->(g.update S (Obj.mapSeq λ_=>#[v,v])).get? b=some o:=λb o n1 n2 e=>(Ff _ _ (Ne.symm n2)).trans (kk b o n1 e)
 refine EJ ⟨Gj FW _,t9 W bt Hk S hSf hH hc _ 0 _ v _ rfl h0 (hH _ _ hk kS) (W.frame _ _ _ st2 λb hbf o e=>(Ff _ _ (λq:S=b=>hSf (by rw[q];exact hbf))).trans e) pv (Fu _ eS2 rfl) λv' g' tk' pv' k2=>?_⟩
 exact k v' g' tk' pv' λb o n1 n2 e=>k2 b o n1 n2 (kS b o n1 n2 e)
end
def uH {prog:Program}{w:World}{A:Around}{E:Value->Shared->Prop}{s:Shared}{l:Addr}{its:Array Value}{Q:Value->Shared->Prop}(bt:Nat->Nat->Bool)(hh:A.handled=none)(hl:s.heap.IsList l its)(h0:0 < its.size)
  (hc:∀i j vi vj (z:Shared) (Q:Value->Shared->Prop) (E:Value->Shared->Prop),(∀b o,s.heap.get? b=some o->z.heap.get? b=some o)->its[i]? =some vi->its[j]? =some vj->Q (.bool (bt i j)) z->wpAny (model prog w) A.in1 (richCompare .Lt vi vj) Q E z)
  (k:∀v g tk,its[argBest bt (its.size - 1)]? =some v->(∀b o,s.heap.get? b=some o->g.get? b=some o)->Q v {s with heap:=g,toks:=tk}) :
  wpAny (model prog w) A (call (.builtin "min") [.ref l]) Q E s:=by
 have hn:(toString "min" ++ toString ".loop":String)="min.loop":=by decide
 have ll:l < s.heap.objs.size:=by obtain⟨o,e,_⟩:=hl;exact EO e
 refine call_function_tree PySem.F.kind_min PySem.F.plain_min PySem.F.entry_min (PySem.F.args_min1 _) ?_
 refine EE (show wpAny _ A.in1 (Builtin.Builtins.bindParams "min" ["key","default"] 0 ⟨[],[]⟩) _ _ s from wpAny_of_eq (show Builtin.Builtins.bindParams "min" ["key","default"] 0 ⟨[],[]⟩=pure [none,none] from rfl) ?_)
 refine EE (EJ (EE (GI hl (EE (GL ?_)))))
 rw[hn]
 have W:=Walks.list (prog:=prog) (w:=w) (A:=A.in1) hh s.heap.objs.size l (Fd ll) its
 have zz:∀o:Obj,(s.heap.push o).objs.size=s.heap.objs.size + 1:=λo=>Gz ..
 refine EJ ⟨Gj FW _,qN W bt (λg=>∀b o,s.heap.get? b=some o->g.get? b=some o) (s.heap.push _).objs.size ?_ (λg g' q kk b o e=>kk b o ?_ ?_ (q b o e)) hc h0 (λb o e=>EF _ (EF _ e)) ⟨⟨_,EF _ (EW _ rfl),rfl,rfl⟩,(hl.push _).push _⟩ (EW _ rfl) λv g tk pv kk=>k v g tk pv λb o e=>kk b o ?_ ?_ (EF _ (EF _ e))⟩
 ·intro q
  have:=zz {cls:=.type "list_iterator",data:=.fields #[.ref l,.int 0 0]}
  rcases EH.mp q with q |q
  ·rw[this] at q;exact absurd q (by simp)
  ·rcases EH.mp q with q |q
   ·rw[this] at q;exact absurd q (by show s.heap.objs.size + 1≠l;exact Nat.ne_of_gt (Hw ll))
   ·cases q
 all_goals
  have he:=EO e
  first
  | (intro q;rcases EH.mp q with q |q; · exact absurd he (by rw[q];exact Fe _)
     cases q)
  |exact Fd (E7 he (by rw[zz];exact Nat.le_succ _))
end HM
end L2
namespace L2
open PySem PyProof.Rows
section
variable {X:Cx}{K:Frag}{σ:St}{G H:Hp}{s:Shared}{E:XK}
def v3 (K:Frag)(H:Hp):List V->List (List Int)->Prop:=Paired λv r=>∃b,v=.ref b/\dS K H b (r.map V.int)
def qt (rs:List (List Int))(i j:Nat):Bool:=HM.lexLt (rs.getD i []) (rs.getD j [])
def z0 (K:Frag):List V->Hp->VK->Prop:=λxs H Q=>∃a vs rs v,xs= [.ref a]/\dS K H a vs/\v3 K H vs rs/\0 < rs.length/\vs[argBest (qt rs) (rs.length - 1)]? =some v/\Q v H
def AZ (h:Heap)(us:List Value)(rs:List (List Int)):Prop:=us.length=rs.length/\∀(i:Nat) (v:Value) (r:List Int),us[i]? =some v->rs[i]? =some r->∃(b:Addr) (o:Obj) (its:Array Value) (n:Nat),v=.ref b/\h.get? b=some o/\o.cls=.type "list"/\o.data=.seq its n/\IntsAre its.toList r
theorem so {pins:List (Addr×Obj)}(I:Inv X pins σ H s):∀{vs:List V} {us:List Value} {rs:List (List Int)},Vals vs us->v3 X.K H vs rs->AZ s.heap us rs
 |_,_,_,.nil,.nil=>⟨rfl,λi v r h _=>by simp at h⟩
 |_,_,_,.cons hv tv,.cons hr tr=>by
  obtain⟨e,f⟩:=so I tv tr
  refine⟨by simp[e],λi v r h1 h2=>?_⟩
  cases i with
  |zero=>
   simp at h1 h2
   subst h1 h2
   obtain⟨b,rfl,hq⟩:=hr
   cases hv
   obtain⟨its,rv,⟨o,n,ho,hc,_,hd⟩,_⟩:=I.list hq
   exact⟨b,o,its.toArray,n,rfl,ho,hc,hd,intsAre_of rv⟩
  |succ i=>exact f i v r (by simpa using h1) (by simpa using h2)
theorem mj {α β:Type}{F:α->β->Prop}:∀{l₁:List α} {l₂:List β},Paired F l₁ l₂->∀{i:Nat} {a:α} {b:β},l₁[i]? =some a->l₂[i]? =some b->F a b
 |_,_,.nil,_,_,_,e,_=>by simp at e
 |_,_,.cons h t,0,_,_,e,e'=>by simp at e e';subst e e';exact h
 |_,_,.cons h t,i + 1,_,_,e,e'=>mj t (i:=i) (by simpa using e) (by simpa using e')
def uO (hc:X.calm=true)(hu:X.A.units + 100 < cLine):bN X (.builtin "min") (z0 X.K):=by
 intro pins s σ H xs us Q I r h
 obtain⟨a,vs,rs,v,rfl,hq,hp,hz,hv,q⟩:=h
 obtain⟨u,rfl,rx⟩:=vals1 r
 cases rx
 have hh:=I.ok.hd hc
 obtain⟨its,rv,pl,_⟩:=I.list hq
 obtain⟨hl,hat⟩:=so I rv hp
 have hs:its.toArray.size=rs.length:=by simpa using hl
 refine HM.uH (qt rs) hh pl.isList (by omega) (λi j vi vj z Q E kk e1 e2 hQ=>?_) λu g tk hu kk=>⟨v,H,I.kept kk,?_,q⟩
 ·have e1:its[i]? =some vi:=by simpa using e1
  have e2:its[j]? =some vj:=by simpa using e2
  have g1:i < rs.length:=by rw[<-hl];exact (EV.mp e1).1
  have g2:j < rs.length:=by rw[<-hl];exact (EV.mp e2).1
  obtain⟨b,o,it,n,rfl,ho,hc,hd,hi⟩:=hat i vi rs[i] e1 (ED g1)
  obtain⟨b2,o2,it2,n2,rfl,ho2,hc2,hd2,hi2⟩:=hat j vj rs[j] e2 (ED g2)
  refine HM.wF (kk _ _ ho) hc hd (kk _ _ ho2) hc2 hd2 hi hi2 (by show X.A.units + 1 < cLine;omega) ?_
  have:qt rs i j=HM.lexLt rs[i] rs[j]:=by unfold qt;rw[Fb,Fb,ED g1,ED g2];rfl
  rw[<-this];exact hQ
 ·rw[hs] at hu
  have hu:its[argBest (qt rs) (rs.length - 1)]? =some u:=by simpa using hu
  exact mj rv hv hu
def jY:List D->Option (List (List Int))
 | []=>some []
 | .list ds :: es=>match fG ds,jY es with
  |some r,some rs=>some (r :: rs)
  |_,_=>none
 |_=>none
def jV (rs:List (List Int)):List Int:=rs.getD (argBest (qt rs) (rs.length - 1)) []
def oQ:D->Option D
 | .list ds=>match jY ds with
  |some rs=>if 0 < rs.length then some (.list ((jV rs).map int)) else none
  |none=>none
 |_=>none
theorem vR:∀{xs:List V} {ds:List D} {rs:List (List Int)},bB K G xs ds->jY ds=some rs->ae G H->v3 K H xs rs/\∀i:Nat,(rs[i]?).map (λr:List Int=>PyData.list (r.map int))=ds[i]?
 |_,_,_,.nil,e,s=>by cases e;exact⟨.nil,λi=>rfl⟩
 |_,_,_,@bB.cons _ _ x xs d ds hx hs,e,s=>by
  cases d with
  |list es=>
   unfold jY at e
   cases e1:fG es with
   |none=>rw[e1] at e;cases e
   |some r=>
    cases e2:jY ds with
    |none=>rw[e1,e2] at e;cases e
    |some rs=>
     rw[e1,e2] at e
     cases e
     obtain⟨h1,h2⟩:=vR hs e2 s
     cases hx with
     | @lst a ys _ ha hr=>
      have ee:=lx e1
      subst ee
      have hr:=hr.intsB
      subst hr
      refine⟨.cons ⟨a,rfl,.inl (.inl (s _ _ ha))⟩ h1,λi=>?_⟩
      cases i with
      |zero=>rfl
      |succ i=>simpa using h2 i
  |_=>cases e
theorem iU (bt:Nat->Nat->Bool):∀k,argBest bt k<=k
 | 0=>EG _
 |k + 1=>by
  unfold argBest
  split
  ·exact EG _
  ·exact Nat.le_succ_of_le (iU bt k)
theorem AX:uh K (λx=>z0 K [x]) oQ .v:=by
 intro B G H x dx d Q s hB bx e k
 cases dx with
 |list ds=>
  unfold oQ at e
  dsimp only at e
  cases e1:jY ds with
  |none=>rw[e1] at e;cases e
  |some rs=>
   rw[e1] at e
   dsimp only at e
   split at e
   ·rename_i hz
    cases e
    obtain⟨p,xs,rfl,hq,r⟩:=bx.list s
    obtain⟨h1,h2⟩:=vR r e1 s
    have hb:=iU (qt rs) (rs.length - 1)
    have h3:=h2 (argBest (qt rs) (rs.length - 1))
    have hm:rs[argBest (qt rs) (rs.length - 1)]? =some (jV rs):=by unfold jV;rw[Fb,ED (by omega)];rfl
    rw[hm] at h3
    obtain⟨v,hv,rv⟩:=r.at h3.symm
    exact⟨p,xs,rs,v,rfl,.inl hq,h1,hz,hv,k _ G H (Ext.refl s) rv⟩
   ·cases e
 |_=>cases e
end
end L2
namespace RM
open PySem L2
def cF (bQ:List D->FR):SF:=(aI (bh 1 ([] ++ []) (bC (aa (bC aq) aq)))
 (aI (cJ (.nm 2) ([] ++ []) (fC (f2 (gv 0) (cst (.int 0)) dB))
 (aI (iG 3 [] (bC aq))
 (aI (cJ (.nm 4) [1] (cT (gv 1))
 (kM (([] ++ [0,2]) ++ []) (iA (f2 (aY 1 [0,2] (.nm 0) (cT (gv 4)) (rf (mi (aF bQ (aa (gv 1) (aa (gv 0) (aa (gv 2) aq)))))) (gv 0)) (bC aq) (fF false)))
 (jv 3 ([] ++ ([2] ++ [])) (f2 (gv 4) (bC (aa (gv 2) aq)) gk))
 nk))
 (bh 1 ([] ++ []) (f2 (gv 1) (gv 3) gk)))))
 (pM 1)))
def tw (cO bW b4:List D->FR)(bZ:List D->Int->FB):SF:=(aI (cJ (.nm 1) ([] ++ ([] ++ [])) (fC (f2 (cst (.int 1)) (f2 (f1 (gv 0) fh) (cst (.int 4)) (uC λi j=>.int (if j < i then j else i))) (uC λi j=>.int (if j > i then j else i))))
 (aI (bh 2 ([0] ++ ([1] ++ [])) (C4 (my cO (aa (gv 0) (aa (gv 1) aq))) bZ 8))
 (aI (bh 3 ([2] ++ []) (aF bW (aa (gv 2) aq)))
 (aI (bh 4 ([] ++ []) (f1 (aY 1 [] (.nm 0) (cT (gv 3)) qK (f1 (gv 0) fh)) (k8 rz)))
 (aI (bh 5 ([] ++ []) (f1 (aY 1 [4] (.nm 0) (cT (gv 3)) (iA (f2 (f1 (gv 0) fh) (gv 1) (fF false))) (gv 0)) oQ))
 (cJ (.nm 6) [] (fC (cst (.int 2)))
 (aI (iG 7 ([2] ++ []) (my b4 (aa (gv 2) aq)))
 (aI (kM ([] ++ ([] ++ [])) (qk (rf (mi (f1 (gv 7) (jc "list")))) (iA (f2 (f1 (gv 7) mH) (f1 (gv 5) mH) (Bb true))))
 (cA (cst (.bool false)))
 nk)
 (jv 7 [] (cst (.int 0)))))))))))
 (cA (cst (.bool true))))
end RM
namespace RQ
open PySem L2 RM
def top (i:Nat):Stmt:=PySem.Challenge.pw_rowsorder_k16_most_apart.main.body.getD i (.Pass ⟨0,0,0,0⟩)
section
variable {P:Program}{w:World}{K:Frag}{mg:Str->Option Value}{base:Heap}{ca:Str->Addr}
abbrev gC:Stmt:=top 2
def pf:aG ["thing"] ["thing"] (ak gC):=⟨rfl,rfl,rfl,by decide +kernel,rfl,by decide +kernel,by decide +kernel⟩
def m9 {f:Addr}{fd:FuncData}(F:jZ K mg "is_whole" gC ["thing"] f fd)(B:ke mg):eH P w K mg base ca "is_whole" ["thing"] 1 (bw 1 1 (lg)):=
 ⟨⟨f,fd,F.mg,F.F.kp,F.b,aW (N:=["thing"]) (k:=0) F.F pf λcdv A outer s H G E hr=>
  (ax (bz (fU (jK "int" (by decide) rfl rfl B.isinstance rfl B.int (by decide +kernel) (ah 0)) (iS (wG (jK "bool" (by decide) rfl rfl B.isinstance rfl B.bool (by decide +kernel) (ah 0)))) (λ_ _=>rfl))))⟩,λds h=>aM ds h⟩
abbrev fZ:Stmt:=top 3
def pE:aG ["thing","bound"] ["thing","bound"] (ak fZ):=⟨rfl,rfl,rfl,by decide +kernel,rfl,by decide +kernel,by decide +kernel⟩
def nN {f:Addr}{fd:FuncData}{aV:List D->FR}(F:jZ K mg "is_below" fZ ["thing","bound"] f fd)(B:ke mg)(cK:eH P w K mg base ca "is_whole" ["thing"] 1 aV):eH P w K mg base ca "is_below" ["thing","bound"] 2 (bw 2 2 (lD aV)):=
 ⟨⟨f,fd,F.mg,F.F.kp,F.b,aW (N:=["thing","bound"]) (k:=1) F.F pE λcdv A outer s H G E hr=>
  (ax (bz (fU (bb cK (hr.mono (by decide)) b6 rfl rfl (af (aC 0 rfl) aw)) (iS (pA wd Af Bk CI av (ah 0) (ah 1))) (λ_ _=>rfl))))⟩,λds h=>aM ds h⟩
abbrev ip:Stmt:=top 4
def rE:aG ["thing"] ["thing"] (ak ip):=⟨rfl,rfl,rfl,by decide +kernel,rfl,by decide +kernel,by decide +kernel⟩
def qz {f:Addr}{fd:FuncData}{aV:List D->FR}(F:jZ K mg "is_many" ip ["thing"] f fd)(B:ke mg)(cK:eH P w K mg base ca "is_whole" ["thing"] 1 aV){l0:Tok}(fu:mg "MOST_THINGS"=some (.int 8 l0)):eH P w K mg base ca "is_many" ["thing"] 2 (bw 1 1 (mM aV)):=
 ⟨⟨f,fd,F.mg,F.F.kp,F.b,aW (N:=["thing"]) (k:=1) F.F rE λcdv A outer s H G E hr=>
  (ax (bz (fU (bb cK (hr.mono (by decide)) b6 rfl rfl (af (aC 0 rfl) aw)) (iS (pA wd wd Bk Bk av (ah 0) (zg (by rfl) fu))) (λ_ _=>rfl))))⟩,λds h=>aM ds h⟩
abbrev ik:Stmt:=top 5
def rm:aG ["thing","many"] ["thing","many"] (ak ik):=⟨rfl,rfl,rfl,by decide +kernel,rfl,by decide +kernel,by decide +kernel⟩
def qB {f:Addr}{fd:FuncData}{cv:List D->FR}(F:jZ K mg "is_pair" ik ["thing","many"] f fd)(B:ke mg)(fY:eH P w K mg base ca "is_below" ["thing","bound"] 2 cv):eH P w K mg base ca "is_pair" ["thing","many"] 3 (bw 2 2 (mq cv)):=
 ⟨⟨f,fd,F.mg,F.F.kp,F.b,aW (N:=["thing","many"]) (k:=2) F.F rm λcdv A outer s H G E hr=>
  (ar (gY (zc.t (sC (gW (fj rfl (jK "tuple" (by decide) rfl rfl B.isinstance rfl B.tuple (by decide +kernel) (ah 0)))) (oI (dP (jQ hr.units) jP (aN cC i3 rfl B.len Gp (ah 0)) av (cq _))) (λ_ _=>rfl)))
  (ax (bz mC))
  dM)
  (ax (bz (fU (bb fY (hr.mono (by decide)) b6 rfl rfl (af (cI bJ gJ (ah 0) av (λ_ _=>rfl)) (af (aC 1 rfl) aw))) (iS (bb fY (hr.mono (by decide)) b6 rfl rfl (af (cI bJ gJ (ah 0) av (λ_ _=>rfl)) (af (aC 1 rfl) aw)))) (λ_ _=>rfl)))))⟩,λds h=>aM ds h⟩
abbrev cD:Stmt:=top 6
def l5:aG ["many"] ["many"] (ak cD):=⟨rfl,rfl,rfl,by decide +kernel,rfl,by decide +kernel,by decide +kernel⟩
def kK {f:Addr}{fd:FuncData}(F:jZ K mg "every_pair" cD ["many"] f fd)(B:ke mg):eH P w K mg base ca "every_pair" ["many"] 1 (bw 1 1 (oK)):=
 ⟨⟨f,fd,F.mg,F.F.kp,F.b,aW (N:=["many"]) (k:=0) F.F l5 λcdv A outer s H G E hr=>
  (ax (n9 (eZ (NB:=["number","many"]) (own:=1) (ixs:=[0]) [] rfl (fR (by kernel_rfl)) (λ_ _=>rfl) (lE rfl B.range (aX hX iR (ah 0) (ah 0))) (λH0 G0 par br bx C ex s3 H3 pn=>(dh (i:=0) (show (["number","many"]:List Str).Nodup by decide +kernel))) (λH0 G0 par br bx C ex s3 H3 pn hB1=>hZ) (λH0 G0 par br bx C ex s3 H3 pn hB1=>(gN (af (aX jn yW (ah 0) (ah 1)) (af (aX iW mQ (ah 0) (ah 1)) aw)))))))⟩,λds h=>aM ds h⟩
abbrev fQ:Stmt:=top 13
def qw:aG ["pairs"] ["pairs"] (ak fQ):=⟨rfl,rfl,rfl,by decide +kernel,rfl,by decide +kernel,by decide +kernel⟩
def mZ {f:Addr}{fd:FuncData}(F:jZ K mg "has_ring" fQ ["pairs"] f fd)(B:ke mg):eH P w K mg base ca "has_ring" ["pairs"] 1 (bw 1 1 (kE)):=
 ⟨⟨f,fd,F.mg,F.F.kp,F.b,aW (N:=["pairs"]) (k:=0) F.F qw λcdv A outer s H G E hr=>
  (ax (bz (aN (xX rfl) nG rfl B.any (by decide +kernel) (eZ (NB:=["a","b"]) (own:=2) (ixs:=[]) [] rfl (fR (by kernel_rfl)) (λ_ _=>rfl) (ra rfl (ah 0)) (λH0 G0 par br bx C ex s3 H3 pn=>(qS (i:=0) (j:=1) (show (["a","b"]:List Str).Nodup by decide +kernel))) (λH0 G0 par br bx C ex s3 H3 pn hB1=>hZ) (λH0 G0 par br bx C ex s3 H3 pn hB1=>(gQ (iK hr.units) jP (ah 0) (ah 1) (cq _)))))))⟩,λds h=>aM ds h⟩
abbrev gA:Stmt:=top 11
def hU:aG ["thing","many","pairs"] ["thing"] (ak gA):=⟨rfl,rfl,rfl,by decide +kernel,rfl,by decide +kernel,by decide +kernel⟩
def oN {f:Addr}{fd:FuncData}{dE dD fJ cP:List D->FR}(F:jZ K mg "is_order" gA ["thing"] f fd)(B:ke mg)(jH:eH P w K mg base ca "is_many" ["thing"] 2 dE)(jz:eH P w K mg base ca "is_pair" ["thing","many"] 3 dD)(lz:eH P w K mg base ca "closed" ["many","pairs"] 3 fJ)(iL:eH P w K mg base ca "has_ring" ["pairs"] 1 cP):eH P w K mg base ca "is_order" ["thing"] 4 (bw 3 1 (dG dE dD fJ cP)):=
 ⟨⟨f,fd,F.mg,F.F.kp,F.b,aW (N:=["thing","many","pairs"]) (k:=3) F.F hU λcdv A outer s H G E hr=>
  (ar (gY (zc.t (sC (gW (fj rfl (jK "tuple" (by decide) rfl rfl B.isinstance rfl B.tuple (by decide +kernel) (ah 0)))) (oI (dP (jQ hr.units) jP (aN cC i3 rfl B.len Gp (ah 0)) av (cq _))) (λ_ _=>rfl)))
  (ax (bz mC))
  dM)
  (ar (aO (i:=1) (cI bJ gJ (ah 0) av (λ_ _=>rfl)) hU.nd)
  (ar (aO (i:=2) (cI bJ gJ (ah 0) av (λ_ _=>rfl)) hU.nd)
  (ar (gY (zc.t (sC (gW (fj rfl (bb jH (hr.mono (by decide)) b6 rfl rfl (af (aC 1 rfl) aw)))) (oI (gW (fj rfl (jK "tuple" (by decide) rfl rfl B.isinstance rfl B.tuple (by decide +kernel) (ah 2))))) (λ_ _=>rfl)))
  (ax (bz mC))
  dM)
  (ar (gY (gW (fj rfl (aN (o9 rfl) nG rfl B.all (by decide +kernel) (eZ (NB:=["pair","many"]) (own:=1) (ixs:=[1]) [1] rfl (fR (by kernel_rfl)) (λ_ _=>rfl) (ra rfl (ah 2)) (λH0 G0 par br bx C ex s3 H3 pn=>(dh (i:=0) (show (["pair","many"]:List Str).Nodup by decide +kernel))) (λH0 G0 par br bx C ex s3 H3 pn hB1=>hZ) (λH0 G0 par br bx C ex s3 H3 pn hB1=>(bb jz (hr.mono (by decide)) xw rfl rfl (af (aC 0 (hB1 0 (by decide))) (af (aC 1 (hB1 1 (by decide))) aw))))))))
  (ax (bz mC))
  dM)
  (ax (bz (fU (gQ (iK hr.units) jP (ah 2) (bb lz (hr.mono (by decide)) b6 rfl rfl (af (aC 1 rfl) (af (aC 2 rfl) aw))) (cq _)) (iS (wG (bb iL (hr.mono (by decide)) b6 rfl rfl (af (aC 2 rfl) aw)))) (λ_ _=>rfl)))))))))⟩,λds h=>aM ds h⟩
abbrev dq:Stmt:=top 14
def lY:aG ["thing"] ["thing"] (ak dq):=⟨rfl,rfl,rfl,by decide +kernel,rfl,by decide +kernel,by decide +kernel⟩
def lB {f:Addr}{fd:FuncData}{cL:List D->FR}(F:jZ K mg "need_order" dq ["thing"] f fd)(B:ke mg)(iN:eH P w K mg base ca "is_order" ["thing"] 4 cL)(fB:Exc K mg ca "NoOrder"):eH P w K mg base ca "need_order" ["thing"] 5 (bw 1 1 (dv cL)):=
 ⟨⟨f,fd,F.mg,F.F.kp,F.b,aW (N:=["thing"]) (k:=4) F.F lY λcdv A outer s H G E hr=>
  (ax (gY (gW (fj rfl (bb iN (hr.mono (by decide)) b6 rfl rfl (af (aC 0 rfl) aw))))
  (ax (wb fB.ex fB.ca rfl fB.mg (af AO aw)))
  dM))⟩,λds h=>aM ds h⟩
abbrev eJ:Stmt:=top 15
def oD:aG ["order","a","b"] ["order","a","b"] (ak eJ):=⟨rfl,rfl,rfl,by decide +kernel,rfl,by decide +kernel,by decide +kernel⟩
def lU {f:Addr}{fd:FuncData}(F:jZ K mg "are_apart" eJ ["order","a","b"] f fd)(B:ke mg):eH P w K mg base ca "are_apart" ["order","a","b"] 1 (bw 3 3 (j5)):=
 ⟨⟨f,fd,F.mg,F.F.kp,F.b,aW (N:=["order","a","b"]) (k:=0) F.F oD λcdv A outer s H G E hr=>
  (ax (bz (fU (gQ (jQ hr.units) jP (ah 1) (ah 2) (cq _)) (fU (gQ (iu hr.u1) yx (gN (af (aC 1 rfl) (af (aC 2 rfl) aw))) (cI bJ gJ (ah 0) av (λ_ _=>rfl)) (by with_unfolding_all rfl)) (iS (gQ (iu hr.u1) yx (gN (af (aC 2 rfl) (af (aC 1 rfl) aw))) (cI bJ gJ (ah 0) av (λ_ _=>rfl)) (by with_unfolding_all rfl))) (λ_ _=>rfl)) (λ_ _=>rfl))))⟩,λds h=>aM ds h⟩
abbrev cj:Stmt:=top 18
def bV:aG ["order","groups","grown","group","thing"] ["order","groups"] (ak cj):=⟨rfl,rfl,rfl,by decide +kernel,rfl,by decide +kernel,by decide +kernel⟩
def jl {f:Addr}{fd:FuncData}{cx:List D->FR}(F:jZ K mg "longer_groups" cj ["order","groups"] f fd)(B:ke mg)(hJ:eH P w K mg base ca "are_apart" ["order","a","b"] 1 cx):eH P w K mg base ca "longer_groups" ["order","groups"] 2 (bw 5 2 (ck cx)):=
 ⟨⟨f,fd,F.mg,F.F.kp,F.b,aW (N:=["order","groups","grown","group","thing"]) (k:=1) F.F bV λcdv A outer s H G E hr=>
  (ar (h9 (i:=2) (b7 aw) bV.nd)
  (ar (fo PassesOwn.leaving rfl (A3 rfl (aC 1 rfl)) (dh (i:=3) bV.nd)
  (ax (fo PassesOwn.leaving rfl (Ab rfl B.range (aX gO hW (cI bJ gJ (ah 3) (zT xF zY av) (λ_ _=>rfl)) av) (cI bJ gJ (ah 0) av (λ_ _=>rfl))) (dh (i:=4) bV.nd)
  (ax (gY (fj rfl (aN (o9 rfl) nG rfl B.all (by decide +kernel) (eZ (NB:=["one","order","thing"]) (own:=1) (ixs:=[0,4]) [0,4] rfl (fR (by kernel_rfl)) (λ_ _=>rfl) (ra rfl (ah 3)) (λH0 G0 par br bx C ex s3 H3 pn=>(dh (i:=0) (show (["one","order","thing"]:List Str).Nodup by decide +kernel))) (λH0 G0 par br bx C ex s3 H3 pn hB1=>hZ) (λH0 G0 par br bx C ex s3 H3 pn hB1=>(bb hJ (hr.mono (by decide)) xw rfl rfl (af (aC 1 (hB1 1 (by decide))) (af (aC 0 (hB1 0 (by decide))) (af (aC 2 (hB1 2 (by decide))) aw))))))))
  (ax (iy 2 (λ_=>rfl) (SE.wv (aX iZ pJ (ah 3) (b7 (af (aC 4 rfl) aw))))))
  dM)))))
  (ax (mY 2))))⟩,λds h=>aM ds h⟩
abbrev dz:Stmt:=top 17
def b9:aG ["order","groups","longer"] ["order"] (ak dz):=⟨rfl,rfl,rfl,by decide +kernel,rfl,by decide +kernel,by decide +kernel⟩
def lu {f:Addr}{fd:FuncData}{bS ba:List D->FR}(F:jZ K mg "most_apart" dz ["order"] f fd)(B:ke mg)(gf:eH P w K mg base ca "need_order" ["thing"] 5 bS)(df:eH P w K mg base ca "longer_groups" ["order","groups"] 2 ba):eH P w K mg base ca "most_apart" ["order"] 6 (bw 3 1 (dw bS ba)):=
 ⟨⟨f,fd,F.mg,F.F.kp,F.b,aW (N:=["order","groups","longer"]) (k:=5) F.F b9 λcdv A outer s H G E hr=>
  (ar (zi (bb gf (hr.mono (by decide)) b6 rfl rfl (af (aC 0 rfl) aw)))
  (ar (zE (i:=1) (NB:=["thing"]) (own:=1) (ixs:=[]) [] rfl (fR (by kernel_rfl)) (λ_ _=>rfl) (lE rfl B.range (cI bJ gJ (ah 0) av (λ_ _=>rfl))) (λH0 G0 par br bx C ex s3 H3 pn=>(dh (i:=0) (show (["thing"]:List Str).Nodup by decide +kernel))) (λH0 G0 par br bx C ex s3 H3 pn hB1=>hZ) (λH0 G0 par br bx C ex s3 H3 pn hB1=>(SE.wv (b7 (af (aC 0 (hB1 0 (by decide))) aw)))) b9.nd)
  (ar (aO (i:=2) (aC 1 rfl) b9.nd)
  (ar (kU 1000 PassesOwn.leaving (fj rfl (ah 2))
  (ar (aO (i:=1) (aC 2 rfl) b9.nd)
  (ax (aO (i:=2) (bb df (hr.mono (by decide)) b6 rfl rfl (af (aC 0 rfl) (af (aC 1 rfl) aw))) b9.nd))))
  (ax (bz (cI bJ gJ (ah 1) av (λ_ _=>rfl))))))))⟩,λds h=>aM ds h⟩
abbrev eO:Stmt:=top 20
def oJ:aG ["script","k"] ["script","k"] (ak eO):=⟨rfl,rfl,rfl,by decide +kernel,rfl,by decide +kernel,by decide +kernel⟩
def lW {f:Addr}{fd:FuncData}(F:jZ K mg "_law_cell" eO ["script","k"] f fd)(B:ke mg):eH P w K mg base ca "_law_cell" ["script","k"] 1 (bw 2 2 (c4)):=
 ⟨⟨f,fd,F.mg,F.F.kp,F.b,aW (N:=["script","k"]) (k:=0) F.F oJ λcdv A outer s H G E hr=>
  (ar (gY (dP Af CI (ah 1) (aN cC i3 rfl B.len Gp (ah 0)) (cq _))
  (ax (bz (cI bJ gJ (ah 0) (ah 1) (λ_ _=>rfl))))
  dM)
  (ax (bz av)))⟩,λds h=>aM ds h⟩
abbrev cN:Stmt:=top 21
def eT:aG ["cell","k","some","stir"] ["cell","k"] (ak cN):=⟨rfl,rfl,rfl,by decide +kernel,rfl,by decide +kernel,by decide +kernel⟩
def oM:∃(es:List Expr) (p1 p2 p3:Pos),bL cN=.Assign [.Name "some" p1] (.List es p2) p3 :: (bL cN).drop 1/\constsOf es=some [48271,69621,16807,39373,30269,40014,40692,50021,61687,71993,83869,95561,30307]:=⟨_,_,_,_,rfl,by kernel_rfl⟩
def m6 {f:Addr}{fd:FuncData}(F:jZ K mg "_law_mix" cN ["cell","k"] f fd)(B:ke mg):eH P w K mg base ca "_law_mix" ["cell","k"] 1 (bw 4 2 (fP)):=by
 obtain⟨es,p1,p2,p3,hb,hes⟩:=oM
 refine⟨⟨f,fd,F.mg,F.F.kp,F.b,aW (N:=["cell","k","some","stir"]) (k:=0) F.F eT λcdv A outer s H G E hr=>?_⟩,λds h=>aM ds h⟩
 rw[hb]
 exact (ar (aO (i:=2) (SE.wv (b7 (mW hes))) eT.nd) (ar (aO (i:=3) (aX gO hW (aX gO hW (aX hX iR (aX gO hW (aX iW mQ (ah 0) av) av) (cI bJ gJ (ah 2) (aX iW mQ (ah 1) av) (λ_ _=>rfl))) (aX hX iR av (ah 1))) (aX hX iR av (aX jn yW (ah 1) av))) eT.nd)
  (ar (aO (i:=3) (aX iW mQ (ah 3) av) eT.nd)
  (ax (bz (aX jn yW (aX iW mQ (aX gO hW (aX hX iR (ah 3) (ah 3)) (aX hX iR av (ah 1))) av) av))))))
abbrev gr:Stmt:=top 22
def cX:aG ["script","k","cell","number","j"] ["script","k"] (ak gr):=⟨rfl,rfl,rfl,by decide +kernel,rfl,by decide +kernel,by decide +kernel⟩
def nA {f:Addr}{fd:FuncData}{cy cS:List D->FR}(F:jZ K mg "_law_box" gr ["script","k"] f fd)(B:ke mg)(g7:eH P w K mg base ca "_law_cell" ["script","k"] 1 cy)(iX:eH P w K mg base ca "_law_mix" ["cell","k"] 1 cS):eH P w K mg base ca "_law_box" ["script","k"] 2 (bw 5 2 (gi cy cS)):=
 ⟨⟨f,fd,F.mg,F.F.kp,F.b,aW (N:=["script","k","cell","number","j"]) (k:=1) F.F cX λcdv A outer s H G E hr=>
  (ar (aO (i:=2) (bb g7 (hr.mono (by decide)) b6 rfl rfl (af (aC 0 rfl) (af (aC 1 rfl) aw))) cX.nd)
  (ar (gY (dP (iK hr.units) jP (aX iW mQ (ah 2) av) av (cq _))
  (ax (n9 (b7 (af (aX jn yW (aN x8 Cp rfl B.abs (by decide +kernel) (ah 2)) av) aw))))
  dM)
  (ar (aO (i:=3) av cX.nd)
  (ar (fo PassesOwn.leaving rfl (lE rfl B.range av) (dh (i:=4) cX.nd)
  (ax (aO (i:=3) (aX gO hW (aX hX iR (ah 3) av) (bb iX (hr.mono (by decide)) b6 rfl rfl (af (aC 2 rfl) (af (aC 4 rfl) aw)))) cX.nd)))
  (ax (n9 (b7 (af (aC 3 rfl) aw))))))))⟩,λds h=>aM ds h⟩
abbrev eM:Stmt:=top 23
def i0:aG ["box","many","left","digit"] ["box","many"] (ak eM):=⟨rfl,rfl,rfl,by decide +kernel,rfl,by decide +kernel,by decide +kernel⟩
def lO {f:Addr}{fd:FuncData}(F:jZ K mg "_law_take" eM ["box","many"] f fd)(B:ke mg):ox P w K mg base "_law_take" ["box","many"] 1 cB:=by
 refine⟨⟨f,fd,F.mg,F.F.kp,F.b,?_⟩,λds β h=>?_⟩
 ·refine F.F.u9 i0 (λvs H Q E h=>?_) (λcdv A outer s H vs Q E hr h=>?_)
  ·obtain⟨b,rest,G,ds,β,rfl,hb,gb,sG,hl,r,_⟩:=h
   rw[EZ,r.len,hl];rfl
  ·obtain⟨b,rest,G,ds,β,rfl,hb,gb,sG,hl,r,h⟩:=h
   obtain⟨m,rfl,h0,h1⟩:=sk (λz=>by rw[z] at h;exact h)
   rw[n5 h0 h1] at h
   have kk:∀v G' H',fk (some b) H H'->H' b=some (.lst [.int (β / m)])->ae G G'->ae G' H'->(∀c,Mx H c->G c=none->G' c=none)->FV K H G' H' false (.int (β % m)) v->Q v H':=h
   cases r with
   |cons r1 r2=>
    cases r1
    cases r2
    refine⟨_,dQ (nV (hV oY rfl B.divmod (by decide +kernel) (aB (iE di (pv 0) m8 (λ_ _=>rfl)) (aB (pv 1) aR))) (yB (i:=2) (j:=3) i0.nd rfl rfl rfl rfl rfl))
     (dQ (nV (pv 2) (rO (pv 0) m8 set_list)) (eY (jG (pv 3)))),?_⟩
    refine⟨_,rfl,b,_,0,.int β,rfl,rfl,.inl (.inl hb),rfl,_,rfl,β,m,rfl,⟨h0,h1⟩,λp hp=>⟨p,_,rfl,.inl (.inl ao),rfl,_,_,rfl,_,_,rfl,rfl,?_⟩⟩
    have hbp:b≠p:=au hb hp
    exact⟨_,rfl,_,rfl,b,[.int β],0,0,rfl,rfl,by rw[ag hbp];exact hb,rfl,_,rfl,wC hb sG hp kk gb⟩
 ·obtain⟨m,rfl,_⟩:=sk h
  rfl
abbrev cm:Stmt:=top 24
def cQ:aG ["box","some","left","found"] ["box","some"] (ak cm):=⟨rfl,rfl,rfl,by decide +kernel,rfl,by decide +kernel,by decide +kernel⟩
def jt {f:Addr}{fd:FuncData}{aK:List D->Int->FB}(F:jZ K mg "_law_mixed_up" cm ["box","some"] f fd)(B:ke mg)(bD:ox P w K mg base "_law_take" ["box","many"] 1 aK):ox P w K mg base "_law_mixed_up" ["box","some"] 2 (p7 4 1 (cg aK)):=
 ⟨⟨f,fd,F.mg,F.F.kp,F.b,pk (ca:=λ_=>0) (N:=["box","some","left","found"]) (k:=1) F.F cQ (by decide) λcdv A outer s H G b E hr=>
  (ar (h9 (i:=2) (o4 oG AJ rfl B.list (by decide +kernel) (ah 1)) cQ.nd)
  (ar (h9 (i:=3) (b7 aw) cQ.nd)
  (ar (kU 1000 PassesOwn.leaving (dP (jQ hr.units) jP (ah 2) (b7 aw) (cq _))
  (ax (uT 3 2 (λ_=>rfl) (p9 0 bD (hr.mono (by decide)) b6 rfl rfl (af (aN cC i3 rfl B.len Gp (ah 2)) aw)))))
  (ax (mY 3)))))⟩,λds β h=>qh ds β h⟩
abbrev cV:Stmt:=top 25
def aP:aG ["pairs","found","size","more","a","b"] ["pairs"] (ak cV):=⟨rfl,rfl,rfl,by decide +kernel,rfl,by decide +kernel,by decide +kernel⟩
def j9 {f:Addr}{fd:FuncData}(F:jZ K mg "_law_closed" cV ["pairs"] f fd)(B:ke mg):eH P w K mg base ca "_law_closed" ["pairs"] 1 (bw 6 1 (cW)):=
 ⟨⟨f,fd,F.mg,F.F.kp,F.b,aW (N:=["pairs","found","size","more","a","b"]) (k:=0) F.F aP λcdv A outer s H G E hr=>
  (ar (aO (i:=1) (SE.wv (k9 rfl hr.units rfl rfl B.sorted rfl B.set (ah 0))) aP.nd)
  (ar (aO (i:=2) (zT xF zY av) aP.nd)
  (ar (kU 1000 PassesOwn.leaving (dP (jQ hr.units) jP (ah 2) (aN cC i3 rfl B.len Gp (ah 1)) (cq _))
  (ar (aO (i:=2) (aN cC i3 rfl B.len Gp (ah 1)) aP.nd)
  (ar (aO (i:=3) (SE.wv (b7 aw)) aP.nd)
  (ar (fo PassesOwn.leaving rfl (A3 rfl (aC 1 rfl)) (qS (i:=4) (j:=5) aP.nd)
  (ax (aO (i:=3) (SE.wv (aX iZ pJ (ah 3) (eZ (NB:=["c","d","b","a"]) (own:=2) (ixs:=[5,4]) [4] rfl (fR (by kernel_rfl)) (λ_ _=>rfl) (ra rfl (ah 1)) (λH0 G0 par br bx C ex s3 H3 pn=>(qS (i:=0) (j:=1) (show (["c","d","b","a"]:List Str).Nodup by decide +kernel))) (λH0 G0 par br bx C ex s3 H3 pn hB1=>(oH (dP (iK hr.units) jP (ah 0) (ah 2) (cq _)))) (λH0 G0 par br bx C ex s3 H3 pn hB1=>(gN (af (aC 3 (hB1 3 (by decide))) (af (aC 1 (hB1 1 (by decide))) aw))))))) aP.nd)))
  (ax (aO (i:=1) (SE.wv (k9 rfl hr.units rfl rfl B.sorted rfl B.set (aX iZ pJ (ah 1) (ah 3)))) aP.nd))))))
  (ax (bz (o4 iI yY rfl B.tuple (by decide +kernel) (ah 1)))))))⟩,λds h=>aM ds h⟩
abbrev dr:Stmt:=top 26
def bo:aG ["box","most","many","names","thin","pairs","i","j"] ["box","most"] (ak dr):=⟨rfl,rfl,rfl,by decide +kernel,rfl,by decide +kernel,by decide +kernel⟩
def kH {f:Addr}{fd:FuncData}{bI:List D->FR}{aK a8:List D->Int->FB}(F:jZ K mg "_law_order" dr ["box","most"] f fd)(B:ke mg)(fq:eH P w K mg base ca "_law_closed" ["pairs"] 1 bI)(bD:ox P w K mg base "_law_take" ["box","many"] 1 aK)(de:ox P w K mg base "_law_mixed_up" ["box","some"] 2 a8):ox P w K mg base "_law_order" ["box","most"] 3 (p7 8 1 (du bI aK a8)):=
 ⟨⟨f,fd,F.mg,F.F.kp,F.b,pk (ca:=ca) (N:=["box","most","many","names","thin","pairs","i","j"]) (k:=2) F.F bo (by decide) λcdv A outer s H G b E hr=>
  (ar (aO (i:=2) (aX gO hW av (p9 0 bD (hr.mono (by decide)) b6 rfl rfl (af (aC 1 rfl) aw))) bo.nd)
  (ar (aO (i:=3) (p9 0 de (hr.mono (by decide)) b6 rfl rfl (af (SE.wv (rR rfl rfl B.list rfl B.range (ah 2))) aw)) bo.nd)
  (ar (aO (i:=4) (cI bJ gJ (b7 (af av (af av (af av (af av aw))))) (p9 0 bD (hr.mono (by decide)) b6 rfl rfl (af av aw)) (λ_ _=>rfl)) bo.nd)
  (ar (h9 (i:=5) (b7 aw) bo.nd)
  (ar (fo PassesOwn.leaving rfl (lE rfl B.range (ah 2)) (dh (i:=6) bo.nd)
  (ax (fo PassesOwn.leaving rfl (Ab rfl B.range (aX gO hW (ah 6) av) (ah 2)) (dh (i:=7) bo.nd)
  (ax (gY (dP (iK hr.units) jP (p9 0 bD (hr.mono (by decide)) b6 rfl rfl (af (aC 4 rfl) aw)) av (cq _))
  (ax (iy 5 (λ_=>rfl) (gN (af (cI bJ gJ (ah 3) (ah 6) (λ_ _=>rfl)) (af (cI bJ gJ (ah 3) (ah 7) (λ_ _=>rfl)) aw)))))
  dM)))))
  (ax (bz (gN (af (aC 2 rfl) (af (bb fq (hr.mono (by decide)) b6 rfl rfl (af (aC 5 rfl) aw)) aw))))))))))⟩,λds β h=>qh ds β h⟩
abbrev dm:Stmt:=top 27
def lP:aG ["order","a","b"] ["order","a","b"] (ak dm):=⟨rfl,rfl,rfl,by decide +kernel,rfl,by decide +kernel,by decide +kernel⟩
def lM {f:Addr}{fd:FuncData}(F:jZ K mg "_law_apart" dm ["order","a","b"] f fd)(B:ke mg):eH P w K mg base ca "_law_apart" ["order","a","b"] 1 (bw 3 3 (jr)):=
 ⟨⟨f,fd,F.mg,F.F.kp,F.b,aW (N:=["order","a","b"]) (k:=0) F.F lP λcdv A outer s H G E hr=>
  (ax (bz (fU (gQ (jQ hr.units) jP (ah 1) (ah 2) (cq _)) (fU (gQ (iu hr.u1) yx (gN (af (aC 1 rfl) (af (aC 2 rfl) aw))) (cI bJ gJ (ah 0) av (λ_ _=>rfl)) (by with_unfolding_all rfl)) (iS (gQ (iu hr.u1) yx (gN (af (aC 2 rfl) (af (aC 1 rfl) aw))) (cI bJ gJ (ah 0) av (λ_ _=>rfl)) (by with_unfolding_all rfl))) (λ_ _=>rfl)) (λ_ _=>rfl))))⟩,λds h=>aM ds h⟩
abbrev dC:Stmt:=top 28
def bH:aG ["order","found","thing","more","some"] ["order"] (ak dC):=⟨rfl,rfl,rfl,by decide +kernel,rfl,by decide +kernel,by decide +kernel⟩
def kG {f:Addr}{fd:FuncData}{bQ:List D->FR}(F:jZ K mg "_law_lists" dC ["order"] f fd)(B:ke mg)(gy:eH P w K mg base ca "_law_apart" ["order","a","b"] 1 bQ):eH P w K mg base ca "_law_lists" ["order"] 2 (bw 5 1 (cF bQ)):=
 ⟨⟨f,fd,F.mg,F.F.kp,F.b,aW (N:=["order","found","thing","more","some"]) (k:=1) F.F bH λcdv A outer s H G E hr=>
  (ar (aO (i:=1) (SE.wv (b7 (af (SE.wv (b7 aw)) aw))) bH.nd)
  (ar (fo PassesOwn.leaving rfl (lE rfl B.range (cI bJ gJ (ah 0) av (λ_ _=>rfl))) (dh (i:=2) bH.nd)
  (ar (h9 (i:=3) (b7 aw) bH.nd)
  (ar (fo PassesOwn.leaving rfl (A3 rfl (aC 1 rfl)) (dh (i:=4) bH.nd)
  (ax (gY (dP (iK hr.units) jP (eZ (NB:=["one","order","thing"]) (own:=1) (ixs:=[0,2]) [0,2] rfl (fR (by kernel_rfl)) (λ_ _=>rfl) (ra rfl (ah 4)) (λH0 G0 par br bx C ex s3 H3 pn=>(dh (i:=0) (show (["one","order","thing"]:List Str).Nodup by decide +kernel))) (λH0 G0 par br bx C ex s3 H3 pn hB1=>(oH (gW (fj rfl (bb gy (hr.mono (by decide)) xw rfl rfl (af (aC 1 (hB1 1 (by decide))) (af (aC 0 (hB1 0 (by decide))) (af (aC 2 (hB1 2 (by decide))) aw)))))))) (λH0 G0 par br bx C ex s3 H3 pn hB1=>(aC 0 (hB1 0 (by decide))))) (b7 aw) (cq _))
  (ax (iy 3 (λ_=>rfl) (SE.wv (aX iZ pJ (ah 4) (b7 (af (aC 2 rfl) aw))))))
  dM)))
  (ax (aO (i:=1) (SE.wv (aX iZ pJ (ah 1) (ah 3))) bH.nd)))))
  (ax (mY 1))))⟩,λds h=>aM ds h⟩
abbrev iJ:Stmt:=top 29
def gR:aG ["script","k","order","some","most","due","turn","found"] ["script"] (ak iJ):=⟨rfl,rfl,rfl,by decide +kernel,rfl,by decide +kernel,by decide +kernel⟩
def zf {f:Addr}{fd:FuncData}{cO bW b4:List D->FR}{bZ:List D->Int->FB}(F:jZ K mg "law" iJ ["script"] f fd)(B:ke mg)(iV:eH P w K mg base ca "_law_box" ["script","k"] 2 cO)(gx:eH P w K mg base ca "_law_lists" ["order"] 2 bW)(gE:eH P w K mg base ca "most_apart" ["order"] 6 b4)(fS:ox P w K mg base "_law_order" ["box","most"] 3 bZ):c7 P w K mg base (j7 P w) 7 f fd ["script"] (u6 K ca 1 (bw 8 1 (tw cO bW b4 bZ))):=
 aW (N:=["script","k","order","some","most","due","turn","found"]) (k:=6) F.F gR λcdv A outer s H G E hr=>
  (ar (fo PassesOwn.leaving rfl (lE rfl B.range (qD (u0 rfl) Bj rfl B.max (by decide +kernel) av (qD (tX rfl) Ax rfl B.min (by decide +kernel) (aN cC i3 rfl B.len Gp (ah 0)) av))) (dh (i:=1) gR.nd)
  (ar (aO (i:=2) (Ci fS (hr.mono (by decide)) b6 rfl rfl (qA iV (hr.mono (by decide)) b6 rfl rfl (af (aC 0 rfl) (af (aC 1 rfl) aw)))) gR.nd)
  (ar (aO (i:=3) (bb gx (hr.mono (by decide)) b6 rfl rfl (af (aC 2 rfl) aw)) gR.nd)
  (ar (aO (i:=4) (aN (uD rfl) yO rfl B.max (by decide +kernel) (eZ (NB:=["one"]) (own:=1) (ixs:=[]) [] rfl (fR (by kernel_rfl)) (λ_ _=>rfl) (ra rfl (ah 3)) (λH0 G0 par br bx C ex s3 H3 pn=>(dh (i:=0) (show (["one"]:List Str).Nodup by decide +kernel))) (λH0 G0 par br bx C ex s3 H3 pn hB1=>hZ) (λH0 G0 par br bx C ex s3 H3 pn hB1=>(aN cC i3 rfl B.len Gp (ah 0))))) gR.nd)
  (ar (aO (i:=5) (aN (uO rfl hr.u1) AX rfl B.min (by decide +kernel) (eZ (NB:=["one","most"]) (own:=1) (ixs:=[4]) [] rfl (fR (by kernel_rfl)) (λ_ _=>rfl) (ra rfl (ah 3)) (λH0 G0 par br bx C ex s3 H3 pn=>(dh (i:=0) (show (["one","most"]:List Str).Nodup by decide +kernel))) (λH0 G0 par br bx C ex s3 H3 pn hB2=>(oH (dP (iK hr.units) jP (aN cC i3 rfl B.len Gp (ah 0)) (ah 1) (cq _)))) (λH0 G0 par br bx C ex s3 H3 pn hB2=>(aC 0 (hB2 0 (by decide)))))) gR.nd)
  (ax (fo PassesOwn.leaving rfl (lE rfl B.range av) (dh (i:=6) gR.nd)
  (ar (h9 (i:=7) (qA gE (hr.mono (by decide)) b6 rfl rfl (af (aC 2 rfl) aw)) gR.nd)
  (ar (gY (zc.t (sC (gW (fj rfl (jK "list" (by decide) rfl rfl B.isinstance rfl B.list (by decide +kernel) (ah 7)))) (oI (dP CQ B7 (aN (l8 hr.gd hr.u1) vM rfl B.repr (by decide +kernel) (ah 7)) (aN (l8 hr.gd hr.u1) vM rfl B.repr (by decide +kernel) (ah 5)) (cq _))) (λ_ _=>rfl)))
  (ax (bz mC))
  dM)
  (ax (iy 7 (λ_=>rfl) av)))))))))))
  (ax (bz mC)))
end
end RQ
namespace OM
theorem cU:∀{l g:List Int},l.Pairwise (· < ·)->g.Pairwise (· < ·)->(∀x,x∈g->x∈l)->List.Sublist g l
 | [],[],_,_,_=>.slnil
 | [],b :: g,_,_,h=>by cases h b (EL ..)
 |a :: l,[],_,_,_=>List.nil_sublist _
 |a :: l,b :: g,hl,hg,h=>by
  have hl':=GB.mp hl
  have hg':=GB.mp hg
  by_cases e:a=b
  ·subst e
   refine .cons_cons _ (cU hl'.2 hg'.2 λx hx=>?_)
   have:=hg'.1 x hx
   rcases EH.mp (h x (EK _ hx)) with rfl |h2
   ·omega
   ·exact h2
  ·refine .cons _ (cU hl'.2 hg λx hx=>?_)
   have hb:b∈l:=by
    rcases EH.mp (h b (EL ..)) with z |z
    ·exact absurd z.symm e
    ·exact z
   have hab:=hl'.1 b hb
   rcases EH.mp hx with rfl |hx'
   ·exact hb
   ·have:=hg'.1 x hx'
    rcases EH.mp (h x hx) with rfl |h2
    ·omega
    ·exact h2
section
variable (c:Int->Int->Bool)(n:Nat)
def ups (lo:Int):List Int:=(List.range ((n:Int) - lo).toNat).map λ(k:Nat)=>lo + (k:Int)
def AY (g:List Int):List (List Int):=((ups n (g.getLast?.getD (-1) + 1)).filter λt=>g.all λa=>c a t).map λt=>g ++ [t]
def longer (gs:List (List Int)):List (List Int):=gs.flatMap (AY c n)
def Lv (k:Nat)(g:List Int):Prop:=g.length=k/\g.Pairwise (· < ·)/\(∀x,x∈g->0<=x/\x < n)/\g.Pairwise (λa b=>c a b=true)
def xC {g:List Int}(h:g.Pairwise (· < ·)){t:Int}(ht:g.getLast?.getD (-1) < t):∀x,x∈g->x < t:=by
 intro x hx
 have hne:g≠ []:=λz=>by rw[z] at hx;cases hx
 obtain⟨init,y,rfl⟩:∃init y,g=init ++ [y]:=⟨g.dropLast,g.getLast hne,(GA hne).symm⟩
 rw[List.getLast?_append] at ht
 simp at ht
 rcases E6.mp hx with h1 |h1
 ·have:=(FE.mp h).2.2 x h1 y (by simp)
  omega
 ·rw[E4] at h1;omega
def dk {lo t:Int}:t∈ups n lo↔lo<=t/\t < n:=by
 unfold ups
 rw[ER]
 constructor
 ·rintro⟨k,hk,rfl⟩
  rw[E2] at hk;omega
 ·rintro⟨h1,h2⟩
  exact⟨(t - lo).toNat,E2.mpr (by omega),by omega⟩
def sg {gs:List (List Int)}{k:Nat}(hk:1<=k)(h:∀g,g∈gs↔Lv c n k g)(g':List Int):g'∈longer c n gs↔Lv c n (k + 1) g':=by
 unfold longer
 rw[List.mem_flatMap]
 constructor
 ·rintro⟨g,hg,hm⟩
  obtain⟨t,ht,rfl⟩:=ER.mp hm
  obtain⟨h1,h2,h3,h4⟩:=(h g).mp hg
  rw[Fv,Ga,dk] at ht
  obtain⟨hr,hall⟩:=ht
  have hm:=xC h2 (show g.getLast?.getD (-1) < t by omega)
  have h0:0<=t:=by
   cases g with
   |nil=>simp at h1;omega
   |cons a g=>have:=hm a (EL ..);have:=h3 a (EL ..);omega
  refine⟨by rw[Fs,h1];rfl,FE.mpr ⟨h2,Gd ..,λx hx y hy=>?_⟩,λx hx=>?_,FE.mpr ⟨h4,Gd ..,λx hx y hy=>?_⟩⟩
  ·rw[E4] at hy;subst hy;exact hm x hx
  ·rcases E6.mp hx with hx |hx
   ·exact h3 x hx
   ·rw[E4] at hx;subst hx;omega
  ·rw[E4] at hy;subst hy;exact hall x hx
 ·rintro⟨h1,h2,h3,h4⟩
  have hne:g'≠ []:=λz=>by rw[z] at h1;simp at h1
  obtain⟨g,t,rfl⟩:∃g t,g'=g ++ [t]:=⟨g'.dropLast,g'.getLast hne,(GA hne).symm⟩
  rw[Fs] at h1
  simp only[EZ,Hg] at h1
  have p2:=FE.mp h2
  have p4:=FE.mp h4
  refine⟨g,(h g).mpr ⟨by omega,p2.1,λx hx=>h3 x (FT _ hx),p4.1⟩,ER.mpr ⟨t,?_,rfl⟩⟩
  have ht:=h3 t (Fc _ (by simp))
  rw[Fv,Ga,dk]
  refine⟨⟨?_,ht.2⟩,λa ha=>p4.2.2 a ha t (by simp)⟩
  have hg:g≠ []:=λz=>by rw[z] at h1;simp at h1;omega
  rw[List.getLast?_eq_some_getLast hg]
  have:=p2.2.2 _ (List.getLast_mem hg) t (by simp)
  show g.getLast hg + 1<=t
  omega
end
section
variable (c:Int->Int->Bool)(n:Nat)
def zx (x:Int):Nat:=2 ^ ((n:Int) - 1 - x).toNat
def tD {lo:Int}(h:(n:Int)<=lo):ups n lo= []:=by
 unfold ups
 rw[show ((n:Int) - lo).toNat=0 by omega];rfl
def v8 {lo:Int}(h:lo < n):ups n lo=lo :: ups n (lo + 1):=by
 unfold ups
 rw[show ((n:Int) - lo).toNat=((n:Int) - (lo + 1)).toNat + 1 by omega,List.range_succ_eq_map,Fw,F0]
 congr 1
 ·simp
 ·apply Gh
  intro k _
  show lo + ((k + 1:Nat):Int)=lo + 1 + (k:Int)
  omega
theorem nQ (f:Int->Bool):∀(m:Nat) (lo:Int),((n:Int) - lo).toNat<=m->(((ups n lo).filter f).map (zx n)).sum < 2 ^ ((n:Int) - lo).toNat
 | 0,lo,h=>by
  rw[tD n (by omega),show ((n:Int) - lo).toNat=0 by omega];simp
 |m + 1,lo,h=>by
  by_cases hl:lo < n
  ·have ih:=nQ f m (lo + 1) (by omega)
   rw[v8 n hl,show ((n:Int) - lo).toNat=((n:Int) - (lo + 1)).toNat + 1 by omega,Nat.pow_succ]
   have hw:zx n lo=2 ^ ((n:Int) - (lo + 1)).toNat:=by unfold zx;congr 1;omega
   by_cases hf:f lo=true
   ·rw[Gw hf,Fw,List.sum_cons,hw];omega
   ·rw[Gx hf];omega
  ·rw[tD n (by omega)]
   simp only[List.filter_nil,List.map_nil,List.sum_nil]
   exact Nat.pow_pos (by omega)
def wg (g:List Int):Nat:=zx n (g.getLast?.getD (-1))
def W (gs:List (List Int)):Nat:=(gs.map (wg n)).sum
def CT (g:List Int):W n (AY c n g)<=wg n g:=by
 unfold W AY
 rw[F0]
 have:(wg n ∘ λt=>g ++ [t])=zx n:=by
  funext t
  show zx n ((g ++ [t]).getLast?.getD (-1))=zx n t
  rw[List.getLast?_append];rfl
 rw[this]
 have h:=nQ n (λt=>g.all λa=>c a t) _ (g.getLast?.getD (-1) + 1) (EG _)
 have e:wg n g=2 ^ ((n:Int) - (g.getLast?.getD (-1) + 1)).toNat:=by unfold wg zx;congr 1;omega
 omega
def z9 (a b:List (List Int)):W n (a ++ b)=W n a + W n b:=by
 unfold W;rw[FA,List.sum_append]
theorem i6:∀gs:List (List Int),W n (longer c n gs)<=W n gs
 | []=>EG _
 |g :: gs=>by
  have h1:=CT c n g
  have h2:=i6 gs
  show W n (AY c n g ++ longer c n gs)<=wg n g + W n gs
  rw[z9];omega
theorem xK:∀gs:List (List Int),gs.length<=W n gs
 | []=>Fj _
 |g :: gs=>by
  have h2:=xK gs
  have:1<=wg n g:=Nat.pow_pos (by omega)
  show gs.length + 1<=wg n g + W n gs
  omega
def ones:List (List Int):=(ups n 0).map λt=>[t]
def xY:W n (ones n) < 2 ^ n:=by
 have h:=nQ n (λ_=>true) _ 0 (EG _)
 rw[List.filter_eq_self.mpr (λ_ _=>rfl)] at h
 unfold W ones
 rw[F0]
 have e:(wg n ∘ λt=>[t])=zx n:=rfl
 rw[e]
 simpa using h
end
section
variable (c:Int->Int->Bool)(n:Nat)
def il (lo:Int):(ups n lo).Pairwise (· < ·):=by
 unfold ups
 rw[FI]
 exact List.pairwise_lt_range.imp λh=>by omega
def ie:Nat->List (List Int)
 | 0=>ones n
 |k + 1=>longer c n (ie k)
theorem eN:∀(k:Nat) (g:List Int),g∈ie c n k↔Lv c n (k + 1) g
 | 0,g=>by
  show g∈ones n↔_
  unfold ones
  rw[ER]
  constructor
  ·rintro⟨t,ht,rfl⟩
   refine⟨rfl,Gd ..,λx hx=>?_,Gd ..⟩
   rw[E4] at hx;subst hx;exact (dk n).mp ht
  ·rintro⟨h1,_,h3,_⟩
   obtain⟨t,rfl⟩:=List.length_eq_one_iff.mp h1
   exact⟨t,(dk n).mpr (h3 t (by simp)),rfl⟩
 |k + 1,g=>sg c n (by omega) (eN k) g
def zJ (k:Nat):(ie c n k).length < 2 ^ n:=by
 have:W n (ie c n k) < 2 ^ n:=by
  induction k with
  |zero=>exact xY n
  |succ k ih=>exact Ho (i6 c n _) ih
 exact Ho (xK n _) this
theorem tL {k:Nat}(h:n<=k):ie c n k= []:=by
 cases e:ie c n k with
 |nil=>rfl
 |cons g gs=>
  have hg:g∈ie c n k:=by rw[e];exact EL ..
  obtain⟨h1,h2,h3,_⟩:=(eN c n k g).mp hg
  have hs:List.Sublist g (ups n 0):=cU (il n 0) h2 λx hx=>(dk n).mpr (h3 x hx)
  have:=hs.length_le
  unfold ups at this
  rw[EM,FO] at this
  omega
end
open L2.HM
theorem tR:∀(g a b:List Int),lexLt (g ++ a) (g ++ b)=lexLt a b
 | [],_,_=>rfl
 |x :: g,a,b=>by
  show (if x=x then lexLt (g ++ a) (g ++ b) else _)=_
  rw[EI rfl,tR g]
theorem sD:∀{g h a b:List Int},g.length=h.length->lexLt g h=true->lexLt (g ++ a) (h ++ b)=true
 | [],[],_,_,_,e=>by cases e
 | [],_ :: _,_,_,l,_=>by cases l
 |_ :: _,[],_,_,l,_=>by cases l
 |x :: g,y :: h,a,b,l,e=>by
  show (if x=y then lexLt (g ++ a) (h ++ b) else decide (x < y))=true
  rw[dZ] at e
  split at e
  ·rename_i q;rw[EI q];exact sD (by simpa using l) e
  ·rename_i q;rw[EN q];exact e
theorem oj:∀g:List Int,lexLt g g=false
 | []=>rfl
 |x :: g=>by rw[dZ,EI rfl,oj g]
theorem wZ:∀{a b c:List Int},lexLt a b=true->lexLt b c=true->lexLt a c=true
 |_,_,[],_,h=>by cases ‹List Int› <;> cases h
 | [],_,_ :: _,_,_=>rfl
 |_ :: _,[],_ :: _,h,_=>by cases h
 |x :: a,y :: b,z :: c,h,k=>by
  rw[dZ] at h k ⊢
  by_cases e1:x=y
  ·subst e1
   rw[EI rfl] at h
   by_cases e2:x=z
   ·subst e2;rw[EI rfl] at k ⊢;exact wZ h k
   ·rw[EN e2] at k ⊢;exact k
  ·rw[EN e1] at h
   have h:=of_decide_eq_true h
   by_cases e2:y=z
   ·subst e2;rw[EN e1];exact ET h
   ·rw[EN e2] at k
    have k:=of_decide_eq_true k
    rw[EN (by omega)];exact ET (by omega)
theorem sU (c:Int->Int->Bool)(n:Nat):∀k,(ie c n k).Pairwise λa b=>lexLt a b=true
 | 0=>by
  show (ones n).Pairwise _
  unfold ones
  refine List.Pairwise.map _ (λa b h=>?_) (il n 0)
  show (if a=b then lexLt [] [] else decide (a < b))=true
  rw[EN (by omega)];exact ET h
 |k + 1=>by
  show (longer c n (ie c n k)).Pairwise _
  unfold longer
  refine List.pairwise_flatMap.mpr ⟨λg hg=>?_,FP ?_ (sU c n k)⟩
  ·unfold AY
   refine List.Pairwise.map _ (λa b h=>?_) ((il n _).sublist List.filter_sublist)
   rw[tR]
   show (if a=b then lexLt [] [] else decide (a < b))=true
   rw[EN (by omega)];exact ET h
  ·intro g h hg hh l x hx y hy
   obtain⟨t,_,rfl⟩:=ER.mp hx
   obtain⟨u,_,rfl⟩:=ER.mp hy
   exact sD (((eN c n k g).mp hg).1.trans ((eN c n k h).mp hh).1.symm) l
end OM
namespace RM
open PySem L2
def wN {t:VF Bool}{vs:List Nv}{β:Int}{a:Bool}(h:t vs β=.ok a β):rf t vs β=.ok (!a) β:=by rw[om,h];rfl
section
variable {fa fb:VF D}{vs:List Nv}{β:Int}
def B9 {t u:VF Bool}{c:Bool}(h:t vs β=.ok false β)(h':u vs β=.ok c β):qk t u vs β=.ok c β:=by rw[sE,h];exact h'
end
def Sq (c k:Nat)(d:D):Prop:=d.showable=true/\d.depth<=k/\d.shown.length<=c
def Sq.mono {c k c' k':Nat}{d:D}(h:Sq c k d)(h1:c<=c')(h2:k<=k'):Sq c' k' d:=⟨h.1,FK h.2.1 h2,FK h.2.2 h1⟩
theorem qY {c k:Nat}:∀{ds:List D},(∀d,d∈ds->Sq c k d)->PyData.showableAll ds=true/\PyData.depthAll ds<=k/\(∀t,t∈PyData.shownAll ds->t.length<=c)/\(PyData.shownAll ds).length=ds.length
 | [],_=>⟨by simp[PyData.showableAll],by simp[PyData.depthAll],λt h=>by simp[PyData.shownAll] at h,by simp[PyData.shownAll]⟩
 |d :: ds,h=>by
  obtain⟨h1,h2,h3,h4⟩:=qY λx hx=>h x (EK _ hx)
  obtain⟨q1,q2,q3⟩:=h d (EL ..)
  refine⟨?_,?_,λt ht=>?_,?_⟩
  ·rw[PyData.showableAll,q1,h1];rfl
  ·rw[PyData.depthAll];omega
  ·rw[PyData.shownAll] at ht
   rcases EH.mp ht with rfl |ht
   ·exact q3
   ·exact h3 t ht
  ·rw[PyData.shownAll,EZ,EZ,h4]
theorem qc {c:Nat}:∀{ts:List Str},(∀t,t∈ts->t.length<=c)->(Str.join ", " ts).length<=(c + 2) * ts.length
 | [],_=>by show (Str.join ", " []).length<=_;exact Fj _
 | [x],h=>by
  have:=h x (EL ..)
  show x.length<=(c + 2) * 1
  omega
 |x :: y :: r,h=>by
  have ih:=qc (ts:=y :: r) λt ht=>h t (EK _ ht)
  have:=h x (EL ..)
  show (x ++ ", " ++ Str.join ", " (y :: r)).length<=_
  rw[GV,GV]
  have e2:((", ":String):Str).length=2:=rfl
  rw[e2]
  have e:(c + 2) * (x :: y :: r).length=(c + 2) * (y :: r).length + (c + 2):=by rw[EZ,Nat.mul_succ]
  omega
def Aq {c k:Nat}{ds:List D}(h:∀d,d∈ds->Sq c k d):Sq (3 + (c + 2) * ds.length) (k + 1) (.tuple ds):=by
 obtain⟨h1,h2,h3,h4⟩:=qY h
 refine⟨by rw[PyData.showable];exact h1,by rw[PyData.depth];omega,?_⟩
 rw[PyData.shown]
 unfold tupleText
 rw[GV,GV]
 have j:=qc h3
 rw[h4] at j
 have e1:((("(":String):Str)).length=1:=rfl
 have e3:((if (PyData.shownAll ds).length == 1 then ",)" else ")":String):Str).length<=2:=by split <;> exact by decide
 rw[e1]
 omega
def vC {c k:Nat}{ds:List D}(h:∀d,d∈ds->Sq c k d):Sq (2 + (c + 2) * ds.length) (k + 1) (.list ds):=by
 obtain⟨h1,h2,h3,h4⟩:=qY h
 refine⟨by rw[PyData.showable];exact h1,by rw[PyData.depth];omega,?_⟩
 rw[PyData.shown]
 unfold listText
 rw[GV]
 have:=xa (c:=c + 2) (PyData.shownAll ds) 0 "[" λt ht=>by have:=h3 t ht;omega
 rw[h4] at this
 have e1:((("[":String):Str)).length=1:=rfl
 have e2:((("]":String):Str)).length=1:=rfl
 rw[e1] at this
 rw[e2];omega
def Bf (d:D):Prop:=zR d=true
theorem rh:∀{ds:List D},(∀d,d∈ds->Bf d)->vO ds=true
 | [],_=>rfl
 |d :: ds,h=>by
  have h1:=rh λx hx=>h x (EK _ hx)
  have q1:zR d=true:=h d (EL ..)
  rw[vO,q1,h1];rfl
def Bv {ds:List D}(h:∀d,d∈ds->Bf d):Bf (.tuple ds):=by show zR (.tuple ds)=true;rw[zR];exact rh h
def xM {ds:List D}(h:∀d,d∈ds->Bf d):Bf (.list ds):=by show zR (.list ds)=true;rw[zR];exact rh h
def DF:List Int:=[-1,0,1,2,3,4,5,6,7,8,9]
def vh:∀i∈DF,(int i).showable=true/\(int i).shown.length<=20:=by decide +kernel
def tE {i:Int}(h: -1<=i/\i<=9):i∈DF:=by
 simp only[DF,EH,List.not_mem_nil,or_false]
 omega
def BO (d:D):Prop:=d=.none\/(∃b,d=.bool b)\/∃i:Int,d=.int i/\ -1<=i/\i<=9
def BO.sq {d:D}(h:BO d):Sq 20 0 d:=by
 rcases h with rfl | ⟨b,rfl⟩ | ⟨i,rfl,h⟩
 ·exact⟨by simp[PyData.showable],by simp[PyData.depth],by rw[PyData.shown];decide⟩
 ·exact⟨by simp[PyData.showable],by simp[PyData.depth],by rw[PyData.shown];cases b <;> decide⟩
 ·exact⟨(vh i (tE h)).1,by simp[PyData.depth],(vh i (tE h)).2⟩
def BO.bf {d:D}(h:BO d):Bf d:=by
 rcases h with rfl | ⟨b,rfl⟩ | ⟨i,rfl,h⟩ <;> exact by simp[Bf,zR]
section
variable {vs:List Nv}{β β1 β2:Int}{fa:VF D}{fr:VF (List D)}{d:D}{ds:List D}
def ac {fa:VF D}{fr:VF (List D)}(h:fa vs β=.ok d β)(h':fr vs β=.ok ds β):aa fa fr vs β=.ok (d :: ds) β:=by rw[bO,h];dsimp only[R.bnd];rw[h']
def an:aq vs β=.ok [] β:=rfl
def lp (h:fr vs β=.ok ds β)(hz:ds.length<=1000:=by simp):bC fr vs β=.ok (.list ds) β:=eV h hz
end
def yJ {i:Int}(h: -1<=i/\i<=9):BO (.int i):=.inr (.inr ⟨i,rfl,h⟩)
def Ge (e:D):Prop:=dJ e=false/\∀es,e=.tuple es->es.length<=100/\∀x,x∈es->dJ x=false
def Sp (p:Pr):Prop:=(0<=p.1/\p.1<=8)/\(0<=p.2/\p.2<=8)
def AE {es:List D}(hl:es.length<=100)(h:∀x,x∈es->dJ x=false):Ge (.tuple es):=⟨rfl,λes' e=>by cases e;exact⟨hl,h⟩⟩
end RM
namespace RM
open PySem PySem.Spec L2 PyProof.Rows
theorem fE:∀r:List Int,fG (r.map int)=some r
 | []=>rfl
 |x :: r=>by
  have:=fE r
  simp only[Fw,fG,this]
  try rfl
end RM
namespace RM
open PySem L2
def yq {α:Type}{fa:VF D}{vs:List Nv}{β:Int}{l:List α}{f:α->Bool}(h:fa vs β=.ok (.list (l.map λq=>PyData.bool (f q))) β):f1 fa (c9 λbs=>bs.all id) vs β=.ok (.bool (l.all f)) β:=by
 refine dH h ?_
 simp only[c9]
 rw[iz]
 simp[List.all_map,Function.comp_def]
def aQ (g:List Int):D:=.list (g.map int)
def bp (l:List Pr)(a b:Int):Bool:=DY l (a,b)
noncomputable def yz:List D->FR:=bw 5 2 (ck CL)
abbrev we (n:Nat)(l:List Pr)(gs ws:List (List Int))(s3 s4:Sl):En:=[.fz (aE n l),.fz (.list (gs.map aQ)),.ow (.list (ws.map aQ)),s3,s4]
noncomputable abbrev mV:SF:=kM ([] ++ [0,4]) (mi (f1 (aY 1 [0,4] (.nm 0) (cT (gv 3)) qK (aF CL (aa (gv 1) (aa (gv 0) (aa (gv 2) aq))))) (c9 λbs=>bs.all id)))
 (jv 2 ([] ++ ([4] ++ [])) (f2 (gv 3) (bC (aa (gv 4) aq)) gk))
 nk
theorem DJ {n:Nat}{l:List Pr}{gs ws:List (List Int)}{g:List Int}{t:Int}(hg:g.length<=100)(hw:ws.length<=900):mV (we n l gs ws (.fz (aQ g)) (.fz (.int t))) 0=.nx (we n l gs (ws ++ (([t].filter λt=>g.all λa=>bp l a t).map λt=>g ++ [t])) (.fz (aQ g)) (.fz (.int t))) 0:=by
 have ec:aY 1 [0,4] (.nm 0) (cT (gv 3)) qK (aF CL (aa (gv 1) (aa (gv 0) (aa (gv 2) aq)))) (vl (we n l gs ws (.fz (aQ g)) (.fz (.int t)))) 0=.ok (.list (g.map λa=>PyData.bool (bp l a t))) 0:=
  dI (l:=g) (e:=int) (λa=>PyData.bool (bp l a t)) rfl (by omega) λa ha=>⟨_,rfl,bA (ds:=[aE n l,.int a,.int t]) rfl (CP n l a t)⟩
 have tt:=vg (yq ec)
 unfold mV
 cases hc:(g.all λa=>bp l a t) with
 |true=>
  rw[hc] at tt
  rw[qH tt]
  show jv 2 ([] ++ ([4] ++ [])) _ (we n l gs ws (.fz (aQ g)) (.fz (.int t))) 0=_
  have ea:f2 (gv 3) (bC (aa (gv 4) aq)) gk (vl (we n l gs ws (.fz (aQ g)) (.fz (.int t)))) 0=.ok (aQ (g ++ [t])) 0:=by
   refine aH (x:=.list (g.map int)) (y:=.list [.int t]) rfl (lp (ac rfl an)) ?_
   rw[jg (by rw[EM];simp;omega)]
   unfold aQ;rw[FA];rfl
  rw[nv (i:=2) (ds:=ws.map aQ) (d:=aQ (g ++ [t])) (β':=0) (by rfl) ea (by rfl) (by rw[EM];omega),Gw (by rw[hc])]
  show SO.nx (([.fz (aE n l),.fz (.list (gs.map aQ)),.ow (.list (ws.map aQ ++ [aQ (g ++ [t])])),.fz (aQ g),.fz (.int t)]:En)) 0=_
  rw[show ws.map aQ ++ [aQ (g ++ [t])]=(ws ++ [g ++ [t]]).map aQ by rw[FA];rfl];rfl
 |false=>
  rw[hc] at tt
  rw[jq tt,Gx (by rw[hc];simp)]
  show SO.nx _ 0=_
  rw[show ws ++ ([].filter λt=>g.all λa=>bp l a t).map (λt=>g ++ [t])=ws by simp];rfl
theorem CN {n:Nat}{l:List Pr}{gs:List (List Int)}{g:List Int}(hg:g.length<=100):∀(ts:List Int) (ws:List (List Int)) (s4:Sl),ws.length + ts.length<=900->∃s4',jL (.nm 4) mV (ts.map int) (we n l gs ws (.fz (aQ g)) s4) 0=.nx (we n l gs (ws ++ ((ts.filter λt=>g.all λa=>bp l a t).map λt=>g ++ [t])) (.fz (aQ g)) s4') 0
 | [],ws,s4,_=>⟨s4,by rw[show ws ++ ((([]:List Int).filter λt=>g.all λa=>bp l a t).map λt=>g ++ [t])=ws by simp];rfl⟩
 |t :: ts,ws,s4,h=>by
  simp only[EZ] at h
  have e:=DJ (n:=n) (l:=l) (gs:=gs) (ws:=ws) (t:=t) hg (by omega)
  have hl:(ws ++ (([t].filter λt=>g.all λa=>bp l a t).map λt=>g ++ [t])).length<=ws.length + 1:=by
   rw[Fs,EM]
   have:=FZ (λt=>g.all λa=>bp l a t) [t]
   simp only[EZ,Hg] at this;omega
  obtain⟨s4',e2⟩:=CN hg ts (ws ++ (([t].filter λt=>g.all λa=>bp l a t).map λt=>g ++ [t])) (.fz (.int t)) (by omega)
  refine⟨s4',?_⟩
  show jL (.nm 4) mV (.int t :: ts.map int) _ 0=_
  unfold jL
  rw[show dg (.nm 4) (.int t) (we n l gs ws (.fz (aQ g)) s4)=some (we n l gs ws (.fz (aQ g)) (.fz (.int t))) from rfl]
  dsimp only
  rw[e]
  dsimp only
  rw[e2,show ws ++ (((t :: ts).filter λt=>g.all λa=>bp l a t).map λt=>g ++ [t])=ws ++ (([t].filter λt=>g.all λa=>bp l a t).map λt=>g ++ [t]) ++ ((ts.filter λt=>g.all λa=>bp l a t).map λt=>g ++ [t]) by rw[GJ,<-FA,<-Hq];rfl]
noncomputable abbrev xc:SF:=cJ (.nm 4) ((([] ++ []) ++ []) ++ ([] ++ [])) (j4 (f2 (f2 (gv 3) (f1 (cst (.int 1)) wV) dB) (cst (.int 1)) b5) (f2 (gv 0) (cst (.int 0)) dB)) mV
def vP {g:List Int}(h:g≠ []):iB (g.map int) (-1)=some (.int (g.getLast?.getD (-1))):=by
 obtain⟨i,y,rfl⟩:∃i y,g=i ++ [y]:=⟨g.dropLast,g.getLast h,(GA h).symm⟩
 rw[iw]
 have:iB (i ++ [y]) (-1)=some y:=by
  unfold iB uW
  simp only[Fs,EZ,Hg]
  rw[EN (by omega),EI (by omega),show (-1 + ((i.length + (0 + 1):Nat):Int)).toNat=i.length by omega]
  simp
 rw[this,List.getLast?_append];rfl
def DG {n:Nat}{l:List Pr}{gs ws:List (List Int)}{g:List Int}(hn:n<=8)(hg:g.length<=100)(hne:g≠ [])(hr:∀x,x∈g->0<=x/\x < n)(hw:ws.length<=800)(s4:Sl):∃s4',xc (we n l gs ws (.fz (aQ g)) s4) 0=.nx (we n l gs (ws ++ OM.AY (bp l) n g) (.fz (aQ g)) s4') 0:=by
 have hy:0<=g.getLast?.getD (-1)/\g.getLast?.getD (-1) < n:=by
  rw[List.getLast?_eq_some_getLast hne]
  exact hr _ (List.getLast_mem hne)
 generalize hy':g.getLast?.getD (-1)=y at hy
 have e1:f2 (f2 (gv 3) (f1 (cst (.int 1)) wV) dB) (cst (.int 1)) b5 (vl (we n l gs ws (.fz (aQ g)) s4)) 0=.ok (.int (y + 1)) 0:=aH (x:=.int y) (y:=.int 1) (aH (x:=aQ g) (y:=.int (-1)) rfl rfl (by rw[<-hy'];exact vP hne)) rfl rfl
 have e2:f2 (gv 0) (cst (.int 0)) dB (vl (we n l gs ws (.fz (aQ g)) s4)) 0=.ok (.int n) 0:=aH (x:=aE n l) (y:=.int 0) rfl rfl rfl
 have er:=qy e1 e2 (by omega) (by omega)
 have hi:bE (y + 1) ((n:Int) - (y + 1)).toNat=(OM.ups n (y + 1)).map int:=by
  unfold bE OM.ups
  rw[F0];rfl
 rw[hi] at er
 have hul:(OM.ups n (y + 1)).length<=8:=by unfold OM.ups;rw[EM,FO];omega
 obtain⟨s4',e⟩:=CN (n:=n) (l:=l) (gs:=gs) hg (OM.ups n (y + 1)) ws s4 (by omega)
 refine⟨s4',?_⟩
 unfold xc
 rw[gZ (env:=we n l gs ws (.fz (aQ g)) s4) (β1:=0) er]
 show jL (.nm 4) mV _ (we n l gs ws (.fz (aQ g)) s4) 0=_
 rw[e]
 unfold OM.AY
 rw[hy']
def Ce {n:Nat}{l:List Pr}{k:Nat}(hn:n<=8):yz [aE n l,.list ((OM.ie (bp l) n k).map aQ)]=.ok (.list ((OM.ie (bp l) n (k + 1)).map aQ)) true:=by
 have hlen:=OM.zJ (bp l) n k
 have h64:2 ^ n<=2 ^ 8:=Nat.pow_le_pow_right (by omega) hn
 have hmem:=OM.eN (bp l) n k
 generalize hgs:OM.ie (bp l) n k=gs at hlen hmem
 show fin (ck CL [.fz (aE n l),.fz (.list (gs.map aQ)),.no,.no,.no] 0)=_
 unfold ck
 rw[ay (env':=we n l gs [] .no .no) (β':=0) (by rw[x9,lp (ds:=[]) an];rfl)]
 obtain⟨env',β',ef,rfl,s3,s4,rfl⟩:=dX (t:=.nm 3) (m:=xc) (ds:=gs.map aQ) (k:=0)
  (λi env β=>β=0/\∃s3 s4:Sl,env=we n l gs (OM.longer (bp l) n (gs.take i)) s3 s4)
  (env:=we n l gs [] .no .no) (β:=0) ⟨rfl,.no,.no,rfl⟩ (by
   rintro i d env β hi ⟨rfl,s3,s4,rfl⟩
   rw[Gr]
   rw[ES] at hi
   cases hq:gs[i]? with
   |none=>rw[hq] at hi;cases hi
   |some g=>
    rw[hq] at hi;cases hi
    have hgm:g∈gs:=EX hq
    obtain⟨h1,h2,h3,h4⟩:=(hmem g).mp hgm
    have hne:g≠ []:=λz=>by rw[z] at h1;simp at h1
    have hsub:List.Sublist g (OM.ups n 0):=OM.cU (OM.il n 0) h2 λx hx=>(OM.dk n).mpr (h3 x hx)
    have hg8:g.length<=8:=by
     have:=hsub.length_le
     unfold OM.ups at this
     rw[EM,FO] at this
     omega
    have hw:(OM.longer (bp l) n (gs.take i)).length<=800:=by
     have a1:=OM.xK n (OM.longer (bp l) n (gs.take i))
     have a2:=OM.i6 (bp l) n (gs.take i)
     have a3:OM.W n (gs.take i)<=OM.W n gs:=by
      have:=OM.z9 n (gs.take i) (gs.drop i)
      rw[G6] at this
      omega
     have a4:OM.W n gs < 2 ^ n:=by
      rw[<-hgs]
      have:∀k,OM.W n (OM.ie (bp l) n k) < 2 ^ n:=λk=>by
       induction k with
       |zero=>exact OM.xY n
       |succ k ih=>exact Ho (OM.i6 (bp l) n _) ih
      exact this k
     omega
    obtain⟨s4',e⟩:=DG (n:=n) (l:=l) (gs:=gs) (by omega) (by omega) hne h3 hw s4
    refine⟨we n l gs (OM.longer (bp l) n (gs.take i)) (.fz (aQ g)) s4,rfl,_,_,e,rfl,.fz (aQ g),s4',?_⟩
    have ht:gs.take (i + 1)=gs.take i ++ [g]:=by
     obtain⟨hi',eg⟩:=EV.mp hq
     rw[List.take_succ_eq_append_getElem hi',eg]
    rw[ht]
    unfold OM.longer
    rw[List.flatMap_append]
    simp)
 rw[EM,Gr,List.take_length] at *
 rw[ay (env':=we n l gs (OM.longer (bp l) n gs) s3 s4) (β':=0) ?zz]
 ·show FR.ok _ true=_
  rw[show OM.ie (bp l) n (k + 1)=OM.longer (bp l) n gs by rw[<-hgs];rfl]
 case zz=>
  rw[gZ (env:=we n l gs [] .no .no) (ds:=gs.map aQ) (β1:=0) (by rfl)]
  exact ef
noncomputable def Ed:List D->FR:=bw 3 1 (dw kC yz)
noncomputable abbrev wu:SF:=aI (bh 1 [2] (gv 2))
 (bh 2 ([0] ++ ([1] ++ [])) (aF yz (aa (gv 0) (aa (gv 1) aq))))
abbrev me (n:Nat)(l:List Pr)(gs ls:List (List Int)):En:=[.fz (aE n l),.fz (.list (gs.map aQ)),.fz (.list (ls.map aQ))]
theorem CD {n:Nat}{l:List Pr}{gs ls:List (List Int)}:mi (gv 2) (vl (me n l gs ls)) 0=.ok (!decide (ls= [])) 0:=by
 cases ls with
 |nil=>rfl
 |cons g ls=>rfl
def DR {n:Nat}{l:List Pr}(O:OM.Ord n l)(h6:n<=8):∃(g:List Int) (k:Nat),Ed [aE n l]=.ok (aQ g) false/\OM.Lv (bp l) n (k + 1) g/\(∀g',¬OM.Lv (bp l) n (k + 2) g')/\∀g',OM.Lv (bp l) n (k + 1) g'->g'=g\/L2.HM.lexLt g g'=true:=by
 show ∃(g:List Int) (k:Nat),fin (dw kC yz [.fz (aE n l),.no,.no] 0)=.ok (aQ g) false/\_
 unfold dw
 rw[ay (env':=[.fz (aE n l),.no,.no]) (β':=0) (by rw[v9,bA (ds:=[aE n l]) (β1:=0) rfl (xf O)];rfl)]
 have e1:f2 (gv 0) (cst (.int 0)) dB (vl [.fz (aE n l),.no,.no]) 0=.ok (.int n) 0:=aH (x:=aE n l) (y:=.int 0) rfl rfl rfl
 have hi:bE 0 n=(OM.ups n 0).map int:=by
  unfold bE OM.ups
  rw[F0,show ((n:Int) - 0).toNat=n by omega];rfl
 have er:fC (f2 (gv 0) (cst (.int 0)) dB) (vl [.fz (aE n l),.no,.no]) 0=.ok ((OM.ups n 0).map int) 0:=by
  rw[<-hi];exact g9 (n:=n) e1 (by omega)
 have hul:(OM.ups n 0).length=n:=by unfold OM.ups;rw[EM,FO];omega
 have ec:aY 1 [] (.nm 0) (fC (f2 (gv 0) (cst (.int 0)) dB)) qK (bC (aa (gv 0) aq)) (vl [.fz (aE n l),.no,.no]) 0=.ok (.list ((OM.ones n).map aQ)) 0:=by
  unfold OM.ones
  rw[F0]
  exact dI (l:=OM.ups n 0) (e:=int) (λt=>aQ [t]) er (by omega) λt ht=>⟨_,rfl,lp (ac rfl an)⟩
 rw[ay (env':=[.fz (aE n l),.fz (.list ((OM.ones n).map aQ)),.no]) (β':=0) (by rw[tS,ec];rfl)]
 rw[ay (env':=me n l (OM.ie (bp l) n 0) (OM.ie (bp l) n 0)) (β':=0) (by rfl)]
 obtain⟨env',β',ew,rfl,i,gs,rfl,hgs⟩:=fT (L:=[]) (t:=mi (gv 2)) (m:=wu)
  (λk env β=>β=0/\∃(i:Nat) (gs:List (List Int)),env=me n l gs (OM.ie (bp l) n i)/\k + i=n + 1/\((i=0/\gs=OM.ie (bp l) n 0)\/(1<=i/\gs=OM.ie (bp l) n (i - 1)/\gs≠ [])))
  (λenv β=>β=0/\∃(i:Nat) (gs:List (List Int)),env=me n l gs (OM.ie (bp l) n i)/\OM.ie (bp l) n i= []/\1<=i/\gs=OM.ie (bp l) n (i - 1)/\gs≠ [])
  (n:=1000) (k:=n + 1) (env:=me n l (OM.ie (bp l) n 0) (OM.ie (bp l) n 0)) (β:=0) (by omega) ⟨rfl,0,_,rfl,by omega,.inl ⟨rfl,rfl⟩⟩ (by
   rintro k env β ⟨rfl,i,gs,rfl,hk,hgs⟩
   refine⟨_,0,CD,?_⟩
   by_cases hz:OM.ie (bp l) n i= []
   ·refine .inl ⟨by rw[ET hz];rfl,rfl,i,gs,rfl,hz,?_⟩
    rcases hgs with⟨rfl,rfl⟩ |h
    ·exfalso
     have h0:(0:Int)∈OM.ups n 0:=(OM.dk n).mpr ⟨by omega,by have:=O.lo;omega⟩
     have: [(0:Int)]∈OM.ie (bp l) n 0:=ER.mpr ⟨0,h0,rfl⟩
     rw[hz] at this;cases this
    ·exact h
   ·refine .inr ⟨by rw[E3 hz];rfl,me n l (OM.ie (bp l) n i) (OM.ie (bp l) n (i + 1)),0,n + 1 - (i + 1),?_,?_,rfl,i + 1,_,rfl,?_,.inr ⟨by omega,rfl,hz⟩⟩
    ·show wu (me n l gs (OM.ie (bp l) n i)) 0=_
     unfold wu
     rw[ay (env':=me n l (OM.ie (bp l) n i) (OM.ie (bp l) n i)) (β':=0) (by rfl)]
     rw[tS,bA (ds:=[aE n l,.list ((OM.ie (bp l) n i).map aQ)]) (β1:=0) rfl (Ce h6)];rfl
    ·have:i < n:=by
      by_cases q:i < n
      ·exact q
      ·exact absurd (OM.tL (bp l) n (by omega)) hz
     omega
    ·have:i < n:=by
      by_cases q:i < n
      ·exact q
      ·exact absurd (OM.tL (bp l) n (by omega)) hz
     omega)
 obtain⟨hend,hi1,hgs,hne⟩:=hgs
 obtain⟨g,rest,hg⟩:=List.exists_cons_of_ne_nil hne
 have hgm:g∈OM.ie (bp l) n (i - 1):=by rw[<-hgs,hg];exact EL ..
 have hL:=(OM.eN (bp l) n (i - 1) g).mp hgm
 have hno:∀g',¬OM.Lv (bp l) n (i + 1) g':=λg' z=>by
  have:=(OM.eN (bp l) n i g').mpr z
  rw[hend] at this;cases this
 refine⟨g,i - 1,?_,hL,λg' z=>hno g' (by rw[show i + 1=i - 1 + 2 by omega];exact z),λg' z=>?_⟩
 rotate_left
 ·have hm:=(OM.eN (bp l) n (i - 1) g').mpr z
  have hp:=OM.sU (bp l) n (i - 1)
  rw[<-hgs,hg] at hm hp
  rcases EH.mp hm with e |e
  ·exact .inl e
  ·exact .inr ((GB.mp hp).1 g' e)
 rw[ay ew,hg]
 have e0:f2 (gv 1) (cst (.int 0)) dB (vl (me n l (g :: rest) (OM.ie (bp l) n i))) 0=.ok (aQ g) 0:=aH (x:=.list ((g :: rest).map aQ)) (y:=.int 0) rfl rfl (by show iB ((g :: rest).map aQ) 0=_;exact ko (j:=0) rfl)
 rw[yr,e0];rfl
def vm (l:List Pr)(r:List Int)(x:Int):List Int:=(l.filter λp=>decide (p.2=x) && !decide (p.1∈r)).map (·.1)
def ja {l:List Pr}{r:List Int}{x a:Int}:a∈vm l r x↔(a,x)∈l/\a∉r:=by
 unfold vm
 rw[ER]
 constructor
 ·rintro⟨p,hp,rfl⟩
  have:=Fv.mp hp
  simp only[Fp,Gf,Bool.not_eq_true',decide_eq_false_iff_not] at this
  obtain⟨pa,pb⟩:=p
  obtain⟨h1,h2,h3⟩:=this
  simp only at h2 h3
  subst h2
  exact⟨h1,h3⟩
 ·rintro⟨h1,h2⟩
  exact⟨(a,x),Fv.mpr ⟨h1,by simp[h2]⟩,rfl⟩
def uN {n:Nat}{l:List Pr}(O:OM.Ord n l)(r:List Int)(x:Int):(vm l r x).Nodup:=by
 unfold vm
 rw[GH,FI]
 refine FP (λ{a b} ha hb h e=>h ?_) (GH.mp ((OM.fM O.ris).filter _))
 have h1:=(Fv.mp ha).2
 have h2:=(Fv.mp hb).2
 simp only[Fp,Gf] at h1 h2
 exact Prod.ext e (h1.1.trans h2.1.symm)
theorem least {n:Nat}{l:List Pr}(O:OM.Ord n l)(r:List Int):∀(k:Nat) (x:Int),(0<=x/\x < n)->x∉r->(vm l r x).length<=k->∃y:Int,(0<=y/\y < n)/\y∉r/\vm l r y= []
 | 0,x,hx,hr,hk=>⟨x,hx,hr,List.length_eq_zero_iff.mp (by omega)⟩
 |k + 1,x,hx,hr,hk=>by
  by_cases he:vm l r x= []
  ·exact⟨x,hx,hr,he⟩
  ·obtain⟨a,ha⟩:=List.exists_mem_of_ne_nil _ he
   obtain⟨h1,h2⟩:=ja.mp ha
   refine least O r k a (O.wn _ h1).1 h2 ?_
   have nd:(a :: vm l r a).Nodup:=Fq.mpr ⟨λq=>O.irr a (ja.mp q).1,uN O r a⟩
   have:=L2.ST.aU nd (m:=vm l r x) λy hy=>by
    rcases EH.mp hy with rfl |hy
    ·exact ha
    ·obtain⟨q1,q2⟩:=ja.mp hy
     exact ja.mpr ⟨O.tr _ _ _ q1 h1,q2⟩
   rw[EZ] at this
   omega
structure CV (n:Nat)(l:List Pr)(r:List Int):Prop where
 nd:r.Nodup
 inn:∀x,x∈r->0<=x/\x < (n:Int)
 fit:∀p,p∈l->p.2∈r->p.1∈r/\r.idxOf p.1 < r.idxOf p.2
def CV.len {n:Nat}{l:List Pr}{r:List Int}(B:CV n l r):r.length<=n:=by
 have:=L2.ST.aU B.nd (m:=j8 n) λx hx=>nY.mpr (B.inn x hx)
 rwa [oF] at this
def z5 (l:List Pr)(r:List Int)(x:Int):Bool:= !decide (x∈r) && decide (vm l r x= [])
def CV.more {n:Nat}{l:List Pr}{r:List Int}{x:Int}(B:CV n l r)(hx:0<=x/\x < (n:Int))(hf:z5 l r x=true):CV n l (r ++ [x]):=by
 unfold z5 at hf
 rw[Fp,Bool.not_eq_true',decide_eq_false_iff_not,Gf] at hf
 obtain⟨h1,h2⟩:=hf
 refine⟨?_,λy hy=>?_,λp hp hm=>?_⟩
 ·rw[List.nodup_append]
  refine⟨B.nd,Fq.mpr ⟨by simp,List.nodup_nil⟩,λa ha b hb=>?_⟩
  rw[E4] at hb
  subst hb
  exact λq=>h1 (q▸ha)
 ·rcases E6.mp hy with hy |hy
  ·exact B.inn y hy
  ·rw[E4] at hy;subst hy;exact hx
 ·rcases E6.mp hm with hm |hm
  ·obtain⟨q1,q2⟩:=B.fit p hp hm
   refine⟨FT _ q1,?_⟩
   rw[Hx,Hx,EI q1,EI hm]
   exact q2
  ·rw[E4] at hm
   have hp1:p.1∈r:=by
    by_cases z:p.1∈r
    ·exact z
    ·have:p.1∈vm l r x:=ja.mpr ⟨by rw[<-hm];exact hp,z⟩
     rw[h2] at this;cases this
   refine⟨FT _ hp1,?_⟩
   rw[Hx,Hx,EI hp1,EN (by rw[hm];exact h1)]
   have:=List.idxOf_lt_length_iff.mpr hp1
   omega
structure WP (r:SO)(Q:SO->Prop):Prop where
 out:Q r
section
variable {m m' m1 m2:SF}{env env1:En}{β β1 β2 z:Int}{Q:SO->Prop}{f fa fb:VF D}{t:VF Bool}{d e:D}{L La Lb:List Nat}{i j:Nat}{c:Bool}
def wp_at (env1:En)(e:env=env1)(k:WP (m env1 β) Q):WP (m env β) Q:=by rw[e];exact k
def wp_seq (h:m env β=.nx env1 β1)(k:WP (m' env1 β1) Q):WP (aI m m' env β) Q:=by rw[ay h];exact k
theorem nO (h:WP (aI m nk env β) Q):WP (m env β) Q:=by
 obtain⟨h⟩:=h
 unfold aI at h
 cases e:m env β with
 |_=>rw[e] at h;exact⟨h⟩
def pQ (q:Q (.nx env β)):WP (nk env β) Q:=⟨q⟩
def jM (h:f (vl env) β=.ok d β1)(k:WP (m' ((aL L env).set i (.fz d)) β1) Q):WP (aI (bh i L f) m' env β) Q:=wp_seq (by unfold bh;rw[h];rfl) k
def sI (h:f (vl env) β=.ok d β1)(k:WP (m' ((aL L env).set i (.ow d)) β1) Q):WP (aI (iG i L f) m' env β) Q:=wp_seq (by unfold iG;rw[h];rfl) k
def xp {ds:List D}(hi:env[i]? =some (.ow (.list ds)))(h:f (vl env) β=.ok d β1)(hL:(aL L env)[i]? =some (.ow (.list ds)))(hz:ds.length<=1000)(k:WP (m' ((aL L env).set i (.ow (.list (ds ++ [d])))) β1) Q):WP (aI (jv i L f) m' env β) Q:=wp_seq (nv hi h hL hz) k
def yy (h:t (vl env) β=.ok false β1)(k:WP (m' (aL L env) β1) Q):WP (aI (kM L t m1 nk) m' env β) Q:=wp_seq (by rw[jq h];rfl) k
def DN (h:t (vl env) β=.ok true β1)(k:WP (m1 (aL L env) β1) Q):WP (kM L t m1 m2 env β) Q:=by rw[qH h];exact k
def D5 (h:t (vl env) β=.ok false β1)(k:WP (m2 (aL L env) β1) Q):WP (kM L t m1 m2 env β) Q:=by rw[jq h];exact k
def BL (h:f (vl env) β=.ok d β1)(q:Q (.rt d false β1)):WP (cA f env β) Q:=⟨by unfold cA;rw[h];exact q⟩
def Bq {R:FR}(h:WP (m env β) λr=>fin r=R):fin (m env β)=R:=h.out
def oq {t:Tg}{fi:VF (List D)}{ds:List D}(I:Nat->En->Int->Prop)(hi:fi (vl env) β=.ok ds β1)(h0:I 0 (aL L env) β1)
  (hs:∀i d env β,ds[i]? =some d->I i env β->∃env1,dg t d env=some env1/\WP (m env1 β) λr=>∃env2 β2,r=.nx env2 β2/\I (i + 1) env2 β2)
  (k:∀env β,I ds.length env β->WP (m' env β) Q):WP (aI (cJ t L fi m) m' env β) Q:=by
 obtain⟨env',β',e,h⟩:=dX (t:=t) (m:=m) I (ds:=ds) (k:=0) h0 λi d env β hd h=>by
  rw[Gr] at h
  obtain⟨env1,e1,⟨env2,β2,e2,h2⟩⟩:=hs i d env β hd h
  exact⟨env1,e1,env2,β2,e2,by rw[Gr];exact h2⟩
 rw[Gr] at h
 exact wp_seq ((gZ hi).trans e) (k _ _ h)
end
def wH (c:Int)(hc:0<=c/\c<=100)(ns:List Int)(vs:List Nv)(β:Int)(h:gv 0 vs β=.ok (bK ns) β):∃m:Nat,m<=101/\fC (f2 (cst (.int 1)) (f2 (f1 (gv 0) fh) (cst (.int c)) (uC λi j=>.int (if j < i then j else i))) (uC λi j=>.int (if j > i then j else i))) vs β=.ok (bE 0 m) β:=by
 have e1:f2 (cst (.int 1)) (f2 (f1 (gv 0) fh) (cst (.int c)) (uC λi j=>.int (if j < i then j else i))) (uC λi j=>.int (if j > i then j else i)) vs β=.ok (.int (if (if c < ((ns.map int).length:Int) then c else ((ns.map int).length:Int)) > 1 then (if c < ((ns.map int).length:Int) then c else ((ns.map int).length:Int)) else 1)) β:=
  aH (x:=.int 1) rfl (aH (x:=.int (ns.map int).length) (y:=.int c) (dH h rfl) rfl rfl) rfl
 generalize ((ns.map int).length:Nat)=k at e1
 refine⟨(if (if c < (k:Int) then c else (k:Int)) > 1 then (if c < (k:Int) then c else (k:Int)) else 1).toNat,?_,g9 (e1.trans ?_) ?_⟩
 ·split <;> split <;> omega
 ·congr 2
  split <;> split <;> omega
 ·split <;> split <;> omega
def It (d:D):Prop:=dJ d=false/\Sq 400 8 d/\Bf d
def Th (d:D):Prop:=Ge d/\Sq 10000 9 d/\Bf d
def Ap (P:D->Prop)(k:Nat)(es:List D):Prop:=es.length<=k/\∀x,x∈es->P x
abbrev Al:Nat->List D->Prop:=Ap It
def Ap.take {P:D->Prop}{k:Nat}{a:List D}(h:Ap P k a)(n:Nat):Ap P k (a.take n):=⟨by have:=h.1;rw[FG];omega,λx hx=>h.2 x (GP hx)⟩
def Ap.drop {P:D->Prop}{k:Nat}{a:List D}(h:Ap P k a)(n:Nat):Ap P k (a.drop n):=⟨by have:=h.1;rw[List.length_drop];omega,λx hx=>h.2 x (List.mem_of_mem_drop hx)⟩
def Ap.tup {k:Nat}{a:List D}(h:Al k a)(hk:k<=24):Th (.tuple a):=by
 have:=h.1
 refine⟨AE (by omega) λx hx=>(h.2 x hx).1,(Aq (c:=400) (k:=8) λd hd=>(h.2 d hd).2.1).mono ?_ (by omega),Bv λd hd=>(h.2 d hd).2.2⟩
 have:(400 + 2) * a.length<=402 * 24:=Gn (by omega) (by omega)
 omega
def Ap.lst {k:Nat}{a:List D}(h:Al k a)(hk:k<=24):Th (.list a):=by
 have:=h.1
 refine⟨⟨rfl,λes' e=>by cases e⟩,(vC (c:=400) (k:=8) λd hd=>(h.2 d hd).2.1).mono ?_ (by omega),xM λd hd=>(h.2 d hd).2.2⟩
 have:(400 + 2) * a.length<=402 * 24:=Gn (by omega) (by omega)
 omega
def vp {ds:List D}{k:Nat}(h:k < ds.length):∃d,ds[k]? =some d/\d∈ds/\iB ds (k:Int)=some d:=⟨ds[k],ED h,FN h,ko (ED h)⟩
def Ig (d:D):Prop:=Ge d/\Sq 400 8 d/\Bf d
def zd {r:List Int}(hl:r.length<=9)(h:∀x,x∈r->0<=x/\x < 9):Ig (.list (r.map int)):=by
 have sm:∀d,d∈r.map int->BO d:=λd hd=>by
  obtain⟨y,hy,rfl⟩:=ER.mp hd
  exact yJ (by have:=h y hy;omega)
 refine⟨⟨rfl,λes' e=>by cases e⟩,(vC (c:=20) (k:=0) λd hd=>(sm d hd).sq).mono ?_ (by omega),xM λd hd=>(sm d hd).bf⟩
 rw[EM]
 have:(20 + 2) * r.length<=22 * 9:=Gn (by omega) hl
 omega
def qI (c:Int->Int->Bool)(t:Int)(g:List Int):Bool:=(g.filter λa=> !c a t).isEmpty
def nJ (c:Int->Int->Bool):Nat->List (List Int)
 | 0=>[[]]
 |k + 1=>nJ c k ++ ((nJ c k).filter (qI c k)).map λg=>g ++ [(k:Int)]
theorem nU (c:Int->Int->Bool):∀k,(nJ c k).length<=2 ^ k
 | 0=>EG _
 |k + 1=>by
  have h:=nU c k
  have:=FZ (qI c k) (nJ c k)
  show (nJ c k ++ ((nJ c k).filter (qI c k)).map λg=>g ++ [(k:Int)]).length<=2 ^ (k + 1)
  rw[Fs,EM,Nat.pow_succ]
  omega
def tu {c:Int->Int->Bool}{t:Int}{g:List Int}:qI c t g=true↔∀a,a∈g->c a t=true:=by
 unfold qI
 rw[List.isEmpty_iff,List.filter_eq_nil_iff]
 simp
theorem gp (c:Int->Int->Bool):∀(k:Nat) (g:List Int),g∈nJ c k↔OM.Lv c k g.length g
 | 0,g=>by
  show g∈ [[]]↔_
  rw[E4]
  constructor
  ·rintro rfl;exact⟨rfl,.nil,(λx hx=>by cases hx),.nil⟩
  ·rintro⟨_,_,h,_⟩
   cases g with
   |nil=>rfl
   |cons x g=>have:=h x (EL ..);omega
 |k + 1,g=>by
  show g∈nJ c k ++ ((nJ c k).filter (qI c k)).map (λg=>g ++ [(k:Int)])↔_
  rw[E6]
  constructor
  ·rintro (h |h)
   ·obtain⟨_,h2,h3,h4⟩:=(gp c k g).mp h
    exact⟨rfl,h2,λx hx=>by have:=h3 x hx;omega,h4⟩
   ·obtain⟨g',h0,rfl⟩:=ER.mp h
    obtain⟨hm,hk⟩:=Fv.mp h0
    obtain⟨_,h2,h3,h4⟩:=(gp c k g').mp hm
    refine⟨rfl,FE.mpr ⟨h2,Gd ..,λx hx y hy=>?_⟩,λx hx=>?_,FE.mpr ⟨h4,Gd ..,λx hx y hy=>?_⟩⟩
    ·rw[E4] at hy;subst hy;have:=h3 x hx;omega
    ·rcases E6.mp hx with hx |hx
     ·have:=h3 x hx;omega
     ·rw[E4] at hx;omega
    ·rw[E4] at hy;subst hy;exact tu.mp hk x hx
  ·rintro⟨_,h2,h3,h4⟩
   by_cases hne:g= []
   ·subst hne;exact .inl ((gp c k []).mpr ⟨rfl,.nil,(λx hx=>by cases hx),.nil⟩)
   obtain⟨i,y,rfl⟩:∃i y,g=i ++ [y]:=⟨g.dropLast,g.getLast hne,(GA hne).symm⟩
   have p2:=FE.mp h2
   have p4:=FE.mp h4
   have hy:=h3 y (by simp)
   have hi:∀x,x∈i->0<=x/\x < y:=λx hx=>⟨(h3 x (FT _ hx)).1,p2.2.2 x hx y (by simp)⟩
   by_cases c1:y=(k:Int)
   ·subst c1
    exact .inr (ER.mpr ⟨i,Fv.mpr ⟨(gp c k i).mpr ⟨rfl,p2.1,λx hx=>hi x hx,p4.1⟩,tu.mpr λa ha=>p4.2.2 a ha _ (by simp)⟩,rfl⟩)
   ·refine .inl ((gp c k _).mpr ⟨rfl,h2,λx hx=>?_,h4⟩)
    rcases E6.mp hx with hx |hx
    ·have:=hi x hx;omega
    ·rw[E4] at hx;omega
noncomputable def DQ:List D->FR:=bw 5 1 (cF wy)
def A9 {L:List Int}{fc:VF D}{vs:List Nv}{β:Int}(h:fc vs β=.ok (.list (L.map int)) β):iA (f2 fc (bC aq) (fF false)) vs β=.ok L.isEmpty β:=by
 refine lC _ _ _ _ (aH (x:=.list (L.map int)) (y:=.list (([]:List Int).map int)) h (lp (ds:=[]) an) ?_)
 rw[pH]
 congr 2
 cases L <;> simp
def Df {n:Nat}{l:List Pr}(h8:n<=8):∃b,DQ [aE n l]=.ok (.list ((nJ (bp l) n).map aQ)) b:=by
 show ∃b,fin (cF wy [.fz (aE n l),.no,.no,.no,.no] 0)=.ok (.list ((nJ (bp l) n).map aQ)) b
 suffices h:WP (cF wy [.fz (aE n l),.no,.no,.no,.no] 0) λr=>∃b,fin r=.ok (.list ((nJ (bp l) n).map aQ)) b from h.out
 unfold cF
 refine jM (lp (ds:=[.list []]) (ac (lp (ds:=[]) an) an)) ?_
 refine oq (λi env _=>∃s2 s3 s4,env= [.fz (aE n l),.fz (.list ((nJ (bp l) i).map aQ)),s2,s3,s4]) (g9 (n:=n) (Ez (n:=n) (l:=l) rfl) (by omega)) ⟨_,_,_,rfl⟩ ?_ ?_
 ·rintro i d env β hi ⟨s2,s3,s4,rfl⟩
  obtain⟨hin,rfl⟩:=js hi
  rw[G8]
  have hz:=nU (bp l) i
  have h2:2 ^ i<=2 ^ 8:=Nat.pow_le_pow_right (by omega) (by omega)
  have hmem:=gp (bp l) i
  refine⟨[.fz (aE n l),.fz (.list ((nJ (bp l) i).map aQ)),.fz (.int i),s3,s4],rfl,?_⟩
  rw[show nJ (bp l) (i + 1)=nJ (bp l) i ++ ((nJ (bp l) i).filter (qI (bp l) i)).map λg=>g ++ [(i:Int)] from rfl]
  generalize nJ (bp l) i=A at *
  refine sI (lp (ds:=[]) an) (wp_at [.fz (aE n l),.fz (.list (A.map aQ)),.fz (.int i),.ow (.list (([]:List (List Int)).map aQ)),s4] rfl ?_)
  refine oq (λj env _=>∃s4,env= [.fz (aE n l),.fz (.list (A.map aQ)),.fz (.int i),.ow (.list ((((A.take j).filter (qI (bp l) i)).map λg=>g ++ [(i:Int)]).map aQ)),s4]) (ds:=A.map aQ) rfl ⟨_,rfl⟩ ?_ ?_
  ·rintro j d env β hj ⟨s4,rfl⟩
   rw[ES] at hj
   cases hq:A[j]? with
   |none=>rw[hq] at hj;cases hj
   |some g=>
    rw[hq] at hj;cases hj
    obtain⟨hjl,eg⟩:=EV.mp hq
    have hg8:g.length<=8:=by
     obtain⟨_,g2,g3,_⟩:=(hmem g).mp (EX hq)
     have:=(OM.cU (OM.il i 0) g2 λx hx=>(OM.dk i).mpr (g3 x hx)).length_le
     unfold OM.ups at this
     rw[EM,FO] at this
     omega
    have ht:A.take (j + 1)=A.take j ++ [g]:=by rw[List.take_succ_eq_append_getElem hjl,eg]
    have hB:((A.take j).filter (qI (bp l) i)).length<=256:=by
     have:=FZ (qI (bp l) i) (A.take j)
     rw[FG] at this
     omega
    rw[ht,Hq,FA,FA]
    refine⟨[.fz (aE n l),.fz (.list (A.map aQ)),.fz (.int i),.ow (.list ((((A.take j).filter (qI (bp l) i)).map λg=>g ++ [(i:Int)]).map aQ)),.fz (aQ g)],rfl,?_⟩
    generalize (A.take j).filter (qI (bp l) i)=B at hB
    have t:iA (f2 (aY 1 [0,2] (.nm 0) (cT (gv 4)) (rf (mi (aF wy (aa (gv 1) (aa (gv 0) (aa (gv 2) aq)))))) (gv 0)) (bC aq) (fF false)) (vl [.fz (aE n l),.fz (.list (A.map aQ)),.fz (.int i),.ow (.list ((B.map λg=>g ++ [(i:Int)]).map aQ)),.fz (aQ g)]) β=.ok (qI (bp l) i g) β:=
     A9 (iP (l:=g) (e:=int) (λa=> !bp l a i) int rfl (by omega) λa ha=>⟨[.da (.int a),.da (aE n l),.da (.int i)],rfl,wN (vg (bA (ds:=[aE n l,.int a,.int i]) rfl (CC n l a i))),λ_=>rfl⟩)
    cases hc:qI (bp l) i g with
    |true=>
     rw[hc] at t
     refine DN t (nO (xp (β1:=β) (ds:=(B.map λg=>g ++ [(i:Int)]).map aQ) (d:=aQ (g ++ [(i:Int)])) rfl ?_ rfl (by rw[EM,EM];omega) (pQ ⟨_,_,rfl,.fz (aQ g),?_⟩)))
     ·refine aH (x:=.list (g.map int)) (y:=.list [.int i]) rfl (lp (ac rfl an)) ?_
      rw[jg (by rw[EM];simp;omega)]
      unfold aQ;rw[FA];rfl
     ·rw[Gw hc];rfl
    |false=>
     rw[hc] at t
     refine D5 t (pQ ⟨_,_,rfl,.fz (aQ g),?_⟩)
     rw[Gx (by rw[hc];simp)]
     simp;rfl
  ·rintro env β ⟨s4,rfl⟩
   rw[EM,List.take_length]
   have hB:((A.filter (qI (bp l) i)).map λg=>g ++ [(i:Int)]).length<=256:=by
    have:=FZ (qI (bp l) i) A
    rw[EM]
    omega
   generalize ((A.filter (qI (bp l) i)).map λg=>g ++ [(i:Int)])=B at hB
   refine nO (jM (β1:=β) (d:=.list ((A ++ B).map aQ)) ?_ (pQ ⟨_,_,rfl,_,_,_,rfl⟩))
   rw[FA]
   exact aH (x:=.list (A.map aQ)) (y:=.list (B.map aQ)) rfl rfl (jg (by rw[EM,EM];omega))
 ·rintro env β ⟨s2,s3,s4,rfl⟩
  rw[jw]
  exact⟨_,rfl⟩
theorem nz {rs:List (List Int)}:∀(k j:Nat),j<=k->qt rs j (argBest (qt rs) k)=false
 | 0,j,h=>by
  have:j=0:=by omega
  subst this
  exact OM.oj _
 |k + 1,j,h=>by
  unfold argBest
  by_cases c:qt rs (k + 1) (argBest (qt rs) k)=true
  ·rw[EI c]
   by_cases e:j=k + 1
   ·subst e;exact OM.oj _
   ·rw[<-Bool.not_eq_true]
    intro z
    have:=nz (rs:=rs) k j (by omega)
    rw[show qt rs j (argBest (qt rs) k)=true from OM.wZ z c] at this
    cases this
  ·rw[EN c]
   by_cases e:j=k + 1
   ·subst e;exact Bool.eq_false_iff.mpr c
   ·exact nz k j (by omega)
def uI {rs:List (List Int)}(h:0 < rs.length):jV rs∈rs:=by
 have:=iU (qt rs) (rs.length - 1)
 unfold jV
 rw[Fb,ED (by omega)]
 exact FN _
def xu {rs:List (List Int)}{r:List Int}(h:r∈rs):L2.HM.lexLt r (jV rs)=false:=by
 obtain⟨j,hj,rfl⟩:=List.getElem_of_mem h
 have:=nz (rs:=rs) (rs.length - 1) j (by omega)
 unfold qt at this
 rw[Fb,ED hj] at this
 exact this
theorem vY:∀rs:List (List Int),jY (rs.map aQ)=some rs
 | []=>rfl
 |r :: rs=>by
  rw[Fw]
  show (match fG (r.map int),jY (rs.map aQ) with |some r,some rs=>some (r :: rs) |_,_=>none)=_
  rw[fE,vY rs]
def vN (rs:List (List Int)):k8 rz (.list (rs.map λg=>int ((g.length:Nat):Int)))=if 0 < rs.length then some (.int (rz (rs.map λg=>((g.length:Nat):Int)))) else none:=by
 unfold k8
 rw[show gK (.list (rs.map λg=>int ((g.length:Nat):Int)))=some ((rs.map λg=>((g.length:Nat):Int)).map int) by rw[F0];rfl]
 dsimp only
 rw[fE]
 dsimp only
 rw[EM]
def vJ {g:List Int}(hl:g.length<=9)(h:∀x,x∈g->0<=x/\x < 9):mH (aQ g)=some (.str (aQ g).shown):=by
 have hc:(aQ g).canLay0=true:=by unfold aQ;simp only[PyData.canLay0];exact lay_ints g
 obtain⟨h1,h2,h3⟩:=(zd hl h).2.1
 unfold mH
 exact EI ⟨h1,PyData.hasDict_of_canLay _ hc,FK h2 (by omega),by rw[Fl];exact FK h3 (by omega),nC _ hc⟩
theorem pN:∀l:List Pr,bu (l.map az)=true
 | []=>rfl
 |p :: l=>by
  show (gS (az p) && bu (l.map az))=true
  rw[pN l];rfl
theorem mU:∀g:List Int,bu (g.map int)=true
 | []=>rfl
 |p :: l=>by
  show (gS (.int p) && bu (l.map int))=true
  rw[mU l];rfl
def vU (n:Nat)(l:List Pr):bu [aE n l]=true:=by
 show (gS (.tuple [.int n,.tuple (l.map az)]) && true)=true
 simp only[gS,bu,pN,Hd]
noncomputable def Dy:List D->FR:=qJ Ed
noncomputable def A8:List D->FR:=bw 8 1 (tw Bz DQ Dy oh)
def Cc (ns:List Int):A8 [bK ns]=.ok (.bool true) false:=by
 show fin (tw Bz DQ Dy oh [.fz (bK ns),.no,.no,.no,.no,.no,.no,.no] 0)=_
 refine Bq ?_
 obtain⟨m,hm,em⟩:=wH 4 (by omega) ns (vl [.fz (bK ns),.no,.no,.no,.no,.no,.no,.no]) 0 rfl
 unfold tw
 refine oq (λ_ env _=>∃s1 s2 s3 s4 s5 s6 s7,env= [.fz (bK ns),s1,s2,s3,s4,s5,s6,s7]) em ⟨_,_,_,_,_,_,_,rfl⟩ ?_ λenv β ⟨s1,s2,s3,s4,s5,s6,s7,e⟩=>BL (d:=.bool true) rfl rfl
 rintro i d env β hi ⟨s1,s2,s3,s4,s5,s6,s7,rfl⟩
 obtain⟨_,rfl⟩:=js hi
 rw[G8]
 refine⟨[.fz (bK ns),.fz (.int i),s2,s3,s4,s5,s6,s7],rfl,?_⟩
 obtain⟨z,ez⟩:=Cu ns i
 obtain⟨n,l,β1,eo,O,h8⟩:=wt (most:=8) (by omega) (by omega) z
 refine jM (BD (z:=z) (p8 (ds:=[bK ns,.int i]) rfl ez) eo) (wp_at [.fz (bK ns),.fz (.int i),.fz (aE n l),s3,s4,s5,s6,s7] rfl ?_)
 obtain⟨b,el⟩:=Df (l:=l) h8
 obtain⟨g,k,eg,hL,hno,hmin⟩:=DR O h8
 have hz:=nU (bp l) n
 have h2:2 ^ n<=2 ^ 8:=Nat.pow_le_pow_right (by omega) h8
 have hmem:=gp (bp l) n
 generalize nJ (bp l) n=A at *
 have hgA:g∈A:=(hmem g).mpr (by rw[hL.1];exact hL)
 have hle:∀r,r∈A->r.length<=k + 1:=λr hr=>by
  apply Classical.byContradiction
  intro c
  obtain⟨_,r2,r3,r4⟩:=(hmem r).mp hr
  have hs:=List.take_sublist (k + 2) r
  exact hno (r.take (k + 2)) ⟨by rw[FG];omega,r2.sublist hs,λx hx=>r3 x (hs.subset hx),r4.sublist hs⟩
 have hA0:0 < A.length:=GW hgA
 refine jM (bA (ds:=[aE n l]) rfl el) (wp_at [.fz (bK ns),.fz (.int i),.fz (aE n l),.fz (.list (A.map aQ)),s4,s5,s6,s7] rfl ?_)
 have hmx:rz (A.map λg=>((g.length:Nat):Int))=((k + 1:Nat):Int):=by
  have hm1:=wQ (ns:=A.map λg=>((g.length:Nat):Int)) (λe=>by rw[List.map_eq_nil_iff] at e;rw[e] at hA0;simp at hA0)
  obtain⟨r,hr,e⟩:=ER.mp hm1
  have h1:=hle r hr
  have h2:=yT (ER.mpr ⟨g,hgA,rfl⟩:((g.length:Nat):Int)∈A.map λg=>((g.length:Nat):Int))
  rw[hL.1] at h2
  omega
 have e4:=vN A
 rw[EI hA0,hmx] at e4
 refine jM (dH (dI (l:=A) (e:=aQ) (λg=>int ((g.length:Nat):Int)) rfl (by omega) λr hr=>⟨[.da (aQ r)],rfl,dH (x:=aQ r) rfl (by show some (int (((r.map int).length:Nat):Int))=_;rw[EM])⟩) e4) (wp_at [.fz (bK ns),.fz (.int i),.fz (aE n l),.fz (.list (A.map aQ)),.fz (.int ((k + 1:Nat):Int)),s5,s6,s7] rfl ?_)
 have hmF:g∈A.filter (λr=>decide (((r.length:Nat):Int)=((k + 1:Nat):Int))):=Fv.mpr ⟨hgA,by rw[hL.1];simp⟩
 have hF0:=GW hmF
 have hdue:jV (A.filter (λr=>decide (((r.length:Nat):Int)=((k + 1:Nat):Int))))=g:=by
  have h1:=uI hF0
  have h2:=xu hmF
  obtain⟨h3,h4⟩:=Fv.mp h1
  have h4:=of_decide_eq_true h4
  rcases hmin _ (by have:=(hmem _).mp h3;rw[show (jV (A.filter (λr=>decide (((r.length:Nat):Int)=((k + 1:Nat):Int))))).length=k + 1 by omega] at this;exact this) with e |e
  ·exact e
  ·rw[h2] at e;cases e
 have e5:oQ (.list ((A.filter (λr=>decide (((r.length:Nat):Int)=((k + 1:Nat):Int)))).map aQ))=some (aQ g):=by
  unfold oQ
  dsimp only
  rw[vY]
  dsimp only
  rw[EI hF0,hdue];rfl
 refine jM (dH (iP (l:=A) (e:=aQ) (λr=>decide (((r.length:Nat):Int)=((k + 1:Nat):Int))) aQ rfl (by omega) λr hr=>⟨[.da (aQ r),.da (.int ((k + 1:Nat):Int))],rfl,je (neg:=false) (i:=((r.length:Nat):Int)) (dH (x:=aQ r) rfl (by show some (int (((r.map int).length:Nat):Int))=_;rw[EM])) rfl,λ_=>rfl⟩) e5) (wp_at [.fz (bK ns),.fz (.int i),.fz (aE n l),.fz (.list (A.map aQ)),.fz (.int ((k + 1:Nat):Int)),.fz (aQ g),s6,s7] rfl ?_)
 have hgl:g.length<=8:=by
  obtain⟨_,g2,g3,_⟩:=hL
  have:=(OM.cU (OM.il n 0) g2 λx hx=>(OM.dk n).mpr (g3 x hx)).length_le
  unfold OM.ups at this
  rw[EM,FO] at this
  omega
 have hrp:=vJ (g:=g) (by omega) λx hx=>by have:=hL.2.2.1 x hx;omega
 have egN:Dy [aE n l]=.ok (aQ g) true:=tH eg (vU n l) (mU g)
 generalize int ((k + 1:Nat):Int)=d4
 refine nO (oq (λ_ env _=>∃s6 s7,env= [.fz (bK ns),.fz (.int i),.fz (aE n l),.fz (.list (A.map aQ)),.fz d4,.fz (aQ g),s6,s7]) (g9 (n:=2) rfl (by omega)) ⟨_,_,rfl⟩ ?_ λenv β ⟨s6,s7,e⟩=>pQ ⟨_,_,rfl,_,_,_,_,_,_,_,e⟩)
 rintro t d env β ht ⟨s6,s7,rfl⟩
 refine⟨[.fz (bK ns),.fz (.int i),.fz (aE n l),.fz (.list (A.map aQ)),.fz d4,.fz (aQ g),.fz d,s7],rfl,?_⟩
 refine sI (p8 (ds:=[aE n l]) rfl egN) (wp_at [.fz (bK ns),.fz (.int i),.fz (aE n l),.fz (.list (A.map aQ)),.fz d4,.fz (aQ g),.fz d,.ow (aQ g)] rfl ?_)
 refine yy (B9 (c:=false) (wN (a:=true) (vg (c:=true) (dH (x:=aQ g) rfl rfl))) (lC _ _ _ _ (aH (dH (x:=aQ g) rfl hrp) (dH (x:=aQ g) rfl hrp) (by simp[Bb])))) (wp_at [.fz (bK ns),.fz (.int i),.fz (aE n l),.fz (.list (A.map aQ)),.fz d4,.fz (aQ g),.fz d,.ow (aQ g)] rfl ?_)
 exact nO (xp (ds:=g.map int) (d:=.int 0) (β1:=β) rfl rfl rfl (by rw[EM];omega) (pQ ⟨_,_,rfl,_,_,rfl⟩))
end RM
namespace RO
open PySem L2
abbrev gu:Stmt:=RQ.cD
abbrev ju:Stmt:=RQ.top 12
abbrev Fn (K:Frag)(mg:Str->Option Value)(x:Str)(st:Stmt)(ps:List Str)(f:Addr)(fd:FuncData):Prop:=jZ K mg x st ps f fd
abbrev Bt (mg:Str->Option Value):Prop:=ke mg
end RO
section
namespace L2
open PySem PySem.Spec PyProof.Rows
section
variable {K:Frag}{H H':Hp}{a:Addr}
theorem aA.snoc {x y:Int}(q:eB K H a [.int x,.int y]):∀{vs:List V} {ps:List (Int×Int)},aA K H vs ps->aA K H (vs ++ [.ref a]) (ps ++ [(x,y)])
 |_,_,.nil=>.cons ⟨a,rfl,q⟩ .nil
 |_,_,.cons r t=>.cons r (aA.snoc q t)
def aA.len {vs:List V}{ps:List (Int×Int)}(h:aA K H vs ps):vs.length=ps.length:=Paired.length h
def aA.same {vs:List V}{ps:List (Int×Int)}(h:aA K H vs ps)(s:ae H H'):aA K H' vs ps:=h.grow s.grow
def aA.at {vs:List V}{ps:List (Int×Int)}{i:Nat}{v:V}(h:aA K H vs ps)(e:vs[i]? =some v):∃p:Int×Int,ps[i]? =some p/\∃b,v=.ref b/\eB K H b [.int p.1,.int p.2]:=Paired.getP h e
def ae.put {o:HO}(s:ae H H')(h:H a=none):ae H (L2.upd H' a o):=λb u e=>by rw[ag (au e h)];exact s b u e
end
end L2
namespace RO
open PySem L2
def vt (N:List Str)(sc:Scope)(NB:List Str)(own:Nat)(ixs:List Nat)(scope:Scope):Bool:=
 decide (scope.kind=.function) && (scope.names.all λy=>decide (y.2≠.cell)) && (scope.names.all λy=>decide (scope.names.lookup y.1=some y.2)) &&
 (scope.names.all λy=>decide (y.2=.free->(sc.names.lookup y.1=some .cell\/sc.names.lookup y.1=some .free))) && decide NB.Nodup && decide (NB.length=own + ixs.length) &&
 ((List.range ixs.length).all λk=>decide (NB[own + k]? =N[ixs.getD k 0]?) && (match NB[own + k]? with |some x=>decide ((x,NameKind.free)∈scope.names) |none=>true))
def jA {X:Cx}{NB:List Str}{own:Nat}{ixs:List Nat}{scope:Scope}(h:vt X.N X.env.scope NB own ixs scope=true):bX X NB own ixs scope:=by
 unfold vt at h
 simp only[Fp,Ga,Gf,E2] at h
 obtain⟨⟨⟨⟨⟨⟨h1,h2⟩,h3⟩,h4⟩,h5⟩,h6⟩,h7⟩:=h
 refine⟨h1,h2,h3,h4,h5,h6,λk hk=>⟨(h7 k hk).1,λx hx=>?_⟩⟩
 have:=(h7 k hk).2
 rw[hx] at this
 simpa using this
section
variable {X:Cx}{tg l:Expr}{tl:TE}{K:Frag}{H H1:Hp}{a:Addr}{xs:List V}{σ:St}
def Dm (K:Frag)(tl:TE):TI:=λσ H R=>tl σ H λx H1=>∃a xs,x=.ref a/\((dS K H1 a xs/\R (uj K a) H1)\/(eB K H1 a xs/\R (zS K a) H1))
end
def Eg (K:Frag){X:Cx}(h:X.K=K:=by rfl):wX X (AQ K):=by subst h;exact di
def A1 (K:Frag)(i j:Nat){X:Cx}{x y:Str}{px py pos:Pos}{k:Nat}(hN:X.N.Nodup)(hi:X.N[i]? =some x)(hj:X.N[j]? =some y)(hx:X.env.scope.names.lookup x=some .local)(hy:X.env.scope.names.lookup y=some .local)(hc:X.calm=true)(hK:X.K=K) :
  PG X (.Tuple [.Name x px,.Name y py] k pos) (yL K 2 (kr (iD i) (kr (iD j) ym))):=by
 subst hK
 exact lq hc (b8 (bM hN hi (Or.inl hx) (Or.inr hx)) (b8 (bM hN hj (Or.inl hy) (Or.inr hy)) jk))
section
open PySem.Spec PyProof.Rows
variable {X:Cx}{tg l:Expr}{tl:TE}
def Bx (hl:PE X l tl):PI X tg l (Dm X.K tl):=by
 intro pins s σ H R I h
 refine bP (hl pins s σ H _ I h) λv s1 ⟨x,H1,I1,r1,q1⟩=>?_
 obtain⟨a,xs,e,q⟩:=q1
 subst e
 cases r1
 rcases q with⟨hq,q⟩ | ⟨hq,q⟩
 ·obtain⟨its,rv,p,hz⟩:=I1.list hq
  refine GI p.isList ?_
  refine⟨s1.heap.objs.size,[s1.heap.objs.size],_,_,H1,rfl,I1.kept (t':=s1.toks) λb o e=>EF _ e,jO a _,⟨_,EW _ rfl,rfl,rfl⟩,λb hb=>?_,q⟩
  have e:b=s1.heap.objs.size:=by simpa using hb
  subst e
  exact I1.fpOk (EG _) (I1.hok.fresh (EG _))
 ·obtain⟨its,rv,p,hz⟩:=I1.tuple hq
  refine Hm (show s1.heap.IsTuple a its.toArray from p) ?_
  refine⟨s1.heap.objs.size,[s1.heap.objs.size],_,_,H1,rfl,I1.kept (t':=s1.toks) λb o e=>EF _ e,lJ a _,⟨_,EW _ rfl,rfl,rfl⟩,λb hb=>?_,q⟩
  have e:b=s1.heap.objs.size:=by simpa using hb
  subst e
  exact I1.fpOk (EG _) (I1.hok.fresh (EG _))
end
section
variable {K:Frag}{H H1 H':Hp}{a:Addr}{xs:List V}{σ:St}
abbrev CB (J:It)(g:TG)(tb:TS)(D:Ends)(σ:St)(H:Hp):Prop:=∃W:Nat->Nat->St->Hp->Prop,(∃m,W 0 m σ H)/\∀i m σ H,W i m σ H->
   (J.stop i H/\D.nx σ H)\/(J.go i H/\∃N:St->Hp->Prop,(∀σ' H',N σ' H'->∃m',m' < m/\W (i + 1) m' σ' H')/\∀x H',J.yld i H x H'->g x σ H' λσ2 H2=>tb {D with nx:=N,ct:=N,bk:=D.nx} σ2 H2)
def yN (s:ae H1 H')(hq:dS K H1 a xs\/eB K H1 a xs):dS K H' a xs\/eB K H' a xs:=hq.elim (λq=>.inl (s.seq q)) λq=>.inr (q.grow s.grow)
def zv {g:TG}{tb:TS}{D:Ends}(hq:dS K H1 a xs\/eB K H1 a xs)(Pv:Nat->St->Hp->Prop)(h0:Pv 0 σ H)(hl:∀i σ H',Pv i σ H'->ae H1 H')
  (hs:∀i x σ H,xs[i]? =some x->Pv i σ H->g x σ H λσ2 H2=>tb {D with nx:=Pv (i + 1),ct:=Pv (i + 1),bk:=D.nx} σ2 H2) (hd:∀σ H,Pv xs.length σ H->D.nx σ H) :
  (dS K H a xs/\CB (uj K a) g tb D σ H)\/(eB K H a xs/\CB (zS K a) g tb D σ H):=
 hq.elim (λq=>.inl ⟨(hl _ _ _ h0).seq q,qm Pv h0 (λi σ H' _ p=>(hl i σ H' p).seq q) hs hd⟩) λq=>.inr ⟨q.grow (hl _ _ _ h0).grow,yC Pv h0 (λi σ H' _ p=>q.grow (hl i σ H' p).grow) hs hd⟩
def sQ (J:It)(own:Nat)(ixs:List Nat)(g:TG)(tt:TT)(te:TE)(Q:VK)(D:Addr)(σ:St)(H:Hp):Prop:=∃W:Nat->Nat->St->Hp->Prop,(∃m,W 0 m (nc own ixs σ) (upd H D (.lst [])))/\∀i m σ' H',W i m σ' H'->
   (J.stop i H'/\(∃acc,H' D=some (.lst acc))/\Q (.ref D) H')\/
   (J.go i H'/\∃N:St->Hp->Prop,(∀σ2 H2,N σ2 H2->∃m',m' < m/\W (i + 1) m' σ2 H2)/\∀x H2,J.yld i H' x H2->cG g tt te D x σ' H2 N)
structure pD (own:Nat)(ixs:List Nat)(wi:TI)(g:TG)(tt:TT)(te:TE)(σ:St)(H:Hp)(Q:VK):Prop where
 out:wi σ H λJ H1=>∀D,H1 D=none->sQ J own ixs g tt te Q D σ H1
def sh {own:Nat}{ixs:List Nat}{wi:TI}{g:TG}{tt:TT}{te:TE}{Q:VK}(h:wi σ H λJ H1=>∀D,H1 D=none->sQ J own ixs g tt te Q D σ H1):pD own ixs wi g tt te σ H Q:=⟨h⟩
def nh {X:Cx}{NB:List Str}{own:Nat}{ixs:List Nat}{scope:Scope}{tg iter elt:Expr}{ifs:List Expr}{wi:TI}{g:TG}{tt:TT}{te:TE}{pos:Pos}(hc:X.calm=true)(S:bX X NB own ixs scope)(hi:PI X tg iter wi)
  (hg:∀C ex s3 H3 pn,PG (fm X NB scope C ex s3 H3 pn) tg g) (ht:∀C ex s3 H3 pn,wm (fm X NB scope C ex s3 H3 pn) ifs tt) (he:∀C ex s3 H3 pn,PE (fm X NB scope C ex s3 H3 pn) elt te)
  (hs:∀x,foldedSetIterable iter X.env x=pure x:=by intro _;rfl):PE X (.ListComp elt [⟨tg,iter,ifs,0⟩] scope pos) (pD own ixs wi g tt te):=
 λpins s σ H Q I h=>pI hc S hi hg ht he hs pins s σ H Q I h.out
section
variable {own:Nat}{ixs:List Nat}{g:TG}{tt:TT}{te:TE}{Q:VK}{D:Addr}
def yp (Pv:Nat->St->Hp->Prop)(h0:Pv 0 (nc own ixs σ) (upd H D (.lst [])))(hl:∀i σ H,i<=xs.length->Pv i σ H->dS K H a xs)
  (hs:∀i x σ H,xs[i]? =some x->Pv i σ H->cG g tt te D x σ H (Pv (i + 1))) (hd:∀σ H,Pv xs.length σ H->(∃acc,H D=some (.lst acc))/\Q (.ref D) H):sQ (uj K a) own ixs g tt te Q D σ H:=t6 Pv h0 hl hs hd
def oV {lo:Int}{n:Nat}(Pv:Nat->St->Hp->Prop)(h0:Pv 0 (nc own ixs σ) (upd H D (.lst [])))
  (hs:∀i σ H,i < n->Pv i σ H->cG g tt te D (.int (lo + i)) σ H (Pv (i + 1))) (hd:∀σ H,Pv n σ H->(∃acc,H D=some (.lst acc))/\Q (.ref D) H):sQ (uG lo n) own ixs g tt te Q D σ H:=rA Pv h0 hs hd
end
def oW {i:Nat}{te:TE}{D:Addr}{x:V}{N:St->Hp->Prop}(h:te (σ.set i (some x)) H λv H5=>∃acc,H5 D=some (.lst acc)/\acc.length < sizeLine/\N (σ.set i (some x)) (upd H5 D (.lst (acc ++ [v])))):cG (iD i) AU te D x σ H N:=by
 unfold cG iD AU
 exact rj h
def wB {i j:Nat}{x y:V}{Q:St->Hp->Prop}(h:eB K H a [x,y])(q:Q ((σ.set i (some x)).set j (some y)) H):yL K 2 (kr (iD i) (kr (iD j) ym)) (.ref a) σ H Q:=⟨a,_,rfl,h,rfl,x,_,rfl,y,_,rfl,rfl,q⟩
def DA {c A B:Prop}[Decidable c](h:c)(a:A):if c then A else B:=by rw[EI h];exact a
def Dj {c A B:Prop}[Decidable c](h:¬c)(b:B):if c then A else B:=by rw[EN h];exact b
def take_snoc {α:Type}{l:List α}{i:Nat}{x:α}(h:l[i]? =some x):l.take (i + 1)=l.take i ++ [x]:=by
 rw[GK,h];rfl
def take_all {α:Type}(l:List α):l.take l.length=l:=GX (EG _)
end
def gX (n:Nat):(OM.dO n).length=n * n:=by unfold OM.dO;simp
def yF {n i:Nat}(h:i < n * n):(OM.dO n)[i]? =some (((i / n:Nat):Int),((i % n:Nat):Int)):=by
 unfold OM.dO
 rw[ES,List.getElem?_range h];rfl
def D7 {n:Nat}(h:n<=8):n * n<=64:=Gn h h
section
variable {P:Program}{w:World}{K:Frag}{mg:Str->Option Value}{base:Heap}
def tK (K:Frag):Sp:=λvs H Q _=>∃n:Nat,vs= [.int n]/\1<=n/\n<=8/\∀H' l ws,ae H H'->H l=none->H' l=some (.lst ws)->aA K H' ws (OM.dO n)->Q (.ref l) H'
def yo:aG ["many"] ["many"] (ak gu):=⟨rfl,rfl,rfl,by decide +kernel,rfl,by decide +kernel,by decide +kernel⟩
def Cw:(["number","many"]:List Str).Nodup:=by decide +kernel
def vD {f:Addr}{fd:FuncData}(F:Fn K mg "every_pair" gu ["many"] f fd)(B:Bt mg):c7 P w K mg base AL 1 f fd ["many"] (tK K):=by
 refine F.F.ok yo (λvs H Q E h=>?_) (λcdv A outer s H vs Q E hr h=>?_)
 ·obtain⟨n,rfl,_⟩:=h;rfl
 ·obtain⟨n,rfl,h1,h8,k⟩:=h
  refine⟨_,eY (jG (nh (NB:=["number","many"]) (own:=1) (ixs:=[0]) rfl (jA (by kernel_rfl)) (iq rfl B.range (aB (qE hX (pv 0) (pv 0)) aR))
   (λC ex s3 H3 pn=>bM (i:=0) Cw rfl (Or.inl rfl) (hf:=Or.inr rfl)) (λC ex s3 H3 pn=>nD)
   (λC ex s3 H3 pn=>rP (aB (qE jn (pv 0) (pv 1)) (aB (qE iW (pv 0) (pv 1)) aR))))),?_⟩
  have hn:=D7 h8
  have e0:((n:Int) * (n:Int))=((n * n:Nat):Int):=by rw[Int.natCast_mul]
  refine sh ⟨_,rfl,_,rfl,_,_,rfl,rfl,.inl ⟨by omega,by omega⟩,_,rfl,by rw[e0];omega,by rw[e0];omega,λD hD=>?_⟩
  rw[e0,FJ]
  refine oV (λi σ' H'=>(∃v,σ'= [v,some (.int n)])/\ae H H'/\∃vs,H' D=some (.lst vs)/\aA K H' vs ((OM.dO n).take i)) ⟨⟨none,rfl⟩,(ae.refl H).put hD,[],ao,.nil⟩ ?_ ?_
  ·rintro i σ' H' hi ⟨⟨v,rfl⟩,s1,vs,hv,hp⟩
   have hn0:(0:Int) < (n:Int):=by omega
   refine oW ⟨_,rfl,_,rfl,_,_,rfl,rfl,⟨hn0,by omega⟩,_,rfl,_,rfl,_,_,rfl,rfl,hn0,by show 2<=sizeLine;rw[Fl];omega,λp hp0=>?_⟩
   have hpD:D≠p:=au hv hp0
   have hl:=hp.len
   refine⟨vs,by rw[ag hpD];exact hv,?_,⟨_,rfl⟩,?_,vs ++ [.ref p],ao,?_⟩
   ·rw[hl,FG,Fl];rw[gX];omega
   ·exact (s1.put (s1.free hp0)).put hD
   ·rw[take_snoc (yF hi)]
    have g1:dt H' (upd H' p (.tup [.int ((0 + (i:Int)) / n),.int ((0 + (i:Int)) % n)])):=dt.new hp0
    have g2:∀o,dt (upd H' p (.tup [.int ((0 + (i:Int)) / n),.int ((0 + (i:Int)) % n)])) (upd (upd H' p (.tup [.int ((0 + (i:Int)) / n),.int ((0 + (i:Int)) % n)])) D o):=λo=>dt.list (by rw[ag hpD];exact hv)
    refine aA.snoc ?_ (hp.grow (g1.trans (g2 _)))
    refine (eB.grow ?_ (g2 _))
    refine .inl (.inl ?_)
    rw[ao,G8];rfl
  ·rintro σ' H' ⟨_,s1,vs,hv,hp⟩
   refine⟨⟨_,hv⟩,k H' D vs s1 hD hv ?_⟩
   rw[<-gX n,take_all] at hp
   exact hp
end
end RO
end
namespace RO
open PySem L2
structure TabAt (n:Nat)(M:OM.Tb)(L:Addr)(r:Nat->Addr)(H:Hp):Prop where
 top:H L=some (.lst ((List.range n).map λi=>V.ref (r i)))
 row:∀i,i < n->H (r i)=some (.lst ((List.range n).map λj=>V.bl (M i j)))
 inj:∀i j,i < n->j < n->r i=r j->i=j
 ne:∀i,i < n->r i≠L
def sV {n x:Nat}(h:x < n):uW n (x:Int)=some x:=by
 unfold uW;rw[EI (by omega),EI (by omega)];simp
def vp {α:Type}{xs:List α}{x:Nat}(h:x < xs.length):iB xs (x:Int)=xs[x]?:=by
 unfold iB;rw[sV h];rfl
def cZ {f:Nat->V}{n x:Nat}(h:x < n):iB ((List.range n).map f) (x:Int)=some (f x):=by
 rw[vp (by simpa using h),ES,List.getElem?_range h];rfl
def mX {f:Nat->V}{n x:Nat}(h:x < n):uW ((List.range n).map f).length (x:Int)=some x:=by
 rw[EM,FO];exact sV h
def uQ {f:Nat->V}{n y:Nat}{v:V}:((List.range n).map f).set y v=(List.range n).map λj=>if j=y then v else f j:=by
 apply Hv
 intro i
 by_cases hi:i < n
 ·by_cases e:y=i
  ·subst e;simp[List.getElem?_set,hi]
  ·have e':¬i=y:=λz=>e z.symm
   simp[List.getElem?_set,hi,e,e']
 ·rw[List.getElem?_eq_none (by simp;omega),List.getElem?_eq_none (by simp;omega)]
section
variable {n:Nat}{M:OM.Tb}{L:Addr}{r:Nat->Addr}{H H':Hp}
def TabAt.set (T:TabAt n M L r H){x y:Nat}(hx:x < n):TabAt n (M.set x y) L r (upd H (r x) (.lst (((List.range n).map λj=>V.bl (M x j)).set y (.bl true)))):=by
 refine⟨by rw[ag (T.ne x hx).symm];exact T.top,λi hi=>?_,T.inj,T.ne⟩
 by_cases e:i=x
 ·subst e
  rw[ao,uQ]
  refine congrArg _ (congrArg _ (Gh λj _=>?_))
  unfold OM.Tb.set
  by_cases c:j=y
  ·simp[c]
  ·simp[c]
 ·rw[ag (λz=>e (T.inj i x hi hx z)),T.row i hi]
  refine congrArg _ (congrArg _ (Gh λj _=>?_))
  unfold OM.Tb.set;simp[e]
def TabAt.same (T:TabAt n M L r H)(s:ae H H'):TabAt n M L r H':=⟨s _ _ T.top,λi hi=>s _ _ (T.row i hi),T.inj,T.ne⟩
end
def og {n:Nat}{ps:List (Int×Int)}(w:OM.Wn n ps){p:Int×Int}(h:p∈ps):∃u v:Nat,p=((u:Int),(v:Int))/\u < n/\v < n:=by
 obtain⟨x,y⟩:=p
 have q:=w _ h
 simp only at q
 exact⟨x.toNat,y.toNat,by rw[Int.toNat_of_nonneg q.1.1,Int.toNat_of_nonneg q.2.1],by omega,by omega⟩
def fg {M0 M:OM.Tb}{m:Nat}{D D':Nat->Nat->Prop}(P:OM.Phase M0 M m D)(h:∀a b,D a b↔D' a b):OM.Phase M0 M m D':=λa b=>by rw[P a b,h a b]
def ij {l:List (Int×Int)}{u v a b:Nat}:(((a:Int),(b:Int))∈l\/(a=u/\b=v))↔((a:Int),(b:Int))∈l ++ [((u:Int),(v:Int))]:=by
 rw[E6,E4,Prod.mk.injEq]
 constructor
 ·rintro (h | ⟨h1,h2⟩)
  ·exact .inl h
  ·exact .inr ⟨by omega,by omega⟩
 ·rintro (h | ⟨h1,h2⟩)
  ·exact .inl h
  ·exact .inr ⟨by omega,by omega⟩
def zK {M:OM.Tb}{u v a b:Nat}:M.set u v a b=true↔M a b=true\/(a=u/\b=v):=by
 unfold OM.Tb.set
 by_cases c:a=u/\b=v
 ·simp[c]
 ·rw[EN c];exact⟨.inl,λh=>h.resolve_right c⟩
def Co (n:Nat)(x:V):(List.replicate n [x]).flatten=(List.range n).map λ_=>x:=by
 rw[List.flatten_replicate_singleton,List.map_const',FO]
section
variable {P:Program}{w:World}{K:Frag}{mg:Str->Option Value}{base:Heap}
def xA (K:Frag):Sp:=λvs H Q _=>∃(n:Nat) (a:Addr) (xs:List V) (ps:List (Int×Int)),vs= [.int n,.ref a]/\1<=n/\n<=8/\(dS K H a xs\/eB K H a xs)/\aA K H xs ps/\OM.Wn n ps/\
 ∀H' t ws,ae H H'->H t=none->H' t=some (.tup ws)->aA K H' ws (OM.bq n (OM.Tr (OM.Mem ps)))->Q (.ref t) H'
def c5:aG ["many","pairs","corners","leads","a","b","middle"] ["many","pairs"] (ak ju):=⟨rfl,rfl,rfl,by decide +kernel,rfl,by decide +kernel,by decide +kernel⟩
def Cn:(["start","many"]:List Str).Nodup:=by decide +kernel
def BA:(["a","b","leads"]:List Str).Nodup:=by decide +kernel
set_option maxHeartbeats 1000000 in
theorem uM {f g:Addr}{fd gd:FuncData}(F:Fn K mg "closed" ju ["many","pairs"] f fd)(G:Fn K mg "every_pair" gu ["many"] g gd)(GE:c7 P w K mg base AL 1 g gd ["many"] (tK K))(B:Bt mg):c7 P w K mg base AL 2 f fd ["many","pairs"] (xA K):=by
 refine F.F.ok c5 (λvs H Q E h=>?_) (λcdv A outer s H vs Q E hr h=>?_)
 ·obtain⟨n,a,xs,ps,rfl,_⟩:=h;rfl
 ·obtain⟨n,a,xs,ps,rfl,h1,h8,hq,hp,wn,k⟩:=h
  refine⟨_,dQ (nZ (i:=2) c5.nd rfl (Or.inl rfl) (jm GE hr rfl G.mg G.F.kp G.b .nil Cj (aB (pv 0) aR)))
   (dQ (nZ (i:=3) c5.nd rfl (Or.inr rfl) (nh (NB:=["start","many"]) (own:=1) (ixs:=[0]) rfl (jA (by kernel_rfl)) (iq rfl B.range (aB (pv 0) aR))
    (λC ex s3 H3 pn=>bM (i:=0) Cn rfl (Or.inl rfl) (hf:=Or.inr rfl)) (λC ex s3 H3 pn=>nD) (λC ex s3 H3 pn=>qE Bu (xy (aB tO aR)) (pv 1))))
   (dQ (nR PassesOwn.never rfl (Bx (pv 1)) (lq rfl (b8 (bM (i:=4) c5.nd rfl (Or.inl rfl)) (b8 (bM (i:=5) c5.nd rfl (Or.inl rfl)) jk)))
    (eY (nV tO (rO (iE di (pv 3) (pv 4) (λ_ _=>rfl)) (pv 5) set_list))))
   (dQ (nR PassesOwn.never rfl (iq rfl B.range (aB (pv 0) aR)) (bM (i:=6) c5.nd rfl (Or.inl rfl))
    (eY (nR PassesOwn.never rfl (tI (pv 2)) (lq rfl (b8 (bM (i:=4) c5.nd rfl (Or.inl rfl)) (b8 (bM (i:=5) c5.nd rfl (Or.inl rfl)) jk)))
     (eY (zX (PW.pt (Bm (rH (iE di (iE di (pv 3) (pv 4) (λ_ _=>rfl)) (pv 6) (λ_ _=>rfl))) (yg (rH (iE di (iE di (pv 3) (pv 6) (λ_ _=>rfl)) (pv 5) (λ_ _=>rfl))))))
      (eY (nV tO (rO (iE di (pv 3) (pv 4) (λ_ _=>rfl)) (pv 5) set_list))) tQ)))))
   (eY (jG (fD iI rfl B.tuple (by decide +kernel) (aB (nh (NB:=["a","b","leads"]) (own:=2) (ixs:=[3]) rfl (jA (by kernel_rfl)) (tI (pv 2))
    (λC ex s3 H3 pn=>A1 K 0 1 BA rfl rfl rfl rfl rfl rfl)
    (λC ex s3 H3 pn=>sW (rH (iE (Eg K) (iE (Eg K) (pv 2) (pv 0) (λ_ _=>rfl)) (pv 1) (λ_ _=>rfl)))) (λC ex s3 H3 pn=>rP (aB (pv 0) (aB (pv 1) aR)))) aR))))))),?_⟩
  have hn:=D7 h8
  have hn0:(0:Int)<=(n:Int):=by omega
  refine⟨_,rfl,n,rfl,h1,h8,λH1 c ws s1 hc0 hc hw=>?_⟩
  have hwl:ws.length=n * n:=by rw[hw.len,gX]
  have gw:OM.Wn n (OM.dO n):=λp hp=>OM.dR.mp hp
  refine sh ?_
  refine⟨_,rfl,n,rfl,by omega,by omega,λD hD=>?_⟩
  rw[FJ]
  refine oV (λi σ' H'=>(∃v,σ'= [v,some (.int n)])/\ae H1 H'/\∃r:Nat->Addr,H' D=some (.lst ((List.range i).map λk=>V.ref (r k)))/\
   (∀k,k < i->H' (r k)=some (.lst ((List.range n).map λ_=>V.bl false))/\H1 (r k)=none/\r k≠D)/\∀j k,j < i->k < i->r j=r k->j=k)
   ?_ ?_ ?_
  ·exact⟨⟨none,rfl⟩,(ae.refl H1).put hD,λ_=>0,ao,λk hk=>absurd hk (Nat.not_lt_zero _),λj k hj=>absurd hj (Nat.not_lt_zero _)⟩
  ·rintro i σ' H' hi ⟨⟨v,rfl⟩,s2,r,hr0,hr1,hr2⟩
   refine oW ⟨by show 1<=sizeLine;rw[Fl];omega,λp hp0=>⟨_,rfl,p,n,[.bl false],rfl,rfl,ao,by omega,by omega,by show 1 * (n:Int).toNat<=sizeLine;rw[Fl];omega,λq hq0=>?_⟩⟩
   have hqp:q≠p:=by intro e;subst e;rw[ao] at hq0;cases hq0
   have hq1:H' q=none:=by rw[ag hqp] at hq0;exact hq0
   have hDp:D≠p:=au hr0 hp0
   have hDq:D≠q:=au hr0 hq1
   rw[FJ,Co]
   refine⟨_,by rw[ag hDq,ag hDp];exact hr0,by rw[EM,FO,Fl];omega,⟨_,rfl⟩,((s2.put (s2.free hp0)).put (s2.free hq1)).put hD,λk=>if k=i then q else r k,?_,λk hk=>?_,λj k hj hk e=>?_⟩
   ·have e:(List.range i).map (λk=>V.ref (r k))=(List.range i).map (λk=>V.ref (if k=i then q else r k)):=Gh λk hk=>by
     have:=E2.mp hk
     rw[EN (by omega)]
    rw[ao,List.range_succ,FA,e]
    simp
   ·dsimp only
    by_cases e:k=i
    ·rw[EI e]
     exact⟨by rw[ag hDq.symm,ao],s2.free hq1,hDq.symm⟩
    ·rw[EN e]
     obtain⟨a1,a2,a3⟩:=hr1 k (by omega)
     exact⟨by rw[ag a3,ag (au a1 hq1),ag (au a1 hp0)];exact a1,a2,a3⟩
   ·dsimp only at e
    by_cases ej:j=i
    ·by_cases ek:k=i
     ·omega
     ·rw[EI ej,EN ek] at e
      exact absurd e.symm (au (hr1 k (by omega)).1 hq1)
    ·by_cases ek:k=i
     ·rw[EN ej,EI ek] at e
      exact absurd e (au (hr1 j (by omega)).1 hq1)
     ·rw[EN ej,EN ek] at e
      exact hr2 j k (by omega) (by omega) e
  rintro σ2 H2 ⟨_,s2,r,hr0,hr1,hr2⟩
  refine⟨⟨_,hr0⟩,?_⟩
  have sep:∀i,i < n->H1 (r i)=none:=λi hi=>(hr1 i hi).2.1
  have T0:TabAt n (λ_ _=>false) D r H2:=⟨hr0,λi hi=>(hr1 i hi).1,hr2,λi hi=>(hr1 i hi).2.2⟩
  refine⟨_,rfl,a,xs,rfl,zv (H1:=H1) (yN s1 hq) (λi σ' H'=>(∃x y,σ'= [some (.int n),some (.ref a),some (.ref c),some (.ref D),x,y,none])/\ae H1 H'/\∃M,TabAt n M D r H'/\∀u v:Nat,M u v=true↔((u:Int),(v:Int))∈ps.take i)
   ⟨⟨none,none,rfl⟩,s2,_,T0,λu v=>by simp⟩ (λi σ' H' q=>q.2.1) ?_ ?_⟩
  ·rintro i x σ' H' hx ⟨⟨_,_,rfl⟩,s3,M,T,hM⟩
   obtain⟨p,hpi,b,rfl,hb⟩:=(hp.same (s1.trans s3)).at hx
   obtain⟨u,v,rfl,hu,hv⟩:=og wn (EX hpi)
   refine wB hb ?_
   refine⟨_,rfl,_,rfl,D,_,u,_,rfl,rfl,.inl (.inl T.top),cZ hu,_,rfl,r u,_,v,v,rfl,rfl,T.row u hu,mX hv,⟨_,_,rfl⟩,s3.put (sep u hu),_,T.set hu,λx y=>?_⟩
   rw[take_snoc hpi,<-ij,zK,hM]
  rintro σ3 H3 ⟨⟨x3,y3,rfl⟩,s3,M3,T3,hM3⟩
  rw[hp.len,take_all] at hM3
  refine⟨_,rfl,n,rfl,by omega,by omega,?_⟩
  rw[FJ]
  refine uS (λm σ' H'=>(∃x y z,σ'= [some (.int n),some (.ref a),some (.ref c),some (.ref D),x,y,z])/\ae H1 H'/\∃M,TabAt n M D r H'/\OM.Tab n ps M/\OM.yD M m)
   ⟨⟨_,_,_,rfl⟩,s3,M3,T3,⟨λa b h=>by have:=wn _ ((hM3 a b).mp h);simp only at this;omega,λa b h=>(hM3 a b).mpr h,λa b h=>.one ((hM3 a b).mp h)⟩,λk a b hk=>absurd hk (Nat.not_lt_zero _)⟩ ?_ ?_
  ·rintro m σ' H' hm ⟨⟨_,_,_,rfl⟩,s4,M,T,TT,Th⟩
   rw[G8]
   refine⟨_,rfl,c,rfl,⟨ws,.inl (.inl (s4 _ _ hc))⟩,qm (xs:=ws) (λi σ' H'=>(∃x y,σ'= [some (.int n),some (.ref a),some (.ref c),some (.ref D),x,y,some (.int m)])/\ae H1 H'/\∃M',TabAt n M' D r H'/\OM.Phase M M' m λu v=>((u:Int),(v:Int))∈(OM.dO n).take i)
    ⟨⟨_,_,rfl⟩,s4,M,T,fg (OM.Phase.start M m) λa b=>by simp⟩ (λi σ' H' _ q=>.inl (.inl (q.2.1 _ _ hc))) ?_ ?_⟩
   ·rintro i x σ' H' hx ⟨⟨_,_,rfl⟩,s5,M',T',Ph⟩
    obtain⟨p,hpi,b,rfl,hb⟩:=(hw.same s5).at hx
    obtain⟨u,v,rfl,hu,hv⟩:=og gw (EX hpi)
    refine wB hb ?_
    have st:=Ph.step u v
    refine⟨_,rfl,_,rfl,D,_,u,_,rfl,rfl,.inl (.inl T'.top),cZ hu,_,rfl,r u,_,m,_,rfl,rfl,.inl (.inl (T'.row u hu)),cZ hm,_,rfl,?_⟩
    by_cases c1:M' u m=true
    ·refine DA c1 ?_
     refine⟨_,rfl,_,rfl,D,_,m,_,rfl,rfl,.inl (.inl T'.top),cZ hm,_,rfl,r m,_,v,_,rfl,rfl,.inl (.inl (T'.row m hm)),cZ hv,_,rfl,?_⟩
     by_cases c2:M' m v=true
     ·refine DA c2 ?_
      rw[EI ⟨c1,c2⟩] at st
      refine⟨_,rfl,_,rfl,D,_,u,_,rfl,rfl,.inl (.inl T'.top),cZ hu,_,rfl,r u,_,v,v,rfl,rfl,T'.row u hu,mX hv,⟨_,_,rfl⟩,s5.put (sep u hu),_,T'.set hu,fg st λa b=>?_⟩
      rw[take_snoc hpi];exact ij
     ·refine Dj c2 ?_
      rw[EN λz=>c2 z.2] at st
      refine⟨⟨_,_,rfl⟩,s5,_,T',fg st λa b=>?_⟩
      rw[take_snoc hpi];exact ij
    ·refine Dj c1 ?_
     rw[EN λz=>c1 z.1] at st
     refine r0 ⟨⟨_,_,rfl⟩,s5,_,T',fg st λa b=>?_⟩
     rw[take_snoc hpi];exact ij
   ·rintro σ' H' ⟨⟨_,_,rfl⟩,s5,M',T',Ph⟩
    rw[hw.len,take_all] at Ph
    have dn:=Ph.done (n:=n) (λa b ha hb=>OM.dR.mpr ⟨⟨by simp,by simp;omega⟩,by simp,by simp;omega⟩) TT.inn Th
    exact⟨⟨_,_,_,rfl⟩,s5,M',T',TT.phase Ph,dn.1⟩
  rintro σ4 H4 ⟨⟨x4,y4,z4,rfl⟩,s4,M,T,TT,Th⟩
  refine sh ⟨_,rfl,c,rfl,⟨ws,.inl (.inl (s4 _ _ hc))⟩,λD' hD'=>yp (xs:=ws) (λi σ' H'=>(∃x y,σ'= [x,y,some (.ref D)])/\ae H4 H'/\∃vs,H' D'=some (.lst vs)/\aA K H' vs (((OM.dO n).take i).filter λp=>M p.1.toNat p.2.toNat))
   ⟨⟨_,_,rfl⟩,(ae.refl H4).put hD',[],ao,.nil⟩ (λi σ' H' _ q=>.inl (.inl (q.2.1 _ _ (s4 _ _ hc)))) ?_ ?_⟩
  ·rintro i x σ' H' hx ⟨⟨_,_,rfl⟩,s5,vs,hv,hpv⟩
   obtain⟨p,hpi,b,rfl,hb⟩:=(hw.same (s4.trans s5)).at hx
   obtain⟨u,v,rfl,hu,hv'⟩:=og gw (EX hpi)
   refine wB hb ?_
   have T':=T.same s5
   refine⟨_,rfl,_,rfl,D,_,u,_,rfl,rfl,.inl (.inl T'.top),cZ hu,_,rfl,r u,_,v,_,rfl,rfl,.inl (.inl (T'.row u hu)),cZ hv',_,rfl,?_⟩
   by_cases c1:M u v=true
   ·refine DA c1 ?_
    refine⟨_,rfl,_,rfl,by show 2<=sizeLine;rw[Fl];omega,λp hp0=>?_⟩
    have hpD:D'≠p:=au hv hp0
    refine⟨vs,by rw[ag hpD];exact hv,?_,⟨_,_,rfl⟩,(s5.put (s5.free hp0)).put hD',_,ao,?_⟩
    ·rw[hpv.len]
     refine Ho (FZ ..) ?_
     rw[FG,gX,Fl];omega
    ·rw[take_snoc hpi,Hq,Gw (by simpa using c1),List.filter_nil]
     have g1:dt H' (upd H' p (.tup [.int u,.int v])):=dt.new hp0
     have g2:∀o,dt (upd H' p (.tup [.int u,.int v])) (upd (upd H' p (.tup [.int u,.int v])) D' o):=λo=>dt.list (by rw[ag hpD];exact hv)
     refine aA.snoc ?_ (hpv.grow (g1.trans (g2 _)))
     exact eB.grow (.inl (.inl ao)) (g2 _)
   ·refine Dj c1 ?_
    refine⟨⟨_,_,rfl⟩,s5,vs,hv,?_⟩
    rw[take_snoc hpi,Hq,Gx (by simpa using c1),List.filter_nil,Hh]
    exact hpv
  ·rintro σ' H' ⟨_,s5,vs,hv,hpv⟩
   rw[hw.len,take_all] at hpv
   refine⟨⟨_,hv⟩,D',vs,rfl,.inl ⟨.inl (.inl hv),λt ht=>?_⟩⟩
   have sA:ae H H':=(s1.trans s4).trans s5
   refine k _ t vs (sA.put (sA.free ht)) (sA.free ht) ao ?_
   have e:((OM.dO n).filter λp=>M p.1.toNat p.2.toNat)=OM.bq n (OM.Tr (OM.Mem ps)):=by
    unfold OM.bq
    refine List.filter_congr λp hp=>?_
    obtain⟨u,v,rfl,hu,hv⟩:=og gw hp
    have:=TT.all wn Th u v
    simp only[FJ]
    rw[FY,this]
    simp
   rw[e] at hpv
   exact hpv.grow (dt.new ht)
end
end RO
namespace RO
open PySem L2 RM
section
variable {P:Program}{w:World}{K:Frag}{mg:Str->Option Value}{base:Heap}{ca:Str->Addr}
def Ey {k:Nat}{f:Addr}{fd:FuncData}{ps:List Str}{sp:Sp}(F:c7 P w K mg base AL k f fd ps sp):c7 P w K mg base (j7 P w) k f fd ps sp:=
 ⟨F.len,λA outer s H args us vs Q E hr he hb hv hs=>Hj (F.run A outer s H args us vs Q E hr he hb hv hs) λr s' h=>by
  cases r with
  |ok x=>cases x <;> exact h
  |error e=>exact h.elim⟩
def q8 {G H:Hp}(s:ae G H){ws:List V}{ps:List Pr}(h:aA K H ws ps):aA K (dU G H) ws ps:=Paired.mapP h λv p ⟨a,e,q⟩=>⟨a,e,i8 s q⟩
def ly {ds:List D}(h:bR ds≠.bad):∃(n:Nat) (d:D) (ps:List Pr),ds= [.int n,d]/\gK d=some (ps.map az)/\1<=n/\n<=8/\OM.Wn n ps/\bR ds=.ok (.tuple ((OM.bq n (OM.Tr (OM.Mem ps))).map az)) false:=by
 unfold bR at h
 split at h
 ·rename_i n d
  cases q:gK d with
  |none=>rw[q] at h;exact absurd rfl h
  |some es=>
   rw[q] at h
   dsimp only at h
   cases q2:dc es with
   |none=>rw[q2] at h;exact absurd rfl h
   |some ps=>
    rw[q2] at h
    dsimp only at h
    by_cases c:1<=n/\n<=8/\OM.Wn n.toNat ps
    ·have e:((n.toNat:Nat):Int)=n:=by omega
     refine⟨n.toNat,d,ps,by rw[e],by rw[q,ic q2],by omega,by omega,c.2.2,?_⟩
     unfold bR
     dsimp only
     rw[q]
     dsimp only
     rw[q2]
     dsimp only
     rw[EI c]
    ·rw[EN c] at h;exact absurd rfl h
 ·exact absurd rfl h
def rQ {f g:Addr}{fd gd:FuncData}(F:jZ K mg "closed" ju ["many","pairs"] f fd)(E:jZ K mg "every_pair" gu ["many"] g gd)(B:ke mg):eH P w K mg base ca "closed" ["many","pairs"] 3 bR:=by
 refine⟨⟨f,fd,F.mg,F.F.kp,F.b,((Ey (uM F E (vD E B) B)).mono (by decide)).imp ?_⟩,λds h=>?_⟩
 ·rintro vs H Q X ⟨G,ds,s,hl,r,h⟩
  have hb:bR ds≠.bad:=λz=>by rw[z] at h;exact h
  obtain⟨n,d,ps,rfl,hd,h1,h8,wn,e⟩:=ly hb
  rw[e] at h
  cases r with
  |cons r1 r=>
   cases r with
   |cons r2 r=>
    cases r
    cases r1
    obtain⟨a,xs,rfl,hq,hr⟩:=(iY.seq (B:=none) (G:=G) (H:=G) (.inl r2) hd (ae.refl _))
    refine⟨n,a,xs,ps,rfl,h1,h8,hq.elim (λq=>.inl (s.seq q)) (λq=>.inr (q.grow s.grow)),(hr.pairs).grow s.grow,wn,λH' t ws hh ht ht' hp=>?_⟩
    have s2:=s.trans hh
    refine h (.ref t) (dU G H') H' hh jy (i5 s2) (λb m hb=>by rw[oz hh m];exact hb) ?_
    exact .tup (i8 s2 (.inl (.inl ht'))) (aA.rps (q8 s2 hp))
 ·obtain⟨n,d,ps,rfl,_⟩:=ly h
  rfl
end
end RO
namespace HD
open PySem PySem.W
noncomputable abbrev vW:=@PySem.W.Fast.tw10156331382660048174
noncomputable abbrev Av:=@PySem.W.Fast.tw11892475500146522536
noncomputable abbrev Dt:=@PySem.W.Fast.tw6613529449190102663
noncomputable abbrev BK:=@PySem.W.Fast.tw14364793385576792824
noncomputable abbrev zQ:=@PySem.W.Fast.tw17154629097778926822
noncomputable abbrev xQ:=@PySem.W.Fast.tw12822647523644345616
noncomputable def vQ (p:Program):Thread:=
 ⟨do
  let code <-zQ p.main
  let frame <-xQ code mainNs mainNs
  let _ <-run (.body (behindTheImports p) {scope:=p.main.scope,locals:=mainNs,globals:=mainNs,cells:=[],code,frame:=some frame})
  ret .none,
  .builtin "claim.caller" {},default,[]⟩
def xE (p:Program):topStub p=vQ p:=by
 unfold topStub vQ zQ xQ
 rw[<-PySem.W.Fast.te17154629097778926822,<-PySem.W.Fast.te12822647523644345616]
noncomputable def kl (p:Program)(w:World)(n₀:Nat)(ann:Option Value):Nat->SharedT->Thread->Option SharedT
 | 0,_,_=>none
 |n + 1,s,t=>match through t with
  |true=>some s
  |false=>match Dt n₀ ann t with
   |false=>none
   |true=>match vW (Av BK) p w s t with
    |some (s',t')=>kl p w n₀ ann n s' t'
    |none=>none
theorem mw {p:Program}{w:World}{n₀:Nat}{ann:Option Value}:∀{n:Nat} {s s':SharedT} {t:Thread},kl p w n₀ ann n s t=some s'->topRun treeTable p w n₀ ann n s.abs t=some s'.abs
 | 0,_,_,_,h=>by cases h
 |n + 1,s,s',t,h=>by
  unfold kl at h
  unfold topRun
  cases ht:through t with
  |true=>rw[ht] at h;cases h;rfl
  |false=>
   rw[ht] at h
   have hq:Dt n₀ ann t=stepOk n₀ ann t:=by unfold Dt;rw[<-PySem.W.Fast.te6613529449190102663]
   dsimp only at h
   rw[hq] at h
   cases hk:stepOk n₀ ann t with
   |false=>rw[hk] at h;cases h
   |true=>
    rw[hk] at h
    have hq:vW (Av BK) p w s t=stepT (denote treeTable) p w s t:=by unfold vW Av BK;rw[<-PySem.W.Fast.te10156331382660048174,<-PySem.W.Fast.te11892475500146522536,<-PySem.W.Fast.te14364793385576792824]
    dsimp only at h
    rw[hq] at h
    cases hs:stepT (denote treeTable) p w s t with
    |none=>rw[hs] at h;cases h
    |some r=>obtain⟨s₂,t₂⟩:=r;rw[hs] at h;rw[stepT_spec hs];exact mw h
def treeOf (l:List Obj):BT:=(l.foldl (λ(x:BT×Nat) o=>(x.1.ins x.2 o,x.2 + 1)) (.nil,0)).1
noncomputable def wY (P:Params):BT:=treeOf (boot_heap P).objs.toList
abbrev pP:Nat:=11
abbrev xP:Life:={}
def boot_abs (P:Params):absHeap (wY P) pP xP=boot_heap P:=by kernel_rfl
def uE (w:World):((boot_heap w.params).isNs mainGlobals && (Array.mk ([]:List GenState)).size == 0,(boot_heap w.params).objs.size,(boot_heap w.params).nsMap mainGlobals "__annotations__")=(true,pP,some (.ref 6)):=by kernel_rfl
noncomputable def vv (w:World)(os:OsState):SharedT:=⟨wY w.params,pP,xP,Array.mk [],boot_drawn,boot_toks,os⟩
noncomputable def zP (p:Program)(w:World)(s:Shared):Bool:=staticsOk (importedModules p.main.body) (boot_heap w.params) s.heap && namesBound p s.heap && gensDone s && laidKept (boot_heap w.params) s.heap
def yR {p q:Program}{loose:List Str}{Xt:Shared->Bool}{α:Type}{Yf:Shared->α}{Ya:World->α}{N:Nat}{g0:Bool}
  (e:opening p=plainProg p.main.scope.names) (hN:Nat.ble 600 N=true) (f:∀s,fenceModules? p s=some s)
  (run:∀(w:World) (os:OsState),(kl p w pP (some (.ref 6)) N (vv w os) (vQ p)).map (λs=>(zP p w s.abs,openSeen q loose (importedModules p.main.body) Xt g0 s.abs,Yf s.abs))=some (true,openGood q loose,Ya w)):LeftO p q loose Xt Yf Ya N g0:=λw=>by
 obtain⟨⟨h,gs,d,k,os⟩,e,e'⟩:=Option.map_eq_some_iff.mp (boot_open e hN f w)
 obtain⟨rfl,rfl,rfl,rfl⟩:h=boot_heap w.params/\gs=Array.mk []/\d=boot_drawn/\k=boot_toks:=by simpa using e'
 obtain⟨z1,z2,z3⟩:_/\_/\_:=by simpa only [Prod.mk.injEq] using uE w
 obtain⟨s',r,ls⟩:=Option.map_eq_some_iff.mp (run w os)
 obtain⟨l1,l2,l3⟩:_/\_/\_:=by simpa only [Prod.mk.injEq] using ls
 have r:=mw r
 have ha:(vv w os).abs=⟨boot_heap w.params,Array.mk [],boot_drawn,boot_toks,os⟩:=by
  show Shared.mk (absHeap (wY w.params) pP xP) _ _ _ _=_
  rw[boot_abs]
  rfl
 rw[ha,<-xE] at r
 have t:topFrom treeTable p w N ⟨boot_heap w.params,Array.mk [],boot_drawn,boot_toks,os⟩=some s'.abs:=by
  unfold topFrom
  dsimp only
  rw[z1,z2,z3,r]
  show (match zP p w s'.abs with |true=>_ |false=>_)=_
  rw[l1]
 unfold openEnds
 rw[e]
 show (topFrom treeTable p w N _).map _=_
 rw[t]
 exact congrArg some (Prod.ext l2 l3)
end HD
section
namespace RO
open PySem L2 RM
def tJ (K:Frag):Sp:=λvs H Q _=>∃(a:Addr) (ns:List Int),vs= [.ref a]/\dS K H a (ns.map V.int)/\∀H',ae H H'->Q (.bl true) H'
def An {K:Frag}{ca:Str->Addr}(vs:List V)(H:Hp)(Q:VK)(E:XK)(h:tJ K vs H Q E):u6 K ca 1 A8 vs H Q E:=by
 obtain⟨a,ns,rfl,hS,q⟩:=h
 refine⟨H,[bK ns],ae.refl _,rfl,.cons (.scr hS) .nil,?_⟩
 rw[Cc]
 intro v G' H' s1 s2 s3 s4 fv
 have fv:Rp K G' v (.bool true):=fv
 cases fv
 exact q H' s1
def sd:aZ "is_whole" RQ.gC ["thing"]:=λ_ _ _ _ _ _=>yf λ_=>rfl
def rn:aZ "is_below" RQ.fZ ["thing","bound"]:=λ_ _ _ _ _ _=>ln2 λ_ _=>rfl
def uJ:aZ "is_many" RQ.ip ["thing"]:=λ_ _ _ _ _ _=>yf λ_=>rfl
def uv:aZ "is_pair" RQ.ik ["thing","many"]:=λ_ _ _ _ _ _=>ln2 λ_ _=>rfl
def oB:aZ "every_pair" RQ.cD ["many"]:=λ_ _ _ _ _ _=>yf λ_=>rfl
def vH:aZ "closed" ju ["many","pairs"]:=λ_ _ _ _ _ _=>ln2 λ_ _=>rfl
def qR:aZ "has_ring" RQ.fQ ["pairs"]:=λ_ _ _ _ _ _=>yf λ_=>rfl
def qX:aZ "is_order" RQ.gA ["thing"]:=λ_ _ _ _ _ _=>yf λ_=>rfl
def nr:aZ "need_order" RQ.dq ["thing"]:=λ_ _ _ _ _ _=>yf λ_=>rfl
def o8:aZ "are_apart" RQ.eJ ["order","a","b"]:=λ_ _ _ _ _ _=>Eb λ_ _ _=>rfl
def kg:aZ "longer_groups" RQ.cj ["order","groups"]:=λ_ _ _ _ _ _=>ln2 λ_ _=>rfl
def n6:aZ "most_apart" RQ.dz ["order"]:=λ_ _ _ _ _ _=>yf λ_=>rfl
def oR:aZ "_law_cell" RQ.eO ["script","k"]:=λ_ _ _ _ _ _=>ln2 λ_ _=>rfl
def qZ:aZ "_law_mix" RQ.cN ["cell","k"]:=λ_ _ _ _ _ _=>ln2 λ_ _=>rfl
def rF:aZ "_law_box" RQ.gr ["script","k"]:=λ_ _ _ _ _ _=>ln2 λ_ _=>rfl
def pS:aZ "_law_take" RQ.eM ["box","many"]:=λ_ _ _ _ _ _=>ln2 λ_ _=>rfl
def kj:aZ "_law_mixed_up" RQ.cm ["box","some"]:=λ_ _ _ _ _ _=>ln2 λ_ _=>rfl
def l4:aZ "_law_closed" RQ.cV ["pairs"]:=λ_ _ _ _ _ _=>yf λ_=>rfl
def oC:aZ "_law_order" RQ.dr ["box","most"]:=λ_ _ _ _ _ _=>ln2 λ_ _=>rfl
def nP:aZ "_law_apart" RQ.dm ["order","a","b"]:=λ_ _ _ _ _ _=>Eb λ_ _ _=>rfl
def nq:aZ "_law_lists" RQ.dC ["order"]:=λ_ _ _ _ _ _=>yf λ_=>rfl
def all_mk {l:PySem.W.OpenLaw}{w:World}{K:Frag}{h:Heap}{mg:Str->Option Value}{fa f22 x0:Addr}(X:K.In h)(G:h.Ns mainGlobals mg)(hfa:mg "law"=some (.ref fa))
  {od22 an22:Option Addr} {sl22:Array (Option Value)} {oc22 kV22 dc22 pm22 cd22 ct22:Value} {tMOST_THINGS:Tok}
  (F1:Fo K mg "is_whole" RQ.gC ["thing"])
  (F2:Fo K mg "is_below" RQ.fZ ["thing","bound"])
  (F3:Fo K mg "is_many" RQ.ip ["thing"])
  (F4:Fo K mg "is_pair" RQ.ik ["thing","many"])
  (F5:Fo K mg "every_pair" RQ.cD ["many"])
  (F6:Fo K mg "closed" ju ["many","pairs"])
  (F7:Fo K mg "has_ring" RQ.fQ ["pairs"])
  (F8:Fo K mg "is_order" RQ.gA ["thing"])
  (F9:Fo K mg "need_order" RQ.dq ["thing"])
  (F10:Fo K mg "are_apart" RQ.eJ ["order","a","b"])
  (F11:Fo K mg "longer_groups" RQ.cj ["order","groups"])
  (F12:Fo K mg "most_apart" RQ.dz ["order"])
  (F13:Fo K mg "_law_cell" RQ.eO ["script","k"])
  (F14:Fo K mg "_law_mix" RQ.cN ["cell","k"])
  (F15:Fo K mg "_law_box" RQ.gr ["script","k"])
  (F16:Fo K mg "_law_take" RQ.eM ["box","many"])
  (F17:Fo K mg "_law_mixed_up" RQ.cm ["box","some"])
  (F18:Fo K mg "_law_closed" RQ.cV ["pairs"])
  (F19:Fo K mg "_law_order" RQ.dr ["box","most"])
  (F20:Fo K mg "_law_apart" RQ.dm ["order","a","b"])
  (F21:Fo K mg "_law_lists" RQ.dC ["order"])
  (a22:PySem.W.nsIn K mainGlobals "law"=some (some (.ref f22))) (l22:K.lookup f22=some ⟨oc22,od22,.func (PySem.W.fnOf "law" "law" (eR RQ.iJ) (bL RQ.iJ) (ak RQ.iJ) .none kV22 dc22 pm22 an22 cd22 ct22),sl22⟩) (c22:PySem.W.codeIn K cd22 "law"=true) (k22:PySem.W.keepIn K (.ref f22)=true)
  (zB:DU K=true)
  (yMOST_THINGS:PySem.W.nsIn K mainGlobals "MOST_THINGS"=some (some (.int 8 tMOST_THINGS)))
  (m0:PySem.W.nsIn K mainGlobals "NoOrder"=some (some (.ref x0)))
  (e0:PySem.W.excIn K x0 [.type "ValueError",.type "Exception",.type "BaseException",.type "object"] "ValueError.__new__"=true)
  :∃fd:FuncData,(∀(s:Shared) (v:Value),BindsTo s fd ⟨[v],[]⟩ [("script",v)])/\∀base:Heap,K.In base->base.Ns mainGlobals mg->c7 l.prog w K mg base (j7 l.prog w) 7 fa fd ["script"] (tJ K):=by
 have e:=hfa.symm.trans (PySem.W.mg_of X G a22)
 cases e
 have B:ke mg:=CY X G zB
 have fu:=PySem.W.mg_of X G yMOST_THINGS
 obtain⟨f1,d1,aV⟩:=F1.ex
 obtain⟨f2,d2,cv⟩:=F2.ex
 obtain⟨f3,d3,dE⟩:=F3.ex
 obtain⟨f4,d4,dD⟩:=F4.ex
 obtain⟨f5,d5,i9⟩:=F5.ex
 obtain⟨f6,d6,fJ⟩:=F6.ex
 obtain⟨f7,d7,cP⟩:=F7.ex
 obtain⟨f8,d8,cL⟩:=F8.ex
 obtain⟨f9,d9,bS⟩:=F9.ex
 obtain⟨f10,d10,cx⟩:=F10.ex
 obtain⟨f11,d11,ba⟩:=F11.ex
 obtain⟨f12,d12,b4⟩:=F12.ex
 obtain⟨f13,d13,cy⟩:=F13.ex
 obtain⟨f14,d14,cS⟩:=F14.ex
 obtain⟨f15,d15,cO⟩:=F15.ex
 obtain⟨f16,d16,aK⟩:=F16.ex
 obtain⟨f17,d17,a8⟩:=F17.ex
 obtain⟨f18,d18,bI⟩:=F18.ex
 obtain⟨f19,d19,bZ⟩:=F19.ex
 obtain⟨f20,d20,bQ⟩:=F20.ex
 obtain⟨f21,d21,bW⟩:=F21.ex
 have U22:=rq (st:=RQ.iJ) l22 c22 k22
 have CA:jZ K mg "law" RQ.iJ ["script"] fa _:=⟨PySem.W.mg_of X G a22,U22,U22.binds (ps:=["script"]) λ_ _ _ _ _ _=>yf λ_=>rfl⟩
 obtain⟨ca,hca⟩:∃ca:Str->Addr,ca "NoOrder"=x0:=⟨λ_=>x0,by first |rfl |decide |simp⟩
 have fB:Exc K mg ca "NoOrder":=⟨by rw[hca];exact PySem.W.mg_of X G m0,by rw[hca];exact e0⟩
 refine⟨PySem.W.fnOf "law" "law" (eR RQ.iJ) (bL RQ.iJ) (ak RQ.iJ) .none kV22 dc22 pm22 an22 cd22 ct22,λs v=>.of_eq rfl,λbase _ _=>?_⟩
 have cK:=(RQ.m9 (P:=l.prog) (w:=w) (base:=base) (ca:=ca) aV B).imp zk
 have fY:=(RQ.nN (P:=l.prog) (w:=w) (base:=base) (ca:=ca) cv B cK).imp zo
 have jH:=(RQ.qz (P:=l.prog) (w:=w) (base:=base) (ca:=ca) dE B cK fu).imp Au
 have jz:=(RQ.qB (P:=l.prog) (w:=w) (base:=base) (ca:=ca) dD B fY).imp AG
 have zA:=RQ.kK (P:=l.prog) (w:=w) (base:=base) (ca:=ca) i9 B
 have lz:=rQ (P:=l.prog) (w:=w) (base:=base) (ca:=ca) fJ i9 B
 have iL:=(RQ.mZ (P:=l.prog) (w:=w) (base:=base) (ca:=ca) cP B).imp BM
 have iN:=(RQ.oN (P:=l.prog) (w:=w) (base:=base) (ca:=ca) cL B jH jz lz iL).imp rB
 have gf:=(RQ.lB (P:=l.prog) (w:=w) (base:=base) (ca:=ca) bS B iN fB).imp y2
 have hJ:=RQ.lU (P:=l.prog) (w:=w) (base:=base) (ca:=ca) cx B
 have df:=RQ.jl (P:=l.prog) (w:=w) (base:=base) (ca:=ca) ba B hJ
 have gE:=(RQ.lu (P:=l.prog) (w:=w) (base:=base) (ca:=ca) b4 B gf df).new
 have g7:=RQ.lW (P:=l.prog) (w:=w) (base:=base) (ca:=ca) cy B
 have iX:=RQ.m6 (P:=l.prog) (w:=w) (base:=base) (ca:=ca) cS B
 have iV:=RQ.nA (P:=l.prog) (w:=w) (base:=base) (ca:=ca) cO B g7 iX
 have bD:=RQ.lO (P:=l.prog) (w:=w) (base:=base) aK B
 have de:=RQ.jt (P:=l.prog) (w:=w) (base:=base) a8 B bD
 have fq:=RQ.j9 (P:=l.prog) (w:=w) (base:=base) (ca:=ca) bI B
 have fS:=RQ.kH (P:=l.prog) (w:=w) (base:=base) (ca:=ca) bZ B fq bD de
 have gy:=RQ.lM (P:=l.prog) (w:=w) (base:=base) (ca:=ca) bQ B
 have gx:=RQ.kG (P:=l.prog) (w:=w) (base:=base) (ca:=ca) bW B gy
 have CH:=RQ.zf (P:=l.prog) (w:=w) (base:=base) (ca:=ca) CA B iV gx gE fS
 exact c7.imp (sp:=u6 K ca 1 A8) CH An
def walk {l:PySem.W.OpenLaw}{q:Program}{loose:List Str}{XP:(Str->Option Value)->Heap->Prop}{YP:World->Heap->Prop}{d:DefRec}{K:Params->Frag}(hn:l.most=some 63)(hdf:d.params.defaults= [])(hi:PyProof.Rows.importsNone q=true)
  (hY:∀(w:World) (h:Heap),YP w h->(K w.params).In h)
  (F:∀(w:World) (mg:Str->Option Value) (fa:Addr) (h:Heap),(K w.params).In h->h.Ns mainGlobals mg->mg d.name=some (.ref fa)->
   ∃fd:FuncData,(∀(s:Shared) (u:Value),BindsTo s fd ⟨[u],[]⟩ [("script",u)])/\∀base:Heap,(K w.params).In base->base.Ns mainGlobals mg->c7 l.prog w (K w.params) mg base (j7 l.prog w) 7 fa fd ["script"] (tJ (K w.params))) :
  PySem.W.WalkO q loose XP YP l.row.toRowW d [] (λf vs=>PySem.call f vs):=
 L2.zL (n:=63) (k:=7) (x:="script") (CX:=λw=>j7 l.prog w) (sp:=λw=>tJ (K w.params)) hn (by decide) hdf hi ⟨rfl,by decide,by decide,rfl⟩ hY F (λ_ _ a ns hl _ hS=>⟨a,ns,rfl,hS,λ_ _=>rfl⟩) λ_ _ _ _ _ z=>by
  obtain⟨_,_,_,_,_,_,_,_,_,z⟩:=z
  exact z
end RO
namespace HD
noncomputable def vw:PySem.Program:=PySem.W.view PySem.Challenge.pw_rowsorder_k16_most_apart [1,2,3,4,5,6,8,9,11,12,13,14,15,17,18,20,21,22,23,24,25,26,27,28,29]
def BW:PySem.Challenge.rw_rowsorder_k16_most_apart.wellSaid=true:=by kernel_rfl
end HD
local macro_rules | `(tactic|o_head $H)=>`(tactic| (
 refine PySem.W.holds_open (q:=HD.vw) (loose:=[]) (Xt:=λs=>PySem.W.xlAt HD.vw [] s && PySem.W.recOk (PySem.W.RowW.records _) s) (XP:=PySem.W.XL HD.vw []) (Yf:=PySem.W.Hook.obs $H) (Ya:=PySem.W.Hook.val $H) (YP:=PySem.W.Hook.says $H) (N:=2308) ?hl (PySem.W.Hook.of $H) (PySem.W.Hook.keeps $H) (λs e=>PySem.W.xl_of s (Bool.and_eq_true_iff.mp e).1) PySem.W.XL.keeps (by rfl) (by rfl) (by rfl) (λs e=>PySem.W.recFacts_of (Bool.and_eq_true_iff.mp e).2) (by rfl) (by first |assumption |decide +kernel) (by decide +kernel) ⟨rfl,rfl,rfl,rfl,rfl,by decide +kernel⟩ ?hw ?hc
 case hl=>exact HD.yR (by kernel_rfl) (by kernel_rfl) (λs=>by kernel_rfl) (λw os=>by kernel_rfl)))
open PySem PySem.W PyProof.Rows L2
set_option maxRecDepth 100000 in
set_option maxHeartbeats 0 in
theorem PySem.Challenge.cw_rowsorder_k16_most_apart_holds : PySem.Challenge.rw_rowsorder_k16_most_apart.Holds := by
 w_on;(refine holds_law HD.BW λBW=>?_);k_head;(case hw=>w_witness2)
 k_fill
 refine RO.walk (l:=PySem.Challenge.rw_rowsorder_k16_most_apart) rfl rfl ?hi (λw h Y=>PySem.W.kIn_of Y) ?F
 case hi=>kernel_rfl
 case F=>
  intro w mg fa h KX G hmg
  refine' RO.all_mk KX G hmg ?F1 ?F2 ?F3 ?F4 ?F5 ?F6 ?F7 ?F8 ?F9 ?F10 ?F11 ?F12 ?F13 ?F14 ?F15 ?F16 ?F17 ?F18 ?F19 ?F20 ?F21 ?a22 ?l22 ?c22 ?k22 ?zB ?yMOST_THINGS ?m0 ?e0
  case F1=>refine' cc KX G RO.sd ?a ?l ?c ?k;(case a=>k_is);(case l=>k_is);(case c=>k_is);(case k=>k_is)
  case F2=>refine' cc KX G RO.rn ?a ?l ?c ?k;(case a=>k_is);(case l=>k_is);(case c=>k_is);(case k=>k_is)
  case F3=>refine' cc KX G RO.uJ ?a ?l ?c ?k;(case a=>k_is);(case l=>k_is);(case c=>k_is);(case k=>k_is)
  case F4=>refine' cc KX G RO.uv ?a ?l ?c ?k;(case a=>k_is);(case l=>k_is);(case c=>k_is);(case k=>k_is)
  case F5=>refine' cc KX G RO.oB ?a ?l ?c ?k;(case a=>k_is);(case l=>k_is);(case c=>k_is);(case k=>k_is)
  case F6=>refine' cc KX G RO.vH ?a ?l ?c ?k;(case a=>k_is);(case l=>k_is);(case c=>k_is);(case k=>k_is)
  case F7=>refine' cc KX G RO.qR ?a ?l ?c ?k;(case a=>k_is);(case l=>k_is);(case c=>k_is);(case k=>k_is)
  case F8=>refine' cc KX G RO.qX ?a ?l ?c ?k;(case a=>k_is);(case l=>k_is);(case c=>k_is);(case k=>k_is)
  case F9=>refine' cc KX G RO.nr ?a ?l ?c ?k;(case a=>k_is);(case l=>k_is);(case c=>k_is);(case k=>k_is)
  case F10=>refine' cc KX G RO.o8 ?a ?l ?c ?k;(case a=>k_is);(case l=>k_is);(case c=>k_is);(case k=>k_is)
  case F11=>refine' cc KX G RO.kg ?a ?l ?c ?k;(case a=>k_is);(case l=>k_is);(case c=>k_is);(case k=>k_is)
  case F12=>refine' cc KX G RO.n6 ?a ?l ?c ?k;(case a=>k_is);(case l=>k_is);(case c=>k_is);(case k=>k_is)
  case F13=>refine' cc KX G RO.oR ?a ?l ?c ?k;(case a=>k_is);(case l=>k_is);(case c=>k_is);(case k=>k_is)
  case F14=>refine' cc KX G RO.qZ ?a ?l ?c ?k;(case a=>k_is);(case l=>k_is);(case c=>k_is);(case k=>k_is)
  case F15=>refine' cc KX G RO.rF ?a ?l ?c ?k;(case a=>k_is);(case l=>k_is);(case c=>k_is);(case k=>k_is)
  case F16=>refine' cc KX G RO.pS ?a ?l ?c ?k;(case a=>k_is);(case l=>k_is);(case c=>k_is);(case k=>k_is)
  case F17=>refine' cc KX G RO.kj ?a ?l ?c ?k;(case a=>k_is);(case l=>k_is);(case c=>k_is);(case k=>k_is)
  case F18=>refine' cc KX G RO.l4 ?a ?l ?c ?k;(case a=>k_is);(case l=>k_is);(case c=>k_is);(case k=>k_is)
  case F19=>refine' cc KX G RO.oC ?a ?l ?c ?k;(case a=>k_is);(case l=>k_is);(case c=>k_is);(case k=>k_is)
  case F20=>refine' cc KX G RO.nP ?a ?l ?c ?k;(case a=>k_is);(case l=>k_is);(case c=>k_is);(case k=>k_is)
  case F21=>refine' cc KX G RO.nq ?a ?l ?c ?k;(case a=>k_is);(case l=>k_is);(case c=>k_is);(case k=>k_is)
  case a22=>k_is
  case l22=>k_is
  case c22=>k_is
  case k22=>k_is
  case zB=>kernel_rfl
  case yMOST_THINGS=>k_is
  case m0=>k_is
  case e0=>kernel_rfl
end
