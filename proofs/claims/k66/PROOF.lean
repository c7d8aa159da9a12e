import PyProof.Rows.All
import Wide.All
import OpenK.AllK
import Wide.FinOn
import Lean
import PyProof.EqAt
import PyProof.EqKinds
import PyProof.TupleCall
import PySem.SetOps
import PyProof.SetKind
import PyProof.TupleKey
import PyProof.DictKinds
import PyProof.Rows.SetFrom
import PyProof.WalksMore
import KE.KSortTup
import PyProof.CollectWalk
import PyProof.ExcArgsOwn
import PyProof.Rows.CountFlat
import PyProof.Rows.SeqMore2
import PyProof.Rows.FStr
import PyProof.Rows.StrWeight2
import PyProof.Rows.StrNews
import PyProof.StrLawsTight
import PyProof.ExcBaseAll.ValueError
import PyProof.ZipIter
import PyProof.CallFns
import PyProof.Draws
import PyProof.EnumMake
import PyProof.SetRoads
import PyProof.Rows.SortWalk
import PyProof.SeqI3
import PyProof.Rows.SortShell
import PyProof.Rows.Range3
import KE.KStateDown
import PyProof.Rows.SumAny
import PyProof.ListRange
import PyProof.MaxThree
import PyProof.IsiH_list
import PyProof.RaisesAny
import KE.KDictOf
import PyProof.Rows.BitMore
import PySem.Challenge.RW_rowsorder_k66_whole_without_a_thing
set_option Elab.async false
set_option linter.all false
set_option maxRecDepth 100000
set_option maxHeartbeats 1000000
set_option hygiene false
local macro_rules|`(@AC)=>`(⟨rfl,rfl,rfl,by decide +kernel,rfl,by decide +kernel,by decide +kernel⟩)|`(@AT)=>`(by omega)|`(@At)=>`((hr.mono (by decide)))|`(@A_)=>`(List Pr)|`(@B_)=>`(Inv X pins σ H s)|`(@Ch)=>`((λ_ _=>rfl))|`(@Cl)=>`(List D->FR)|`(@C_)=>`(List (Addr×Obj))|`(@Db)=>`(.fz (ag n l))|`(@Do)=>`((cst (.int 1)))|`(@D_)=>`(List Int)|`(@EQ)=>`((model X.prog X.w))|`(@Ev)=>`(Value->Shared->Prop)|`(@E_)=>`((cst (.int 0)))|`(@FM)=>`(by decide +kernel)|`(@FS)=>`(Str->Option Value)|`(@Fa)=>`((aa (gv 0) (aa (gv 1) ah)))|`(@Fk)=>`([@Db,.fz left,.fz (eH n l pts),.fz (.int (i:Int)),.fz (ax t),.fz (cp n (bF (putAll n l put))),.fz (.tuple (put.map ax))])|`(@Fr)=>`(λ_ _ _ _ _ _=>ln2 λ_ _=>rfl)|`(@F_)=>`((by decide))|`(@GM)=>`(([] ++ []))|`(@GT)=>`(List Value)|`(@Go)=>`(.fz (.list (rows.map tupI)))|`(@G_)=>`((x == ("__debug__":Str))=false)|`(@H_)=>`(SR Γ B G H σ env β)|`(@IN)=>`(List Str)|`(@IO)=>`(.fz (cp n (bF l)))|`(@IR)=>`(List Nat)|`(@Id)=>`((bG (by kernel_rfl)))|`(@Is)=>`(Option Addr)
local macro_rules|`(@Ix)=>`((jx X NB scope C ex s3 H3 pn))
def OD:=@List.getElem?_eq_getElem
def OE:=@decide_eq_true
def OF:=@Nat.le_refl
def OG:=@if_pos
def OH:=@List.length_map
def OI:=@PySem.Heap.get?_push_of_some
def OJ:=@List.mem_filter
def OK:=@List.mem_cons
def OL:=@PySem.wpAny_bind
def ON:=@List.mem_cons_self
def OO:=@List.getElem?_eq_some_iff
def OP:=@if_neg
def OQ:=@List.mem_cons_of_mem
def OR:=@decide_eq_false
def OS:=@PySem.Heap.lt_size
def OT:=@List.mem_append
def OU:=@List.getElem?_map
def OV:=@PySem.Heap.get?_push_size
def OX:=@List.size_toArray
def OY:=@decide_eq_true_eq
def OZ:=@Bool.false_ne_true
def O0:=@List.mem_of_getElem?
def O1:=@Bool.and_eq_true
def O2:=@List.getElem?_set_ne
def O3:=@List.mem_map
def O4:=@List.all_eq_true
def O5:=@List.getD_eq_getElem?_getD
def O6:=@List.getElem?_set_self
def O7:=@List.mem_singleton
def O8:=@List.length_cons
def O9:=@List.length_append
def Pa:=@PySem.wpAny_pure
def Pb:=@of_decide_eq_true
def Pe:=@List.mem_append_right
def Pf:=@Nat.lt_irrefl
def Pg:=@List.getElem?_append_left
def Pj:=@Nat.lt_of_lt_of_le
def Pk:=@Int.toNat_natCast
def Pl:=@List.nodup_cons
def Pn:=@List.map_append
def Po:=@List.getElem?_append_right
def Pp:=@List.mem_range
def Pq:=@PySem.sizeLine_eq
def Pu:=@List.length_filter_le
def Pw:=@List.not_mem_nil
def Px:=@List.replicate_succ
def Py:=@Nat.ne_of_lt
def Pz:=@Nat.zero_le
def PB:=@Nat.le_trans
def PD:=@List.length_singleton
def PF:=@List.idxOf_lt_length_iff
def PH:=@List.length_take
def PJ:=@PySem.W.kia_one
def PL:=@List.length_replicate
def PM:=@Bool.eq_iff_iff
def PN:=@PySem.mem_of_lookup
def PQ:=@PySem.wpAny_truthy_bool
def PR:=@Nat.zero_add
def PU:=@PySem.Heap.get?_update_other
def PV:=@Bool.false_eq_true
def PX:=@PySem.boot_len
def PY:=@List.filterMap_cons
def PZ:=@List.mem_iff_getElem?
def P0:=@List.getElem?_replicate
def P2:=@decide_eq_false_iff_not
def P4:=@Nat.mul_le_mul
def P5:=@PySem.wpAny_mono
def P6:=@decide_eq_decide
def P7:=@List.length_range
def P8:=@List.map_cons
def P9:=@if_true
def Qa:=@List.length_set
def Qb:=@List.nodup_iff_pairwise_ne
def Qc:=@PySem.F.plain_min_loop
def Qd:=@List.flatten_cons
def Qe:=@List.map_congr_left
def Qf:=@Bool.or_eq_true
def Qg:=@List.getElem?_eq_none
def Qh:=@List.getElem_mem
def Qi:=@List.eq_of_mem_replicate
def Qj:=@List.any_cons
def Qk:=@PySem.Heap.size_push
def Ql:=@if_false
def Qm:=@or_false
def Qn:=@Nat.lt_or_ge
def Qo:=@PySem.SeqAt.canLay_of_shaped
def Qp:=@Int.zero_add
def Qq:=@List.getElem_idxOf
def Qr:=@List.mem_append_left
def Qs:=@List.append_nil
def Qt:=@List.set_eq_of_length_le
def Qu:=@List.append_assoc
def Qv:=@List.pairwise_map
def Qw:=@PySem.wpAny_holding
def Qx:=@Array.toList_append
def Qy:=@List.getElem?_range
def Qz:=@Nat.le_of_lt
def QB:=@PyProof.Rows.callWith_type1
def QC:=@Int.emod_lt_of_pos
def QD:=@Array.getD_eq_getD_getElem?
def QE:=@List.map_map
def QF:=@PySem.wpAny_passesOwn
def QG:=@Int.emod_nonneg
def QH:=@PySem.Value.isInt_shape
def QI:=@PySem.wpAny_pyIter_list
def QJ:=@Bool.not_eq_true'
def QL:=@List.pairwise_iff_getElem
def QM:=@List.mem_iff_getElem
def QN:=@List.Pairwise.imp_of_mem
def QO:=@PySem.F.called_set
def QP:=@List.ext_getElem
def QQ:=@PySem.F.plainAttrs_list
def QR:=@List.filter_cons_of_pos
def QS:=@List.filter_cons_of_neg
def QT:=@List.mem_filterMap
def QU:=@PySem.wpAny_pyIter_tuple
def QV:=@Nat.not_lt_zero
def QW:=@PySem.wpAny_pyIter_enum
def QX:=@List.filter_congr
def QY:=@List.nodup_append
def QZ:=@PySem.Heap.get?_update_self
def Q0:=@Classical.choose_spec
def Q2:=@List.all_map
def Q3:=@PySem.wpAny_tryCatch
def Q4:=@List.nodup_nil
def Q5:=@PySem.Around.under_plainId
def Q6:=@List.getElem?_mapIdx
def Q7:=@Nat.eq_of_testBit_eq
def Q8:=@List.idxOf_cons_self
def Q9:=@Array.getElem?_eq_some_iff
def Ra:=@PySem.codeAny_builtin
def Rb:=@List.drop_eq_getElem_cons
def Rf:=@List.getLast?_eq_getElem?
def Rg:=@PySem.codeAny_mono
def Rh:=@PySem.wpAny_Call_Name_kw
def Ri:=@PySem.F.args_tuple_add_2
def Rj:=@List.length_erase_of_mem
def Rk:=@Nat.lt_trans
def Rl:=@PySem.Obj.data_mapFields
def Rm:=@PySem.AutoSeq1.wpAny_loadPart'
def Rn:=@PySem.wpAny_setField
def Ro:=@List.idxOf_append
open List (length_drop foldl_cons nodup_range lookup_cons all_cons drop_length set_set)
open PySem.W (Frag)
open PySem.PyData (int)
section
set_option Elab.async false
namespace L2
open PySem PySem.Spec PyProof.Rows
abbrev Key:=Sum Int Str
def HC:Key->Value->Bool
 | .inl k,v=>Value.isInt k v
 | .inr x,v=>Value.isStrOf x v
def N4 (w:World):Key->Int
 | .inl k=>hashInt k
 | .inr x=>hashStr w x
theorem cF:∀{k:Key} {v:Value},HC k v=true->(∃i t,k=Sum.inl i/\v=Value.int i t)\/(∃x t,k=Sum.inr x/\v=Value.str x t)
 | .inl i,v,h=>by
  obtain⟨t,e⟩:=QH (k:=i) (v:=v) h
  exact .inl ⟨i,t,rfl,e⟩
 | .inr x,v,h=>by
  obtain⟨t,e⟩:=Value.isStrOf_shape (x:=x) (v:=v) h
  exact .inr ⟨x,t,rfl,e⟩
def Ki (a b:Int):decide ((Sum.inl a:Key)=Sum.inl b)=(a == b):=by
 by_cases e:a=b
 ·subst e;simp
 ·have h:¬(Sum.inl a:Key)=Sum.inl b:=λq=>e (Sum.inl.inj q)
  rw[OR h]
  exact (beq_eq_false_iff_ne.mpr e).symm
def IK (a b:Str):decide ((Sum.inr a:Key)=Sum.inr b)=decide (a=b):=by
 by_cases e:a=b
 ·subst e;simp
 ·have h:¬(Sum.inr a:Key)=Sum.inr b:=λq=>e (Sum.inr.inj q)
  rw[OR h,OR e]
def IF (a:Int)(b:Str):decide ((Sum.inl a:Key)=Sum.inr b)=false:=OR (λq=>nomatch q)
def Iw (a:Str)(b:Int):decide ((Sum.inr a:Key)=Sum.inl b)=false:=OR (λq=>nomatch q)
def uE (prog:Program)(w:World):PySem.KeyKind prog w Key where
 is:=HC
 hash:=N4 w
 inj:=λv a b ha hb=>by
  rcases cF ha with⟨i,t,rfl,rfl⟩ | ⟨x,t,rfl,rfl⟩
  ·rcases cF hb with⟨j,u,rfl,e⟩ | ⟨y,u,rfl,e⟩
   ·injection e with e1 _;rw[e1]
   ·exact nomatch e
  ·rcases cF hb with⟨j,u,rfl,e⟩ | ⟨y,u,rfl,e⟩
   ·exact nomatch e
   ·injection e with e1 _;rw[e1]
 byValue:=λk v h=>by
  rcases cF h with⟨i,t,rfl,rfl⟩ | ⟨x,t,rfl,rfl⟩ <;> rfl
 pyHash:=λhv h=>by
  rcases cF hv with⟨i,t,rfl,rfl⟩ | ⟨x,t,rfl,rfl⟩
  ·exact wpAny_pyHash_int h
  ·exact wpAny_pyHash_str h
 eqBool:=λhu hv h=>by
  rcases cF hu with⟨i,t,rfl,rfl⟩ | ⟨x,t,rfl,rfl⟩
  ·rcases cF hv with⟨j,u,rfl,rfl⟩ | ⟨y,u,rfl,rfl⟩
   ·rw[Ki] at h;exact wpAny_eqBool_int h
   ·rw[IF] at h;exact SeqAt.EqAt.int_str i t y u _ _ _ _ h
  ·rcases cF hv with⟨j,u,rfl,rfl⟩ | ⟨y,u,rfl,rfl⟩
   ·rw[Iw] at h;exact SeqAt.EqAt.str_int x t j u _ _ _ _ h
   ·rw[IK] at h;exact wpAny_eqBool_str h
 «strs»:=λk x t v h=>by
  rcases cF h with⟨i,u,rfl,e⟩ | ⟨y,u,rfl,e⟩
  ·exact nomatch e
  ·injection e with e1 _
   subst e1
   cases v <;> rfl
inductive V where
 |non |bl (b:Bool) |int (i:Int) |str (x:Str) |byt (b:Array UInt8) |flt (b:UInt64) |ref (a:Addr) |ty (n:String)
 deriving DecidableEq
def RelV:V->Value->Prop
 | .non,u=>u=Value.none
 | .bl b,u=>u=Value.bool b
 | .int i,u=>∃t,u=Value.int i t
 | .str x,u=>∃t,u=Value.str x t
 | .byt b,u=>∃t,u=Value.bytes b t
 | .flt b,u=>∃t,u=Value.float b t
 | .ref a,u=>u=Value.ref a
 | .ty n,u=>u=Value.type n
abbrev Vals:List V->@GT->Prop:=Paired RelV
def Vals.length {xs:List V}{us:@GT}(r:Vals xs us):xs.length=us.length:=Paired.length r
theorem Vals.get:∀{xs:List V} {us:@GT} {i:Nat} {x:V},Vals xs us->xs[i]? =some x->∃u,us[i]? =some u/\RelV x u
 |_,_,_,_,.nil,e=>by simp at e
 |_,_,0,_,.cons r _,e=>by simp at e;subst e;exact⟨_,rfl,r⟩
 |_,_,i + 1,x,.cons _ t,e=>by
  obtain⟨u,h1,h2⟩:=Vals.get (i:=i) (x:=x) t (by simpa using e)
  exact⟨u,by simpa using h1,h2⟩
theorem Vals.set {x:V}{u:Value}(r:RelV x u):∀{xs:List V} {us:@GT} (i:Nat),Vals xs us->Vals (xs.set i x) (us.set i u)
 |_,_,_,.nil=>.nil
 |_,_,0,.cons _ t=>.cons r t
 |_,_,i + 1,.cons q t=>.cons q (Vals.set r i t)
theorem Vals.append:∀{xs ys:List V} {us ws:@GT},Vals xs us->Vals ys ws->Vals (xs ++ ys) (us ++ ws)
 |_,_,_,_,.nil,s=>s
 |_,_,_,_,.cons r t,s=>.cons r (Vals.append t s)
theorem Vals.take:∀{xs:List V} {us:@GT} (n:Nat),Vals xs us->Vals (xs.take n) (us.take n)
 |_,_,0,_=>.nil
 |_,_,_ + 1,.nil=>.nil
 |_,_,n + 1,.cons r t=>.cons r (Vals.take n t)
theorem Vals.drop:∀{xs:List V} {us:@GT} (n:Nat),Vals xs us->Vals (xs.drop n) (us.drop n)
 |_,_,0,r=>r
 |_,_,_ + 1,.nil=>.nil
 |_,_,n + 1,.cons _ t=>Vals.drop n t
def DO:Option V->Option Value->Prop
 |some v,some u=>RelV v u
 |none,none=>True
 |_,_=>False
def KV {κ:Type}:List (κ×V)->List (κ×Value)->Prop:=Paired λ(p:κ×V) (q:κ×Value)=>p.1=q.1/\RelV p.2 q.2
def kV:Key->V
 | .inl i=>.int i
 | .inr x=>.str x
inductive HO where
 |lst (xs:List V)
 |tup (xs:List V)
 |dK (kvs:List (Key×V)) |dT (kvs:List (List Key×V))
 |set (S:Int->Bool) (n:Nat)
 |ins (C dx:Addr) (fs:List (Str×V))
 |own (x:Addr)
 |xd (fs:List (Str×V))
 |met (f x:Addr)
 |bN (lo hi:Int)
 |aW (o:Obj) (u:HO)
 |tbl (ps:Array Value)
 |ext (φ:Heap->Prop)
abbrev Hp:=Addr->Option HO
def upd (H:Hp)(a:Addr)(o:HO):Hp:=λb=>if b=a then some o else H b
def aB {H:Hp}{a:Addr}{o:HO}:upd H a o a=some o:=by unfold upd;rw[OG rfl]
def ay {H:Hp}{a b:Addr}{o:HO}(h:b≠a):upd H a o b=H b:=by unfold upd;rw[OP h]
def HK {H:Hp}{a b:Addr}{o u:HO}(h:H a=some o)(h':H b=some u)(d:o≠u):a≠b:=by
 intro e;subst e;rw[h] at h';exact d (Option.some.inj h')
def aN {H:Hp}{a b:Addr}{o:HO}(h:H a=some o)(h':H b=none):a≠b:=by
 intro e;subst e;rw[h] at h';cases h'
section
variable (P:Program)(w:World)
def sx (h:Heap)(a:Addr)(items:Array Value):Prop:=∃o,h.get? a=some o/\o.cls=.type "tuple"/\∃n,o.data=.seq items n/\o.dict=none
def sx.isTup {h:Heap}{a:Addr}{items:Array Value}(x:sx h a items):IsTup h a items:=let ⟨o,e,c,n,d,_⟩:=x;⟨o,e,c,n,d⟩
def sx.new (h:Heap)(items:Array Value):sx (h.push {cls:=.type "tuple",data:=.seq items}) h.objs.size items:=⟨_,OV _ rfl,rfl,_,rfl,rfl⟩
def dA (H:Hp)(h:Heap)(a:Addr):HO->Prop
 | .lst xs=>xs.length<=sizeLine/\∃(its:@GT) (n:Nat),Vals xs its/\h.get? a=some {cls:=.type "list",data:=.seq its.toArray n}
 | .tup xs=>xs.length<=sizeLine/\∃its:@GT,Vals xs its/\sx h a its.toArray
 | .dK kvs=>kvs.length<=sizeLine/\(a == sysModules)=false/\∃vs,KV kvs vs/\h.DictOf (uE P w) a vs
 | .dT kvs=>kvs.length<=sizeLine/\(a == sysModules)=false/\∃xs:List (List Key×Addr×Value),
   Paired (λ(p:List Key×V) (q:List Key×Addr×Value)=>p.1=q.1/\(H q.2.1=some (.tup (p.1.map kV))\/∃o,H q.2.1=some (.aW o (.tup (p.1.map kV))))/\RelV p.2 q.2.2) kvs xs/\
   ∃o es ep,h.get? a=some o/\o.ExactDict/\o.data=.dict es ep/\es.toList=xs.map (entryOfKey (tupleKind (uE P w)))/\(xs.map (·.1)).Nodup
 | .set S n=>h.SetOf (intKind P w) a S n
 | .ins C dx fs=>H dx=some (.own a)/\fs.length<=1000/\dx≠a/\h.get? a=some (PySem.W.instObj C dx)/\
   ∃mA,h.Ns1 dx mA/\(∀f,DO (fs.lookup f) (mA f))/\PySem.Within mA (fs.map (·.1))
 | .own _=>∃o,h.get? a=some o
 | .xd fs=>∃mA,h.Ns1 a mA/\∀f,DO (fs.lookup f) (mA f)
 | .bN lo hi=>∃t u v,h.get? a=some {cls:=.type "range",data:=.fields #[.int lo t,.int hi u,.int 1 v]}
 | .aW o u=>h.get? a=some o/\dA H h a u
 | .tbl ps=>h.get? a=some {cls:=.none,data:=.fields ps}
 | .met f x=>h.get? a=some (PySem.W.methodObj (.ref f) (.ref x))
 | .ext φ=>φ h/\(∃o,h.get? a=some o)/\∀h1 h2:Heap,φ h1->(∀o,h1.get? a=some o->h2.get? a=some o)->φ h2
def og (H:Hp)(h:Heap):Prop:=∀a o,H a=some o->dA P w H h a o
end
section
variable {P:Program}{w:World}{H H':Hp}{h h':Heap}{a:Addr}{o:HO}
theorem dA.lt (x:dA P w H h a o):a < h.objs.size:=by
 cases o with
 |lst xs=>obtain⟨_,_,_,_,e⟩:=x;exact OS e
 |tup xs=>obtain⟨_,_,_,p⟩:=x;exact p.isTup.lt
 |dK kvs=>obtain⟨_,_,_,_,o,_,_,e,_⟩:=x;exact OS e
 |dT kvs=>obtain⟨_,_,_,_,o,_,_,e,_⟩:=x;exact OS e
 |set S n=>obtain⟨o,_,_,_,e,_⟩:=x;exact OS e
 |ins C dx fs=>obtain⟨_,_,_,e,_⟩:=x;exact OS e
 |own y=>obtain⟨_,e⟩:=x;exact OS e
 |xd fs=>obtain⟨_,⟨_,_,_,e,_⟩,_⟩:=x;exact OS e
 |bN lo hi=>obtain⟨_,_,_,e⟩:=x;exact OS e
 |aW ob u=>obtain⟨e,_⟩:=x;exact OS e
 |tbl ps=>exact OS (show h.get? a=some _ from x)
 |met f y=>exact OS (show h.get? a=some _ from x)
 |ext φ=>obtain⟨_,⟨_,e⟩,_⟩:=x;exact OS e
theorem Paired.mapP {α β:Type}{F G:α->β->Prop}:∀{l₁:List α} {l₂:List β},Paired F l₁ l₂->(∀a b,F a b->G a b)->Paired G l₁ l₂
 |_,_,.nil,_=>.nil
 |_,_,.cons r t,f=>.cons (f _ _ r) (Paired.mapP t f)
theorem dA.stay (x:dA P w H h a o)(k:∀b u,(b=a\/H b=some (.own a))->h.get? b=some u->h'.get? b=some u)
  (ho:∀b,H b=some (.own a)->H' b=some (.own a)) (ht:∀b xs,(H b=some (.tup xs)\/∃o,H b=some (.aW o (.tup xs)))->(H' b=some (.tup xs)\/∃o,H' b=some (.aW o (.tup xs)))):dA P w H' h' a o:=by
 induction o with
 |lst xs=>obtain⟨z,its,n,r,e⟩:=x;exact⟨z,its,n,r,k _ _ (.inl rfl) e⟩
 |tup xs=>obtain⟨z,its,r,ob,e,c⟩:=x;exact⟨z,its,r,ob,k _ _ (.inl rfl) e,c⟩
 |dK kvs=>obtain⟨z,y,vs,r,ob,es,ep,e,c⟩:=x;exact⟨z,y,vs,r,ob,es,ep,k _ _ (.inl rfl) e,c⟩
 |dT kvs=>
  obtain⟨z,y,xs,r,ob,es,ep,e,c⟩:=x
  exact⟨z,y,xs,Paired.mapP r λp q z=>⟨z.1,ht _ _ z.2.1,z.2.2⟩,ob,es,ep,k _ _ (.inl rfl) e,c⟩
 |set S n=>obtain⟨ob,es,ep,t,e,c⟩:=x;exact⟨ob,es,ep,t,k _ _ (.inl rfl) e,c⟩
 |ins C dx fs=>
  obtain⟨d,z,ne,e,mA,⟨od,es,ep,e2,c⟩,r⟩:=x
  exact⟨ho _ d,z,ne,k _ _ (.inl rfl) e,mA,⟨od,es,ep,k _ _ (.inr d) e2,c⟩,r⟩
 |own y=>obtain⟨ob,e⟩:=x;exact⟨ob,k _ _ (.inl rfl) e⟩
 |xd fs=>obtain⟨mA,⟨od,es,ep,e,c⟩,r⟩:=x;exact⟨mA,⟨od,es,ep,k _ _ (.inl rfl) e,c⟩,r⟩
 |bN lo hi=>obtain⟨t,u,v,e⟩:=x;exact⟨t,u,v,k _ _ (.inl rfl) e⟩
 |aW ob u ih=>obtain⟨e,q⟩:=x;exact⟨k _ _ (.inl rfl) e,ih q⟩
 |tbl ps=>
  have e:h.get? a=some {cls:=.none,data:=.fields ps}:=x
  show h'.get? a=some {cls:=.none,data:=.fields ps}
  exact k a _ (.inl rfl) e
 |met f y=>
  have e:h.get? a=some (PySem.W.methodObj (.ref f) (.ref y)):=x
  show h'.get? a=some (PySem.W.methodObj (.ref f) (.ref y))
  exact k a _ (.inl rfl) e
 |ext φ=>obtain⟨p,⟨o,e⟩,st⟩:=x;exact⟨st _ _ p λo q=>k _ _ (.inl rfl) q,⟨o,k _ _ (.inl rfl) e⟩,st⟩
def og.lt (x:og P w H h)(e:H a=some o):a < h.objs.size:=(x a o e).lt
theorem og.fresh (x:og P w H h)(e:h.objs.size<=a):H a=none:=by
 cases q:H a with
 |none=>rfl
 |some u=>exact absurd (Pj (x.lt q) e) (Pf _)
def og.kept (x:og P w H h)(k:∀b u,h.get? b=some u->h'.get? b=some u):og P w H h':=λa o e=>
 (x a o e).stay (λb u _ q=>k b u q) (λ_ q=>q) λ_ _ q=>q
def og.laid (x:og P w H h)(k:∀b u,h.get? b=some u->h'.get? b=some u)(hp:h.objs.size<=a)(new:dA P w (upd H a o) h' a o):og P w (upd H a o) h':=λb u e=>by
 have hn:=x.fresh hp
 by_cases hb:b=a
 ·subst hb;rw[aB] at e;cases e;exact new
 ·rw[ay hb] at e
  exact (x b u e).stay (λc v _ q=>k c v q) (λc q=>by rw[ay (aN q hn)];exact q) λc xs q=>q.imp (λq=>by rw[ay (aN q hn)];exact q) λ⟨o,q⟩=>⟨o,by rw[ay (aN q hn)];exact q⟩
end
def Rd (H:Hp)(a:Addr)(u:HO):Prop:=H a=some u\/∃o,H a=some (.aW o u)
def Rd.of {H:Hp}{a:Addr}{u:HO}(h:H a=some u):Rd H a u:=.inl h
def Rd.ok {P:Program}{w:World}{H:Hp}{h:Heap}{a:Addr}{u:HO}(r:Rd H a u)(x:og P w H h):dA P w H h a u:=by
 rcases r with r | ⟨o,r⟩
 ·exact x a u r
 ·obtain⟨_,q⟩:=x a _ r
  exact q
def Mv:Option HO->Prop
 |some (.lst _)=>True
 |some (.dK _)=>True
 |some (.dT _)=>True
 |some (.set _ _)=>True
 |some (.ins _ _ _)=>True
 |some (.ext _)=>True
 |_=>False
section
variable {P:Program}{w:World}{H:Hp}{h h':Heap}{x e:Addr}{o':HO}
def og.write (ok:og P w H h)(mu:Mv (H x))(he:e=x\/H e=some (.own x))(k:∀b u,b≠e->h.get? b=some u->h'.get? b=some u)(heo:∃u,h'.get? e=some u)
  (new:dA P w (upd H x o') h' x o'):og P w (upd H x o') h':=λb u q=>by
 have nown:∀c y,H c=some (.own y)->c≠x:=λc y r z=>by subst z;rw[r] at mu;exact mu
 have ntup:∀c xs,H c=some (.tup xs)->c≠x:=λc xs r z=>by subst z;rw[r] at mu;exact mu
 by_cases hb:b=x
 ·subst hb;rw[aB] at q;cases q;exact new
 ·rw[ay hb] at q
  by_cases hbe:b=e
  ·have q':H b=some (.own x):=by
    rcases he with z |z
    ·exact absurd (hbe.trans z) hb
    ·rw[hbe];exact z
   rw[q] at q';cases q'
   obtain⟨v,hv⟩:=heo
   exact⟨v,by rw[hbe];exact hv⟩
  ·refine (ok b u q).stay (λc v hc r=>k c v ?_ r) (λc r=>by rw[ay (nown c b r)];exact r) λc xs r=>r.imp (λr=>by rw[ay (ntup c xs r)];exact r) λ⟨o,r⟩=>⟨o,by rw[ay (λz=>by subst z;rw[r] at mu;exact mu)];exact r⟩
   rcases hc with rfl |hc
   ·exact hbe
   ·rintro rfl
    rcases he with z |z
    ·exact nown c b hc z
    ·rw[hc] at z;cases z;exact hb rfl
end
structure Un (fs ex:List Addr)(H H':Hp)(h h':Heap):Prop where
 keep:∀b o,h.get? b=some o->H b=none->b∉fs->b∉ex->h'.get? b=some o
 slot:∀b o,h.get? b=some o->H b=none->b∈fs->b∉ex->∃sl,h'.get? b=some {o with slots:=sl}
 free:∀b o,h.get? b=some o->H b=none->b∉ex->H' b=none
 there:∀b o,h.get? b=some o->b∉ex->∃o',h'.get? b=some o'
 tups:∀b xs,H b=some (.tup xs)->H' b=some (.tup xs)
 frzs:∀b o u,H b=some (.aW o u)->H' b=some (.aW o u)
 tbls:∀b ps,H b=some (.tbl ps)->∃more,H' b=some (.tbl (ps ++ more))
section
variable {fs fs' ex ex':List Addr}{H H1 H2:Hp}{h h1 h2 h':Heap}{a x e:Addr}{o:HO}
def Un.any (u:Un fs ex H H1 h h1){b:Addr}{ob:Obj}(q:h.get? b=some ob)(n:H b=none)(hx:b∉ex):∃sl,h1.get? b=some {ob with slots:=sl}:=by
 by_cases hb:b∈fs
 ·exact u.slot b ob q n hb hx
 ·exact⟨ob.slots,u.keep b ob q n hb hx⟩
def Un.kept (k:∀b u,h.get? b=some u->h'.get? b=some u):Un fs ex H H h h':=
 ⟨λb ob q _ _ _=>k b ob q,λb ob q _ _ _=>⟨ob.slots,k b ob q⟩,λ_ _ _ n _=>n,λb ob q _=>⟨ob,k b ob q⟩,λ_ _ q=>q,λ_ _ _ q=>q,λ_ ps q=>⟨#[],by rw[q];simp⟩⟩
def Un.refl:Un fs ex H H h h:=Un.kept λ_ _ q=>q
def Un.laid (k:∀b u,h.get? b=some u->h'.get? b=some u)(hp:h.objs.size<=a)(hn:H a=none):Un fs ex H (upd H a o) h h' where
 keep:=λb u q _ _ _=>k b u q
 slot:=λb u q _ _ _=>⟨u.slots,k b u q⟩
 free:=λb u q n _=>by rw[ay (Py (Pj (OS q) hp))];exact n
 there:=λb u q _=>⟨u,k b u q⟩
 tups:=λb xs q=>by rw[ay (aN q hn)];exact q
 frzs:=λb u xs q=>by rw[ay (aN q hn)];exact q
 tbls:=λb ps q=>⟨#[],by rw[ay (aN q hn),q];simp⟩
def Un.write (mu:Mv (H x))(he:e=x\/H e=some (.own x))(k:∀b u,b≠e->h.get? b=some u->h'.get? b=some u)(heo:∃u,h'.get? e=some u):Un fs ex H (upd H x o) h h':=by
 have hx:∀b,H b=none->b≠x:=λb n z=>by subst z;rw[n] at mu;exact mu
 have hb:∀b,H b=none->b≠e:=λb n z=>by
  subst z
  rcases he with r |r
  ·exact hx b n r
  ·rw[n] at r;cases r
 have hm:∀b u,H b=some u->¬Mv (some u)->b≠x:=λb u q nm z=>by subst z;rw[q] at mu;exact nm mu
 refine⟨λb u q n _ _=>k b u (hb b n) q,λb u q n _ _=>⟨u.slots,k b u (hb b n) q⟩,λb u q n _=>by rw[ay (hx b n)];exact n,λb u q _=>?_,
  λb xs q=>by rw[ay (hm b _ q λz=>z)];exact q,λb u xs q=>by rw[ay (hm b _ q λz=>z)];exact q,λb ps q=>⟨#[],by rw[ay (hm b _ q λz=>z),q];simp⟩⟩
 by_cases hbe:b=e
 ·subst hbe;exact heo
 ·exact⟨u,k b u hbe q⟩
end
def Ms (h:Heap)(H:Hp):List Addr:=(List.range h.objs.size).filter λa=>(H a).isSome
def sE (h:Heap)(H:Hp):Heap:=PySem.W.hideAll h (Ms h H)
def Bj (h:Heap)(H:Hp):(sE h H).objs.size=h.objs.size:=PySem.W.hideAll_size _ _
def Ek {h:Heap}{H:Hp}{b:Addr}{o:Obj}(e:h.get? b=some o)(n:H b=none):(sE h H).get? b=some o:=
 PySem.W.hideAll_get _ e λhm=>by
  have q:(H b).isSome=true:=(OJ.mp hm).2
  rw[n] at q;simp at q
theorem Fb {h:Heap}{H:Hp}{b:Addr}{o:Obj}(e:(sE h H).get? b=some o):h.get? b=some o/\H b=none:=by
 have e':h.get? b=some o:=PySem.W.of_hideAll (Ms h H) e
 refine⟨e',?_⟩
 cases q:H b with
 |none=>rfl
 |some x=>
  have hm:b∈Ms h H:=OJ.mpr ⟨Pp.mpr (OS e'),by simp[q]⟩
  have z:(sE h H).get? b=none:=PySem.W.hideAll_none (Ms h H) hm
  rw[z] at e;cases e
def Hd (g h:Heap)(L:Addr):@C_:=(List.range h.objs.size).filterMap λa=>if a=L\/(g.get? a).isSome=true then none else (h.get? a).map λo=>(a,o)
def rest (g h:Heap)(L d:Addr):@C_:=(Hd g h L).filter λp=>decide (p.1≠d)
structure Mod (K:Frag)(mg:@FS)(base:Heap):Prop where
 kin:K.In base
 glob:base.Ns mainGlobals mg
 blt:∃mb,base.Ns builtinsNs mb/\∀x:Str,x≠"__name__"->mb x=bootBuiltins x
 nolimit:base.NoLimit
 sys:∃mm,base.Ns sysModules mm
structure Cx where
 prog:Program
 w:World
 K:Frag
 mg:@FS
 base:Heap
 A:Around
 N:@IN
 s₀:Shared
 H₀:Hp
 env:Env
 outer:List Env
 stack:List Env
 ex:List Addr
 fn:Str->Bool
 calm:Bool
 pn:@C_
 xe:@Ev
def nQ (l:List Env):List Addr:=l.filterMap (·.frame)
abbrev Cx.fs (X:Cx):List Addr:=nQ X.outer
def An (sc:Scope)(x:Str):Prop:=sc.names.lookup x=some .local\/sc.names.lookup x=some .cell\/sc.names.lookup x=some .free
def Loc (sc:Scope)(x:Str):Prop:=sc.names.lookup x=some .local\/sc.names.lookup x=some .cell
def Look (env:Env)(h:Heap)(m:@FS)(x:Str)(u:Value):Prop:=
 (env.kindOf x=some .local/\m x=some u)\/((env.kindOf x=some .cell\/env.kindOf x=some .free)/\∃c,env.cells.lookup x=some c/\h.IsCell c (some u))
structure Cx.Ok (X:Cx):Prop where
 mod:Mod X.K X.mg X.base
 kind:X.env.scope.kind=.function
 glob:X.env.globals=mainGlobals
 blt:X.env.builtins=builtinsNs
 above:X.s₀.heap.objs.size<=X.env.locals
 inj:∀x y c,X.env.cells.lookup x=some c->X.env.cells.lookup y=some c->x=y
 has:∀x,(X.env.kindOf x=some .cell\/X.env.kindOf x=some .free)->∃c,X.env.cells.lookup x=some c
 cab:∀x c,X.fn x=true->X.env.cells.lookup x=some c->X.s₀.heap.objs.size<=c
 hd:X.calm=true->X.A.handled=none
 frames:X.A.frames=some X.stack
 stk:X.stack=X.outer\/(X.stack=X.env :: X.outer/\X.env.frame=some X.env.locals)
 exf:∀b∈X.ex,b≠X.env.locals/\∀x c,X.env.cells.lookup x=some c->c≠b
 bs:∀b o,X.base.get? b=some o->X.s₀.heap.get? b=some o/\X.H₀ b=none
 bsz:X.base.objs.size<=X.s₀.heap.objs.size
 noex:∀b o,X.base.get? b=some o->b∉X.ex
 exfs:∀b∈X.ex,b∉X.fs
 funs:X.s₀.heap.FunFrames X.base X.outer
 frf:∀b∈X.fs,X.H₀ b=none
structure Inv (X:Cx)(pins:@C_)(σ:List (Option V))(H:Hp)(s:Shared):Prop where
 ok:X.Ok
 os:s.os=X.s₀.os
 bare:AllBare s.gens
 base:Un X.fs X.ex X.H₀ H X.s₀.heap s.heap
 loc:∃m,s.heap.Ns X.env.locals m/\∀(i:Nat) (x:Str) (v:V),X.N[i]? =some x->σ[i]? =some (some v)->An X.env.scope x->∃u,RelV v u/\Look X.env s.heap m x u
 cell:∀x c,X.env.cells.lookup x=some c->∃v,s.heap.IsCell c v
 free:H X.env.locals=none
 freeC:∀x c,X.env.cells.lookup x=some c->H c=none
 pin:∀p∈X.pn ++ pins,s.heap.get? p.1=some p.2/\H p.1=none/\p.1≠X.env.locals/\p.1∉X.fs/\∀v,p.2.data≠.cell v
 hok:og X.prog X.w H s.heap
 len:σ.length=X.N.length
section
variable {X:Cx}{pins:@C_}{σ:List (Option V)}{H H':Hp}{s:Shared}{h':Heap}
def Cx.Ok.nofr (ok:X.Ok){b:Addr}{o:Obj}(e:X.base.get? b=some o):b∉X.fs:=λhb=>by
 have:=(ok.funs.mem hb).1
 rw[e] at this;cases this
def Inv.bs (I:@B_):∀b o,X.base.get? b=some o->s.heap.get? b=some o/\H b=none:=λb o e=>
 ⟨I.base.keep b o (I.ok.bs b o e).1 (I.ok.bs b o e).2 (I.ok.nofr e) (I.ok.noex b o e),I.base.free b o (I.ok.bs b o e).1 (I.ok.bs b o e).2 (I.ok.noex b o e)⟩
def Inv.bk (I:@B_):∀b o,X.base.get? b=some o->s.heap.get? b=some o:=λb o e=>(I.bs b o e).1
def Inv.mod (I:@B_):Mod X.K X.mg X.base:=I.ok.mod
def Inv.kIn (I:@B_):X.K.In s.heap:=I.ok.mod.kin.keeps I.bk
def Inv.lt (I:@B_):X.env.locals < s.heap.objs.size:=let ⟨_,hn,_⟩:=I.loc;hn.lt
def Inv.sz (I:@B_):X.s₀.heap.objs.size<=s.heap.objs.size:=PB I.ok.above (Qz I.lt)
def Inv.nofs (I:@B_){a:Addr}(h:s.heap.objs.size<=a):a∉X.fs:=λhb=>by
 obtain⟨_,o,ho,_⟩:=I.ok.funs.mem hb
 exact absurd (Pj (OS ho) (PB I.sz h)) (Pf _)
def Inv.cne (I:@B_):∀x c,X.env.cells.lookup x=some c->c≠X.env.locals:=λx c e z=>by
 obtain⟨v,o,ho,hd⟩:=I.cell x c e
 obtain⟨m,⟨o',es,ep,ho',hd',_⟩,_⟩:=I.loc
 rw[z,ho'] at ho;cases ho;rw[hd'] at hd;cases hd
def Inv.funs (I:@B_):s.heap.FunFrames X.base X.outer:=by
 have all:∀(l:List Env),(∀b∈nQ l,b∈X.fs)->X.s₀.heap.FunFrames X.base l->s.heap.FunFrames X.base l:=by
  intro l
  induction l with
  |nil=>intro _ _;trivial
  |cons env r ih=>
   intro hs hl
   obtain⟨hk,⟨L,o,hf,hn,ho,hd⟩,hr⟩:=hl
   have hL:L∈X.fs:=hs L (by unfold nQ;rw[PY,hf];exact ON)
   obtain⟨sl,e⟩:=I.base.slot L o ho (I.ok.frf L hL) hL λz=>I.ok.exfs L z hL
   exact⟨hk,⟨L,_,hf,hn,e,hd⟩,ih (λb hb=>hs b (by unfold nQ;rw[PY,hf];exact OQ _ hb)) hr⟩
 exact all X.outer (λ_ hb=>hb) I.ok.funs
def Inv.stack (I:@B_):s.heap.FunFrames X.base X.stack:=by
 rcases I.ok.stk with e | ⟨e,hf⟩
 ·rw[e];exact I.funs
 ·rw[e]
  obtain⟨m,hn,_⟩:=I.loc
  refine .cons (by rw[I.ok.kind];decide) hf hn ?_ I.funs
  exact Heap.get?_none_of_le (PB I.ok.bsz I.ok.above)
def Inv.stkSub (I:@B_):∀b∈nQ X.stack,b∈X.env.locals :: X.fs:=λb hb=>by
 rcases I.ok.stk with e | ⟨e,hf⟩
 ·rw[e] at hb;exact OQ _ hb
 ·rw[e] at hb
  unfold nQ at hb
  rw[PY,hf] at hb
  exact hb
def Inv.stkFree (I:@B_):∀b∈nQ X.stack,H b=none:=λb hb=>by
 rcases OK.mp (I.stkSub b hb) with e |hb
 ·rw[e];exact I.free
 ·obtain⟨_,o,ho,_⟩:=I.ok.funs.mem hb
  exact I.base.free b o ho (I.ok.frf b hb) λz=>I.ok.exfs b z hb
def Inv.step {g':Array GenState}{t':Nat}{d':Drawn}{ch:List Addr}(I:@B_)
  (hch:∀b∈ch,(b∈X.ex\/X.s₀.heap.objs.size<=b)/\b≠X.env.locals/\(∀x c,X.env.cells.lookup x=some c->c≠b)/\∀p∈X.pn ++ pins,p.1≠b)
  (keep:∀b o,b≠X.env.locals->b∉X.fs->b∉ch->s.heap.get? b=some o->H b=none->h'.get? b=some o)
  (slot:∀b o,b≠X.env.locals->b∈X.fs->b∉ch->s.heap.get? b=some o->H b=none->∃sl,h'.get? b=some {o with slots:=sl}) (free:∀b o,b∉ch->s.heap.get? b=some o->H b=none->H' b=none)
  (there:∀b o,b∉ch->s.heap.get? b=some o->∃o',h'.get? b=some o')
  (tups:∀b xs,H b=some (.tup xs)->H' b=some (.tup xs)) (frzs:∀b o u,H b=some (.aW o u)->H' b=some (.aW o u)) (tbls:∀b ps,H b=some (.tbl ps)->∃more,H' b=some (.tbl (ps ++ more)))
  (ns:∀m,s.heap.Ns X.env.locals m->h'.Ns X.env.locals m) (hok:og X.prog X.w H' h') (hg:AllBare g') :
  Inv X pins σ H' {s with heap:=h',gens:=g',drawn:=d',toks:=t'}:=by
 have neL:∀b o,X.s₀.heap.get? b=some o->b≠X.env.locals:=λb o e=>Py (Pj (OS e) I.ok.above)
 have neC:∀b o,X.s₀.heap.get? b=some o->b∉X.ex->b∉ch:=λb o e hx hb=>by
  rcases (hch b hb).1 with z |z
  ·exact hx z
  ·exact absurd (Pj (OS e) z) (Pf _)
 have cellK:∀x c,X.env.cells.lookup x=some c->∀v,s.heap.IsCell c v->h'.IsCell c v:=λx c e v ⟨o,ho,hd⟩=>by
  have nch:c∉ch:=λz=>(hch c z).2.2.1 x c e rfl
  by_cases hc:c∈X.fs
  ·obtain⟨sl,q⟩:=slot c o (I.cne x c e) hc nch ho (I.freeC x c e)
   exact⟨_,q,hd⟩
  ·exact⟨o,keep c o (I.cne x c e) hc nch ho (I.freeC x c e),hd⟩
 refine⟨I.ok,I.os,hg,⟨λb o e n hb hx=>?_,λb o e n hb hx=>?_,λb o e n hx=>?_,λb o e hx=>?_,λb xs e=>tups b xs (I.base.tups b xs e),λb o xs e=>frzs b o xs (I.base.frzs b o xs e),λb ps e=>?_⟩,?_,λx c e=>?_,?_,λx c e=>?_,λp hp=>?_,hok,I.len⟩
 ·exact keep b o (neL b o e) hb (neC b o e hx) (I.base.keep b o e n hb hx) (I.base.free b o e n hx)
 ·obtain⟨sl,e1⟩:=I.base.slot b o e n hb hx
  obtain⟨sl',e2⟩:=slot b _ (neL b o e) hb (neC b o e hx) e1 (I.base.free b o e n hx)
  exact⟨sl',e2⟩
 ·obtain⟨o',e1⟩:=I.base.there b o e hx
  exact free b o' (neC b o e hx) e1 (I.base.free b o e n hx)
 ·obtain⟨o',e1⟩:=I.base.there b o e hx
  exact there b o' (neC b o e hx) e1
 ·obtain⟨m1,e1⟩:=I.base.tbls b ps e
  obtain⟨m2,e2⟩:=tbls b _ e1
  exact⟨m1 ++ m2,by rw[e2,Array.append_assoc]⟩
 ·obtain⟨m,hn,hl⟩:=I.loc
  refine⟨m,ns m hn,λi x v e1 e2 e3=>?_⟩
  obtain⟨u,r,l⟩:=hl i x v e1 e2 e3
  refine⟨u,r,?_⟩
  rcases l with l | ⟨k,c,e,z⟩
  ·exact .inl l
  ·exact .inr ⟨k,c,e,cellK x c e _ z⟩
 ·obtain⟨v,z⟩:=I.cell x c e
  exact⟨v,cellK x c e v z⟩
 ·obtain⟨m,⟨o,_,_,ho,_⟩,_⟩:=I.loc
  exact free _ o (λz=>(hch _ z).2.1 rfl) ho I.free
 ·obtain⟨v,o,ho,hd⟩:=I.cell x c e
  exact free c o (λz=>(hch c z).2.2.1 x c e rfl) ho (I.freeC x c e)
 ·obtain⟨e,n,ne,nf,d⟩:=I.pin p hp
  have nch:p.1∉ch:=λz=>(hch p.1 z).2.2.2 p hp rfl
  exact⟨keep p.1 p.2 ne nf nch e n,free p.1 p.2 nch e n,ne,nf,d⟩
def Inv.un {t':Nat}(I:@B_)(u:Un X.fs [] H H' s.heap h')(hok:og X.prog X.w H' h'):Inv X pins σ H' {s with heap:=h',toks:=t'}:=by
 obtain⟨m,⟨o,es,ep,ho,r⟩,_⟩:=id I.loc
 obtain⟨sl,hL⟩:=u.any ho I.free (by simp)
 exact I.step (g':=s.gens) (d':=s.drawn) (ch:=[]) (λ_ z=>nomatch z) (λb o _ hb _ e n=>u.keep b o e n hb (by simp)) (λb o _ hb _ e n=>u.slot b o e n hb (by simp)) (λb o _ e n=>u.free b o e n (by simp)) (λb o _ e=>u.there b o e (by simp)) u.tups u.frzs u.tbls (λm' hm=>by
  obtain⟨o',es',ep',ho',r'⟩:=hm
  rw[ho] at ho';cases ho'
  exact⟨_,es',ep',hL,r'⟩) hok I.bare
def Inv.call {g':Array GenState}{t':Nat}{d':Drawn}{ch:List Addr}(I:@B_)(u:Un (nQ X.stack) ch H H' s.heap h')(hok:og X.prog X.w H' h')(hg:AllBare g')
  (hch:∀b∈ch,(b∈X.ex\/X.s₀.heap.objs.size<=b)/\b≠X.env.locals/\(∀x c,X.env.cells.lookup x=some c->c≠b)/\∀p∈X.pn ++ pins,p.1≠b) :
  Inv X pins σ H' {s with heap:=h',gens:=g',drawn:=d',toks:=t'}:=by
 obtain⟨m,⟨o,es,ep,ho,r⟩,_⟩:=id I.loc
 obtain⟨sl,hL⟩:=u.any ho I.free λz=>(hch _ z).2.1 rfl
 exact I.step (ch:=ch) hch (λb o hL hb hc e n=>u.keep b o e n (λz=>(OK.mp (I.stkSub b z)).elim hL hb) hc) (λb o _ _ hc e n=>u.any e n hc) (λb o hc e n=>u.free b o e n hc) (λb o hc e=>u.there b o e hc) u.tups u.frzs u.tbls (λm' hm=>by
  obtain⟨o',es',ep',ho',r'⟩:=hm
  rw[ho] at ho';cases ho'
  exact⟨_,es',ep',hL,r'⟩) hok hg
def Inv.turned {t':Nat}{it:Addr}(I:@B_)(k:∀b o,b≠it->s.heap.get? b=some o->h'.get? b=some o)(hn:H it=none)(hL:it≠X.env.locals)
  (h1:it∈X.ex\/X.s₀.heap.objs.size<=it) (h2:∀x c,X.env.cells.lookup x=some c->c≠it) (h3:∀p∈X.pn ++ pins,p.1≠it):Inv X pins σ H {s with heap:=h',toks:=t'}:=by
 have nit:∀b u,H b=some u->b≠it:=λb u e z=>by rw[z,hn] at e;cases e
 refine I.step (g':=s.gens) (d':=s.drawn) (ch:=[it]) (λb hb=>?_) (λb o _ _ hc e _=>k b o (λz=>hc (by simp[z])) e) (λb o _ _ hc e _=>⟨o.slots,k b o (λz=>hc (by simp[z])) e⟩) (λ_ _ _ _ n=>n)
  (λb o hc e=>⟨o,k b o (λz=>hc (by simp[z])) e⟩) (λ_ _ e=>e) (λ_ _ _ e=>e) (λb ps e=>⟨#[],by rw[e];simp⟩) (λm hm=>?_) (λb u e=>?_) I.bare
 ·have e:b=it:=by simpa using hb
  subst e
  exact⟨h1,hL,h2,h3⟩
 ·obtain⟨o,es,ep,ho,r⟩:=hm
  exact⟨o,es,ep,k _ o (Ne.symm hL) ho,r⟩
 ·refine (I.hok b u e).stay (λc v hc q=>k c v ?_ q) (λ_ q=>q) λ_ _ q=>q
  rcases hc with z |z
  ·rw[z];exact nit b u e
  ·exact nit c _ z
def Inv.tok (I:@B_)(t:Nat):Inv X pins σ H {s with toks:=t}:=I.un (h':=s.heap) (t':=t) Un.refl I.hok
def Inv.kept {t':Nat}(I:@B_)(k:∀b u,s.heap.get? b=some u->h'.get? b=some u):Inv X pins σ H {s with heap:=h',toks:=t'}:=I.un (Un.kept k) (I.hok.kept k)
def Inv.laid {a:Addr}{o:HO}{t':Nat}(I:@B_)(k:∀b u,s.heap.get? b=some u->h'.get? b=some u)(hp:s.heap.objs.size<=a)(new:dA X.prog X.w (upd H a o) h' a o) :
  Inv X pins σ (upd H a o) {s with heap:=h',toks:=t'}:=I.un (Un.laid k hp (I.hok.fresh hp)) (I.hok.laid k hp new)
def Inv.write {x e:Addr}{o:HO}{t':Nat}(I:@B_)(mu:Mv (H x))(he:e=x\/H e=some (.own x))(k:∀b u,b≠e->s.heap.get? b=some u->h'.get? b=some u)(heo:∃u,h'.get? e=some u)
  (new:dA X.prog X.w (upd H x o) h' x o):Inv X pins σ (upd H x o) {s with heap:=h',toks:=t'}:=I.un (Un.write mu he k heo) (I.hok.write mu he k heo new)
def Inv.pins_of {pins':@C_}(I:@B_)(h:∀p∈pins',s.heap.get? p.1=some p.2/\H p.1=none/\p.1≠X.env.locals/\p.1∉X.fs/\∀v,p.2.data≠.cell v):Inv X pins' σ H s:=
 ⟨I.ok,I.os,I.bare,I.base,I.loc,I.cell,I.free,I.freeC,λp hp=>(OT.mp hp).elim (λz=>I.pin p (Qr _ z)) (h p),I.hok,I.len⟩
def w8 {N:@IN}(hN:N.Nodup){i j:Nat}{x:Str}(a:N[i]? =some x)(b:N[j]? =some x):i=j:=by
 obtain⟨h1,e1⟩:=OO.mp a
 obtain⟨h2,e2⟩:=OO.mp b
 exact (List.getElem_inj hN).mp (e1.trans e2.symm)
def uc {M:Model}{A:Around}{E:@Ev}{i:Nat}{x:Str}{v:V}{u:Value}{Q:Unit->Shared->Prop}(I:@B_)(hN:X.N.Nodup)(hi:X.N[i]? =some x)(hx:Loc X.env.scope x)(r:RelV v u)
  (h:∀s',Inv X pins (σ.set i (some v)) H s'->(∃a,Heap.SameBut a s.heap s'.heap/\(a=X.env.locals\/X.env.cells.lookup x=some a))->Q () s') (hf:X.fn x=true\/X.env.scope.names.lookup x=some .local:=by first |exact .inl rfl |exact .inr rfl |assumption):wpAny M A (storeName X.env x u) Q E s:=by
 obtain⟨m,hn,hl⟩:=id I.loc
 have hcls:(X.env.scope.kind == .class || (X.env.scope.kind == .module && X.env.locals != X.env.globals))=false:=by rw[I.ok.kind];rfl
 have hiσ:i < σ.length:=by rw[I.len];exact (OO.mp hi).1
 have cne:=I.cne
 have tracked:∀{a:Addr} {h':Heap},(∃o,s.heap.get? a=some o/\H a=none)->Heap.SameBut a s.heap h'->og X.prog X.w H h':=λ{a h'} ha hs b ob e=>by
  obtain⟨_,_,hfree⟩:=ha
  refine (I.hok b ob e).stay (λc w' hc q=>(hs.2 c ?_).trans q) (λ_ q=>q) λ_ _ q=>q
  rintro rfl
  rcases hc with rfl |hc
  ·rw[hfree] at e;cases e
  ·rw[hfree] at hc;cases hc
 rcases hx with hk |hk
 ·refine wpAny_storeName_local hk hn (λh' hn' hs=>?_) hcls
  obtain⟨oL,_,_,hoL,_⟩:=id hn
  refine h _ ⟨I.ok,I.os,I.bare,⟨λb o e n hb hx=>?_,λb o e n hb hx=>?_,I.base.free,λb o e hx=>?_,I.base.tups,I.base.frzs,I.base.tbls⟩,⟨_,hn',λj y v' e1 e2 e3=>?_⟩,λy c e=>?_,I.free,I.freeC,λp hp=>?_,tracked ⟨oL,hoL,I.free⟩ hs,by simpa using I.len⟩ ⟨_,hs,.inl rfl⟩
  ·exact (hs.2 b (Py (Pj (OS e) I.ok.above))).trans (I.base.keep b o e n hb hx)
  ·obtain⟨sl,e1⟩:=I.base.slot b o e n hb hx
   exact⟨sl,(hs.2 b (Py (Pj (OS e) I.ok.above))).trans e1⟩
  ·obtain⟨o',e1⟩:=I.base.there b o e hx
   exact⟨o',(hs.2 b (Py (Pj (OS e) I.ok.above))).trans e1⟩
  ·by_cases hj:j=i
   ·subst hj
    rw[hi] at e1;cases e1
    rw[O6 hiσ] at e2
    cases e2
    exact⟨u,r,.inl ⟨hk,by simp⟩⟩
   ·rw[O2 (Ne.symm hj)] at e2
    obtain⟨u',r',q⟩:=hl j y v' e1 e2 e3
    refine⟨u',r',?_⟩
    rcases q with⟨k,e⟩ | ⟨k,c,e,z⟩
    ·refine .inl ⟨k,?_⟩
     have:y≠x:=λe=>hj (w8 hN e1 (e▸hi))
     simp[this,e]
    ·exact .inr ⟨k,c,e,z.sameBut hs (cne y c e)⟩
  ·obtain⟨w',z⟩:=I.cell y c e
   exact⟨w',z.sameBut hs (cne y c e)⟩
  ·obtain⟨e,n,ne,nf,d⟩:=I.pin p hp
   exact⟨(hs.2 p.1 ne).trans e,n,ne,nf,d⟩
 ·have hfn:X.fn x=true:=by
   rcases hf with z |z
   ·exact z
   ·rw[z] at hk;cases hk
  obtain⟨c,hc⟩:=I.ok.has x (.inl hk)
  obtain⟨w',z⟩:=I.cell x c hc
  refine wpAny_storeName_cell I.ok.kind hk hc z (λh' hc' hs=>?_)
  obtain⟨oc,hoc,hocd⟩:=id z
  refine h {s with heap:=h'} ⟨I.ok,I.os,I.bare,⟨λb o e n hb hx=>?_,λb o e n hb hx=>?_,I.base.free,λb o e hx=>?_,I.base.tups,I.base.frzs,I.base.tbls⟩,⟨m,hn.sameBut hs (Ne.symm (cne x c hc)),λj y v' e1 e2 e3=>?_⟩,λy c' e=>?_,I.free,I.freeC,λp hp=>?_,tracked ⟨oc,hoc,I.freeC x c hc⟩ hs,by simpa using I.len⟩ ⟨c,hs,.inr hc⟩
  ·exact (hs.2 b (Py (Pj (OS e) (I.ok.cab x c hfn hc)))).trans (I.base.keep b o e n hb hx)
  ·obtain⟨sl,e1⟩:=I.base.slot b o e n hb hx
   exact⟨sl,(hs.2 b (Py (Pj (OS e) (I.ok.cab x c hfn hc)))).trans e1⟩
  ·obtain⟨o',e1⟩:=I.base.there b o e hx
   exact⟨o',(hs.2 b (Py (Pj (OS e) (I.ok.cab x c hfn hc)))).trans e1⟩
  ·by_cases hj:j=i
   ·subst hj
    rw[hi] at e1;cases e1
    rw[O6 hiσ] at e2
    cases e2
    exact⟨u,r,.inr ⟨.inl hk,c,hc,hc'⟩⟩
   ·rw[O2 (Ne.symm hj)] at e2
    obtain⟨u',r',q⟩:=hl j y v' e1 e2 e3
    refine⟨u',r',?_⟩
    rcases q with q | ⟨k,c',e,z'⟩
    ·exact .inl q
    ·refine .inr ⟨k,c',e,z'.sameBut hs ?_⟩
     rintro rfl
     exact hj (w8 hN e1 (I.ok.inj _ _ _ e hc▸hi))
  ·by_cases hcc:c'=c
   ·subst hcc;exact⟨_,hc'⟩
   ·obtain⟨w2,z2⟩:=I.cell y c' e
    exact⟨w2,z2.sameBut hs hcc⟩
  ·obtain⟨e,n,ne,nf,d⟩:=I.pin p hp
   refine⟨(hs.2 p.1 ?_).trans e,n,ne,nf,d⟩
   intro q
   rw[q,hoc] at e
   have q':oc=p.2:=Option.some.inj e
   exact d w' (by rw[<-q'];exact hocd)
def wV {M:Model}{A:Around}{E:@Ev}{i:Nat}{x:Str}{v:V}{u:Value}{Q:Unit->Shared->Prop}(I:@B_)(hN:X.N.Nodup)(hi:X.N[i]? =some x)(hx:Loc X.env.scope x)(r:RelV v u)
  (h:∀s',Inv X pins (σ.set i (some v)) H s'->Q () s') (hf:X.fn x=true\/X.env.scope.names.lookup x=some .local:=by first |exact .inl rfl |exact .inr rfl |assumption):wpAny M A (storeName X.env x u) Q E s:=
 uc I hN hi hx r (λs' I' _=>h s' I') hf
def Inv.call' {s':Shared}{ch:List Addr}(I:@B_)(ho:s'.os=s.os)(u:Un (nQ X.stack) ch H H' s.heap s'.heap)(hok:og X.prog X.w H' s'.heap)(hg:AllBare s'.gens)
  (hch:∀b∈ch,(b∈X.ex\/X.s₀.heap.objs.size<=b)/\b≠X.env.locals/\(∀x c,X.env.cells.lookup x=some c->c≠b)/\∀p∈X.pn ++ pins,p.1≠b):Inv X pins σ H' s':=by
 obtain⟨h',g',d',t',o'⟩:=s'
 have e:o'=s.os:=ho
 subst e
 exact I.call (g':=g') (t':=t') (d':=d') u hok hg hch
end
abbrev XK:=Value->@Is->Hp->Prop
abbrev St:=List (Option V)
abbrev VK:=V->Hp->Prop
abbrev TE:=St->Hp->VK->Prop
abbrev TT:=St->Hp->(Bool->Hp->Prop)->Prop
abbrev TA:=St->Hp->(List V->Hp->Prop)->Prop
structure Ends where
 nx:St->Hp->Prop
 rt:VK
 bk:St->Hp->Prop:=λ_ _=>False
 ct:St->Hp->Prop:=λ_ _=>False
abbrev TS:=Ends->St->Hp->Prop
def EP (X:Cx)(pins:@C_)(σ:St)(Q:VK)(u:Value)(s':Shared):Prop:=∃v H',Inv X pins σ H' s'/\RelV v u/\Q v H'
def TP (X:Cx)(pins:@C_)(σ:St)(Q:Bool->Hp->Prop)(b:Bool)(s':Shared):Prop:=∃H',Inv X pins σ H' s'/\Q b H'
def AP (X:Cx)(pins:@C_)(σ:St)(Q:List V->Hp->Prop)(us:@GT)(s':Shared):Prop:=∃vs H',Inv X pins σ H' s'/\Vals vs us/\Q vs H'
def SP (X:Cx)(pins:@C_)(D:Ends)(f:Flow)(s':Shared):Prop:=
 match f with
 | .next=>∃σ' H',Inv X pins σ' H' s'/\D.nx σ' H'
 | .brk=>∃σ' H',Inv X pins σ' H' s'/\D.bk σ' H'
 | .cont=>∃σ' H',Inv X pins σ' H' s'/\D.ct σ' H'
 | .ret u=>∃v σ' H',Inv X pins σ' H' s'/\RelV v u/\D.rt v H'
def PE (X:Cx)(e:Expr)(t:TE):Prop:=
 ∀(pins:@C_) (s:Shared) (σ:St) (H:Hp) (Q:VK),@B_->t σ H Q->wpAny @EQ X.A (eval e X.env) (EP X pins σ Q) X.xe s
def PT (X:Cx)(e:Expr)(t:TT):Prop:=
 ∀(pins:@C_) (s:Shared) (σ:St) (H:Hp) (Q:Bool->Hp->Prop),@B_->t σ H Q->wpAny @EQ X.A (isTrue e X.env (eval e X.env)) (TP X pins σ Q) X.xe s
def PW (X:Cx)(e:Expr)(t:TT):Prop:=
 ∀(whole:Sem Value) (pins:@C_) (s:Shared) (σ:St) (H:Hp) (Q:Bool->Hp->Prop),@B_->t σ H Q->wpAny @EQ X.A (isTrue e X.env whole) (TP X pins σ Q) X.xe s
def PW.pt {X:Cx}{e:Expr}{t:TT}(h:PW X e t):PT X e t:=h _
def PA (X:Cx)(es:List Expr)(t:TA):Prop:=
 ∀(pos:Pos) (pins:@C_) (s:Shared) (σ:St) (H:Hp) (Q:List V->Hp->Prop),@B_->t σ H Q->wpAny @EQ X.A (spliced (backTo pos (starEach es X.env))) (AP X pins σ Q) X.xe s
def PS (X:Cx)(st:Stmt)(t:TS):Prop:=
 ∀(pins:@C_) (s:Shared) (σ:St) (H:Hp) (D:Ends),@B_->t D σ H->wpAny @EQ X.A (exec st X.env) (SP X pins D) X.xe s
def sL (X:Cx)(st:List Stmt)(t:TS):Prop:=
 ∀(pins:@C_) (s:Shared) (σ:St) (H:Hp) (D:Ends),@B_->t D σ H->wpAny @EQ X.A (execs st X.env) (SP X pins D) X.xe s
def cI {α:Type}{t:Sem α}{Q Q':α->Shared->Prop}{M:Model}{A:Around}{E:@Ev}{s:Shared}(h:wpAny M A t Q E s)(hQ:∀a s,Q a s->Q' a s):wpAny M A t Q' E s:=P5 h hQ λ_ _ x=>x
section
variable {X:Cx}
def bin {a b:Expr}{ta tb:TE}(ha:PE X a ta)(hb:PE X b tb){pins:@C_}{s:Shared}{σ:St}{H:Hp}{R:V->V->Hp->Prop}(I:@B_)(h:ta σ H λx H1=>tb σ H1 λy H2=>R x y H2)
  {α:Type} {Q:α->Shared->Prop} {f:Value->Value->Sem α}
  (hf:∀v u s2 x y H2,Inv X pins σ H2 s2->RelV x v->RelV y u->R x y H2->wpAny @EQ X.A (f v u) Q X.xe s2) :
  wpAny @EQ X.A (eval a X.env) (λv s₁=>wpAny @EQ X.A (eval b X.env) (λu s₂=>wpAny @EQ X.A (f v u) Q X.xe s₂) X.xe s₁) X.xe s:=by
 refine cI (ha pins s σ H _ I h) λv s1 ⟨x,H1,I1,r1,q1⟩=>?_
 refine cI (hb pins s1 σ H1 _ I1 q1) λu s2 ⟨y,H2,I2,r2,q2⟩=>?_
 exact hf v u s2 x y H2 I2 r1 r2 q2
def Hl (i:Nat):TE:=λσ H Q=>∃v,σ[i]? =some (some v)/\Q v H
def tC (v:V):TE:=λ_ H Q=>Q v H
def km {i:Nat}{x:Str}{pos:Pos}(hN:X.N[i]? =some x)(hv:An X.env.scope x)(hd:@G_:=by decide)(hcd:(x == ("__classdict__":Str))=false:=by decide):PE X (.Name x pos) (Hl i):=by
 intro pins s σ H Q I h
 obtain⟨v,e,h⟩:=h
 obtain⟨m,hn,hl⟩:=I.loc
 obtain⟨u,r,l⟩:=hl i x v hN e hv
 have fin:EP X pins σ Q u s:=⟨v,H,I,r,h⟩
 rcases l with⟨hk,hm⟩ | ⟨hk,c,hc,hcell⟩
 ·exact wpAny_Name (wpAny_loadName_local I.ok.kind hk hn hm fin) hd
 ·rcases hk with hk |hk
  ·exact wpAny_Name (wpAny_loadName_cell I.ok.kind hk hc hcell fin) hd
  ·exact wpAny_Name (wpAny_loadName_free I.ok.kind hk hc hcell fin hcd) hd
def yd {i j pos}:PE X (.Constant (.int i) j pos) (tC (.int i)):=λ_ _ _ H _ I h=>wpAny_Constant_int ⟨.int i,H,I.tok _,⟨_,rfl⟩,h⟩
def Au {b j pos}:PE X (.Constant (.bool b) j pos) (tC (.bl b)):=λ_ _ _ H _ I h=>Constant_bool ⟨.bl b,H,I,rfl,h⟩
def Ji {x j pos}:PE X (.Constant (.str x) j pos) (tC (.str x)):=λ_ _ _ H _ I h=>Calls.Constant_str ⟨.str x,H,I.tok _,⟨_,rfl⟩,h⟩
def Gl (X:Cx)(x:Str):Prop:=X.env.kindOf x=some .globalImplicit
def AM {E:@Ev}{pins:@C_}{s:Shared}{σ:St}{H:Hp}{x:Str}{u:Value}{pos:Pos}{Q:@Ev}(I:@B_)(hg:Gl X x)(hm:X.mg x=some u)(h:Q u s)
  (hd:@G_:=by decide):wpAny @EQ X.A (eval (.Name x pos) X.env) Q E s:=
 Calls.Name_function_global I.ok.kind hg (Calls.loadGlobal_global (by rw[I.ok.glob];exact I.mod.glob.keeps I.bk) hm h) hd
def nN {E:@Ev}{pins:@C_}{s:Shared}{σ:St}{H:Hp}{x:Str}{u:Value}{pos:Pos}{Q:@Ev}(I:@B_)(hg:Gl X x)(hm:X.mg x=none)(hv:bootBuiltins x=some u)(h:Q u s)
  (hn:x≠"__name__":=by decide) (hd:@G_:=by decide):wpAny @EQ X.A (eval (.Name x pos) X.env) Q E s:=by
 obtain⟨mb,h1,h2⟩:=I.mod.blt
 exact Calls.Name_function_global I.ok.kind hg (Calls.loadGlobal_builtin (by rw[I.ok.glob];exact I.mod.glob.keeps I.bk) hm (by rw[I.ok.blt];exact h1.keeps I.bk) ((h2 x hn).trans hv) h) hd
def F0 {x:Str}{v:V}{u:Value}{pos:Pos}(hg:Gl X x)(hm:X.mg x=some u)(r:RelV v u)(hd:@G_:=by decide):PE X (.Name x pos) (tC v):=
 λ_ _ _ H _ I h=>AM I hg hm ⟨v,H,I,r,h⟩ hd
def Fw {x:Str}{v:V}{u:Value}{pos:Pos}(hg:Gl X x)(hm:X.mg x=none)(hv:bootBuiltins x=some u)(r:RelV v u)(hn:x≠"__name__":=by decide)(hd:@G_:=by decide):PE X (.Name x pos) (tC v):=
 λ_ _ _ H _ I h=>nN I hg hm hv ⟨v,H,I,r,h⟩ hn hd
variable {a b:Expr}{ta tb:TE}{pos:Pos}
def PC (X:Cx)(op:CmpOp)(a b:Expr)(t:TE):Prop:=
 ∀(pins:@C_) (s:Shared) (σ:St) (H:Hp) (Q:VK),@B_->t σ H Q->
  wpAny @EQ X.A (eval a X.env) (λv s₁=>wpAny @EQ X.A (eval b X.env) (λu s₂=>wpAny @EQ X.A (compareOp op v u) (EP X pins σ Q) X.xe s₂) X.xe s₁) X.xe s
def Co (b:Expr){op:CmpOp}(h:op≠.In)(h2:op≠.NotIn):behindInMarks op b=false:=by
 have e1:(op == CmpOp.In)=false:=by cases op <;> first |rfl |exact absurd rfl h
 have e2:(op == CmpOp.NotIn)=false:=by cases op <;> first |rfl |exact absurd rfl h2
 cases b <;> simp[behindInMarks,e1,e2]
def tB (t:TE):TT:=λσ H Q=>t σ H λx H1=>∃c,x=.bl c/\Q c H1
def NQ {op:CmpOp}{t:TE}(h:PC X op a b t)(h1:behindInMarks op b=false:=by first |exact Co _ @F_ @F_ |rfl):PT X (.Compare a [op] [b] pos) (tB t):=by
 intro pins s σ H Q I hw
 refine wpAny_isTrue_Compare1 (cI (h pins s σ H _ I hw) λv s1 h1=>cI h1 λu s2 h2=>cI h2 λc s3 ⟨x,H1,I1,r1,q1⟩=>?_) h1
 obtain⟨d,rfl,q⟩:=q1
 cases r1
 exact PQ ⟨H1,I1,q⟩
def zv {e:Expr}{t:TE}(h:PE X e t)(he:∀whole,isTrue e X.env whole=(do let v <-whole;standAt e.pos;holding [v] (truthy v)):=by intro _;rfl):PT X e (tB t):=by
 intro pins s σ H Q I hw
 refine isTrue_plain (cI (h pins s σ H _ I hw) λv s1 ⟨x,H1,I1,r1,q1⟩=>?_) (he _)
 obtain⟨d,rfl,q⟩:=q1
 cases r1
 exact PQ ⟨H1,I1,q⟩
variable {tA tB':TT}{rest:List Expr}
def M4 (t u:TT):TT:=λσ H Q=>t σ H λc H1=>if c=true then u σ H1 Q else Q false H1
def OA (t u:TT):TT:=λσ H Q=>t σ H λc H1=>if c=true then Q true H1 else u σ H1 Q
def NS (t:TT):TT:=λσ H Q=>t σ H λc H1=>Q (!c) H1
theorem AD (ha:PT X a tA):PW X (.BoolOp .And [a] pos) tA:=by
 intro wh pins s σ H Q I h
 refine isTrue_and (cI (ha pins s σ H Q I h) λc s1 e=>?_)
 cases c with
 |true=>exact isTrue_and_nil e
 |false=>exact e
theorem HZ (ha:PT X a tA):PW X (.BoolOp .Or [a] pos) tA:=by
 intro wh pins s σ H Q I h
 refine isTrue_or (cI (ha pins s σ H Q I h) λc s1 e=>?_)
 cases c with
 |false=>exact isTrue_or_nil e
 |true=>exact e
theorem Cv (ha:PT X a tA)(hb:PW X (.BoolOp .And (b :: rest) pos) tB'):PW X (.BoolOp .And (a :: b :: rest) pos) (M4 tA tB'):=by
 intro wh pins s σ H Q I h
 refine isTrue_and (cI (ha pins s σ H _ I h) λc s1 ⟨H1,I1,q1⟩=>?_)
 cases c with
 |true=>exact hb wh pins s1 σ H1 Q I1 q1
 |false=>exact⟨H1,I1,q1⟩
theorem LR (ha:PT X a tA)(hb:PW X (.BoolOp .Or (b :: rest) pos) tB'):PW X (.BoolOp .Or (a :: b :: rest) pos) (OA tA tB'):=by
 intro wh pins s σ H Q I h
 refine isTrue_or (cI (ha pins s σ H _ I h) λc s1 ⟨H1,I1,q1⟩=>?_)
 cases c with
 |true=>exact⟨H1,I1,q1⟩
 |false=>exact hb wh pins s1 σ H1 Q I1 q1
def IQ (ha:PT X a tA):PT X (.UnaryOp .Not a pos) (NS tA):=by
 intro pins s σ H Q I h
 exact isTrue_not (ha pins s σ H (λc H1=>Q (!c) H1) I h)
def KL (ta tb:TE):TE:=λσ H Q=>ta σ H λx H1=>∃c,x=.bl c/\if c=true then tb σ H1 Q else Q (.bl false) H1
def MZ (ta tb:TE):TE:=λσ H Q=>ta σ H λx H1=>∃c,x=.bl c/\if c=true then Q (.bl true) H1 else tb σ H1 Q
def Ma (ta:TE):TE:=λσ H Q=>ta σ H λx H1=>∃c,x=.bl c/\Q (.bl (!c)) H1
def Jz {op}{t:TE}(h:PE X a t):PE X (.BoolOp op [a] pos) t:=λpins s σ H Q I hw=>BoolOp_one (h pins s σ H Q I hw)
theorem JM (ha:PE X a ta)(hb:PE X (.BoolOp .And (b :: rest) pos) tb):PE X (.BoolOp .And (a :: b :: rest) pos) (KL ta tb):=by
 intro pins s σ H Q I h
 refine BoolOp_and (cI (ha pins s σ H _ I h) λv s1 ⟨x,H1,I1,r1,q1⟩=>?_)
 obtain⟨c,rfl,q1⟩:=q1
 cases r1
 refine PQ ?_
 cases c with
 |true=>exact hb pins s1 σ H1 Q I1 q1
 |false=>exact⟨.bl false,H1,I1,rfl,q1⟩
theorem L7 (ha:PE X a ta)(hb:PE X (.BoolOp .Or (b :: rest) pos) tb):PE X (.BoolOp .Or (a :: b :: rest) pos) (MZ ta tb):=by
 intro pins s σ H Q I h
 refine BoolOp_or (cI (ha pins s σ H _ I h) λv s1 ⟨x,H1,I1,r1,q1⟩=>?_)
 obtain⟨c,rfl,q1⟩:=q1
 cases r1
 refine PQ ?_
 cases c with
 |false=>exact hb pins s1 σ H1 Q I1 q1
 |true=>exact⟨.bl true,H1,I1,rfl,q1⟩
def Kl (ha:PE X a ta):PE X (.UnaryOp .Not a pos) (Ma ta):=by
 intro pins s σ H Q I h
 refine UnaryOp_ (cI (ha pins s σ H _ I h) λv s1 ⟨x,H1,I1,r1,q1⟩=>?_)
 obtain⟨c,rfl,q1⟩:=q1
 cases r1
 exact not_of (PQ ⟨.bl (!c),H1,I1,rfl,q1⟩)
def Ou (t:TT)(ta tb:TE):TE:=λσ H Q=>t σ H λc H1=>if c=true then ta σ H1 Q else tb σ H1 Q
theorem CK {c:Expr}(hc:PT X c tA)(ha:PE X a ta)(hb:PE X b tb):PE X (.IfExp c a b pos) (Ou tA ta tb):=by
 intro pins s σ H Q I h
 refine wpAny_IfExp (cI (hc pins s σ H _ I h) λd s1 ⟨H1,I1,q1⟩=>?_)
 cases d with
 |true=>exact ha pins s1 σ H1 Q I1 q1
 |false=>exact hb pins s1 σ H1 Q I1 q1
end
def iF (K:Frag)(H:Hp)(a:Addr)(xs:List V):Prop:=
 Rd H a (.lst xs)\/
  ∃(o:Obj) (its:Array Value) (n:Nat),K.lookup a=some o/\o.cls=.type "list"/\o.dict=none/\o.data=.seq its n/\its.size<=sizeLine/\Vals xs its.toList
def fN (K:Frag)(H:Hp)(a:Addr)(xs:List V):Prop:=
 Rd H a (.tup xs)\/
  ∃(o:Obj) (its:Array Value) (n:Nat),K.lookup a=some o/\o.cls=.type "tuple"/\o.data=.seq its n/\its.size<=sizeLine/\Vals xs its.toList/\o.dict=none
def M6:Value->Option V
 | .none=>some .non
 | .bool b=>some (.bl b)
 | .int i _=>some (.int i)
 | .str x _=>some (.str x)
 | .bytes b _=>some (.byt b)
 | .float b _=>some (.flt b)
 | .ref a=>some (.ref a)
 | .type n=>some (.ty n)
 |_=>none
theorem RelV.abs {x:V}{u:Value}(r:RelV x u):M6 u=some x:=by
 cases x with
 |non=>cases r;rfl
 |bl _=>cases r;rfl
 |int _=>obtain⟨t,rfl⟩:=r;rfl
 |str _=>obtain⟨t,rfl⟩:=r;rfl
 |byt _=>obtain⟨t,rfl⟩:=r;rfl
 |flt _=>obtain⟨t,rfl⟩:=r;rfl
 |ref _=>cases r;rfl
 |ty _=>cases r;rfl
def RelV.inj {x y:V}{u:Value}(r:RelV x u)(q:RelV y u):x=y:=Option.some.inj (r.abs.symm.trans q.abs)
theorem Vals.inj:∀{xs ys:List V} {us:@GT},Vals xs us->Vals ys us->xs=ys
 |_,_,_,.nil,.nil=>rfl
 |_,_,_,.cons r t,.cons r' t'=>by rw[r.inj r',Vals.inj t t']
section
variable {X:Cx}{pins:@C_}{σ:St}{H:Hp}{s:Shared}{a:Addr}{xs ys:List V}
def iF.of {K:Frag}(h:H a=some (.lst xs)):iF K H a xs:=.inl (.inl h)
def fN.of {K:Frag}(h:H a=some (.tup xs)):fN K H a xs:=.inl (.inl h)
def Inv.list (I:@B_)(h:iF X.K H a xs):∃its:@GT,Vals xs its/\PlainL s.heap a its.toArray/\xs.length<=sizeLine:=by
 rcases h with h | ⟨o,its,n,hk,hc,hd,hs,hz,r⟩
 ·obtain⟨z,its,n,r,e⟩:=h.ok I.hok
  exact⟨its,r,⟨_,n,e,rfl,rfl,rfl⟩,z⟩
 ·refine⟨its.toList,r,⟨o,n,I.kIn a o hk,hc,hd,by simpa using hs⟩,?_⟩
  have e:=r.length
  simp only[Array.length_toList] at e
  omega
def Inv.tuple (I:@B_)(h:fN X.K H a xs):∃its:@GT,Vals xs its/\IsTup s.heap a its.toArray/\xs.length<=sizeLine:=by
 rcases h with h | ⟨o,its,n,hk,hc,hs,hz,r,_⟩
 ·obtain⟨z,its,r,p⟩:=h.ok I.hok
  exact⟨its,r,p.isTup,z⟩
 ·refine⟨its.toList,r,⟨o,I.kIn a o hk,hc,n,by simpa using hs⟩,?_⟩
  have e:=r.length
  simp only[Array.length_toList] at e
  omega
def Inv.list_inj (I:@B_)(h:iF X.K H a xs)(h':iF X.K H a ys):xs=ys:=by
 obtain⟨its,r,⟨o,n,e,_,_,d⟩,_⟩:=I.list h
 obtain⟨its',r',⟨o',n',e',_,_,d'⟩,_⟩:=I.list h'
 rw[e] at e';cases e'
 rw[d] at d'
 injection d' with d1 _
 have:its=its':=by simpa using congrArg Array.toList d1
 subst this
 exact r.inj r'
def Inv.tuple_inj (I:@B_)(h:fN X.K H a xs)(h':fN X.K H a ys):xs=ys:=by
 obtain⟨its,r,⟨o,e,_,n,d⟩,_⟩:=I.tuple h
 obtain⟨its',r',⟨o',e',_,n',d'⟩,_⟩:=I.tuple h'
 rw[e] at e';cases e'
 rw[d] at d'
 injection d' with d1 _
 have:its=its':=by simpa using congrArg Array.toList d1
 subst this
 exact r.inj r'
end
abbrev Cx.wish (X:Cx)(E:@Ev):Cx:={X with xe:=E}
abbrev Cx.nox (X:Cx):Cx:=X.wish λ_ _=>False
def Cx.Ok.wish {X:Cx}(ok:X.Ok)(E:@Ev):(X.wish E).Ok:=
 ⟨ok.mod,ok.kind,ok.glob,ok.blt,ok.above,ok.inj,ok.has,ok.cab,ok.hd,ok.frames,ok.stk,ok.exf,ok.bs,ok.bsz,ok.noex,ok.exfs,ok.funs,ok.frf⟩
def Cx.Ok.unwish {X:Cx}{E:@Ev}(ok:(X.wish E).Ok):X.Ok:=
 ⟨ok.mod,ok.kind,ok.glob,ok.blt,ok.above,ok.inj,ok.has,ok.cab,ok.hd,ok.frames,ok.stk,ok.exf,ok.bs,ok.bsz,ok.noex,ok.exfs,ok.funs,ok.frf⟩
section
variable {X:Cx}{pins:@C_}{σ:St}{H:Hp}{s:Shared}{E:@Ev}
def Inv.wish (I:@B_)(E:@Ev):Inv (X.wish E) pins σ H s:=⟨I.ok.wish E,I.os,I.bare,I.base,I.loc,I.cell,I.free,I.freeC,I.pin,I.hok,I.len⟩
def Inv.unwish (I:Inv (X.wish E) pins σ H s):@B_:=⟨I.ok.unwish,I.os,I.bare,I.base,I.loc,I.cell,I.free,I.freeC,I.pin,I.hok,I.len⟩
theorem SP.unwish {D:Ends}{f:Flow}{s':Shared}(h:SP (X.wish E) pins D f s'):SP X pins D f s':=by
 cases f with
 |next=>obtain⟨σ',H',I,q⟩:=h;exact⟨σ',H',I.unwish,q⟩
 |brk=>obtain⟨σ',H',I,q⟩:=h;exact⟨σ',H',I.unwish,q⟩
 |cont=>obtain⟨σ',H',I,q⟩:=h;exact⟨σ',H',I.unwish,q⟩
 |ret u=>obtain⟨v,σ',H',I,r,q⟩:=h;exact⟨v,σ',H',I.unwish,r,q⟩
def sL.nox {st:List Stmt}{t:TS}(h:sL X.nox st t):sL X st t:=λpins s σ H D I hw=>
 P5 (h pins s σ H D (I.wish _) hw) (λ_ _ q=>q.unwish) λ_ _ z=>False.elim z
end
section
variable {X:Cx}{st:Stmt}{rest:List Stmt}{t u:TS}{e:Expr}{te:TE}{pos:Pos}
def LQ:TS:=λD σ H=>D.nx σ H
def Nl (t u:TS):TS:=λD σ H=>t {D with nx:=u D} σ H
def AJ:sL X [] LQ:=λ_ _ σ H _ I h=>wpAny_execs_nil ⟨σ,H,I,h⟩
theorem jl (h1:PS X st t)(h2:sL X rest u):sL X (st :: rest) (Nl t u):=by
 intro pins s σ H D I h
 refine wpAny_execs_cons (cI (h1 pins s σ H {D with nx:=u D} I h) λf s1 q=>?_)
 cases f with
 |next=>
  obtain⟨σ',H',I',q⟩:=q
  exact h2 pins s1 σ' H' D I' q
 |ret v=>exact q
 |brk=>exact q
 |cont=>exact q
theorem jE (h1:PS X st t):sL X [st] t:=by
 intro pins s σ H D I h
 refine wpAny_execs_cons (cI (h1 pins s σ H D I h) λf s1 q=>?_)
 cases f with
 |next=>exact wpAny_execs_nil q
 |ret v=>exact q
 |brk=>exact q
 |cont=>exact q
def Inv.quiet {pins:@C_}{σ:St}{H:Hp}{s:Shared}(I:@B_):interactive X.env=false:=by simp[interactive,I.ok.kind]
def KU (te:TE):TS:=λD σ H=>te σ H λ_ H1=>D.nx σ H1
def ql (he:PE X e te)(hs:swapsWith e none pos.line X.env=pure false:=by rfl):PS X (.Expr e pos) (KU te):=by
 intro pins s σ H D I h
 exact wpAny_Expr_any (cI (he pins s σ H _ I h) λv s1 ⟨x,H1,I1,r1,q1⟩=>⟨σ,H1,I1,q1⟩) I.quiet hs
def NO (te:TE):TS:=λD σ H=>te σ H D.rt
def oD (he:PE X e te):PS X (.Return (some e) pos) (NO te):=by
 intro pins s σ H D I h
 exact wpAny_Return_some (cI (he pins s σ H _ I h) λv s1 ⟨x,H1,I1,r1,q1⟩=>⟨x,σ,H1,I1,r1,q1⟩)
def NT (c:TT)(t u:TS):TS:=λD σ H=>c σ H λb H1=>if b=true then t D σ H1 else u D σ H1
theorem HU {c:Expr}{a b:List Stmt}{tc:TT}(hc:PT X c tc)(ha:sL X a t)(hb:sL X b u):PS X (.If c a b pos) (NT tc t u):=by
 intro pins s σ H D I h
 refine wpAny_If (cI (hc pins s σ H _ I h) λd s1 ⟨H1,I1,q1⟩=>?_)
 cases d with
 |true=>exact ha pins s1 σ H1 D I1 q1
 |false=>exact hb pins s1 σ H1 D I1 q1
end
abbrev TG:=V->St->Hp->(St->Hp->Prop)->Prop
abbrev IV:=List V->St->Hp->(St->Hp->Prop)->Prop
def PG (X:Cx)(target:Expr)(t:TG):Prop:=
 ∀(pins:@C_) (s:Shared) (σ:St) (H:Hp) (v:V) (u:Value) (Q:St->Hp->Prop),@B_->RelV v u->t v σ H Q->
  wpAny @EQ X.A (assign target X.env u) (λ_ s'=>∃σ' H',Inv X pins σ' H' s'/\Q σ' H') X.xe s
def MK (X:Cx)(ts:List Expr)(t:IV):Prop:=
 ∀(pins:@C_) (s:Shared) (σ:St) (H:Hp) (vs:List V) (us:@GT) (Q:St->Hp->Prop),@B_->Vals vs us->t vs σ H Q->
  wpAny @EQ X.A (assignInOrder ((assignEach ts X.env).map (·.2)) us) (λ_ s'=>∃σ' H',Inv X pins σ' H' s'/\Q σ' H') X.xe s
abbrev IP:=V->V->V->Hp->(Hp->Prop)->Prop
def El (X:Cx)(t:IP):Prop:=
 ∀(pins:@C_) (s:Shared) (σ:St) (H:Hp) (o i v:V) (ov iv u:Value) (Q:Hp->Prop),@B_->RelV o ov->RelV i iv->RelV v u->t o i v H Q->
  wpAny @EQ X.A (setItem ov iv u) (λ_ s'=>∃H',Inv X pins σ H' s'/\Q H') X.xe s
section
variable {X:Cx}{pos:Pos}
def m9 (i:Nat):TG:=λv σ H Q=>Q (σ.set i (some v)) H
def dE {i:Nat}{x:Str}(hN:X.N.Nodup)(hi:X.N[i]? =some x)(hx:Loc X.env.scope x)(hf:X.fn x=true\/X.env.scope.names.lookup x=some .local:=by first |exact .inl rfl |exact .inr rfl |assumption):PG X (.Name x pos) (m9 i):=by
 intro pins s σ H v u Q I r h
 exact wpAny_assign_Name (wV I hN hi hx r (λs' I'=>⟨_,H,I',h⟩) hf)
def Fs:IV:=λvs σ H Q=>vs= []/\Q σ H
def rQ (t:TG)(u:IV):IV:=λvs σ H Q=>∃v r,vs=v :: r/\t v σ H λσ' H'=>u r σ' H' Q
def nX:MK X [] Fs:=by
 intro pins s σ H vs us Q I r h
 obtain⟨e,h⟩:=h
 subst e
 cases r
 exact assignInOrder_nil ⟨σ,H,I,h⟩
theorem eQ {e:Expr}{es:List Expr}{t:TG}{u:IV}(h1:PG X e t)(h2:MK X es u)
  (hs:(assignEach (e :: es) X.env).map (·.2)=assign e X.env :: (assignEach es X.env).map (·.2):=by rfl):MK X (e :: es) (rQ t u):=by
 intro pins s σ H vs us Q I r h
 obtain⟨v,vr,e1,h⟩:=h
 subst e1
 cases r with
 |cons r rr=>
  rw[hs]
  refine assignInOrder_cons (cI (h1 pins s σ H _ _ _ I r h) λ_ s1 ⟨σ1,H1,I1,q1⟩=>?_)
  exact h2 pins s1 σ1 H1 _ _ Q I1 rr q1
def EO (K:Frag)(n:Nat)(t:IV):TG:=λv σ H Q=>∃a xs,v=.ref a/\fN K H a xs/\xs.length=n/\t xs σ H Q
def rZ {es:List Expr}{k:Nat}{t:IV}{n:Nat}(hc:X.calm=true)(h:MK X es t)
  (hn:(assignEach es X.env).length=n:=by rfl) (hst:(assignEach es X.env).findIdx? (·.1)=none:=by rfl):PG X (.Tuple es k pos) (EO X.K n t):=by
 intro pins s σ H v u Q I r hw
 obtain⟨a,xs,e1,hq,hl,hw⟩:=hw
 subst e1
 cases r
 obtain⟨its,rv,ht,hz⟩:=I.tuple hq
 refine assign_Tuple_tuple (I.ok.hd hc) ht (by simp[hn,<-hl,rv.length]) hst λh' hx=>?_
 have I1:Inv X pins σ H {s with heap:=h'}:=I.kept (t':=s.toks) λb o e=>hx b o (Py (OS e)) e
 exact h pins _ σ H xs _ Q I1 (by simpa using rv) hw
def MX (to ti:TE)(t:IP):TG:=λv σ H Q=>to σ H λo H1=>ti σ H1 λi H2=>t o i v H2 λH3=>Q σ H3
def vg {o i:Expr}{to ti:TE}{t:IP}(ho:PE X o to)(hi:PE X i ti)(hs:El X t)
  (ha:∀v,assign (.Subscript o i pos) X.env v=(do
   let ov <-holding [v] (eval o X.env)
   let iv <-holding [v,ov] (eval i X.env)
   standAt pos
   holding [v,ov,iv] (setItem ov iv v)
   release [v,ov,iv] []):=by intro _;rfl):PG X (.Subscript o i pos) (MX to ti t):=by
 intro pins s σ H v u Q I r h
 rw[ha]
 refine OL (Qw (cI (ho pins s σ H _ I h) λov s1 ⟨x,H1,I1,r1,q1⟩=>?_))
 refine OL (Qw (cI (hi pins s1 σ H1 _ I1 q1) λiv s2 ⟨y,H2,I2,r2,q2⟩=>?_))
 refine OL (wpAny_standAt (OL (Qw (cI (hs pins s2 σ H2 x y v ov iv u _ I2 r1 r2 r q2) λ_ s3 ⟨H3,I3,q3⟩=>?_))))
 exact wpAny_release ⟨σ,H3,I3,q3⟩
def KR (te:TE)(g:TG):TS:=λD σ H=>te σ H λx H1=>g x σ H1 D.nx
def rG {tg e:Expr}{te:TE}{g:TG}(he:PE X e te)(hg:PG X tg g)(hs:swapsWithSole [tg] e pos.line X.env=pure false:=by rfl)(hw:swappedStores [tg] e X.env=pure none:=by rfl)
  (h1:(assignEach [tg] X.env).map (·.2)= [assign tg X.env]:=by rfl):PS X (.Assign [tg] e pos) (KR te g):=by
 intro pins s σ H D I h
 refine wpAny_Assign_stores (cI (he pins s σ H _ I h) λv s1 ⟨x,H1,I1,r1,q1⟩=>?_) hs hw
 rw[h1]
 exact cI (hg pins s1 σ H1 x v _ I1 r1 q1) λ_ s2 q=>q
def rN {i:Nat}{x:Str}{e:Expr}{te:TE}{pos':Pos}(hN:X.N.Nodup)(hi:X.N[i]? =some x)(hx:Loc X.env.scope x)(he:PE X e te)(hs:swapsWith e (some (.Name x pos')) pos.line X.env=pure false:=by rfl)(hf:X.fn x=true\/X.env.scope.names.lookup x=some .local:=by first |exact .inl rfl |exact .inr rfl |assumption) :
  PS X (.Assign [.Name x pos'] e pos) (KR te (m9 i)):=by
 intro pins s σ H D I h
 refine wpAny_Assign_Name (cI (he pins s σ H _ I h) λv s1 ⟨y,H1,I1,r1,q1⟩=>?_) hs
 exact wV I1 hN hi hx r1 (λs2 I2=>⟨_,H1,I2,q1⟩) hf
end
section
variable {X:Cx}{pos:Pos}
def Je (c:TT)(tb:TS):TS:=λD σ H=>∃W:Nat->St->Hp->Prop,(∃m,W m σ H)/\∀m σ H,W m σ H->
 c σ H λb H1=>if b=true then ∃N:St->Hp->Prop,(∀σ' H',N σ' H'->∃m',m' < m/\W m' σ' H')/\tb {D with nx:=N,ct:=N,bk:=D.nx} σ H1 else D.nx σ H1
theorem Dz {c:Expr}{body:List Stmt}{tc:TT}{tb:TS}(hp:PassesOwn @EQ X.A X.env X.xe)(hc:PT X c tc)(hb:sL X body tb):PS X (.While c body [] pos) (Je tc tb):=by
 intro pins s σ H D I h
 obtain⟨W,⟨m0,w0⟩,turn⟩:=h
 refine wpAny_While (codeAny_whileLoop (λn s'=>∃σ' H',Inv X pins σ' H' s'/\W n σ' H') ?_ m0 ⟨σ,H,I,w0⟩)
 rintro n s1 ⟨σ1,H1,I1,w1⟩
 refine QF hp (cI (hc pins s1 σ1 H1 _ I1 (turn n σ1 H1 w1)) λb s2 ⟨H2,I2,q2⟩=>?_)
 cases b with
 |true=>
  obtain⟨N,hN,q2⟩:=q2
  rw[OG rfl]
  refine QF hp (cI (hb pins s2 σ1 H2 _ I2 q2) λf s3 q3=>?_)
  cases f with
  |next=>
   obtain⟨σ3,H3,I3,n3⟩:=q3
   obtain⟨m',hm,w3⟩:=hN σ3 H3 n3
   exact⟨m',hm,σ3,H3,I3,w3⟩
  |cont=>
   obtain⟨σ3,H3,I3,n3⟩:=q3
   obtain⟨m',hm,w3⟩:=hN σ3 H3 n3
   exact⟨m',hm,σ3,H3,I3,w3⟩
  |brk=>exact q3
  |ret v=>exact q3
 |false=>
  rw[OP OZ]
  exact wpAny_execs_nil ⟨σ1,H2,I2,q2⟩
end
structure It where
 go:Nat->Hp->Prop
 yld:Nat->Hp->V->Hp->Prop
 stop:Nat->Hp->Prop
def kl (X:Cx)(pins:@C_)(H:Hp)(b:Addr):Prop:=
 H b=none/\b≠X.env.locals/\b∉X.fs/\(b∈X.ex\/X.s₀.heap.objs.size<=b)/\(∀x c,X.env.cells.lookup x=some c->c≠b)/\∀p∈X.pn ++ pins,p.1≠b
def Inv.fpOk {X:Cx}{pins:@C_}{σ:St}{H H':Hp}{s:Shared}{b:Addr}(I:@B_)(hb:s.heap.objs.size<=b)(hn:H' b=none):kl X pins H' b:=by
 refine⟨hn,Nat.ne_of_gt (Pj I.lt hb),I.nofs hb,.inr (PB I.sz hb),λx c e z=>?_,λp hp z=>?_⟩
 ·obtain⟨v,q⟩:=I.cell x c e
  exact absurd (Pj q.lt (by rw[z];exact hb)) (Pf _)
 ·exact absurd (Pj (OS (I.pin p hp).1) (by rw[z];exact hb)) (Pf _)
structure Turn (P:Program)(w:World)(K:Frag)(tg:Expr)(J:It)(fp:List Addr)(it:Addr)(tn:Nat->Heap->Prop):Prop where
 mem:it∈fp
 obj:∀i h,tn i h->∀b∈fp,∃o,h.get? b=some o/\∀v,o.data≠.cell v
 keep:∀i h h',tn i h->(∀b∈fp,∀o,h.get? b=some o->h'.get? b=some o)->tn i h'
 item:∀(X:Cx),X.prog=P->X.w=w->X.K=K->X.calm=true->∀(i:Nat) (pins:@C_) (s:Shared) (σ:St) (H:Hp) (E:@Ev),@B_->(∀b∈fp,kl X pins H b)->tn i s.heap->J.go i H->
  wpAny (model P w) X.A (pyNext (.ref it)) (λr s1=>∃u,r=some u/\
   wpAny (model P w) X.A (letOwnedTupleGo tg (.ref it) u) (λ_ s2=>∃x H',Inv X pins σ H' s2/\RelV x u/\J.yld i H x H'/\tn (i + 1) s2.heap/\∀b∈fp,H' b=none) E s1) E s
 done:∀(X:Cx),X.prog=P->X.w=w->X.K=K->X.calm=true->∀(i:Nat) (pins:@C_) (s:Shared) (σ:St) (H:Hp) (E:@Ev),@B_->(∀b∈fp,kl X pins H b)->tn i s.heap->J.stop i H->
  wpAny (model P w) X.A (pyNext (.ref it)) (λr s1=>r=none/\Inv X pins σ H s1) E s
 self:∀(A:Around) (i:Nat) (s:Shared) (Q:@Ev) (E:@Ev),tn i s.heap->Q (.ref it) s->wpAny (model P w) A (pyIter (.ref it)) Q E s
abbrev TI:=St->Hp->(It->Hp->Prop)->Prop
def Oe (X:Cx)(pins:@C_)(σ:St)(tg:Expr)(R:It->Hp->Prop)(itv:Value)(s2:Shared):Prop:=
 ∃(it:Addr) (fp:List Addr) (tn:Nat->Heap->Prop) (J:It) (H':Hp),itv=.ref it/\Inv X pins σ H' s2/\Turn X.prog X.w X.K tg J fp it tn/\tn 0 s2.heap/\(∀b∈fp,kl X pins H' b)/\R J H'
def PI (X:Cx)(tg iter:Expr)(wi:TI):Prop:=
 ∀(pins:@C_) (s:Shared) (σ:St) (H:Hp) (R:It->Hp->Prop),@B_->wi σ H R->
  wpAny @EQ X.A (eval iter X.env) (λv s1=>wpAny @EQ X.A (pyIter v) (Oe X pins σ tg R) X.xe s1) X.xe s
def CT {M:Model}{A:Around}{E:@Ev}{s:Shared}{tg:Expr}{it:Addr}{u:Value}{o:Obj}{n:String}{vs:Array Value}{Q:Unit->Shared->Prop}(ho:s.heap.get? it=some o)(hc:o.cls=.type n)(hd:o.data=.fields vs)
  (hn: ["enumerate","zip","dict_itemiterator","dict_reverseitemiterator","odict_iterator","itertools.zip_longest","itertools.pairwise"].contains n=false) (hQ:Q () s):wpAny M A (letOwnedTupleGo tg (.ref it) u) Q E s:=by
 unfold letOwnedTupleGo
 cases tg <;> first
  |exact Pa hQ
  | (cases u <;> first
    |exact Pa hQ
    | (refine OL (wpAny_load ho ?_)
       rw[hc,hd]
       show wpAny M A (if (["enumerate","zip","dict_itemiterator","dict_reverseitemiterator","odict_iterator","itertools.zip_longest","itertools.pairwise"].contains n && vs[0]? == some (rawInt _))=true then _ else _) Q E s
       rw[OP (by intro h;rw[hn,Bool.false_and] at h;cases h)]
       exact Pa hQ))
def AR (K:Frag)(a:Addr):It:=
 ⟨λi H=>∃xs x,iF K H a xs/\xs[i]? =some x,λi H x H'=>H'=H/\∀xs,iF K H a xs->xs[i]? =some x,λi H=>∃xs,iF K H a xs/\xs.length<=i⟩
def HJ (K:Frag)(a:Addr):It:=
 ⟨λi H=>∃xs x,fN K H a xs/\xs[i]? =some x,λi H x H'=>H'=H/\∀xs,fN K H a xs->xs[i]? =some x,λi H=>∃xs,fN K H a xs/\xs.length<=i⟩
def Er (lo:Int)(n:Nat):It:=⟨λi _=>i < n,λi H x H'=>H'=H/\x=.int (lo + i),λi _=>n<=i⟩
def oU {P:Program}{w:World}{K:Frag}{tg:Expr}(a it:Addr):Turn P w K tg (AR K a) [it] it (λi h=>h.IsListIter it a i) where
 mem:=by simp
 obj:=λi h st b hb=>by
  have e:b=it:=by simpa using hb
  subst e
  obtain⟨o,e,c,d⟩:=st
  exact⟨o,e,λv z=>by rw[d] at z;cases z⟩
 keep:=λi h h' st k=>st.at λo e=>k it (by simp) o e
 item:=by
  intro X hP hw hK hc i pins s σ H E I hf st hg
  subst hP hw hK
  obtain⟨xs,x,hq,hx⟩:=hg
  obtain⟨its,rv,p,hz⟩:=I.list hq
  obtain⟨u,hu,ru⟩:=rv.get hx
  obtain⟨f0,f1,f2,f3,f4,f5⟩:=hf it (by simp)
  refine wpAny_pyNext_list_item st p.isList (x:=u) (by simpa using hu) λh' st' sb=>?_
  have I1:Inv X pins σ H {s with heap:=h'}:=I.turned (t':=s.toks) (λb o hb e=>(sb.2 b hb).trans e) f0 f1 f3 f4 f5
  obtain⟨o,e,c,d⟩:=id st'
  exact⟨u,rfl,CT (s:={s with heap:=h'}) e c d @F_ ⟨x,H,I1,ru,⟨rfl,λys hy=>by rw[I.list_inj hy hq];exact hx⟩,st',λb hb=>(hf b hb).1⟩⟩
 done:=by
  intro X hP hw hK hc i pins s σ H E I hf st hg
  subst hP hw hK
  obtain⟨xs,hq,hx⟩:=hg
  obtain⟨its,rv,p,hz⟩:=I.list hq
  obtain⟨f0,f1,f2,f3,f4,f5⟩:=hf it (by simp)
  have hl:=rv.length
  exact wpAny_pyNext_list_end (I.ok.hd hc) st p.isList (by simp;omega) λh' eb=>⟨rfl,I.turned (t':=s.toks) (λb o hb e=>eb b o hb e) f0 f1 f3 f4 f5⟩
 self:=λ_ _ _ _ _ st h=>wpAny_pyIter_listiter st h
def qJ {P:Program}{w:World}{K:Frag}{tg:Expr}(a it:Addr):Turn P w K tg (HJ K a) [it] it (λi h=>h.IsTupleIter it a i) where
 mem:=by simp
 obj:=λi h st b hb=>by
  have e:b=it:=by simpa using hb
  subst e
  obtain⟨o,e,c,d⟩:=st
  exact⟨o,e,λv z=>by rw[d] at z;cases z⟩
 keep:=λi h h' st k=>st.at λo e=>k it (by simp) o e
 item:=by
  intro X hP hw hK hc i pins s σ H E I hf st hg
  subst hP hw hK
  obtain⟨xs,x,hq,hx⟩:=hg
  obtain⟨its,rv,p,hz⟩:=I.tuple hq
  obtain⟨u,hu,ru⟩:=rv.get hx
  obtain⟨f0,f1,f2,f3,f4,f5⟩:=hf it (by simp)
  refine wpAny_pyNext_tuple_item st (show s.heap.IsTuple a its.toArray from p) (x:=u) (by simpa using hu) λh' st' sb=>?_
  have I1:Inv X pins σ H {s with heap:=h'}:=I.turned (t':=s.toks) (λb o hb e=>(sb.2 b hb).trans e) f0 f1 f3 f4 f5
  obtain⟨o,e,c,d⟩:=id st'
  exact⟨u,rfl,CT (s:={s with heap:=h'}) e c d @F_ ⟨x,H,I1,ru,⟨rfl,λys hy=>by rw[I.tuple_inj hy hq];exact hx⟩,st',λb hb=>(hf b hb).1⟩⟩
 done:=by
  intro X hP hw hK hc i pins s σ H E I hf st hg
  subst hP hw hK
  obtain⟨xs,hq,hx⟩:=hg
  obtain⟨its,rv,p,hz⟩:=I.tuple hq
  obtain⟨f0,f1,f2,f3,f4,f5⟩:=hf it (by simp)
  have hl:=rv.length
  exact wpAny_pyNext_tuple_end (I.ok.hd hc) st (show s.heap.IsTuple a its.toArray from p) (by simp;omega) λh' eb=>⟨rfl,I.turned (t':=s.toks) (λb o hb e=>eb b o hb e) f0 f1 f3 f4 f5⟩
 self:=λ_ _ _ _ _ st h=>wpAny_pyIter_tupleiter st h
def yz {P:Program}{w:World}{K:Frag}{tg:Expr}(it:Addr)(lo:Int)(n:Nat):Turn P w K tg (Er lo n) [it] it (λi h=>IsRangeIter h it (lo + (i:Nat) * 1) ((n:Int) - (i:Nat)) 1) where
 mem:=by simp
 obj:=λi h st b hb=>by
  have e:b=it:=by simpa using hb
  subst e
  exact⟨_,st,λv z=>by
   have z':Data.fields _=Data.cell v:=z
   cases z'⟩
 keep:=λi h h' st k=>k it (by simp) _ st
 item:=by
  intro X hP hw hK hc i pins s σ H E I hf st hg
  subst hP hw hK
  obtain⟨f0,f1,f2,f3,f4,f5⟩:=hf it (by simp)
  have W:=Walks.range (prog:=X.prog) (w:=X.w) (I.ok.hd hc) it lo 1 n
  refine W.item i s _ _ hg st λv h' tk hv st' kk=>?_
  obtain⟨t,rfl⟩:=hv
  have I1:Inv X pins σ H {s with heap:=h',toks:=tk}:=I.turned (λb o hb e=>kk b o (by simpa using hb) e) f0 f1 f3 f4 f5
  refine⟨_,rfl,CT (s:={s with heap:=h',toks:=tk}) (n:="range_iterator") st' rfl rfl @F_ ⟨.int (lo + i),H,I1,⟨t,?_⟩,⟨rfl,rfl⟩,st',λb hb=>(hf b hb).1⟩⟩
  rw[Int.mul_one]
 done:=by
  intro X hP hw hK hc i pins s σ H E I hf st hg
  subst hP hw hK
  obtain⟨f0,f1,f2,f3,f4,f5⟩:=hf it (by simp)
  exact wpAny_pyNext_range_end (I.ok.hd hc) st (by have:n<=i:=hg;omega) λh' eb=>⟨rfl,I.turned (t':=s.toks) (λb o hb e=>eb b o hb e) f0 f1 f3 f4 f5⟩
 self:=λ_ _ _ _ _ st h=>wpAny_pyIter_rangeiter st h
section
variable {X:Cx}{tg:Expr}
def LM (K:Frag)(tl:TE):TI:=λσ H R=>tl σ H λx H1=>∃a,x=.ref a/\(∃xs,iF K H1 a xs)/\R (AR K a) H1
def zV {l:Expr}{tl:TE}(hl:PE X l tl):PI X tg l (LM X.K tl):=by
 intro pins s σ H R I h
 refine cI (hl pins s σ H _ I h) λv s1 ⟨x,H1,I1,r1,q1⟩=>?_
 obtain⟨a,e,⟨xs,hq⟩,q⟩:=q1
 subst e
 cases r1
 obtain⟨its,rv,p,hz⟩:=I1.list hq
 refine QI p.isList ?_
 refine⟨s1.heap.objs.size,[s1.heap.objs.size],_,_,H1,rfl,I1.kept (t':=s1.toks) λb o e=>OI _ e,oU a _,⟨_,OV _ rfl,rfl,rfl⟩,λb hb=>?_,q⟩
 have e:b=s1.heap.objs.size:=by simpa using hb
 subst e
 exact I1.fpOk (OF _) (I1.hok.fresh (OF _))
def Cr {pins:@C_}{σ:St}{H:Hp}{s:Shared}{R:It->Hp->Prop}{E:@Ev}{lo hi:Int}{t u v:Tok}{tk:Nat}(I:@B_)(h1: -(2 ^ 62)<=lo)(h2:lo < 2 ^ 62)(h3: -(2 ^ 62)<=hi)(h4:hi < 2 ^ 62)
  (q:R (Er lo (hi - lo).toNat) H):wpAny @EQ X.A (pyIter (.ref s.heap.objs.size)) (Oe X pins σ tg R) E {s with heap:=s.heap.push {cls:=.type "range",data:=.fields #[.int lo t,.int hi u,.int 1 v]},toks:=tk}:=by
 refine wpAny_pyIter_range (IsRange.new ..) (small_one h1 h2 h3 h4) ?_
 have I1:Inv X pins σ H {s with heap:=s.heap.push {cls:=.type "range",data:=.fields #[.int lo t,.int hi u,.int 1 v]},toks:=tk}:=I.kept λb o e=>OI _ e
 refine⟨(s.heap.push {cls:=.type "range",data:=.fields #[.int lo t,.int hi u,.int 1 v]}).objs.size,[(s.heap.push {cls:=.type "range",data:=.fields #[.int lo t,.int hi u,.int 1 v]}).objs.size],_,_,H,rfl,
  I1.kept (t':=tk) λb o e=>OI _ e,yz _ lo (hi - lo).toNat,?_,λb hb=>?_,q⟩
 ·have e1:lo + ((0:Nat):Int) * 1=lo:=by simp
  have e2:(((hi - lo).toNat:Nat):Int) - ((0:Nat):Int)=Builtin.Range.rangeSize lo hi 1:=by rw[rangeSize_one];split <;> omega
  show IsRangeIter _ _ (lo + ((0:Nat):Int) * 1) ((((hi - lo).toNat:Nat):Int) - ((0:Nat):Int)) 1
  rw[e1,e2]
  exact OV _ rfl
 ·have e:b=(s.heap.push {cls:=.type "range",data:=.fields #[.int lo t,.int hi u,.int 1 v]}).objs.size:=by simpa using hb
  subst e
  exact I1.fpOk (OF _) (I1.hok.fresh (OF _))
def KQ (ta:TA):TI:=λσ H R=>ta σ H λvs H1=>∃j:Int,vs= [.int j]/\ -(2 ^ 62)<=j/\j < 2 ^ 62/\R (Er 0 j.toNat) H1
theorem mC {a:Expr}{ta:TA}{p pos:Pos}(hg:Gl X "range")(hm:X.mg "range"=none)(ha:PA X [a] ta)(hs:starEach [a] X.env= [(false,eval a X.env)]:=by rfl):PI X tg (.Call (.Name "range" p) [a] [] pos) (KQ ta):=by
 intro pins s σ H R I h
 refine Call_ (nN I hg hm boot_range (QB (cI (ha pos pins s σ H _ I h) λus s1 ⟨vs,H1,I1,r1,q1⟩=>?_) hs rfl))
 obtain⟨j,e,q1,q2,q⟩:=q1
 subst e
 cases r1 with
 |cons r rr=>
  cases rr
  obtain⟨t,rfl⟩:=r
  exact call_range_1 (Cr I1 (@AT) (@AT) q1 q2 (by simpa using q))
def MU (wi:TI)(g:TG)(tb:TS):TS:=λD σ H=>wi σ H λJ H1=>∃W:Nat->Nat->St->Hp->Prop,(∃m,W 0 m σ H1)/\∀i m σ H,W i m σ H->
 (J.stop i H/\D.nx σ H)\/(J.go i H/\∃N:St->Hp->Prop,(∀σ' H',N σ' H'->∃m',m' < m/\W (i + 1) m' σ' H')/\∀x H',J.yld i H x H'->g x σ H' λσ2 H2=>tb {D with nx:=N,ct:=N,bk:=D.nx} σ2 H2)
def rD (fp:List Addr)(h:Heap):@C_:=fp.filterMap λb=>(h.get? b).map λo=>(b,o)
def lj {fp:List Addr}{h:Heap}{b:Addr}{o:Obj}(hb:b∈fp)(e:h.get? b=some o):(b,o)∈rD fp h:=QT.mpr ⟨b,hb,by rw[e];rfl⟩
theorem BC {fp:List Addr}{h:Heap}{p:Addr×Obj}(hp:p∈rD fp h):p.1∈fp/\h.get? p.1=some p.2:=by
 obtain⟨b,hb,e⟩:=QT.mp hp
 cases q:h.get? b with
 |none=>rw[q] at e;cases e
 |some o=>
  rw[q] at e
  have e':(b,o)=p:=Option.some.inj e
  subst e'
  exact⟨hb,q⟩
def Inv.pinned {pins:@C_}{σ:St}{H:Hp}{s:Shared}{fp:List Addr}(I:@B_)(hf:∀b∈fp,kl X pins H b)(ho:∀b∈fp,∃o,s.heap.get? b=some o/\∀v,o.data≠.cell v):Inv X (pins ++ rD fp s.heap) σ H s:=
 I.pins_of λp hp=>(OT.mp hp).elim (λz=>I.pin p (Pe _ z)) λz=>by
  obtain⟨hb,e⟩:=BC z
  obtain⟨f0,f1,f2,_⟩:=hf p.1 hb
  obtain⟨o,e',d⟩:=ho p.1 hb
  rw[e] at e';cases e'
  exact⟨e,f0,f1,f2,d⟩
def Inv.unpinned {pins pl:@C_}{σ:St}{H:Hp}{s:Shared}(I:Inv X (pins ++ pl) σ H s):@B_:=I.pins_of λp hp=>I.pin p (Pe _ (Qr _ hp))
def uO {iter:Expr}{body:List Stmt}{wi:TI}{g:TG}{tb:TS}{pos:Pos}(hp:PassesOwn @EQ X.A X.env X.xe)(hc:X.calm=true)(hi:PI X tg iter wi)(hg:PG X tg g)(hb:sL X body tb)
  (hs:∀x,foldedSetIterable iter X.env x=pure x:=by intro _;rfl):PS X (.For tg iter body [] pos) (MU wi g tb):=by
 intro pins s σ H D I h
 refine wpAny_For (cI (hi pins s σ H _ I h) λv s1 h1=>cI h1 λitv s2 h2=>?_) hs
 obtain⟨it,fp,tn,J,H2,e,I2,T,st2,f2,W,⟨m0,w0⟩,turn⟩:=h2
 subst e
 have stat:∀{H':Hp},(∀b∈fp,H' b=none)->∀b∈fp,kl X pins H' b:=λhn b hb=>⟨hn b hb,(f2 b hb).2⟩
 refine codeAny_forLoop_any (λn s'=>∃i σ' H',Inv X pins σ' H' s'/\tn i s'.heap/\(∀b∈fp,H' b=none)/\W i n σ' H') ?_ m0 ⟨0,σ,H2,I2,st2,λb hb=>(f2 b hb).1,w0⟩
 rintro n s3 ⟨i,σ3,H3,I3,st3,fr3,w3⟩
 rcases turn i n σ3 H3 w3 with⟨stop,qn⟩ | ⟨go,N,hN,step⟩
 ·refine QF hp (cI (T.done X rfl rfl rfl hc i pins s3 σ3 H3 X.xe I3 (stat fr3) st3 stop) λr s4 ⟨hr,I4⟩=>?_)
  subst hr
  exact wpAny_execs_nil ⟨σ3,H3,I4,qn⟩
 ·refine QF hp (cI (T.item X rfl rfl rfl hc i pins s3 σ3 H3 X.xe I3 (stat fr3) st3 go) λr s4 ⟨u,hr,h4⟩=>?_)
  subst hr
  refine QF hp (cI h4 λ_ s5 ⟨x,H5,I5,r5,y5,st5,fr5⟩=>?_)
  have I5':=I5.pinned (stat fr5) (T.obj _ _ st5)
  refine QF hp (cI (hg _ s5 σ3 H5 x u _ I5' r5 (step x H5 y5)) λ_ s6 ⟨σ6,H6,I6,q6⟩=>?_)
  refine QF hp (cI (hb _ s6 σ6 H6 _ I6 q6) λf s7 q7=>?_)
  have again:∀{σ7:St} {H7:Hp},Inv X (pins ++ rD fp s5.heap) σ7 H7 s7->N σ7 H7->∃m,m < n/\∃i σ' H',Inv X pins σ' H' s7/\tn i s7.heap/\(∀b∈fp,H' b=none)/\W i m σ' H':=λ{σ7 H7} I7 n7=>by
   obtain⟨m',hm,w7⟩:=hN σ7 H7 n7
   refine⟨m',hm,i + 1,σ7,H7,I7.unpinned,T.keep _ _ _ st5 λb hb o e=>(I7.pin (b,o) (Pe _ (Pe _ (lj hb e)))).1,λb hb=>?_,w7⟩
   obtain⟨o,e,d⟩:=T.obj _ _ st5 b hb
   exact (I7.pin (b,o) (Pe _ (Pe _ (lj hb e)))).2.1
  cases f with
  |next=>obtain⟨σ7,H7,I7,n7⟩:=q7;exact again I7 n7
  |cont=>obtain⟨σ7,H7,I7,n7⟩:=q7;exact again I7 n7
  |brk=>obtain⟨σ7,H7,I7,q7⟩:=q7;exact⟨σ7,H7,I7.unpinned,q7⟩
  |ret v=>obtain⟨x7,σ7,H7,I7,r7,q7⟩:=q7;exact⟨x7,σ7,H7,I7.unpinned,r7,q7⟩
end
def wx {K:Frag}{a:Addr}{xs:List V}{g:TG}{tb:TS}{D:Ends}{σ:St}{H:Hp}(Pv:Nat->St->Hp->Prop)(h0:Pv 0 σ H)(hl:∀i σ H,i<=xs.length->Pv i σ H->iF K H a xs)
  (hs:∀i x σ H,xs[i]? =some x->Pv i σ H->g x σ H λσ2 H2=>tb {D with nx:=Pv (i + 1),ct:=Pv (i + 1),bk:=D.nx} σ2 H2) (hd:∀σ H,Pv xs.length σ H->D.nx σ H) :
  ∃W:Nat->Nat->St->Hp->Prop,(∃m,W 0 m σ H)/\∀i m σ H,W i m σ H->
   ((AR K a).stop i H/\D.nx σ H)\/((AR K a).go i H/\∃N:St->Hp->Prop,(∀σ' H',N σ' H'->∃m',m' < m/\W (i + 1) m' σ' H')/\∀x H',(AR K a).yld i H x H'->g x σ H' λσ2 H2=>tb {D with nx:=N,ct:=N,bk:=D.nx} σ2 H2):=by
 refine⟨λi m σ H=>m=xs.length - i/\i<=xs.length/\Pv i σ H,⟨xs.length,by simp,Pz _,h0⟩,?_⟩
 rintro i m σ H ⟨rfl,hi,p⟩
 have q:=hl i σ H hi p
 by_cases hlt:i < xs.length
 ·refine .inr ⟨⟨xs,xs[i],q,by simp[hlt]⟩,Pv (i + 1),λσ' H' p'=>⟨xs.length - (i + 1),@AT,rfl,hlt,p'⟩,λx H' y=>?_⟩
  obtain⟨e,y⟩:=y
  subst e
  exact hs i x σ _ (y xs q) p
 ·have e:i=xs.length:=@AT
  subst e
  exact .inl ⟨⟨xs,q,OF _⟩,hd σ H p⟩
def ES {K:Frag}{a:Addr}{xs:List V}{g:TG}{tb:TS}{D:Ends}{σ:St}{H:Hp}(Pv:Nat->St->Hp->Prop)(h0:Pv 0 σ H)(hl:∀i σ H,i<=xs.length->Pv i σ H->fN K H a xs)
  (hs:∀i x σ H,xs[i]? =some x->Pv i σ H->g x σ H λσ2 H2=>tb {D with nx:=Pv (i + 1),ct:=Pv (i + 1),bk:=D.nx} σ2 H2) (hd:∀σ H,Pv xs.length σ H->D.nx σ H) :
  ∃W:Nat->Nat->St->Hp->Prop,(∃m,W 0 m σ H)/\∀i m σ H,W i m σ H->
   ((HJ K a).stop i H/\D.nx σ H)\/((HJ K a).go i H/\∃N:St->Hp->Prop,(∀σ' H',N σ' H'->∃m',m' < m/\W (i + 1) m' σ' H')/\∀x H',(HJ K a).yld i H x H'->g x σ H' λσ2 H2=>tb {D with nx:=N,ct:=N,bk:=D.nx} σ2 H2):=by
 refine⟨λi m σ H=>m=xs.length - i/\i<=xs.length/\Pv i σ H,⟨xs.length,by simp,Pz _,h0⟩,?_⟩
 rintro i m σ H ⟨rfl,hi,p⟩
 have q:=hl i σ H hi p
 by_cases hlt:i < xs.length
 ·refine .inr ⟨⟨xs,xs[i],q,by simp[hlt]⟩,Pv (i + 1),λσ' H' p'=>⟨xs.length - (i + 1),@AT,rfl,hlt,p'⟩,λx H' y=>?_⟩
  obtain⟨e,y⟩:=y
  subst e
  exact hs i x σ _ (y xs q) p
 ·have e:i=xs.length:=@AT
  subst e
  exact .inl ⟨⟨xs,q,OF _⟩,hd σ H p⟩
def Bs {lo:Int}{n:Nat}{g:TG}{tb:TS}{D:Ends}{σ:St}{H:Hp}(Pv:Nat->St->Hp->Prop)(h0:Pv 0 σ H)
  (hs:∀i σ H,i < n->Pv i σ H->g (.int (lo + i)) σ H λσ2 H2=>tb {D with nx:=Pv (i + 1),ct:=Pv (i + 1),bk:=D.nx} σ2 H2) (hd:∀σ H,Pv n σ H->D.nx σ H) :
  ∃W:Nat->Nat->St->Hp->Prop,(∃m,W 0 m σ H)/\∀i m σ H,W i m σ H->
   ((Er lo n).stop i H/\D.nx σ H)\/((Er lo n).go i H/\∃N:St->Hp->Prop,(∀σ' H',N σ' H'->∃m',m' < m/\W (i + 1) m' σ' H')/\∀x H',(Er lo n).yld i H x H'->g x σ H' λσ2 H2=>tb {D with nx:=N,ct:=N,bk:=D.nx} σ2 H2):=by
 refine⟨λi m σ H=>m=n - i/\i<=n/\Pv i σ H,⟨n,by simp,Pz _,h0⟩,?_⟩
 rintro i m σ H ⟨rfl,hi,p⟩
 by_cases hlt:i < n
 ·refine .inr ⟨hlt,Pv (i + 1),λσ' H' p'=>⟨n - (i + 1),@AT,rfl,hlt,p'⟩,λx H' y=>?_⟩
  obtain⟨e,y⟩:=y
  subst e y
  exact hs i σ _ hlt p
 ·have e:i=n:=@AT
  subst e
  exact .inl ⟨OF _,hd σ H p⟩
abbrev R2:=V->V->Hp->VK->Prop
def lP (X:Cx)(f:Value->Value->Sem Value)(r:R2):Prop:=
 ∀(pins:@C_) (s:Shared) (σ:St) (H:Hp) (x y:V) (v u:Value) (Q:VK),@B_->RelV x v->RelV y u->r x y H Q->
  wpAny @EQ X.A (f v u) (EP X pins σ Q) X.xe s
def My (X:Cx)(f:Value->Sem Value)(r:V->Hp->VK->Prop):Prop:=
 ∀(pins:@C_) (s:Shared) (σ:St) (H:Hp) (x:V) (v:Value) (Q:VK),@B_->RelV x v->r x H Q->
  wpAny @EQ X.A (f v) (EP X pins σ Q) X.xe s
def gu (X:Cx)(f:Value)(r:List V->Hp->VK->Prop):Prop:=
 ∀(pins:@C_) (s:Shared) (σ:St) (H:Hp) (xs:List V) (us:@GT) (Q:VK),@B_->Vals xs us->r xs H Q->
  wpAny @EQ X.A (call f us) (EP X pins σ Q) X.xe s
def Nr (X:Cx)(r:V->Hp->(Bool->Hp->Prop)->Prop):Prop:=
 ∀(pins:@C_) (s:Shared) (σ:St) (H:Hp) (x:V) (v:Value) (Q:Bool->Hp->Prop),@B_->RelV x v->r x H Q->
  wpAny @EQ X.A (truthy v) (TP X pins σ Q) X.xe s
def Mz (r:R2)(ta tb:TE):TE:=λσ H Q=>ta σ H λx H1=>tb σ H1 λy H2=>r x y H2 Q
def Ox (r:V->Hp->VK->Prop)(ta:TE):TE:=λσ H Q=>ta σ H λx H1=>r x H1 Q
def rI (C:Int->Int->Prop)(g:Int->Int->V):R2:=λx y H Q=>∃i j,x=.int i/\y=.int j/\C i j/\Q (g i j) H
def xF (g:Int->Int->V):R2:=λx y H Q=>∃i j,x=.int i/\y=.int j/\Q (g i j) H
def rU (g:Int->V):V->Hp->VK->Prop:=λx H Q=>∃i,x=.int i/\Q (g i) H
section
variable {X:Cx}{a b c:Expr}{ta tb tc:TE}{pos:Pos}
def IG (ha:PE X a ta)(hb:PE X b tb){pins:@C_}{s:Shared}{σ:St}{H:Hp}{R:V->V->Hp->Prop}(I:@B_)
  (h:ta σ H λx H1=>tb σ H1 λy H2=>R x y H2) {Q:@Ev} {f:Value->Value->Sem Value}
  (hf:∀v u s2 x y H2,Inv X pins σ H2 s2->RelV x v->RelV y u->R x y H2->wpAny @EQ X.A (f v u) Q X.xe s2) :
  wpAny @EQ X.A (eval a X.env) (λv s₁=>wpAny @EQ X.A (eval b X.env) (λu s₂=>wpAny @EQ X.A (f v u) Q X.xe s₂) X.xe s₁) X.xe s:=by
 refine cI (ha pins s σ H _ I h) λv s1 ⟨x,H1,I1,r1,q1⟩=>?_
 refine cI (hb pins s1 σ H1 _ I1 q1) λu s2 ⟨y,H2,I2,r2,q2⟩=>?_
 exact hf v u s2 x y H2 I2 r1 r2 q2
def um {op:Operator}{r:R2}(ho:lP X (binaryOp op) r)(ha:PE X a ta)(hb:PE X b tb):PE X (.BinOp a op b pos) (Mz r ta tb):=by
 intro pins s σ H Q I h
 exact wpAny_BinOp (IG ha hb I h λv u s2 x y H2 I2 rx ry q=>ho pins s2 σ H2 x y v u Q I2 rx ry q)
def LZ {op:UnaryOp}{r:V->Hp->VK->Prop}(ho:My X (unaryOp op) r)(ha:PE X a ta):PE X (.UnaryOp op a pos) (Ox r ta):=by
 intro pins s σ H Q I h
 exact UnaryOp_ (cI (ha pins s σ H _ I h) λv s1 ⟨x,H1,I1,r1,q1⟩=>ho pins s1 σ H1 x v Q I1 r1 q1)
def MM {f:Value->Value->Sem Value}{C:Int->Int->Prop}{g:Int->Int->Int}
  (rule:∀(i j:Int) (t u:Tok) (s:Shared) (Q:@Ev) (E:@Ev),C i j->Q (.int (g i j) s.toks) {s with toks:=s.toks + 1}->wpAny @EQ X.A (f (.int i t) (.int j u)) Q E s) :
  lP X f (rI C λi j=>.int (g i j)):=by
 intro pins s σ H x y v u Q I rx ry h
 obtain⟨i,j,rfl,rfl,hc,q⟩:=h
 obtain⟨t,rfl⟩:=rx
 obtain⟨t',rfl⟩:=ry
 exact rule i j t t' s _ _ hc ⟨.int (g i j),H,I.tok _,⟨_,rfl⟩,q⟩
def Hj {f:Value->Value->Sem Value}{g:Int->Int->Int}
  (rule:∀(i j:Int) (t u:Tok) (s:Shared) (Q:@Ev) (E:@Ev),Q (.int (g i j) s.toks) {s with toks:=s.toks + 1}->wpAny @EQ X.A (f (.int i t) (.int j u)) Q E s) :
  lP X f (xF λi j=>.int (g i j)):=by
 intro pins s σ H x y v u Q I rx ry h
 obtain⟨i,j,rfl,rfl,q⟩:=h
 obtain⟨t,rfl⟩:=rx
 obtain⟨t',rfl⟩:=ry
 exact rule i j t t' s _ _ ⟨.int (g i j),H,I.tok _,⟨_,rfl⟩,q⟩
def JD {f:Value->Value->Sem Value}{g:Int->Int->Bool}
  (rule:∀(i j:Int) (t u:Tok) (s:Shared) (Q:@Ev) (E:@Ev),Q (.bool (g i j)) s->wpAny @EQ X.A (f (.int i t) (.int j u)) Q E s) :
  lP X f (xF λi j=>.bl (g i j)):=by
 intro pins s σ H x y v u Q I rx ry h
 obtain⟨i,j,rfl,rfl,q⟩:=h
 obtain⟨t,rfl⟩:=rx
 obtain⟨t',rfl⟩:=ry
 exact rule i j t t' s _ _ ⟨.bl (g i j),H,I,rfl,q⟩
def GS (i j:Int):Prop:=0 < j/\j < 1073741824
def Jl (i j:Int):Prop:=0<=j/\j<=1000000/\i.natAbs < 2 ^ 64
def Ds (i j:Int):Prop:=(-(2 ^ 64) < i/\i < 2 ^ 64)\/(-(2 ^ 64) < j/\j < 2 ^ 64)
def Ds.ok {i j:Int}(h:Ds i j):IntMulOk i j:=by
 rcases h with⟨h1,h2⟩ | ⟨h1,h2⟩
 ·exact .of_left (intBits_le_64 h1 h2)
 ·exact .of_right (intBits_le_64 h1 h2)
def dJ:lP X (binaryOp .Add) (xF λi j=>.int (i + j)):=Hj λ_ _ _ _ _ _ _ q=>add_int q
def zm:lP X (binaryOp .Sub) (xF λi j=>.int (i - j)):=Hj λ_ _ _ _ _ _ _ q=>sub_int q
def l9:lP X (binaryOp .Mult) (rI Ds λi j=>.int (i * j)):=MM λ_ _ _ _ _ _ _ hc q=>mul_int q hc.ok
def vH:lP X (binaryOp .FloorDiv) (rI GS λi j=>.int (i / j)):=MM λi j _ _ _ _ _ hc q=>by
 have h1:(0:Int) < j:=hc.1
 have h2:j < 1073741824:=hc.2
 exact floordiv_int (@AT) (by rw[Int.fdiv_eq_ediv_of_nonneg i (@AT)];exact q) (.inl (PyProof.noPylong_small (@AT)))
def nM:lP X (binaryOp .Mod) (rI (λ_ j=>0 < j) λi j=>.int (i % j)):=MM λi j _ _ _ _ _ hc q=>by
 have h1:(0:Int) < j:=hc
 exact mod_int' (@AT) (by rw[Int.fmod_eq_emod_of_nonneg i (@AT)];exact q)
def JY:lP X (binaryOp .LShift) (rI Jl λi j=>.int (i * 2 ^ j.toNat)):=MM λ_ _ _ _ _ _ _ hc q=>lshift_int_small hc.1 hc.2.1 hc.2.2 q
def Kc:lP X (binaryOp .BitAnd) (xF λi j=>.int (Builtin.bitAnd i j)):=Hj λ_ _ _ _ _ _ _ q=>and_int q
def Hs:lP X (binaryOp .BitOr) (xF λi j=>.int (Builtin.bitOr i j)):=Hj λ_ _ _ _ _ _ _ q=>or_int q
def Ow {f:Value->Sem Value}{g:Int->Int}
  (rule:∀(i:Int) (t:Tok) (s:Shared) (Q:@Ev) (E:@Ev),Q (.int (g i) s.toks) {s with toks:=s.toks + 1}->wpAny @EQ X.A (f (.int i t)) Q E s) :
  My X f (rU λi=>.int (g i)):=by
 intro pins s σ H x v Q I rx h
 obtain⟨i,rfl,q⟩:=h
 obtain⟨t,rfl⟩:=rx
 exact rule i t s _ _ ⟨.int (g i),H,I.tok _,⟨_,rfl⟩,q⟩
def rT:My X (unaryOp .USub) (rU λi=>.int (-i)):=Ow λ_ _ _ _ _ q=>neg_int q
end
section
variable {X:Cx}{a b c:Expr}{ta tb tc:TE}{pos:Pos}
def rn:lP X (compareOp .Lt) (xF λi j=>.bl (decide (i < j))):=JD λ_ _ _ _ _ _ _ q=>lt_int q
def tX:lP X (compareOp .LtE) (xF λi j=>.bl (decide (i<=j))):=JD λ_ _ _ _ _ _ _ q=>le_int q
def DF:lP X (compareOp .Gt) (xF λi j=>.bl (decide (j < i))):=JD λ_ _ _ _ _ _ _ q=>gt_int q
def a7 (b:Expr){op:CmpOp}(h:op≠.In:=by decide)(h2:op≠.NotIn:=by decide):behindInMarks op b=false:=by
 have e1:(op == CmpOp.In)=false:=by cases op <;> first |rfl |exact absurd rfl h
 have e2:(op == CmpOp.NotIn)=false:=by cases op <;> first |rfl |exact absurd rfl h2
 cases b <;> simp[behindInMarks,e1,e2]
def GK {op:CmpOp}{r:R2}(ho:lP X (compareOp op) r)(ha:PE X a ta)(hb:PE X b tb)(hm:behindInMarks op b=false):PE X (.Compare a [op] [b] pos) (Mz r ta tb):=by
 intro pins s σ H Q I h
 exact wpAny_Compare1 (IG ha hb I h λv u s2 x y H2 I2 rx ry q=>ho pins s2 σ H2 x y v u Q I2 rx ry q) hm
def Hq (t:TE):TT:=λσ H Q=>t σ H λx H'=>∃k,x=.bl k/\Q k H'
def Gv {op:CmpOp}{r:R2}(ho:lP X (compareOp op) r)(ha:PE X a ta)(hb:PE X b tb)(hm:behindInMarks op b=false):PT X (.Compare a [op] [b] pos) (Hq (Mz r ta tb)):=by
 intro pins s σ H Q I h
 refine wpAny_isTrue_Compare1 (cI (ha pins s σ H _ I h) λv s1 ⟨x,H1,I1,r1,q1⟩=>cI (hb pins s1 σ H1 _ I1 q1) λu s2 ⟨y,H2,I2,r2,q2⟩=>
  cI (ho pins s2 σ H2 x y v u _ I2 r1 r2 q2) λc s3 ⟨z,H3,I3,r3,k,e,q3⟩=>?_) hm
 subst e
 cases r3
 exact PQ ⟨H3,I3,q3⟩
def D3 (r r':R2)(ta tb tc:TE):TE:=λσ H Q=>ta σ H λx H1=>tb σ H1 λy H2=>r x y H2 λz H3=>∃k,z=.bl k/\
 (if k=true then tc σ H3 λw' H4=>r' y w' H4 Q else Q (.bl false) H3)
theorem Cm {op op':CmpOp}{r r':R2}(ho:lP X (compareOp op) r)(ho':lP X (compareOp op') r')(ha:PE X a ta)(hb:PE X b tb)(hc:PE X c tc)
  (hm:lastMarks [op,op'] [b,c]=false:=by with_unfolding_all rfl):PE X (.Compare a [op,op'] [b,c] pos) (D3 r r' ta tb tc):=by
 intro pins s σ H Q I h
 refine Compare_chain (cI (ha pins s σ H _ I h) λv s1 ⟨x,H1,I1,r1,q1⟩=>chain_link (cI (hb pins s1 σ H1 _ I1 q1) λu s2 ⟨y,H2,I2,r2,q2⟩=>
  cI (ho pins s2 σ H2 x y v u _ I2 r1 r2 q2) λd s3 ⟨z,H3,I3,r3,k,e,q3⟩=>?_)) hm
 subst e
 cases r3
 refine PQ ?_
 cases k with
 |false=>exact ite_ff ⟨.bl false,H3,I3,rfl,q3⟩
 |true=>exact ite_tt (chain_last (cI (hc pins s3 σ H3 _ I3 q3) λw' s4 ⟨z',H4,I4,r4,q4⟩=>ho' pins s4 σ H4 y z' u w' Q I4 r2 r4 q4))
theorem wD {op op':CmpOp}{r r':R2}(ho:lP X (compareOp op) r)(ho':lP X (compareOp op') r')(ha:PE X a ta)(hb:PE X b tb)(hc:PE X c tc)
  (hm:lastMarks [op,op'] [b,c]=false:=by with_unfolding_all rfl):PT X (.Compare a [op,op'] [b,c] pos) (Hq (D3 r r' ta tb tc)):=by
 intro pins s σ H Q I h
 refine isTrue_chain (cI (ha pins s σ H _ I h) λv s1 ⟨x,H1,I1,r1,q1⟩=>test_link (cI (hb pins s1 σ H1 _ I1 q1) λu s2 ⟨y,H2,I2,r2,q2⟩=>
  cI (ho pins s2 σ H2 x y v u _ I2 r1 r2 q2) λd s3 ⟨z,H3,I3,r3,k,e,q3⟩=>?_)) hm
 subst e
 cases r3
 refine PQ ?_
 cases k with
 |false=>
  obtain⟨k',e',q'⟩:=q3
  cases e'
  exact ite_ff ⟨H3,I3,q'⟩
 |true=>
  refine ite_tt (test_last (cI (hc pins s3 σ H3 _ I3 q3) λw' s4 ⟨z',H4,I4,r4,q4⟩=>cI (ho' pins s4 σ H4 y z' u w' _ I4 r2 r4 q4) λd' s5 ⟨z2,H5,I5,r5,k2,e2,q5⟩=>?_))
  subst e2
  cases r5
  exact PQ ⟨H5,I5,q5⟩
def Lw (K:Frag)(x:V)(H:Hp)(k:Bool):Prop:=
 match x with
 | .non=>k=false
 | .bl b=>k=b
 | .int i=>k=(i != 0)
 | .str y=>y.length<=sizeLine/\k=((y.length:Int) != 0)
 | .byt y=>y.size<=sizeLine/\k=((y.size:Int) != 0)
 | .ref p=>(∃xs,iF K H p xs/\k= !xs.isEmpty)\/(∃xs,fN K H p xs/\k= !xs.isEmpty)\/∃kvs,H p=some (.dK kvs)/\k= !kvs.isEmpty
 |_=>False
def zj {κ:Type}{kvs:List (κ×V)}{vs:List (κ×Value)}(r:KV kvs vs):(!vs.isEmpty)= !kvs.isEmpty:=by
 cases r <;> rfl
def qE {xs:List V}{its:@GT}(r:Vals xs its):(!its.toArray.isEmpty)= !xs.isEmpty:=by
 cases r <;> simp
def oP:(sizeLine:Nat) < 2 ^ 63:=by rw[Pq];decide
theorem Jb:Nr X (λx H Q=>∃k,Lw X.K x H k/\Q k H):=by
 intro pins s σ H x v Q I rx h
 obtain⟨k,e,q⟩:=h
 have hl:=oP
 have hs:sizeLine=16777216:=Pq
 cases x with
 |non=>
  cases rx
  have e':k=false:=e
  subst e'
  exact truthy_none ⟨H,I,q⟩
 |bl b=>
  cases rx
  have e':k=b:=e
  subst e'
  exact PQ ⟨H,I,q⟩
 |int i=>
  obtain⟨t,rfl⟩:=rx
  have e':k=(i != 0):=e
  subst e'
  exact PySem.P.truthy_int ⟨H,I,q⟩
 |str y=>
  obtain⟨t,rfl⟩:=rx
  obtain⟨hy,e'⟩:y.length<=sizeLine/\k=((y.length:Int) != 0):=e
  subst e'
  exact PySem.P.truthy_str (@AT) ⟨H,I.tok _,q⟩
 |byt y=>
  obtain⟨t,rfl⟩:=rx
  obtain⟨hy,e'⟩:y.size<=sizeLine/\k=((y.size:Int) != 0):=e
  subst e'
  exact PySem.W.truthy_bytes (@AT) ⟨H,I.tok _,q⟩
 |ref p=>
  cases rx
  have e':(∃xs,iF X.K H p xs/\k= !xs.isEmpty)\/(∃xs,fN X.K H p xs/\k= !xs.isEmpty)\/∃kvs,H p=some (.dK kvs)/\k= !kvs.isEmpty:=e
  rcases e' with⟨xs,hx,e'⟩ | ⟨xs,hx,e'⟩ | ⟨kvs,hx,e'⟩
  ·subst e'
   obtain⟨its,r,pl,hz⟩:=I.list hx
   have hlen:=r.length
   exact wpAny_truthy_list pl.isList (by simp only[OX];omega) ⟨H,I.tok _,by rw[qE r];exact q⟩
  ·subst e'
   obtain⟨its,r,pl,hz⟩:=I.tuple hx
   have hlen:=r.length
   exact truthy_tuple pl (by simp only[OX];omega) ⟨H,I.tok _,by rw[qE r];exact q⟩
  ·subst e'
   obtain⟨hz,hS,vs,r,m⟩:kvs.length<=sizeLine/\(p == sysModules)=false/\∃vs,KV kvs vs/\s.heap.DictOf (uE X.prog X.w) p vs:=I.hok p _ hx
   have hlen:kvs.length=vs.length:=Paired.length r
   exact wpAny_truthy_dict hS m (@AT) ⟨H,I.tok _,by rw[zj r];exact q⟩
 |_=>exact (show False from e).elim
def Ct (ha:PE X a ta)(he:∀whole,isTrue a X.env whole=(do let v <-whole;standAt a.pos;holding [v] (truthy v))) :
  PT X a (λσ H Q=>ta σ H λx H'=>∃k,Lw X.K x H' k/\Q k H'):=by
 intro pins s σ H Q I h
 exact isTrue_plain (cI (ha pins s σ H _ I h) λv s1 ⟨x,H1,I1,r1,q1⟩=>Jb pins s1 σ H1 x v Q I1 r1 q1) (he _)
theorem vals1 {x:V}{us:@GT}(r:Vals [x] us):∃u,us= [u]/\RelV x u:=by
 cases r with
 |cons r1 r2=>cases r2;exact⟨_,rfl,r1⟩
theorem vals2 {x y:V}{us:@GT}(r:Vals [x,y] us):∃u w',us= [u,w']/\RelV x u/\RelV y w':=by
 cases r with
 |cons r1 r2=>
  cases r2 with
  |cons r3 r4=>cases r4;exact⟨_,_,rfl,r1,r3⟩
def BW:gu X (.type "int") (λxs H Q=>(∃i,xs= [.int i]/\Q (.int i) H)\/∃k,xs= [.bl k]/\Q (.int (if k then 1 else 0)) H):=by
 intro pins s σ H xs us Q I r h
 rcases h with⟨i,rfl,q⟩ | ⟨k,rfl,q⟩
 ·obtain⟨u,rfl,t,rfl⟩:=vals1 r
  exact call_int_int ⟨.int i,H,I,⟨_,rfl⟩,q⟩
 ·obtain⟨u,rfl,r1⟩:=vals1 r
  cases r1
  exact call_int_bool ⟨.int (if k then 1 else 0),H,I.tok _,⟨_,rfl⟩,q⟩
def LD (K:Frag)(x:V)(H:Hp)(n:Nat):Prop:=
 match x with
 | .str y=>y.length<=sizeLine/\n=y.length
 | .byt y=>y.size<=sizeLine/\n=y.size
 | .ref p=>(∃xs,iF K H p xs/\n=xs.length)\/∃xs,fN K H p xs/\n=xs.length
 |_=>False
theorem cB:gu X (.builtin "len") (λxs H Q=>∃x n,xs= [x]/\LD X.K x H n/\Q (.int n) H):=by
 intro pins s σ H xs us Q I r h
 obtain⟨x,n,rfl,e,q⟩:=h
 obtain⟨u,rfl,rx⟩:=vals1 r
 have hl:=oP
 have hs:sizeLine=16777216:=Pq
 cases x with
 |str y=>
  obtain⟨t,rfl⟩:=rx
  obtain⟨hy,e'⟩:y.length<=sizeLine/\n=y.length:=e
  subst e'
  exact len_str (@AT) ⟨.int _,H,I.tok _,⟨_,rfl⟩,q⟩
 |byt y=>
  obtain⟨t,rfl⟩:=rx
  obtain⟨hy,e'⟩:y.size<=sizeLine/\n=y.size:=e
  subst e'
  exact PySem.W.len_bytes (@AT) ⟨.int _,H,I.tok _,⟨_,rfl⟩,q⟩
 |ref p=>
  cases rx
  have e':(∃xs,iF X.K H p xs/\n=xs.length)\/∃xs,fN X.K H p xs/\n=xs.length:=e
  rcases e' with⟨xs,hx,e'⟩ | ⟨xs,hx,e'⟩
  ·subst e'
   obtain⟨its,r',pl,hz⟩:=I.list hx
   have hlen:=r'.length
   exact Calls.call_len_list pl.isList (by simp only[OX];omega) ⟨.int xs.length,H,I.tok _,⟨_,by simp only[OX];rw[hlen]⟩,q⟩
  ·subst e'
   obtain⟨its,r',pl,hz⟩:=I.tuple hx
   have hlen:=r'.length
   exact len_tuple pl (by simp only[OX];omega) ⟨.int xs.length,H,I.tok _,⟨_,by simp only[OX];rw[hlen]⟩,q⟩
 |_=>exact (show False from e).elim
def xJ:gu X (.builtin "divmod") (λxs H Q=>∃i j,xs= [.int i,.int j]/\GS i j/\∀p,H p=none->Q (.ref p) (upd H p (.tup [.int (i / j),.int (i % j)]))):=by
 intro pins s σ H xs us Q I r h
 obtain⟨i,j,rfl,⟨h1,h2⟩,q⟩:=h
 obtain⟨u,w',rfl,⟨t,rfl⟩,⟨t',rfl⟩⟩:=vals2 r
 refine divmod_int (@AT) ?_ (.inl (PyProof.noPylong_small (@AT)))
 rw[Int.fdiv_eq_ediv_of_nonneg i (@AT),Int.fmod_eq_emod_of_nonneg i (@AT)]
 have hn:H s.heap.objs.size=none:=I.hok.fresh (OF _)
 refine⟨.ref s.heap.objs.size,_,?_,rfl,q _ hn⟩
 refine I.laid (λb o e=>OI _ e) (OF _) ⟨by simp only[O8,List.length_nil];rw[Pq];decide,[.int (i / j) s.toks,.int (i % j) (s.toks + 1)],.cons ⟨_,rfl⟩ (.cons ⟨_,rfl⟩ .nil),?_⟩
 exact⟨_,OV s.heap rfl,rfl,0,rfl,rfl⟩
end
structure JE (h:Heap)(x dx C:Addr)(mA:@FS):Prop where
 obj:h.get? x=some (PySem.W.instObj C dx)
 ns:h.Ns1 dx mA
 ne:dx≠x
def Bq {h:Heap}{dx:Addr}{mA:@FS}(n:h.Ns1 dx mA):∃od,h.get? dx=some od/\∀name,PySem.W.lookIn name od=some (mA name):=by
 obtain⟨o,es,ep,ho,hd,hk,_,hm⟩:=n
 refine⟨o,ho,λname=>?_⟩
 have e:=hm name
 unfold nsFind findBy at e
 rw[<-Array.find?_toList] at e
 unfold PySem.W.lookIn
 rw[hd]
 dsimp only
 split
 ·rename_i y q
  rw[q] at e
  exact congrArg some e
 ·rename_i q
  rw[q] at e
  have a:es.toList.any (·.refKey)=false:=by
   rw[List.any_eq_false]
   intro y hy
   obtain⟨z,t,hkey⟩:=hk y (Array.mem_toList_iff.mp hy)
   simp[DictEntry.refKey,hkey]
  have a':¬es.toList.any (·.refKey)=true:=by rw[a];exact OZ
  rw[OP a']
  exact congrArg some e
def JE.look {h:Heap}{x dx C:Addr}{mA:@FS}(I:JE h x dx C mA):∃od,PySem.W.InstAt h x (PySem.W.instObj C dx) C (some od)/\∀name,PySem.W.lookIn name od=some (mA name):=
 let ⟨od,ho,hl⟩:=Bq I.ns
 ⟨od,⟨I.obj,rfl,rfl,ho⟩,hl⟩
section
variable {P:Program}{w:World}{H H':Hp}{h h':Heap}{a C dx:Addr}{fs fs':List (Str×V)}
def Gw (hok:og P w H h)(e:H a=some (.ins C dx fs)):∃mA,JE h a dx C mA/\(∀f,DO (fs.lookup f) (mA f))/\PySem.Within mA (fs.map (·.1))/\fs.length<=1000/\H dx=some (.own a):=by
 obtain⟨d,z,ne,ob,mA,n,r,q⟩:=(show dA P w H h a (.ins C dx fs) from hok a _ e)
 exact⟨mA,⟨ob,n,ne⟩,r,q,z,d⟩
end
structure ND (K:Frag)(C:Addr):Prop where
 pg:PySem.W.plainGet K C Str.empty=true
 hd:PySem.W.hasDictIn K C=true
 po:PySem.W.plainOver K C=true
 sa:PySem.W.findIn K (.ref C) "__setattr__"=some (some (.builtin "object.__setattr__"))
def ND.get {K:Frag}{C:Addr}(c:ND K C)(f:Str):PySem.W.plainGet K C f=true:=c.pg
section
variable {X:Cx}{pins:@C_}{σ:St}{H:Hp}{s:Shared}{A:Around}{E:@Ev}{Q:@Ev}{c:Value}{b:Bool}
inductive pL (K:Frag)(H:Hp):V->Value->Prop where
 |non:pL K H .non (.type "NoneType")
 |bl (x:Bool):pL K H (.bl x) (.type "bool")
 |int (i:Int):pL K H (.int i) (.type "int")
 |str (x:Str):pL K H (.str x) (.type "str")
 |flt (x:UInt64):pL K H (.flt x) (.type "float")
 |lst {a:Addr} {xs:List V} (e:H a=some (.lst xs)):pL K H (.ref a) (.type "list")
 |aW {a:Addr} {o:Obj} {xs:List V} (e:H a=some (.aW o (.lst xs))):pL K H (.ref a) (.type "list")
 |tup {a:Addr} {xs:List V} (e:H a=some (.tup xs)):pL K H (.ref a) (.type "tuple")
 |dK {a:Addr} {kvs:List (Key×V)} (e:H a=some (.dK kvs)):pL K H (.ref a) (.type "dict")
 |dT {a:Addr} {kvs:List (List Key×V)} (e:H a=some (.dT kvs)):pL K H (.ref a) (.type "dict")
 |ins {a C dx:Addr} {fs:List (Str×V)} (e:H a=some (.ins C dx fs)) (cl:ND K C) (ha:PySem.W.findIn K (.ref C) "__class__"=some (some (.builtin "object.__class__")))
   (hn:PySem.W.specialIn K (.builtin "object.__class__") "__get__"=some (some (.builtin "getset_descriptor.__get__"))) (htk:PySem.W.takesIn K (.builtin "object.__class__")=some true)
   (hm:PySem.W.mroIn K C (.type "object")=some true):pL K H (.ref a) (.ref C)
theorem kN {x:V}{u t:Value}(I:@B_)(rx:RelV x u)(ty:pL X.K H x t)(e:PySem.W.kitOne X.K t c=some b)(h:∀tk,Q (.bool b) {s with toks:=tk}) :
  wpAny @EQ A (call (.builtin "isinstance") [u,c]) Q E s:=by
 cases ty with
 |non=>cases (show u=Value.none from rx);exact PJ PySem.W.kitx_none I.kIn True.intro e (λz=>nomatch z) h
 |bl y=>cases (show u=Value.bool y from rx);exact PJ PySem.W.kitx_bool I.kIn True.intro e (λz=>nomatch z) h
 |int i=>obtain⟨t,q⟩:=(show ∃t,u=Value.int i t from rx);cases q;exact PJ PySem.W.kitx_int I.kIn True.intro e (λz=>nomatch z) h
 |str y=>obtain⟨t,q⟩:=(show ∃t,u=Value.str y t from rx);cases q;exact PJ PySem.W.kitx_str I.kIn True.intro e (λz=>nomatch z) h
 |flt y=>obtain⟨t,q⟩:=(show ∃t,u=Value.float y t from rx);cases q;exact PJ PySem.W.kitx_float I.kIn True.intro e (λz=>nomatch z) h
 | @lst a xs ea=>
  cases (show u=Value.ref a from rx)
  obtain⟨_,_,n,_,h1⟩:=(show dA X.prog X.w H s.heap a (.lst xs) from I.hok a _ ea)
  exact PJ PySem.W.kitx_list I.kIn ⟨_,h1,rfl⟩ e (λz=>nomatch z) h
 | @aW a ob xs ea=>
  cases (show u=Value.ref a from rx)
  obtain⟨_,_,_,n,_,h1⟩:=(show dA X.prog X.w H s.heap a (.aW ob (.lst xs)) from I.hok a _ ea)
  exact PJ PySem.W.kitx_list I.kIn ⟨_,h1,rfl⟩ e (λz=>nomatch z) h
 | @tup a xs ea=>
  cases (show u=Value.ref a from rx)
  obtain⟨_,_,_,p⟩:=(show dA X.prog X.w H s.heap a (.tup xs) from I.hok a _ ea)
  obtain⟨o,h1,h2,_⟩:=p
  exact PJ PySem.W.kitx_tuple I.kIn ⟨o,h1,h2⟩ e (λz=>nomatch z) h
 | @dK a kvs ea=>
  cases (show u=Value.ref a from rx)
  obtain⟨_,_,vs,_,p⟩:=(show dA X.prog X.w H s.heap a (.dK kvs) from I.hok a _ ea)
  obtain⟨o,es,ep,h1,h2,_⟩:=p
  exact PJ PySem.W.kitx_dict I.kIn ⟨o,h1,h2.1⟩ e (λz=>nomatch z) h
 | @dT a kvs ea=>
  cases (show u=Value.ref a from rx)
  obtain⟨_,_,xs,_,o,es,ep,h1,h2,_⟩:=(show dA X.prog X.w H s.heap a (.dT kvs) from I.hok a _ ea)
  exact PJ PySem.W.kitx_dict I.kIn ⟨o,h1,h2.1⟩ e (λz=>nomatch z) h
 | @ins a C dx fs ea cl ha hn htk hm=>
  cases (show u=Value.ref a from rx)
  obtain⟨mA,O,_⟩:=Gw I.hok ea
  obtain⟨od,J,_⟩:=O.look
  exact PJ (PySem.W.kitx_own (cl.get _) cl.hd ha hn htk hm) I.kIn J e (λz=>nomatch z) h
end
structure eG (k:Nat)(A:Around):Prop where
 hd:A.handled=none
 dp:A.depth + 3 * k + 5 < recursionLimit
 un:A.units + 16 * k + 200 < cLine
 gd:A.guards=some []
def eG.mono {j k:Nat}{A:Around}(r:eG k A)(h:j<=k):eG j A:=⟨r.hd,by have:=r.dp;omega,by have:=r.un;omega,r.gd⟩
def eG.deeper {k:Nat}{A:Around}(r:eG (k + 1) A)(env:Env):eG k (A.deeper env):=
 ⟨r.hd,by have:=r.dp;show A.depth + 1 + 3 * k + 5 < _;omega,by have:=r.un;show A.units + 3 + 16 * k + 200 < _;omega,r.gd⟩
def eG.in1 {k:Nat}{A:Around}(r:eG (k + 1) A):eG k A.in1:=
 ⟨r.hd,by have:=r.dp;show A.depth + 3 * k + 5 < _;omega,by have:=r.un;show A.units + 1 + 16 * k + 200 < _;omega,r.gd⟩
def eG.depth {k:Nat}{A:Around}(r:eG k A):A.depth < recursionLimit:=by have:=r.dp;omega
def eG.units {k:Nat}{A:Around}(r:eG k A):A.units + 64 < cLine:=by have:=r.un;omega
def G9:TA:=λ_ H Q=>Q [] H
def Am (ta:TE)(tr:TA):TA:=λσ H Q=>ta σ H λx H1=>tr σ H1 λxs H2=>Q (x :: xs) H2
section
variable {X:Cx}{e:Expr}{es:List Expr}{te:TE}{t:TA}{pos:Pos}
def b9:PA X [] G9:=λ_ _ _ _ H Q I h=>Calls.spliced_nil ⟨[],H,I,.nil,h⟩
def a9 (ha:PE X e te)(hr:PA X es t)(hs:starEach (e :: es) X.env=(false,eval e X.env) :: starEach es X.env:=by rfl):PA X (e :: es) (Am te t):=by
 intro pos pins s σ H Q I h
 rw[hs]
 show wpAny _ _ (spliced ((false,eval e X.env) :: backTo pos (starEach es X.env))) _ _ s
 refine Calls.spliced_cons (cI (ha pins s σ H _ I h) λu s1 ⟨x,H1,I1,r1,q1⟩=>?_)
 exact cI (hr pos pins s1 σ H1 _ I1 q1) λus s2 ⟨xs,H2,I2,r2,q2⟩=>⟨x :: xs,H2,I2,.cons r1 r2,q2⟩
def Ni (t:TA):TE:=λσ H Q=>t σ H λxs H1=>xs.length<=sizeLine/\∀p,H1 p=none->Q (.ref p) (upd H1 p (.tup xs))
def Nn (t:TA):TE:=λσ H Q=>t σ H λxs H1=>xs.length<=sizeLine/\∀p,H1 p=none->Q (.ref p) (upd H1 p (.lst xs))
def yU {x1}(h:PA X es t):PE X (.Tuple es x1 pos) (Ni t):=by
 intro pins s σ H Q I hq
 refine wpAny_Tuple_spliced (cI (h pos pins s σ H _ I hq) λus s1 ⟨xs,H1,I1,r,z,q⟩=>⟨by rw[<-r.length];exact z,?_⟩)
 have hf:H1 s1.heap.objs.size=none:=I1.hok.fresh (OF _)
 refine⟨.ref s1.heap.objs.size,upd H1 s1.heap.objs.size (.tup xs),I1.laid (t':=s1.toks) (λb u e=>OI _ e) (OF _) ?_,rfl,q _ hf⟩
 exact⟨z,us,r,sx.new _ _⟩
def D9 (h:PA X es t):PE X (.List es pos) (Nn t):=by
 intro pins s σ H Q I hq
 refine wpAny_List_spliced (cI (h pos pins s σ H _ I hq) λus s1 ⟨xs,H1,I1,r,z,q⟩=>⟨by rw[<-r.length];exact z,?_⟩)
 have hf:H1 s1.heap.objs.size=none:=I1.hok.fresh (OF _)
 refine⟨.ref s1.heap.objs.size,upd H1 s1.heap.objs.size (.lst xs),I1.laid (t':=s1.toks) (λb u e=>OI _ e) (OF _) ?_,rfl,q _ hf⟩
 exact⟨z,us,0,r,OV _ rfl⟩
end
abbrev Sp:=List V->Hp->VK->XK->Prop
abbrev Bl:=List Env->Hp->Shared->XK->@Ev
structure yK (P:Program)(w:World)(K:Frag)(mg:@FS)(base:Heap)(A:Around)(outer:List Env)(s:Shared)(H:Hp):Prop where
 frames:A.frames=some outer
 mod:Mod K mg base
 bs:∀b o,base.get? b=some o->s.heap.get? b=some o/\H b=none
 bsz:base.objs.size<=s.heap.objs.size
 funs:s.heap.FunFrames base outer
 frf:∀b∈nQ outer,H b=none
 hok:og P w H s.heap
 bare:AllBare s.gens
def CE (outer:List Env)(P:Program)(w:World)(H:Hp)(s:Shared)(Q:VK)(u:Value)(s':Shared):Prop:=
 ∃v H',s'.os=s.os/\AllBare s'.gens/\Un (nQ outer) [] H H' s.heap s'.heap/\og P w H' s'.heap/\RelV v u/\Q v H'
def CR (CX:Bl)(outer:List Env)(P:Program)(w:World)(H:Hp)(s:Shared)(Q:VK)(E:XK)(r:Result)(s':Shared):Prop:=
 match r with
 | .ok (.ret u)=>CE outer P w H s Q u s'
 | .ok _=>False
 | .error e=>CX outer H s E e s'
structure fM (P:Program)(w:World)(K:Frag)(mg:@FS)(base:Heap)(CX:Bl)(k:Nat)(f:Addr)(fd:FuncData)(ps:@IN)(sp:Sp):Prop where
 len:∀vs H Q E,sp vs H Q E->vs.length=ps.length
 run:∀(A:Around) (outer:List Env) (s:Shared) (H:Hp) (args:Args) (us:@GT) (vs:List V) (Q:VK) (E:XK),eG k A->yK P w K mg base A outer s H->BindsTo s fd args (ps.zip us)->Vals vs us->sp vs H Q E->
  codeAny (model P w) A (.call (.ref f) args) (CR CX outer P w H s Q E) s
def fM.mono {P:Program}{w:World}{K:Frag}{mg:@FS}{base:Heap}{CX:Bl}{j k:Nat}{f:Addr}{fd:FuncData}{ps:@IN}{sp:Sp}(F:fM P w K mg base CX j f fd ps sp)(h:j<=k) :
  fM P w K mg base CX k f fd ps sp:=⟨F.len,λA outer s H args us vs Q E hr=>F.run A outer s H args us vs Q E (hr.mono h)⟩
def fM.imp {P:Program}{w:World}{K:Frag}{mg:@FS}{base:Heap}{CX:Bl}{k:Nat}{f:Addr}{fd:FuncData}{ps:@IN}{sp sp':Sp}(F:fM P w K mg base CX k f fd ps sp)
  (h:∀vs H Q E,sp' vs H Q E->sp vs H Q E):fM P w K mg base CX k f fd ps sp':=
 ⟨λvs H Q E q=>F.len vs H Q E (h _ _ _ _ q),λA outer s H args us vs Q E hr he hb hv hs=>F.run A outer s H args us vs Q E hr he hb hv (h _ _ _ _ hs)⟩
def yK.in1 {P:Program}{w:World}{K:Frag}{mg:@FS}{base:Heap}{A:Around}{outer:List Env}{s:Shared}{H:Hp}(e:yK P w K mg base A outer s H) :
  yK P w K mg base A.in1 outer s H:=⟨e.frames,e.mod,e.bs,e.bsz,e.funs,e.frf,e.hok,e.bare⟩
section
variable {X:Cx}{pins:@C_}{σ:St}{H:Hp}{s s':Shared}
def Inv.env0 (I:@B_):yK X.prog X.w X.K X.mg X.base X.A X.stack s H:=
 ⟨I.ok.frames,I.ok.mod,I.bs,PB I.ok.bsz I.sz,I.stack,I.stkFree,I.hok,I.bare⟩
def Inv.after {Q:VK}{u:Value}(I:@B_)(h:CE X.stack X.prog X.w H s Q u s'):EP X pins σ Q u s':=by
 obtain⟨v,H',os,bare,un,hok,r,q⟩:=h
 obtain⟨hh,g,d,t,os'⟩:=s'
 obtain rfl:os'=s.os:=os
 exact⟨v,H',I.call (h':=hh) (g':=g) (d':=d) (t':=t) (ch:=[]) un hok bare (λb z=>absurd z (by simp)),r,q⟩
end
def Lf (sp:Sp)(dvs:List V)(E:XK)(t:TA):TE:=λσ H Q=>t σ H λvs H1=>sp (vs ++ dvs) H1 Q E
def Binds (K:Frag)(fd:FuncData)(ps:@IN)(ds:@GT):Prop:=
 ∀(s:Shared) (us:@GT),K.In s.heap->(us ++ ds).length=ps.length->BindsTo s fd ⟨us,[]⟩ (ps.zip (us ++ ds))
def Binds.all {K:Frag}{fd:FuncData}{ps:@IN}(h:∀us:@GT,us.length=ps.length->bindArgs fd ⟨us,[]⟩=pure (ps.zip us)):Binds K fd ps []:=λs us _ hl=>by
 rw[Qs] at hl ⊢
 exact .of_eq (h us hl)
def Passes (CX:Bl)(X:Cx)(E:XK):Prop:=∀(pins:@C_) (σ:St) (H:Hp) (s:Shared) (e:Value) (s':Shared),@B_->CX X.stack H s E e s'->X.xe e s'
section
variable {X:Cx}{CX:Bl}{k:Nat}{f C:Addr}{fd:FuncData}{ps:@IN}{sp:Sp}{dvs:List V}{ds:@GT}{E:XK}{x m:Str}{p pos apos:Pos}{e o:Expr}{es:List Expr}{ta:TE}{t:TA}
theorem J0 {pins:@C_}{σ:St}{H:Hp}{s:Shared}{Q:VK}{us:@GT}{vs:List V}(F:fM X.prog X.w X.K X.mg X.base CX k f fd ps sp)(hr:eG k X.A)(hb:Binds X.K fd ps ds)(hd:Vals dvs ds)(hx:Passes CX X E)
  (I:@B_) (r:Vals vs us) (h:sp (vs ++ dvs) H Q E):wpAny @EQ X.A (call (.ref f) us) (EP X pins σ Q) X.xe s:=by
 have r2:Vals (vs ++ dvs) (us ++ ds):=r.append hd
 have hl:(us ++ ds).length=ps.length:=by rw[<-r2.length];exact F.len _ _ _ _ h
 refine wpAny_call (Rg (F.run X.A X.stack s H ⟨us,[]⟩ (us ++ ds) (vs ++ dvs) Q E hr I.env0 (hb s us I.kIn hl) r2 h) λr s' hq=>?_)
 cases r with
 |error e=>exact hx pins σ H s e s' I hq
 |ok fl=>
  cases fl with
  |ret u=>exact I.after hq
  |next=>exact False.elim hq
  |brk=>exact False.elim hq
  |cont=>exact False.elim hq
def nR (F:fM X.prog X.w X.K X.mg X.base CX k f fd ps sp)(hr:eG k X.A)(hg:Gl X x)(hm:X.mg x=some (.ref f))(hk:PySem.W.keepIn X.K (.ref f)=true)(hb:Binds X.K fd ps ds)(hd:Vals dvs ds)(hx:Passes CX X E)
  (ha:PA X (e :: es) t) (hdb:@G_:=by decide) (he:starEach (e :: es) X.env=(false,eval e X.env) :: starEach es X.env:=by rfl) (hpl:(backTo pos (starEach es X.env)).any (·.1)=false:=by rfl) :
  PE X (.Call (.Name x p) (e :: es) [] pos) (Lf sp dvs E t):=by
 intro pins s σ H Q I h
 refine Rh (AM I hg hm ?_ hdb)
 refine PySem.W.callWith_K (h₀:=X.base) I.ok.mod.kin hk (cI (ha pos pins s σ H _ I h) λus s1 ⟨vs,H1,I1,r,q⟩=>⟨I1.kIn,?_⟩) he hpl
 exact J0 F hr hb hd hx I1 r q
end
def PK (X:Cx)(kws:List Keyword)(t:TA):Prop:=
 ∀(pos:Pos) (pins:@C_) (s:Shared) (σ:St) (H:Hp) (Q:List V->Hp->Prop),@B_->t σ H Q->wpAny @EQ X.A (evalAll ((backToKw pos (keywordEach kws X.env)).map (·.2))) (AP X pins σ Q) X.xe s
section
variable {X:Cx}{CX:Bl}{k:Nat}{f C:Addr}{fd:FuncData}{ps ks:@IN}{sp:Sp}{E:XK}{x m:Str}{p pos apos kpos:Pos}{e o:Expr}{es:List Expr}{kws:List Keyword}{te ta:TE}{t tk:TA}{nm:Option Str}
def JT:PK X [] G9:=λ_ _ _ _ H Q I h=>wpAny_evalAll_nil ⟨[],H,I,.nil,h⟩
def EU (ha:PE X e te)(hr:PK X kws t):PK X (⟨nm,e,kpos⟩ :: kws) (Am te t):=by
 intro pos pins s σ H Q I h
 show wpAny _ _ (evalAll ((do let v <-eval e X.env;standAt pos;pure v) :: (backToKw pos (keywordEach kws X.env)).map (·.2))) _ _ s
 refine wpAny_evalAll_cons (OL (cI (ha pins s σ H _ I h) λu s1 ⟨x,H1,I1,r1,q1⟩=>OL (wpAny_standAt (Pa ?_))))
 exact cI (hr pos pins s1 σ H1 _ I1 q1) λus s2 ⟨xs,H2,I2,r2,q2⟩=>⟨x :: xs,H2,I2,.cons r1 r2,q2⟩
variable {g:@GT->@GT->@GT}{gV:List V->List V->List V}
end
structure aF (N P:@IN)(sc:Scope):Prop where
 kind:sc.kind=.function
 co:sc.isCoroutine=false
 gen:sc.isGenerator=false
 nd:N.Nodup
 pre:N.take P.length=P
 par:∀x∈P,sc.names.lookup x=some .local\/sc.names.lookup x=some .cell
 nofree:∀y∈sc.names,y.2≠.free
theorem tJ {kindOf:Str->Option NameKind}{x:Str}:∀{binds:List (Str×Value)} {m:@FS},(∀v,(x,v)∉binds)->bindL kindOf binds m x=m x
 | [],_,_=>rfl
 | (n,v) :: r,m,h=>by
  unfold bindL
  rw[tJ λw hw=>h w (OQ _ hw)]
  split
  ·have:x≠n:=by rintro rfl;exact h v ON
   simp[this]
  ·rfl
theorem tO {kindOf:Str->Option NameKind}{x:Str}:∀{binds:List (Str×Value)} {m:@FS},(∀v,(x,v)∉binds)->bindC kindOf binds m x=m x
 | [],_,_=>rfl
 | (n,v) :: r,m,h=>by
  unfold bindC
  rw[tO λw hw=>h w (OQ _ hw)]
  split
  ·rfl
  ·have:x≠n:=by rintro rfl;exact h v ON
   simp[this]
theorem tQ {kindOf:Str->Option NameKind}{x:Str}{v:Value}:∀{P:@IN} {vs:@GT} {i:Nat} {m:@FS},P.Nodup->P[i]? =some x->vs[i]? =some v->kindOf x=some .local->
  bindL kindOf (P.zip vs) m x=some v
 | [],_,_,_,_,h,_,_=>by simp at h
 |_ :: _,[],_,_,_,_,h,_=>by simp at h
 |p :: P,w :: vs,0,m,nd,h1,h2,hk=>by
  simp at h1 h2;subst h1;subst h2
  show bindL kindOf ((p,w) :: P.zip vs) m p=_
  unfold bindL
  rw[tJ λv hv=>(Pl.mp nd).1 (List.of_mem_zip hv).1,OG hk]
  simp
 |p :: P,w :: vs,i + 1,m,nd,h1,h2,hk=>by
  show bindL kindOf ((p,w) :: P.zip vs) m x=_
  unfold bindL
  exact tQ (i:=i) (Pl.mp nd).2 (by simpa using h1) (by simpa using h2) hk
theorem t8 {kindOf:Str->Option NameKind}{x:Str}{v:Value}:∀{P:@IN} {vs:@GT} {i:Nat} {m:@FS},P.Nodup->P[i]? =some x->vs[i]? =some v->kindOf x≠some .local->
  bindC kindOf (P.zip vs) m x=some v
 | [],_,_,_,_,h,_,_=>by simp at h
 |_ :: _,[],_,_,_,_,h,_=>by simp at h
 |p :: P,w :: vs,0,m,nd,h1,h2,hk=>by
  simp at h1 h2;subst h1;subst h2
  show bindC kindOf ((p,w) :: P.zip vs) m p=_
  unfold bindC
  rw[tO λv hv=>(Pl.mp nd).1 (List.of_mem_zip hv).1,OP hk]
  simp
 |p :: P,w :: vs,i + 1,m,nd,h1,h2,hk=>by
  show bindC kindOf ((p,w) :: P.zip vs) m x=_
  unfold bindC
  exact t8 (i:=i) (Pl.mp nd).2 (by simpa using h1) (by simpa using h2) hk
def start (N:@IN)(vs:List V):St:=vs.map some ++ List.replicate (N.length - vs.length) none
def pM (CX:Bl)(P:Program)(w:World)(K:Frag)(mg:@FS)(base:Heap)(N:@IN)(qual:Str)(scope:Scope)(f:Addr)(cd:Value)(A:Around)(outer:List Env)(s:Shared)(H:Hp)(E:XK):Cx where
 prog:=P
 w:=w
 K:=K
 mg:=mg
 base:=base
 A:=A.deeper (envOfC qual scope s.heap.objs.size f cd)
 N:=N
 s₀:=s
 H₀:=H
 env:=envOfC qual scope s.heap.objs.size f cd
 outer:=outer
 stack:=envOfC qual scope s.heap.objs.size f cd :: outer
 ex:=[]
 calm:=true
 fn:=λ_=>true
 pn:=[]
 xe:=λe s'=>wpAny (model P w) (A.deeper (envOfC qual scope s.heap.objs.size f cd)) (leaving (envOfC qual scope s.heap.objs.size f cd) e) (λ_ s''=>CX outer H s E e s'') (λe' s''=>CX outer H s E e' s'') s'
def wK {sc:Scope}{n:Nat}{x:Str}(h:sc.names.lookup x=some .cell):∃c,(cellsFrom n sc.names []).lookup x=some c:=by
 have q:=PySem.W.cellsFrom_some sc.names n [] (.inl h)
 exact Option.isSome_iff_exists.mp q
def BS {CX:Bl}{P:Program}{w:World}{K:Frag}{mg:@FS}{base:Heap}{N ps:@IN}{qual:Str}{scope:Scope}{f:Addr}{cd:Value}{A:Around}{outer:List Env}{s s1:Shared}{H:Hp}{E:XK}{us:@GT}{vs:List V}
  (S:aF N ps scope) (hd:A.handled=none) (e0:yK P w K mg base A outer s H) (hl:vs.length=ps.length) (r:Vals vs us)
  (x:InCallC s s.heap.objs.size (bindL (envOfC qual scope s.heap.objs.size f cd).kindOf (ps.zip us) λ_=>none) (cellsFrom (s.heap.objs.size + 1) scope.names []) (bindC (envOfC qual scope s.heap.objs.size f cd).kindOf (ps.zip us) λ_=>none) s1) :
  Inv (pM CX P w K mg base N qual scope f cd A outer s H E) [] (start N vs) H s1:=by
 have hpl:ps.length<=N.length:=by have:=congrArg List.length S.pre;rw[PH] at this;omega
 obtain⟨h1,tk,rfl,hk⟩:=x.done
 have noA:∀b:Addr,b∉(pM CX P w K mg base N qual scope f cd A outer s H E).ex:=λb z=>absurd (show b∈([]:List Addr) from z) (by simp)
 refine⟨⟨e0.mod,S.kind,rfl,rfl,OF _,λy z c h1 h2=>?_,λy hy=>?_,λy c _ h=>?_,λ_=>hd,Around.frames_deeper e0.frames,.inr ⟨rfl,rfl⟩,λb z=>absurd z (noA b),e0.bs,e0.bsz,λb _ _=>noA b,λb z=>absurd z (noA b),e0.funs,e0.frf⟩,
  rfl,e0.bare,Un.kept hk,⟨_,x.toInCall.ns,λi y v h1 h2 h3=>?_⟩,λy c h=>⟨_,x.cell y c h⟩,e0.hok.fresh (OF _),λy c h=>?_,λp hp=>absurd (show p∈([]:@C_) from hp) (by simp),e0.hok.kept hk,?_⟩
 ·exact name_of_addr x.apart (PN h1) (PN h2)
 ·have hy:scope.names.lookup y=some .cell\/scope.names.lookup y=some .free:=hy
  rcases hy with hy |hy
  ·exact wK hy
  ·exact absurd rfl (S.nofree _ (PN hy))
 ·exact Qz (x.above y c (PN h))
 ·have hi:i < vs.length:=by
   unfold start at h2
   by_cases hi:i < vs.length
   ·exact hi
   ·rw[Po (by simpa using hi)] at h2
    rw[P0] at h2
    split at h2 <;> cases h2
  have ha:vs[i]? =some v:=by
   unfold start at h2
   rw[Pg (by simpa using hi),OU] at h2
   cases e:vs[i]? with
   |none=>rw[e] at h2;cases h2
   |some a=>rw[e] at h2;cases h2;rfl
  obtain⟨u,hu,rv⟩:=r.get ha
  have hp:ps[i]? =some y:=by
   rw[<-S.pre,List.getElem?_take_of_lt (@AT)];exact h1
  have ndP:ps.Nodup:=by rw[<-S.pre];exact S.nd.sublist (List.take_sublist _ _)
  refine⟨u,rv,?_⟩
  rcases S.par y (O0 hp) with k |k
  ·exact .inl ⟨k,tQ ndP hp hu k⟩
  ·obtain⟨c,e⟩:=wK (n:=s.heap.objs.size + 1) k
   refine .inr ⟨.inl k,c,e,?_⟩
   have q:=x.cell y c e
   rw[t8 ndP hp hu (by show scope.names.lookup y≠_;rw[k];decide)] at q
   exact q
 ·exact e0.hok.fresh (Qz (x.above y c (PN h)))
 ·unfold start
  show _=N.length
  rw[O9,OH,PL]
  omega
theorem Ck {CX:Bl}{P:Program}{w:World}{K:Frag}{mg:@FS}{base:Heap}{k:Nat}{f:Addr}{name qual:Str}{params:Arguments}{body:List Stmt}{scope:Scope}{dV kV doc pm cdv ct oc:Value}{an od:@Is}
  {osl:Array (Option Value)} {N ps:@IN} {sp:Sp} (lk:K.lookup f=some ⟨oc,od,.func (PySem.W.fnOf name qual params body scope dV kV doc pm an cdv ct),osl⟩) (hcd:PySem.W.codeIn K cdv qual=true) (S:aF N ps scope)
  (len:∀vs H Q E,sp vs H Q E->vs.length=ps.length)
  (hbody:∀(A:Around) (outer:List Env) (s:Shared) (H:Hp) (vs:List V) (Q:VK) (E:XK),eG k (A.deeper (envOfC qual scope s.heap.objs.size f cdv))->sp vs H Q E->
   ∃t,sL (pM CX P w K mg base N qual scope f cdv A outer s H E) body t/\t {nx:=λ_ H'=>Q .non H',rt:=Q} (start N vs) H) :
  fM P w K mg base CX (k + 1) f (PySem.W.fnOf name qual params body scope dV kV doc pm an cdv ct) ps sp:=by
 refine⟨len,λA outer s H args us vs Q E hr e0 hb r hsp=>?_⟩
 have hl:=len _ _ _ _ hsp
 have KX:K.In s.heap:=e0.mod.kin.keeps λb o e=>(e0.bs b o e).1
 have lim:s.heap.NoLimit:=e0.mod.nolimit.keeps λb o e=>(e0.bs b o e).1
 have hkind:∀y∈ps.zip us,scope.names.lookup y.1=some .local\/(scope.names.lookup y.1=some .cell/\((cellsFrom (s.heap.objs.size + 1) scope.names []).lookup y.1).isSome=true):=λ⟨n,v⟩ hy=>by
  rcases S.par n (List.of_mem_zip hy).1 with q |q
  ·exact .inl q
  ·exact .inr ⟨q,PySem.W.cellsFrom_some _ _ _ (.inl q)⟩
 refine codeAny_call_function hr.depth (KX _ _ lk) rfl S.co S.gen rfl (PySem.W.codeRec_of KX hcd) (hb _ _ _ _ ?_)
 refine wpAny_newFunctionEnv_cells S.kind hkind λenv he s1 x=>?_
 subst he
 refine⟨lim.keeps x.toInCall.keep,codeAny_func ?_⟩
 obtain⟨t,ht,hq⟩:=hbody A outer s H vs Q E (hr.deeper _) hsp
 have I:Inv (pM CX P w K mg base N qual scope f cdv A outer s H E) [] (start N vs) H s1:=BS S hr.hd e0 hl r x
 refine P5 (ht [] s1 (start N vs) H _ I hq) (λfl s' hs=>?_) λe s' hs=>hs
 have fin:∀{σ':St} {H':Hp} {v:V} {u:Value},Inv (pM CX P w K mg base N qual scope f cdv A outer s H E) [] σ' H' s'->RelV v u->Q v H'->CE outer P w H s Q u s':=
  λ{σ' H' v u} J rv q=>⟨v,H',J.os,J.bare,J.base,J.hok,rv,q⟩
 cases fl with
 |ret u=>
  obtain⟨v,σ',H',J,rv,q⟩:=hs
  exact fin J rv q
 |next=>
  obtain⟨σ',H',J,q⟩:=hs
  exact fin (v:=V.non) (u:=Value.none) J rfl q
 |brk=>
  obtain⟨_,_,_,q⟩:=hs
  exact False.elim q
 |cont=>
  obtain⟨_,_,_,q⟩:=hs
  exact False.elim q
section
variable {X:Cx}{x:Str}{p pos:Pos}{e:Expr}{es:List Expr}{t:TA}{id T:String}{r:List V->Hp->VK->Prop}
def N8 (r:List V->Hp->VK->Prop)(t:TA):TE:=λσ H Q=>t σ H λvs H1=>r vs H1 Q
def oy (hc:gu X (.builtin id) r)(hg:Gl X x)(hm:X.mg x=none)(hv:bootBuiltins x=some (.builtin id))(ha:PA X (e :: es) t)(hn:x≠"__name__":=by decide)(hdb:@G_:=by decide)
  (he:starEach (e :: es) X.env=(false,eval e X.env) :: starEach es X.env:=by rfl) (hpl:(backTo pos (starEach es X.env)).any (·.1)=false:=by rfl):PE X (.Call (.Name x p) (e :: es) [] pos) (N8 r t):=by
 intro pins s σ H Q I h
 refine Rh (nN I hg hm hv ?_ hn hdb)
 exact PyProof.Rows.callWith_builtin1 (cI (ha pos pins s σ H _ I h) λus s1 ⟨vs,H1,I1,r1,q1⟩=>hc pins s1 σ H1 vs us Q I1 r1 q1) he hpl
def kC (hc:gu X (.type T) r)(hg:Gl X x)(hm:X.mg x=none)(hv:bootBuiltins x=some (.type T))(ha:PA X (e :: es) t)(hn:x≠"__name__":=by decide)(hdb:@G_:=by decide)
  (he:starEach (e :: es) X.env=(false,eval e X.env) :: starEach es X.env:=by rfl) (hpl:(backTo pos (starEach es X.env)).any (·.1)=false:=by rfl):PE X (.Call (.Name x p) (e :: es) [] pos) (N8 r t):=by
 intro pins s σ H Q I h
 refine Rh (nN I hg hm hv ?_ hn hdb)
 exact QB (cI (ha pos pins s σ H _ I h) λus s1 ⟨vs,H1,I1,r1,q1⟩=>hc pins s1 σ H1 vs us Q I1 r1 q1) he hpl
end
end L2
namespace HT
open PySem PyProof.Rows
section
open PySem.SeqAt
open PySem.AutoSeq1 (wpAny_loadPart')
open PySem.MeetsSeq PySem.MeetsSeq2 PySem.MeetsSeq3
end
section
variable {prog:Program}{w:World}{A:Around}{E:@Ev}{s:Shared}
def Fg {t b:Addr}{vs ws:@GT}{Q:@Ev}(ht:IsTup s.heap t vs.toArray)(hb:IsTup s.heap b ws.toArray)(hv:vs≠ [])
  (h1:ws= []->Q (.ref t) s) (h2:ws≠ []->Q (.ref s.heap.objs.size) {s with heap:=s.heap.push {cls:=.type "tuple",data:=.seq (vs ++ ws).toArray}})
  (hsz:vs.length + ws.length<=sizeLine):wpAny (model prog w) A (binaryOp .Add (.ref t) (.ref b)) Q E s:=by
 obtain⟨⟨cls,dd,data,sl⟩,ho,hc,n,hd⟩:=id ht
 obtain⟨⟨cls2,dd2,data2,sl2⟩,ho2,hc2,n2,hd2⟩:=id hb
 simp only at hc hd hc2 hd2
 subst hc hd hc2 hd2
 have e:vs.toArray ++ ws.toArray=(vs ++ ws).toArray:=by simp
 by_cases hw:ws= []
 ·exact concat_meets ⟨_,ho,rfl⟩ ⟨_,ho2,rfl⟩ noFill_tuple_add seq_tuple_add PySem.F.slot_tuple_add PySem.F.entry_tuple_add (Ri _ _)
   (tuple_addW1 t b vs.toArray ws.toArray n n2 dd dd2 sl sl2 (by simpa using hv) (by simp[hw])) ⟨ho,ho2,h1 hw⟩
 ·refine concat_meets ⟨_,ho,rfl⟩ ⟨_,ho2,rfl⟩ noFill_tuple_add seq_tuple_add PySem.F.slot_tuple_add PySem.F.entry_tuple_add (Ri _ _)
   (tuple_addW2 t b vs.toArray ws.toArray n n2 dd dd2 sl sl2 (by simpa using hv) (by simpa using hw) (by rw[OX,OX];exact hsz)) ⟨ho,ho2,?_⟩
  rw[e]
  exact h2 hw
def tS (n d:Nat):Option Int->Nat
 |none=>d
 |some v=>if v < 0 then (v + (n:Int)).toNat else min v.toNat n
def v9 (n d:Nat):tS n d none=d:=rfl
def AK (n d k:Nat):tS n d (some (k:Int))=min k n:=by
 show (if (k:Int) < 0 then ((k:Int) + (n:Int)).toNat else min (k:Int).toNat n)=min k n
 rw[OP (@AT),Pk]
end
end HT
namespace L2
open PySem PySem.Spec PyProof.Rows
abbrev TO:=St->Hp->(Option Int->Hp->Prop)->Prop
def PO (X:Cx)(e:Option Expr)(t:TO):Prop:=
 ∀(pins:@C_) (s:Shared) (σ:St) (H:Hp) (Q:Option Int->Hp->Prop),@B_->t σ H Q->
  wpAny @EQ X.A (evalPart e X.env) (λu s'=>∃o H',Inv X pins σ H' s'/\IsPart u o/\Q o H') X.xe s
def E3:TO:=λ_ H Q=>Q none H
def LG (t:TE):TO:=λσ H Q=>t σ H λx H1=>∃i,x=.int i/\Q (some i) H1
theorem intsAre_of {ns:@D_}:∀{us:@GT},Vals (ns.map V.int) us->IntsAre us ns:=by
 induction ns with
 |nil=>intro us r;rw[List.map_nil] at r;cases r;exact .nil
 |cons n ns ih=>
  intro us r
  rw[P8] at r
  cases r with
  |cons r1 r2=>
   obtain⟨t,e⟩:=r1
   subst e
   exact .cons n t (ih r2)
section
variable {X:Cx}{e:Expr}{te:TE}{lo hi:Option Expr}{tl th:TO}{pos p2:Pos}
def EY:PO X none E3:=by
 intro pins s σ H Q I h
 rw[evalPart_none]
 exact Pa ⟨none,H,I,.none,h⟩
def EW (h:PE X e te):PO X (some e) (LG te):=by
 intro pins s σ H Q I hw
 rw[evalPart_some]
 refine cI (h pins s σ H _ I hw) λu s1 ⟨x,H1,I1,r1,q1⟩=>?_
 obtain⟨i,rfl,q⟩:=q1
 obtain⟨t,rfl⟩:=r1
 exact⟨some i,H1,I1,.int i t,q⟩
def Oi (X:Cx)(r:V->Option Int->Option Int->Hp->VK->Prop):Prop:=
 ∀(pins:@C_) (s:Shared) (σ:St) (H:Hp) (x:V) (v vl vu:Value) (lo hi:Option Int) (sl:Addr) (Q:VK),@B_->RelV x v->s.heap.IsSliceOf sl vl vu .none->IsPart vl lo->IsPart vu hi->r x lo hi H Q->
  ∃T id,typeLookup (.type T) "__getitem__"=pure (some (.builtin id))/\s.TypeIs v T/\wpAny @EQ X.A (getItem v (.ref sl)) (EP X pins σ Q) X.xe s
def Om (r:V->Option Int->Option Int->Hp->VK->Prop)(te:TE)(tl th:TO):TE:=λσ H Q=>te σ H λx H1=>tl σ H1 λl H2=>th σ H2 λu H3=>r x l u H3 Q
def Dt {r:V->Option Int->Option Int->Hp->VK->Prop}(hr:Oi X r)(he:PE X e te)(hl:PO X lo tl)(hu:PO X hi th):PE X (.Subscript e (.Slice lo hi none p2) pos) (Om r te tl th):=by
 intro pins s σ H Q I h
 refine Subscript_ (cI (he pins s σ H _ I h) λv s1 ⟨x,H1,I1,r1,q1⟩=>?_)
 refine wpAny_Slice (cI (hl pins s1 σ H1 _ I1 q1) λvl s2 ⟨l,H2,I2,pl,q2⟩=>cI (hu pins s2 σ H2 _ I2 q2) λvu s3 ⟨u,H3,I3,pu,q3⟩=>?_)
 rw[evalPart_none]
 refine Pa ?_
 have I4:Inv X pins σ H3 {s3 with heap:=s3.heap.push {cls:=.type "slice",data:=.fields #[vl,vu,.none]}}:=I3.kept (t':=s3.toks) λb ob q=>OI _ q
 obtain⟨T,id,hT,ht,hg⟩:=hr pins {s3 with heap:=s3.heap.push {cls:=.type "slice",data:=.fields #[vl,vu,.none]}} σ H3 x v vl vu l u s3.heap.objs.size Q I4 r1 (Heap.IsSliceOf.new ..) pl pu q3
 show wpAny @EQ X.A (subscriptTail e (.Slice lo hi none p2) v (.ref s3.heap.objs.size)) (EP X pins σ Q) X.xe {s3 with heap:=s3.heap.push {cls:=.type "slice",data:=.fields #[vl,vu,.none]}}
 exact tail_any (ops:=[.ref s3.heap.objs.size,v]) ht hT hg (by with_unfolding_all rfl)
def yI (xs:List V)(lo hi:Option Int):List V:=(xs.drop (HT.tS xs.length 0 lo)).take (HT.tS xs.length xs.length hi - HT.tS xs.length 0 lo)
def wM (xs:List V)(lo hi:Option Int):(yI xs lo hi).length<=xs.length:=by
 unfold yI
 rw[PH,length_drop]
 omega
def LK (K:Frag):R2:=λx y H Q=>∃a b xs ys,x=.ref a/\y=.ref b/\fN K H a xs/\fN K H b ys/\xs≠ []/\xs.length + ys.length<=sizeLine/\
 (ys= []->Q (.ref a) H)/\(ys≠ []->∀p,H p=none->Q (.ref p) (upd H p (.tup (xs ++ ys))))
theorem Vals.nil_iff {xs:List V}{us:@GT}(r:Vals xs us):us= []↔xs= []:=by
 cases r with
 |nil=>simp
 |cons _ _=>simp
def ER:lP X (binaryOp .Add) (LK X.K):=by
 intro pins s σ H x y v u Q I rx ry h
 obtain⟨a,b,xs,ys,rfl,rfl,ha,hb,hx,hz,q1,q2⟩:=h
 cases rx
 cases ry
 obtain⟨its,r1,p1,_⟩:=I.tuple ha
 obtain⟨its2,r2,p2,_⟩:=I.tuple hb
 refine HT.Fg p1 p2 (λz=>hx (r1.nil_iff.mp z)) (λz=>⟨.ref a,H,I,rfl,q1 (r2.nil_iff.mp z)⟩) (λz=>?_) (by rw[<-r1.length,<-r2.length];exact hz)
 refine⟨.ref s.heap.objs.size,_,I.laid (t':=s.toks) (o:=.tup (xs ++ ys)) (λb ob q=>OI _ q) (OF _) ?_,rfl,q2 (λw=>z (r2.nil_iff.mpr w)) _ (I.hok.fresh (OF _))⟩
 exact⟨by rw[O9];exact hz,_,r1.append r2,sx.new _ _⟩
end
def uF (n:Nat)(i:Int):Option Nat:=if 0<=i then (if i < n then some i.toNat else none) else if -(n:Int)<=i then some (i + n).toNat else none
def l8 {α:Type}(xs:List α)(i:Int):Option α:=(uF xs.length i).bind λj=>xs[j]?
def Aj {n:Nat}{i:Int}{j:Nat}(h:uF n i=some j):seqIndex? i n=some j/\j < n/\ -(n:Int)<=i/\i < n:=by
 unfold uF at h
 by_cases h0:0<=i
 ·rw[OG h0] at h
  by_cases h1:i < n
  ·rw[OG h1] at h
   have e:i.toNat=j:=Option.some.inj h
   exact⟨by rw[seqIndex_of h0 h1,e],@AT,@AT,h1⟩
  ·rw[OP h1] at h;cases h
 ·rw[OP h0] at h
  by_cases h1: -(n:Int)<=i
  ·rw[OG h1] at h
   have e:(i + n).toNat=j:=Option.some.inj h
   exact⟨by rw[seqIndex_neg (@AT) h1,e],@AT,h1,@AT ⟩
  ·rw[OP h1] at h;cases h
theorem vc {α:Type}{xs:List α}{i:Int}{v:α}(h:l8 xs i=some v):∃j,seqIndex? i xs.length=some j/\xs[j]? =some v/\j < xs.length/\ -(xs.length:Int)<=i/\i < xs.length:=by
 unfold l8 at h
 cases e:uF xs.length i with
 |none=>rw[e] at h;cases h
 |some j=>
  rw[e] at h
  obtain⟨h1,h2,h3,h4⟩:=Aj e
  exact⟨j,h1,h,h2,h3,h4⟩
def mS {α:Type}{xs:List α}{j:Nat}{v:α}(h:xs[j]? =some v):l8 xs (j:Int)=some v:=by
 have hj:j < xs.length:=(OO.mp h).1
 have e:uF xs.length (j:Int)=some j:=by
  unfold uF
  rw[OG (@AT),OG (@AT)];simp
 unfold l8;rw[e];exact h
def AN (b:Expr):Prop:=∀o i,subscripted b false o i=operate [o,i] (getItem o i)
def Ed (X:Cx)(r:R2):Prop:=
 ∀(value slice:Expr) (pins:@C_) (s:Shared) (σ:St) (H:Hp) (x y:V) (v u:Value) (Q:VK),@B_->RelV x v->RelV y u->r x y H Q->
  subscripted slice false v u=operate [v,u] (getItem v u)->wpAny @EQ X.A (subscriptTail value slice v u) (EP X pins σ Q) X.xe s
def OB (X:Cx)(id:String)(r:V->List V->Hp->VK->Prop):Prop:=
 ∀(pins:@C_) (s:Shared) (σ:St) (H:Hp) (x:V) (xs:List V) (v:Value) (us:@GT) (Q:VK),@B_->RelV x v->Vals xs us->r x xs H Q->
  wpAny @EQ X.A (call (.builtin id) (v :: us)) (EP X pins σ Q) X.xe s
section
variable {X:Cx}{a b:Expr}{ta tb:TE}{pos:Pos}
def Ed.or {r r':R2}(h:Ed X r)(h':Ed X r'):Ed X (λx y H Q=>r x y H Q\/r' x y H Q):=by
 intro value slice pins s σ H x y v u Q I rx ry q hs
 rcases q with q |q
 ·exact h value slice pins s σ H x y v u Q I rx ry q hs
 ·exact h' value slice pins s σ H x y v u Q I rx ry q hs
def nh {r:R2}(hr:Ed X r)(ha:PE X a ta)(hb:PE X b tb)(hs:AN b):PE X (.Subscript a b pos) (Mz r ta tb):=by
 intro pins s σ H Q I h
 exact Subscript_ (IG ha hb I h λv u s2 x y H2 I2 rx ry q=>hr a b pins s2 σ H2 x y v u Q I2 rx ry q (hs _ _))
def JI (K:Frag):R2:=λx y H Q=>∃p xs i v,x=.ref p/\y=.int i/\iF K H p xs/\l8 xs i=some v/\Q v H
def LH (K:Frag):R2:=λx y H Q=>∃p xs i v,x=.ref p/\y=.int i/\fN K H p xs/\l8 xs i=some v/\Q v H
def KD:R2:=λx y H Q=>∃z i c,x=.str z/\y=.int i/\z.length<=sizeLine/\l8 z.cps.toList i=some c/\Q (.str ⟨#[c]⟩) H
def i3:Ed X (JI X.K):=by
 intro value slice pins s σ H x y v u Q I rx ry h hs
 obtain⟨p,xs,i,z,rfl,rfl,hq,he,q⟩:=h
 cases rx
 obtain⟨t,rfl⟩:=ry
 obtain⟨its,r,pl,hz⟩:=I.list hq
 obtain⟨j,h1,h2,h3,h4,h5⟩:=vc he
 obtain⟨w,ew,rw'⟩:=r.get h2
 have hl:=r.length
 have hn:=oP
 have fin:EP X pins σ Q w s:=⟨z,H,I,rw',q⟩
 by_cases h0:0<=i
 ·have hj:i.toNat=j:=by
   rw[seqIndex_of h0 h5] at h1
   exact Option.some.inj h1
  exact item_listR pl.isList h0 (@AT) (by rw[hj];simpa using ew) fin hs
 ·have hj:(i + (its.toArray.size:Int)).toNat=j:=by
   rw[seqIndex_neg (@AT) h4] at h1
   rw[OX,<-hl]
   exact Option.some.inj h1
  exact subscriptTail_builtinR (x:=w) pl.isList.typeIs slot_list_getitem.lookup
   (wpAny_getItem_list_neg (Q:=λr s'=>r=w/\EP X pins σ Q r s') pl.isList (@AT) (by rw[OX] <;> omega) (@AT) (by rw[hj];simpa using ew) ⟨rfl,fin⟩) hs
def IJ:Ed X (LH X.K):=by
 intro value slice pins s σ H x y v u Q I rx ry h hs
 obtain⟨p,xs,i,z,rfl,rfl,hq,he,q⟩:=h
 cases rx
 obtain⟨t,rfl⟩:=ry
 obtain⟨its,r,pl,hz⟩:=I.tuple hq
 obtain⟨j,h1,h2,h3,h4,h5⟩:=vc he
 obtain⟨w,ew,rw'⟩:=r.get h2
 have hl:=r.length
 have hn:=oP
 have fin:EP X pins σ Q w s:=⟨z,H,I,rw',q⟩
 exact subscriptTail_builtinR (x:=w) pl.typeIs slot_tuple_getitem.lookup
  (getItem_tuple (j:=j) (Q:=λr s'=>r=w/\EP X pins σ Q r s') pl (@AT) (@AT) (by rw[OX,<-hl];exact h1) (by simpa using ew) ⟨rfl,fin⟩) hs
def Kf:Ed X KD:=by
 intro value slice pins s σ H x y v u Q I rx ry h hs
 obtain⟨z,i,c,rfl,rfl,hz,he,q⟩:=h
 obtain⟨t,rfl⟩:=rx
 obtain⟨t',rfl⟩:=ry
 obtain⟨j,h1,h2,h3,h4,h5⟩:=vc he
 have hl:z.cps.toList.length=z.length:=by simp[Str.length]
 rw[hl] at h1 h4 h5
 have hn:=oP
 exact tail_any (typeIs_str s z t) slot_str_getitem.lookup (getItem_str (c:=c) (by
  have e1:decide (i < -(2 ^ 63:Int))=false:=OR (@AT)
  have e2:decide (i>=2 ^ 63)=false:=OR (@AT)
  rw[e1,e2,Bool.or_false]) (by rw[h1];simpa using h2) ⟨.str ⟨#[c]⟩,H,I.tok _,⟨_,rfl⟩,q⟩) hs
def N5 (K:Frag):R2:=λx y H Q=>JI K x y H Q\/LH K x y H Q\/KD x y H Q
def aG:Ed X (N5 X.K):=i3.or (IJ.or Kf)
def zi (its:@GT)(n j:Nat)(u:Value):Obj.mapSeq (·.setIfInBounds j u) {cls:=.type "list",data:=.seq its.toArray n}={cls:=.type "list",data:=.seq (its.set j u).toArray n}:=by
 simp[Obj.mapSeq]
def Inv.lst {pins:@C_}{σ:St}{H:Hp}{s:Shared}{p:Addr}{xs:List V}(I:@B_)(h:H p=some (.lst xs)) :
  ∃(its:@GT) (n:Nat),Vals xs its/\s.heap.get? p=some {cls:=.type "list",data:=.seq its.toArray n}/\xs.length<=sizeLine:=by
 obtain⟨z,its,n,r,e⟩:=I.hok p _ h
 exact⟨its,n,r,e,z⟩
def Inv.lstUpd {pins:@C_}{σ:St}{H:Hp}{s:Shared}{p:Addr}{xs ys:List V}{its its':@GT}{n n':Nat}{f:Obj->Obj}(I:@B_)(h:H p=some (.lst xs))
  (ho:s.heap.get? p=some {cls:=.type "list",data:=.seq its.toArray n}) (hf:f {cls:=.type "list",data:=.seq its.toArray n}={cls:=.type "list",data:=.seq its'.toArray n'}) (r:Vals ys its') (hz:ys.length<=sizeLine) (t:Nat) :
  Inv X pins σ (upd H p (.lst ys)) {s with heap:=s.heap.update p f,toks:=t}:=by
 have e:(s.heap.update p f).get? p=some {cls:=.type "list",data:=.seq its'.toArray n'}:=by
  rw[QZ f ho (by rw[hf] <;> rfl),hf]
 refine I.write (x:=p) (e:=p) (by rw[h];trivial) (.inl rfl) (λb u hb q=>(PU _ _ (Ne.symm hb)).trans q) ⟨_,e⟩ ?_
 exact⟨hz,its',n',r,e⟩
def Lm:V->V->V->Hp->(Hp->Prop)->Prop:=λo i v H Q=>∃p xs k j,o=.ref p/\i=.int k/\H p=some (.lst xs)/\uF xs.length k=some j/\Q (upd H p (.lst (xs.set j v)))
def set_list:El X Lm:=by
 intro pins s σ H o i v ov iv u Q I ro ri rv h
 obtain⟨p,xs,k,j,rfl,rfl,hp,hj,q⟩:=h
 cases ro
 obtain⟨t,rfl⟩:=ri
 obtain⟨its,n,r,ho,hz⟩:=I.lst hp
 obtain⟨h1,h2,h3,h4⟩:=Aj hj
 have hl:=r.length
 have hn:=oP
 have I':Inv X pins σ (upd H p (.lst (xs.set j v))) {s with heap:=s.heap.update p (Obj.mapSeq (·.setIfInBounds j u))}:=
  I.lstUpd hp ho (zi its n j u) (r.set rv j) (by rw[Qa];exact hz) s.toks
 by_cases h0:0<=k
 ·have hk:k.toNat=j:=by
   rw[seqIndex_of h0 h4] at h1
   exact Option.some.inj h1
  exact PySem.W.ki_setAt ho h0 (@AT) (by rw[OX,<-hl];exact h4) (by rw[hk];exact⟨_,I',q⟩)
 ·have hk:(k + (its.toArray.size:Int)).toNat=j:=by
   rw[seqIndex_neg (@AT) h3] at h1
   rw[OX,<-hl]
   exact Option.some.inj h1
  exact PySem.W.ki_setBack ho (@AT) (by rw[OX,<-hl];exact h3) (@AT) (by rw[hk];exact⟨_,I',q⟩)
def u5 (lo hi:Option Int)(n:Nat):(sliceBounds lo hi none n).1=((HT.tS n 0 lo:Nat):Int)/\(sliceBounds lo hi none n).2.1=((HT.tS n n hi:Nat):Int)/\(sliceBounds lo hi none n).2.2=1:=by
 refine⟨?_,?_,rfl⟩
 ·cases lo with
  |none=>simp[sliceBounds,HT.tS]
  |some i=>
   simp only[sliceBounds,HT.tS,Option.getD_none,show (1:Int) > 0 by decide,P9]
   by_cases h:i < 0
   ·simp only[h,P9] <;> omega
   ·simp only[h,Ql] <;> omega
 ·cases hi with
  |none=>simp[sliceBounds,HT.tS]
  |some i=>
   simp only[sliceBounds,HT.tS,Option.getD_none,show (1:Int) > 0 by decide,P9]
   by_cases h:i < 0
   ·simp only[h,P9] <;> omega
   ·simp only[h,Ql] <;> omega
def su (its:@GT)(lo hi:Option Int):slicePick its.toArray lo hi none=((its.drop (HT.tS its.length 0 lo)).take (HT.tS its.length its.length hi - HT.tS its.length 0 lo)).toArray:=by
 obtain⟨h1,h2,h3⟩:=u5 lo hi its.toArray.size
 unfold slicePick
 rw[h1,h2,h3]
 simp only[sliceRange_one,pick_run,OX] <;> rfl
def NK (K:Frag):V->Option Int->Option Int->Hp->VK->Prop:=λx lo hi H Q=>∃a xs,x=.ref a/\iF K H a xs/\∀p,H p=none->Q (.ref p) (upd H p (.lst (yI xs lo hi)))
def Gm:Oi X (NK X.K):=by
 intro pins s σ H x v vl vu lo hi sl Q I rx hs pl pu h
 obtain⟨a,xs,rfl,hx,q⟩:=h
 cases rx
 obtain⟨its,r,ht,hz⟩:=I.list hx
 have hlen:=r.length
 refine⟨"list",_,slot_list_getitem.lookup,ht.isList.typeIs,?_⟩
 refine wpAny_getItem_list_slice ht.isList hs pl pu .none (by simp) ?_ (by rw[OX] <;> omega)
 rw[su,<-hlen]
 refine⟨.ref s.heap.objs.size,_,I.laid (t':=s.toks) (o:=.lst (yI xs lo hi)) (λb ob q=>OI _ q) (OF _) ?_,rfl,q _ (I.hok.fresh (OF _))⟩
 exact⟨PB (wM xs lo hi) hz,_,0,(r.drop (HT.tS xs.length 0 lo)).take (HT.tS xs.length xs.length hi - HT.tS xs.length 0 lo),OV _ rfl⟩
def la:gu X (.type "list") (λxs H Q=>∃p ys,xs= [.ref p]/\(iF X.K H p ys\/fN X.K H p ys)/\∀l,H l=none->Q (.ref l) (upd H l (.lst ys))):=by
 intro pins s σ H xs us Q I r h
 obtain⟨p,ys,rfl,hq,q⟩:=h
 obtain⟨u,rfl,rx⟩:=vals1 r
 cases rx
 have fin:∀(its:@GT),Vals ys its->ys.length<=sizeLine->∀(h':Heap) (c':Nat),(∀b o',s.heap.get? b=some o'->h'.get? b=some o')->
   h'.get? s.heap.objs.size=some {cls:=.type "list",dict:=none,data:=.seq its.toArray c',slots:=#[]}->EP X pins σ Q (.ref s.heap.objs.size) {s with heap:=h'}:=λits r' hz h' c' kp e=>
  ⟨.ref s.heap.objs.size,_,I.laid (t':=s.toks) kp (OF _) (show dA X.prog X.w _ h' _ (.lst ys) from⟨hz,its,c',r',e⟩),rfl,q _ (I.hok.fresh (OF _))⟩
 rcases hq with hq |hq
 ·obtain⟨its,r',pl,hz⟩:=I.list hq
  have hlen:=r'.length
  obtain⟨o,ho,hc,n,hd⟩:=pl.isList
  exact call_list_seq p (.inl rfl) ho hc hd (λh' c' kp e=>fin its r' hz h' c' kp e) (by simp only[OX] <;> omega)
 ·obtain⟨its,r',pl,hz⟩:=I.tuple hq
  have hlen:=r'.length
  obtain⟨o,ho,hc,n,hd⟩:=pl
  exact call_list_seq p (.inr rfl) ho hc hd (λh' c' kp e=>fin its r' hz h' c' kp e) (by simp only[OX] <;> omega)
def bJ:gu X (.type "tuple") (λxs H Q=>∃p ys,xs= [.ref p]/\((iF X.K H p ys/\∀l,H l=none->Q (.ref l) (upd H l (.tup ys)))\/(fN X.K H p ys/\Q (.ref p) H))):=by
 intro pins s σ H xs us Q I r h
 obtain⟨p,ys,rfl,h⟩:=h
 obtain⟨u,rfl,rx⟩:=vals1 r
 cases rx
 rcases h with⟨hq,q⟩ | ⟨hq,q⟩
 ·obtain⟨its,r',pl,hz⟩:=I.list hq
  have hlen:=r'.length
  refine call_tuple_list pl.isList (λh' kp=>?_) (by simp only[OX] <;> omega)
  have I1:Inv X pins σ H {s with heap:=h'}:=I.kept (t':=s.toks) kp
  have I2:Inv X pins σ (upd H h'.objs.size (.tup ys)) {s with heap:=h'.push {cls:=.type "tuple",data:=.seq its.toArray}}:=
   I1.laid (t':=s.toks) (λb o e=>OI _ e) (OF _) (show dA X.prog X.w _ _ _ (.tup ys) from⟨hz,its,r',sx.new _ _⟩)
  exact⟨.ref h'.objs.size,_,I2,rfl,q _ (I1.hok.fresh (OF _))⟩
 ·obtain⟨its,r',pl,hz⟩:=I.tuple hq
  exact call_tuple_same pl ⟨.ref p,H,I,rfl,q⟩
def Ob (K:Frag)(T:String)(x:V)(H:Hp):Prop:=match x with
 | .str _=>T="str"
 | .int _=>T="int"
 | .ref p=>(T="list"/\∃xs,iF K H p xs)\/(T="tuple"/\∃o,K.lookup p=some o/\o.cls=.type "tuple"/\o.dict=none)\/
   (T="dict"/\((∃kvs,H p=some (.dK kvs))\/∃kvs,H p=some (.dT kvs)))\/(T="set"/\∃S n,H p=some (.set S n))
 |_=>False
theorem Jq {pins:@C_}{σ:St}{H:Hp}{s:Shared}{T:String}{x:V}{v:Value}(I:@B_)(r:RelV x v)(ty:Ob X.K T x H) :
  s.TypeIs v T/\∀a,v=.ref a->∃ob,s.heap.get? a=some ob/\ob.dict=none:=by
 cases x with
 |str z=>
  obtain⟨t,rfl⟩:=r
  cases (show T="str" from ty)
  exact⟨typeIs_str s z t,λ_ e=>nomatch e⟩
 |int i=>
  obtain⟨t,rfl⟩:=r
  cases (show T="int" from ty)
  exact⟨typeIs_int s i t,λ_ e=>nomatch e⟩
 |ref p=>
  cases r
  rcases ty with⟨rfl,xs,hq⟩ | ⟨rfl,o,hk,hc,hd⟩ | ⟨rfl,hk⟩ | ⟨rfl,S,n,hk⟩
  ·obtain⟨its,_,pl,_⟩:=I.list hq
   refine⟨pl.isList.typeIs,λa e=>?_⟩
   cases e
   obtain⟨o,n,e,c,hd,_⟩:=pl
   exact⟨o,e,hd⟩
  ·refine⟨⟨o,I.kIn p o hk,hc⟩,λa e=>?_⟩
   cases e
   exact⟨o,I.kIn _ o hk,hd⟩
  ·have z:∃o,s.heap.get? p=some o/\o.ExactDict:=by
    rcases hk with⟨kvs,hk⟩ | ⟨kvs,hk⟩
    ·obtain⟨_,_,_,_,o,_,_,e,ex,_⟩:=I.hok p _ hk
     exact⟨o,e,ex⟩
    ·obtain⟨_,_,_,_,o,_,_,e,ex,_⟩:=I.hok p _ hk
     exact⟨o,e,ex⟩
   obtain⟨o,e,ex⟩:=z
   refine⟨⟨o,e,ex.1⟩,λa e2=>?_⟩
   cases e2
   exact⟨o,e,ex.2.1⟩
  ·obtain⟨o,_,_,_,e,ex,_⟩:=I.hok p _ hk
   refine⟨⟨o,e,ex.1⟩,λa e2=>?_⟩
   cases e2
   exact⟨o,e,ex.2.1⟩
 |_=>exact False.elim ty
def Oz (K:Frag)(T:String)(r:V->List V->Hp->VK->Prop)(to:TE)(t:TA):TE:=λσ H Q=>to σ H λx H1=>Ob K T x H1/\t σ H1 λxs H2=>r x xs H2 Q
variable {o e:Expr}{es:List Expr}{to:TE}{t:TA}{name:Str}{apos cpos:Pos}{T id:String}{r:V->List V->Hp->VK->Prop}
def Ah (pa:PlainAttrs T)(slot:Slot T name id)(hty:typeOf (.builtin id)=pure (.type "method_descriptor"))(hm:OB X id r)(ho:PE X o to)(ha:PA X (e :: es) t)
  (hbase:attributeBase o name X.env (eval o X.env)=eval o X.env:=by rfl)
  (hfew:((backTo cpos (starEach (e :: es) X.env)).all (λx=> !x.1) && (backToKw cpos (keywordEach [] X.env)).all (λx=>x.1.isSome)
   && decide ((e :: es).length + ([]:List Keyword).length + (if ([]:List Keyword).isEmpty then 0 else 1) < 30))=true:=by rfl)
  (hline:(apos.endLine == cpos.line)=true:=by rfl) (hs:starEach (e :: es) X.env=(false,eval e X.env) :: starEach es X.env:=by rfl) (hplain:(backTo cpos (starEach es X.env)).any (·.1)=false:=by rfl) :
  PE X (.Call (.Attribute o name apos) (e :: es) [] cpos) (Oz X.K T r to t):=by
 intro pins s σ H Q I h
 refine wpAny_Call_method_late hbase hfew hline rfl (cI (ho pins s σ H _ I h) λv s1 ⟨x,H1,I1,r1,ty,q1⟩=>?_)
 obtain⟨h1,h2⟩:=Jq I1 r1 ty
 refine⟨T,id,pa,slot,hty,h1,h2,?_⟩
 have hA:=ha cpos pins s1 σ H1 _ I1 q1
 rw[hs] at hA ⊢
 refine Calls.callWith_builtin (by show (false || (backTo cpos (starEach es X.env)).any (·.1))=false;rw[hplain] <;> rfl) (Calls.evalArgs_plain ?_)
 exact cI hA λus s2 ⟨vs,H2,I2,r2,q2⟩=>hm pins s2 σ H2 x vs v us Q I2 r1 r2 q2
end
def KG (X:Cx)(id:String)(r:V->List V->Hp->VK->Prop):Prop:=
 ∀(pins:@C_) (s:Shared) (σ:St) (H:Hp) (x:V) (xs:List V) (v:Value) (us:@GT) (Q:VK),@B_->RelV x v->Vals xs us->r x xs H Q->
  wpAny @EQ X.A (call (.builtin id) (v :: us)) (EP X pins σ Q) X.xe s
theorem Vals.one:∀{x:V} {us:@GT},Vals [x] us->∃u,us= [u]/\RelV x u
 |_,_,.cons r .nil=>⟨_,rfl,r⟩
theorem Vals.eraseIdx:∀{xs:List V} {us:@GT} (i:Nat),Vals xs us->Vals (xs.eraseIdx i) (us.eraseIdx i)
 |_,_,_,.nil=>.nil
 |_,_,0,.cons _ t=>t
 |_,_,i + 1,.cons r t=>.cons r (Vals.eraseIdx i t)
theorem Vals.rep {xs:List V}{us:@GT}(h:Vals xs us):∀k:Nat,Vals (List.replicate k xs).flatten (List.replicate k us).flatten
 | 0=>.nil
 |k + 1=>by
  rw[Px,Px,Qd,Qd]
  exact Vals.append h (Vals.rep h k)
theorem t5 {α:Type}:∀(l:List α) (i:Nat),(l.eraseIdx i).length<=l.length
 | [],_=>OF _
 |_ :: _,0=>Nat.le_succ _
 |_ :: r,i + 1=>Nat.succ_le_succ (t5 r i)
theorem foldl_rep (its:@GT):∀(k:Nat) (acc:@GT),
  List.foldl (λx1 x2=>x1 ++ x2) acc.toArray (List.replicate k its.toArray)=(acc ++ (List.replicate k its).flatten).toArray
 | 0,acc=>by simp
 |k + 1,acc=>by
  have e:acc.toArray ++ its.toArray=(acc ++ its).toArray:=by simp
  have e2:(acc ++ its) ++ (List.replicate k its).flatten=acc ++ (List.replicate (k + 1) its).flatten:=by
   rw[Px,Qd,Qu]
  rw[<-e2,<-foldl_rep its k (acc ++ its),<-e,Px,foldl_cons]
section
variable {X:Cx}{pins:@C_}{σ:St}{H:Hp}{s:Shared}{l b:Addr}{xs ys zs:List V}
def Inv.lset {its its':@GT}{n:Nat}{f:Array Value->Array Value}{t':Nat}(I:@B_)(hH:H l=some (.lst xs))
  (e:s.heap.get? l=some {cls:=.type "list",data:=.seq its.toArray n}) (hf:f its.toArray=its'.toArray) (hv:Vals ys its') (hz:ys.length<=sizeLine) :
  Inv X pins σ (upd H l (.lst ys)) {s with heap:=s.heap.update l (Obj.mapSeq f),toks:=t'}:=by
 have q:=PySem.IsL.update e f
 rw[hf] at q
 refine I.write (x:=l) (e:=l) (by rw[hH];exact trivial) (.inl rfl) (λb' u hb hu=>(PU s.heap (Obj.mapSeq f) (Ne.symm hb)).trans hu) ⟨_,q⟩ ?_
 exact⟨hz,its',_,hv,q⟩
def Inv.lnew {its:@GT}{t':Nat}(I:@B_)(hv:Vals ys its)(hz:ys.length<=sizeLine) :
  Inv X pins σ (upd H s.heap.objs.size (.lst ys)) {s with heap:=s.heap.push {cls:=.type "list",data:=.seq its.toArray},toks:=t'}:=
 I.laid (λ_ _ q=>OI _ q) (OF _) ⟨hz,its,0,hv,OV _ rfl⟩
def Inv.fresh (I:@B_):H s.heap.objs.size=none:=I.hok.fresh (OF _)
def Inv.lstM (I:@B_)(hH:H l=some (.lst xs)):xs.length<=sizeLine/\∃(its:@GT) (n:Nat),Vals xs its/\xs.length=its.length/\s.heap.get? l=some {cls:=.type "list",data:=.seq its.toArray n}:=by
 obtain⟨z,its,n,r,e⟩:=I.hok l _ hH
 exact⟨z,its,n,r,r.length,e⟩
def xP {n:Nat}(h:n<=sizeLine):Builtin.List.listTooLong n=false:=by
 unfold Builtin.List.listTooLong
 exact OR (@AT)
end
section
variable {X:Cx}
def Fj:V->List V->Hp->VK->Prop:=λx vs H Q=>∃l xs y,x=.ref l/\vs= [y]/\H l=some (.lst xs)/\xs.length < sizeLine/\Q .non (upd H l (.lst (xs ++ [y])))
def o7:KG X "list.append" Fj:=by
 intro pins s σ H x vs v us Q I rx rv h
 obtain⟨l,xs,y,rfl,rfl,hH,hz,q⟩:=h
 cases rx
 obtain⟨u,rfl,ru⟩:=rv.one
 obtain⟨z,its,n,r,hl,e⟩:=I.lstM hH
 refine call_meets F.slot_list_append ⟨_,e,rfl⟩ F.entry_list_append (F.args_list_append_2 _ _) (PySem.list_append l its.toArray n u (by rw[OX];omega)) ⟨e,?_⟩
 refine⟨.non,_,I.lset (its':=its ++ [u]) hH e (by simp) (r.append (.cons ru .nil)) ?_,rfl,q⟩
 rw[O9,PD]
 omega
def IL:V->List V->Hp->VK->Prop:=λx vs H Q=>∃l xs i k y,x=.ref l/\vs= [.int i]/\H l=some (.lst xs)/\ -(2 ^ 63)<=i/\i < 2 ^ 63/\seqIndex? i xs.length=some k/\xs[k]? =some y/\Q y (upd H l (.lst (xs.eraseIdx k)))
def Cp:KG X "list.pop" IL:=by
 intro pins s σ H x vs v us Q I rx rv h
 obtain⟨l,xs,i,k,y,rfl,rfl,hH,h1,h2,hk,hy,q⟩:=h
 cases rx
 obtain⟨u,rfl,ru⟩:=rv.one
 obtain⟨t,rfl⟩:=ru
 obtain⟨z,its,n,r,hl,e⟩:=I.lstM hH
 obtain⟨w,hw,rw'⟩:=r.get hy
 refine call_meets F.slot_list_pop ⟨_,e,rfl⟩ F.entry_list_pop (F.args_list_pop_2 _ _)
  (MeetsSeq.list_pop_at l its.toArray n i t k w (fitsIndex_both h1 h2) (by rw[OX,<-hl];exact hk) (by rw[<-Array.getElem?_toList];exact hw) (by rw[OX];omega)) ⟨e,?_⟩
 refine⟨y,_,I.lset (its':=its.eraseIdx k) hH e ?_ (r.eraseIdx k) ?_,rw',q⟩
 ·show its.toArray.eraseIdxIfInBounds k=(its.eraseIdx k).toArray
  rw[List.eraseIdxIfInBounds_toArray]
 ·have:=t5 xs k
  omega
def Nd:R2:=λx y H Q=>∃l k xs,x=.ref l/\y=.int k/\H l=some (.lst xs)/\ -(2 ^ 63)<=k/\k < 2 ^ 63/\xs.length * k.toNat<=sizeLine/\
 ∀p,H p=none->Q (.ref p) (upd H p (.lst (List.replicate k.toNat xs).flatten))
theorem len_rep {α:Type}(xs:List α)(k:Nat):(List.replicate k xs).flatten.length=k * xs.length:=by
 induction k with
 |zero=>simp
 |succ k ih=>rw[Px,Qd,O9,ih,Nat.succ_mul,Nat.add_comm]
def Ci:lP X (binaryOp .Mult) Nd:=by
 intro pins s σ H x y v u Q I rx ry h
 obtain⟨l,k,xs,rfl,rfl,hH,h1,h2,hz,q⟩:=h
 cases rx
 obtain⟨t,rfl⟩:=ry
 obtain⟨z,its,n,r,hl,e⟩:=I.lstM hH
 have hlen:its.toArray.size * k.toNat<=sizeLine:=by rw[OX,<-hl];exact hz
 have hcap:¬its.toArray.size * k.toNat > (2 ^ 63 - 1) / 8:=by
  have:(sizeLine:Nat)<=(2 ^ 63 - 1) / 8:=by decide
  omega
 have hfit:¬(!Builtin.List.listFitsIndex k)=true:=by
  rw[fitsIndex_both h1 h2]
  exact OZ
 have hlong:¬Builtin.List.listTooLong (its.toArray.size * k.toNat)=true:=by
  rw[xP hlen]
  exact OZ
 have hnew:List.foldl (λx1 x2=>x1 ++ x2) #[] (List.replicate (if its.toArray.isEmpty=true then 0 else k.toNat) its.toArray)=(List.replicate k.toNat its).flatten.toArray:=by
  have f0:∀m:Nat,List.foldl (λx1 x2=>x1 ++ x2) #[] (List.replicate m its.toArray)=(List.replicate m its).flatten.toArray:=λm=>by
   have:=foldl_rep its m []
   rw[List.nil_append] at this
   exact this
  rw[f0]
  cases its with
  |nil=>simp
  |cons a r'=>rw[OP (by simp)]
 refine wpAny_binaryOp_repeat_ref (T:="list") (U:="int") @F_ ⟨_,e,rfl⟩ (λs'=>typeIs_int s' k t) noFill_list_mul F.fills_int_mul F.slot_int_rmul repeat_list F.slot_int_index.lookup
  (call_meets F.slot_int_rmul (typeIs_int s k t) F.entry_int_rmul (F.args_int_rmul_2 _ _) (int___rmul___int_list k t l its.toArray n)
   ⟨e,rfl,⟨_,e,rfl⟩,call_meets F.slot_list_mul ⟨_,e,rfl⟩ F.entry_list_mul (F.args_list_mul_2 _ _) (AutoListH.list___mul___list_int_3 l its.toArray n k t hfit hcap hlong) ⟨e,?_⟩⟩)
 rw[hnew]
 exact⟨.ref _,_,I.lnew (t':=s.toks) (r.rep k.toNat) (by rw[len_rep,Nat.mul_comm];exact hz),rfl,q _ I.fresh⟩
end
end L2
namespace Att
open PySem PySem.W PySem.Calls PyProof.Rows
theorem pO {P:Params}{h:Heap}:∀(ns:@D_) (vs:@GT),WellAll P h vs (ns.map WData.int)->IntsAre vs ns:=by
 intro ns
 induction ns with
 |nil=>
  intro vs w
  rw[List.map_nil] at w
  cases w
  exact .nil
 |cons n ns ih=>
  intro vs w
  rw[P8] at w
  cases w with
  |cons a b=>
   cases a
   exact .cons _ _ (ih _ b)
theorem Bv {l:OpenLaw}{n:Nat}(hn:l.most=some n){P:Params}{h:Heap}{args:List WData}{vals:@GT}
  (hpre:l.row.toRowW.claim.pre args=true) (hwl:WellAll P h vals args) :
  ∃a vs ns,vals= [Value.ref a]/\args= [WData.list (ns.map WData.int)]/\h.get? a=some {cls:=.type "list",data:=.seq vs.toArray}/\IntsAre vs ns/\ns.length<=n:=by
 have hsh:WShape.hasAll [] args [.list .int]=true:=(pre_splitW hpre).1
 have hc:l.pre.holds [] {args:=args}=true:=(pre_splitW hpre).2
 obtain⟨d,r,rfl,h1,h2⟩:=hasAllW_cons hsh
 obtain rfl:=hasAllW_nil h2
 obtain⟨xs,rfl,h3⟩:=hasW_list h1
 obtain⟨ns,rfl⟩:=items_int h3
 have hlen:ns.length<=n:=by
  unfold OpenLaw.pre at hc
  have h4:(WTm.not (.lt (.lit (.int (n:Int))) (.len (.arg 0)))).holds [] {args:=[.list (ns.map .int)]}=true:=by
   have h4:=(holds_andW hc).1
   rw[hn] at h4
   exact h4
  have h5:=condW_of h4 (w_not (w_lt w_lit (w_len_list (w_arg rfl))))
  rw[OH] at h5
  refine Nat.le_of_not_lt λq=>?_
  have q':(n:Int) < ((ns.length:Nat):Int):=@AT
  first
   | (rw[OE q'] at h5;exact absurd h5 @F_)
   | (simp at h5;omega)
 cases hwl with
 |cons w1 w2=>
  cases w2
  cases w1 with
  |list ho hall=>exact⟨_,_,ns,rfl,rfl,ho,pO ns _ hall,hlen⟩
def BP (l:OpenLaw)(args:List WData):l.row.toRowW.claim.post args (.bool true) args=true:=
 postW_of (r:=l.row.toRowW) (X:=(true == true))
  (show WShape.has [] (.bool true) .bool=true by first |rfl |decide |simp[WShape.has,WShape.arms,WShape.armsAll])
  (show (WTm.eq .res (.lit (.bool true))).value [] {args:=args,res:=some (.bool true),after:=args}=some (.bool (true == true)) from w_eq_bool (w_res rfl) w_lit) rfl
def xO {l:OpenLaw}{n:Nat}{q:Program}{loose:@IN}{XP:(@FS)->Heap->Prop}{YP:World->Heap->Prop}{d:DefRec}
  (hn:l.most=some n) (hdf:d.params.defaults= [])
  (call:∀(w:World) (s₀ s₁:Shared) (mg mb:@FS) (fa:Addr) (o:Obj) (pm cd doc:Value) (a:Addr) (vs:@GT) (ns:@D_),
   Ground q loose [] XP w s₀ mg mb s₁.heap->YP w s₁.heap->
   s₁.heap.get? fa=some o->o.data=.func (docDef d.name d.params d.body d.scope pm cd doc)->s₁.heap.CodeRec cd d.name->mg d.name=some (.ref fa)->
   s₁.heap.get? a=some {cls:=.type "list",data:=.seq vs.toArray}->IntsAre vs ns->ns.length<=n->s₁.gens=#[]->
   codeAny (model l.prog w) callerA (.call (.ref fa) ⟨[.ref a],[]⟩) (λr s'=>r=.ok (.ret (.bool true))/\OldK s₁.heap s'.heap/\s'.os=s₁.os/\AllBare s'.gens) s₁) :
  WalkO q loose XP YP l.row.toRowW d [] (λf vs=>PySem.call f vs):=by
 intro w s₀ s₁ mg mb G Y fa o pm cd doc dV kV ho hd hcd hD hmg hg args vals as hpre hlay hrd hwl hlo
 obtain rfl:dV=.none:=Dflts.none hD hdf
 obtain rfl:kV=.none:=Dflts.noKw hD
 obtain⟨a,vs,ns,rfl,rfl,hobj,hints,hlen⟩:=Bv hn hpre hwl
 refine enter_call (Rg (call w s₀ s₁ mg mb fa o pm cd doc a vs ns G Y ho (fd_plain hd) hcd hmg hobj hints hlen hg) λr s' hq=>?_)
 obtain⟨rfl,h2,h3,h4⟩:=hq
 exact⟨.inl ⟨.bool true,.bool true,[],rfl,λ_=>rfl,.bool true,BP l _,λ_=>⟨List.Pairwise.nil,λ_ hm=>(nomatch hm)⟩⟩,h2,h3,h4⟩
end Att
namespace L2
open PySem PySem.Spec PyProof.Rows
theorem uj:∀{vs:@GT} {ns:@D_},IntsAre vs ns->Vals (ns.map V.int) vs
 |_,_,.nil=>.nil
 |_,_,.cons n t h=>.cons ⟨t,rfl⟩ (uj h)
def i5 (s:Stmt):Arguments:=match s with
 | .FunctionDef _ a _ _ _ _ _ _ _ _=>a
 |_=>{posonlyargs:=[],args:=[],vararg:=none,kwonlyargs:=[],kw_defaults:=[],kwarg:=none,defaults:=[]}
def c3 (s:Stmt):List Stmt:=match s with
 | .FunctionDef _ _ b _ _ _ _ _ _ _=>b
 |_=>[]
def ao (s:Stmt):Scope:=match s with
 | .FunctionDef _ _ _ _ _ _ sc _ _ _=>sc
 |_=>{kind:=.function,names:=[],isGenerator:=false,isCoroutine:=false}
abbrev IE:Bl:=λ_ _ _ _ _ _=>False
abbrev E0:XK:=λ_ _ _=>False
def KH {X:Cx}:Passes IE X E0:=λ_ _ _ _ _ _ _ h=>h.elim
structure Ca (K:Frag)(x qual:Str)(st:Stmt)(f:Addr)(fd:FuncData):Prop where
 ex:∃(oc:Value) (od:@Is) (kV doc pm:Value) (an:@Is) (cdv ct:Value) (osl:Array (Option Value)),
  fd=PySem.W.fnOf x qual (i5 st) (c3 st) (ao st) .none kV doc pm an cdv ct/\K.lookup f=some ⟨oc,od,.func fd,osl⟩/\PySem.W.codeIn K cdv qual=true
 kp:PySem.W.keepIn K (.ref f)=true
section
variable {P:Program}{w:World}{K:Frag}{mg:@FS}{base:Heap}
def Ca.ok {x qual:Str}{st:Stmt}{f:Addr}{fd:FuncData}{N ps:@IN}{k:Nat}{sp:Sp}(F:Ca K x qual st f fd)(S:aF N ps (ao st))(len:∀vs H Q E,sp vs H Q E->vs.length=ps.length)
  (hbody:∀(cdv:Value) (A:Around) (outer:List Env) (s:Shared) (H:Hp) (vs:List V) (Q:VK) (E:XK),eG k (A.deeper (envOfC qual (ao st) s.heap.objs.size f cdv))->sp vs H Q E->
   ∃t,sL (pM IE P w K mg base N qual (ao st) f cdv A outer s H E).nox (c3 st) t/\t {nx:=λ_ H'=>Q .non H',rt:=Q} (start N vs) H):fM P w K mg base IE (k + 1) f fd ps sp:=by
 obtain⟨oc,od,kV,doc,pm,an,cdv,ct,osl,rfl,lk,hcd⟩:=F.ex
 refine Ck lk hcd S len λA outer s H vs Q E hr hsp=>?_
 obtain⟨t,h,q⟩:=hbody cdv A outer s H vs Q E hr hsp
 exact⟨t,h.nox,q⟩
def Ca.binds {x qual:Str}{st:Stmt}{f:Addr}{fd:FuncData}{ps:@IN}(F:Ca K x qual st f fd)
  (h:∀(kV doc pm:Value) (an:@Is) (cdv ct:Value) (us:@GT),us.length=ps.length->bindArgs (PySem.W.fnOf x qual (i5 st) (c3 st) (ao st) .none kV doc pm an cdv ct) ⟨us,[]⟩=pure (ps.zip us)):Binds K fd ps []:=by
 obtain⟨oc,od,kV,doc,pm,an,cdv,ct,osl,rfl,lk,hcd⟩:=F.ex
 exact .all (h kV doc pm an cdv ct)
def qQ {x qual:Str}{st:Stmt}{f:Addr}{oc:Value}{od an:@Is}{osl:Array (Option Value)}{kV doc pm cdv ct:Value}(l:K.lookup f=some ⟨oc,od,.func (PySem.W.fnOf x qual (i5 st) (c3 st) (ao st) .none kV doc pm an cdv ct),osl⟩)
  (c:PySem.W.codeIn K cdv qual=true) (k:PySem.W.keepIn K (.ref f)=true):Ca K x qual st f (PySem.W.fnOf x qual (i5 st) (c3 st) (ao st) .none kV doc pm an cdv ct):=⟨⟨oc,od,kV,doc,pm,an,cdv,ct,osl,rfl,l,c⟩,k⟩
end
section
variable {X:Cx}
def pv (i:Nat){x:Str}{pos:Pos}(hN:X.N[i]? =some x:=by rfl)(hv:An X.env.scope x:=by first |exact Or.inl rfl |exact Or.inr (Or.inl rfl) |exact Or.inr (Or.inr rfl))(hd:@G_:=by decide)
  (hcd:(x == ("__classdict__":Str))=false:=by decide):PE X (.Name x pos) (Hl i):=km hN hv hd hcd
end
def pX {A B:Prop}(h:B):if false=true then A else B:=by
 rw[OP OZ]
 exact h
def pS {A B:Prop}(h:A):if true=true then A else B:=by
 rw[OG rfl]
 exact h
def FG (o:Obj):Prop:=∃vs q t,o.data=.fields vs/\vs[1]? =some (.str q t)
def EK:@GT->Prop
 | []=>True
 | .int _ _ :: .int _ _ :: .ref _ :: r=>EK r
 |_=>False
theorem EK.app:∀{l m:@GT},EK l->EK m->EK (l ++ m)
 | [],_,_,h=>h
 | .int _ _ :: .int _ _ :: .ref _ :: r,_,h,k=>EK.app (l:=r) h k
def Kt (H:Hp)(b:Addr):HO->Prop
 | .tbl ps=>∃more:Array Value,H b=some (.tbl (ps ++ more))/\EK more.toList/\∀c,Value.ref c∈more.toList->∃o,H c=some (.aW o (.own 0))/\FG o
 |o=>H b=some o
theorem Kt.of {H:Hp}{b:Addr}{o:HO}(h:H b=some o):Kt H b o:=by
 cases o with
 |tbl ps=>exact⟨#[],by rw[h];simp,trivial,λc hc=>by simp at hc⟩
 |_=>exact h
def aw (H H':Hp):Prop:=∀b o,H b=some o->Kt H' b o
def aw.refl (H:Hp):aw H H:=λ_ _ h=>Kt.of h
theorem Kt.some {H:Hp}{b:Addr}{o:HO}(h:Kt H b o):∃u,H b=Option.some u/\((∀ps,o≠.tbl ps)->u=o)/\((∃ps,o=.tbl ps)->∃ps,u=.tbl ps):=by
 cases o with
 |tbl ps=>obtain⟨m,e,_⟩:=h;exact⟨_,e,λz=>absurd rfl (z ps),λ_=>⟨_,rfl⟩⟩
 |_=>exact⟨_,h,λ_=>rfl,λ⟨ps,z⟩=>by cases z⟩
theorem Kt.step {H H':Hp}{b:Addr}{o:HO}(h:Kt H b o)(s:aw H H'):Kt H' b o:=by
 cases o with
 |tbl ps=>
  obtain⟨m,e,t1,k⟩:=h
  obtain⟨m2,e2,t2,k2⟩:=s b _ e
  refine⟨m ++ m2,by rw[e2,Array.append_assoc],by rw[Qx];exact t1.app t2,λc hc=>?_⟩
  rw[Qx,OT] at hc
  rcases hc with hc |hc
  ·obtain⟨o,eo,io⟩:=k c hc;exact⟨o,s c _ eo,io⟩
  ·exact k2 c hc
 |lst xs=>exact s b _ h
 |tup xs=>exact s b _ h
 |dK xs=>exact s b _ h
 |dT xs=>exact s b _ h
 |set S n=>exact s b _ h
 |ins C dx fs=>exact s b _ h
 |own x=>exact s b _ h
 |xd fs=>exact s b _ h
 |met f x=>exact s b _ h
 |bN lo hi=>exact s b _ h
 |aW o u=>exact s b _ h
 |ext φ=>exact s b _ h
def aw.trans {H H1 H2:Hp}(a:aw H H1)(b:aw H1 H2):aw H H2:=λc o h=>(a c o h).step b
theorem aw.free {H H':Hp}(e:aw H H'){l:Addr}(h:H' l=Option.none):H l=Option.none:=by
 cases q:H l with
 |none=>rfl
 |some o=>
  obtain⟨u,z,_⟩:=(e l o q).some
  rw[z] at h
  cases h
def aw.seq {K:Frag}{H H':Hp}{a:Addr}{xs:List V}(e:aw H H')(h:iF K H a xs):iF K H' a xs:=by
 rcases h with (h | ⟨o,h⟩) |h
 ·exact .inl (.inl (e _ _ h))
 ·exact .inl (.inr ⟨o,e _ _ h⟩)
 ·exact .inr h
end L2
end
namespace L2.ST
open PySem PySem.SetTable
abbrev Jc (xs:Array Nat):Prop:=xs.toList.Pairwise (· < ·)
def JW (mask:Nat)(p:Probe):Probe:=
 if p.more > 0 then {p with j:=p.j + 1,more:=p.more - 1} else
 {p with j:=(leap mask p.i p.perturb).1,more:=runEnd mask (leap mask p.i p.perturb).1 - (leap mask p.i p.perturb).1,i:=(leap mask p.i p.perturb).1,perturb:=(leap mask p.i p.perturb).2}
def Jh (mask i perturb:Nat):Probe:={j:=i,more:=runEnd mask i - i,i,perturb,dummy:=none}
def st (mask:Nat)(h:Int):Probe:=Jh mask (bits h % (mask + 1)) (bits h)
def mY (mask:Nat):Nat->Probe->Probe
 | 0,p=>p
 |n + 1,p=>mY mask n (JW mask p)
theorem v3 (mask:Nat):∀(n m:Nat) (p:Probe),mY mask (n + m) p=mY mask m (mY mask n p)
 | 0,m,p=>by rw[PR];rfl
 |n + 1,m,p=>by rw[Nat.add_right_comm];exact v3 mask n m (JW mask p)
def A2 {mask i:Nat}(h:i<=mask):i<=runEnd mask i/\runEnd mask i<=mask/\runEnd mask i - i<=9:=by
 unfold runEnd;split <;> omega
def In (mask:Nat)(p:Probe):Prop:=p.j + p.more<=mask/\p.more<=9
def AH (mask i q:Nat):(leap mask i q).1<=mask:=by
 unfold leap;exact Nat.lt_succ_iff.mp (Nat.mod_lt _ (Nat.succ_pos _))
theorem wC (mask:Nat):∀(k:Nat) (p:Probe),p.more=k->mY mask (k + 1) p={p with j:=(leap mask p.i p.perturb).1,more:=runEnd mask (leap mask p.i p.perturb).1 - (leap mask p.i p.perturb).1,i:=(leap mask p.i p.perturb).1,perturb:=(leap mask p.i p.perturb).2}
 | 0,p,h=>by
  show JW mask p=_
  unfold JW
  rw[OP (@AT)]
 |k + 1,p,h=>by
  have e:JW mask p={p with j:=p.j + 1,more:=p.more - 1}:=by unfold JW;rw[OG (@AT)]
  show mY mask (k + 1) (JW mask p)=_
  rw[e,wC mask k _ (by dsimp only;omega)]
def B0 (mask i q:Nat):mY mask (runEnd mask i - i + 1) (Jh mask i q)=Jh mask (leap mask i q).1 (leap mask i q).2:=by
 exact wC mask _ (Jh mask i q) rfl
def iP (mask:Nat):Nat->Nat×Nat->Nat×Nat
 | 0,x=>x
 |k + 1,x=>iP mask k (leap mask x.1 x.2)
theorem pd (mask:Nat):∀(k i q:Nat),i<=mask->∃n,n<=10 * k/\mY mask n (Jh mask i q)=Jh mask (iP mask k (i,q)).1 (iP mask k (i,q)).2
 | 0,i,q,_=>⟨0,OF _,rfl⟩
 |k + 1,i,q,h=>by
  obtain⟨n,hn,e⟩:=pd mask k (leap mask i q).1 (leap mask i q).2 (AH _ _ _)
  have:=A2 h
  refine⟨(runEnd mask i - i + 1) + n,@AT,?_⟩
  rw[v3,B0,e]
  rfl
theorem tx (mask:Nat):∀(a b:Nat) (x:Nat×Nat),iP mask (a + b) x=iP mask b (iP mask a x)
 | 0,b,x=>by rw[PR];rfl
 |a + 1,b,x=>by rw[Nat.add_right_comm];exact tx mask a b (leap mask x.1 x.2)
theorem wz (mask:Nat):∀(k:Nat) (x:Nat×Nat),x.1<=mask->(iP mask k x).1<=mask
 | 0,_,h=>h
 |k + 1,x,_=>wz mask k _ (AH mask x.1 x.2)
theorem nj (mask:Nat):∀(k:Nat) (x:Nat×Nat),(iP mask k x).2=x.2 / 32 ^ k
 | 0,x=>by simp[iP]
 |k + 1,x=>by
  show (iP mask k (leap mask x.1 x.2)).2=_
  rw[nj mask k,Nat.pow_succ,Nat.mul_comm,<-Nat.div_div_eq_div_mul]
  rfl
def nx (mask i:Nat):Nat:=(i * 5 + 1) % (mask + 1)
def Cd (mask:Nat):Nat->Nat->Nat
 | 0,i=>i
 |k + 1,i=>Cd mask k (nx mask i)
theorem qj (mask:Nat):∀(a b i:Nat),Cd mask (a + b) i=Cd mask b (Cd mask a i)
 | 0,b,i=>by rw[PR];rfl
 |a + 1,b,i=>by rw[Nat.add_right_comm];exact qj mask a b (nx mask i)
theorem rW (mask:Nat):∀(k i:Nat),iP mask k (i,0)=(Cd mask k i,0)
 | 0,_=>rfl
 |k + 1,i=>by
  show iP mask k (leap mask i 0)=_
  have:leap mask i 0=(nx mask i,0):=by simp[leap,nx]
  rw[this,rW mask k]
  rfl
def LJ (mask:Nat):Prop:=mask=7\/mask=31\/mask=127
def LS (mask:Nat)(hm:LJ mask):Cd mask (mask + 1) 0=0/\∀j,j<=mask->∃k,k<=mask/\Cd mask k 0=j:=by
 have h7:∀j:Nat,j < 8->∃k,k < 8/\Cd 7 k 0=j:=@FM
 have h31:∀j:Nat,j < 32->∃k,k < 32/\Cd 31 k 0=j:=@FM
 have h127:∀j:Nat,j < 128->∃k,k < 128/\Cd 127 k 0=j:=@FM
 rcases hm with rfl |rfl |rfl
 ·exact⟨@FM,λj hj=>let ⟨k,a,b⟩:=h7 j (@AT);⟨k,@AT,b⟩⟩
 ·exact⟨@FM,λj hj=>let ⟨k,a,b⟩:=h31 j (@AT);⟨k,@AT,b⟩⟩
 ·exact⟨@FM,λj hj=>let ⟨k,a,b⟩:=h127 j (@AT);⟨k,@AT,b⟩⟩
def Me {mask:Nat}(hm:LJ mask){i j:Nat}(hi:i<=mask)(hj:j<=mask):∃k,k<=mask/\Cd mask k i=j:=by
 obtain⟨z,o⟩:=LS mask hm
 obtain⟨a,ha,ea⟩:=o i hi
 obtain⟨b,hb,eb⟩:=o j hj
 have back:Cd mask (mask + 1 - a) i=0:=by
  rw[<-ea,<-qj,show a + (mask + 1 - a)=mask + 1 by omega];exact z
 by_cases hab:a<=b
 ·refine⟨b - a,@AT,?_⟩
  rw[<-ea,<-qj,show a + (b - a)=b by omega];exact eb
 ·refine⟨mask + 1 - a + b,@AT,?_⟩
  rw[qj,back];exact eb
def yQ {mask:Nat}(hm:LJ mask){i q j:Nat}(hi:i<=mask)(hq:q < 2 ^ 64)(hj:j<=mask):∃k,k<=mask + 13/\(iP mask k (i,q)).1=j:=by
 have hz:(iP mask 13 (i,q)).2=0:=by
  rw[nj]
  exact Nat.div_eq_of_lt (Pj hq @F_)
 obtain⟨k,hk,e⟩:=Me hm (wz mask 13 (i,q) hi) hj
 refine⟨13 + k,@AT,?_⟩
 rw[tx]
 have:iP mask 13 (i,q)=((iP mask 13 (i,q)).1,0):=Prod.ext rfl hz
 rw[this,rW]
 exact e
def GP (h:Int):bits h < 2 ^ 64:=by
 unfold bits
 have:=QC h (show (0:Int) < 2 ^ 64 by decide)
 have:=QG h (show (2 ^ 64:Int)≠0 by decide)
 omega
def CY {mask:Nat}(hm:LJ mask)(h:Int){j:Nat}(hj:j<=mask):∃n,n < 10 * turns mask/\(mY mask n (st mask h)).j=j:=by
 have hi:bits h % (mask + 1)<=mask:=Nat.lt_succ_iff.mp (Nat.mod_lt _ (Nat.succ_pos _))
 obtain⟨k,hk,e⟩:=yQ hm hi (GP h) hj
 obtain⟨n,hn,q⟩:=pd mask k (bits h % (mask + 1)) (bits h) hi
 refine⟨n,by unfold turns;omega,?_⟩
 show (mY mask n (Jh mask _ _)).j=j
 rw[q];exact e
def Reach (mask:Nat)(L:Nat->Prop)(h:Int)(j:Nat):Prop:=∃n,n < 10 * turns mask/\(mY mask n (st mask h)).j=j/\∀m,m < n->L (mY mask m (st mask h)).j
structure Tab (t:SetTable)(hs:@D_):Prop where
 mask:LJ t.mask
 dum:t.dummies=#[]
 rise:Jc t.place
 le:∀j,j∈t.place->j<=t.mask
 size:t.place.size=hs.length
 load:t.place.size * 5 < t.mask * 3
 reach:∀(i j:Nat) (h:Int),t.place[i]? =some j->hs[i]? =some h->Reach t.mask (· ∈t.place) h j
 plain:t.plain=true
theorem fL {α:Type}[DecidableEq α]:∀{l m:List α},l.Nodup->(∀x,x∈l->x∈m)->l.length<=m.length
 | [],_,_,_=>Pz _
 |a :: l,m,hn,hs=>by
  have ha:=hs a (ON ..)
  have hl:=Pl.mp hn
  have:=fL (l:=l) (m:=m.erase a) hl.2 λx hx=>by
   refine (List.mem_erase_of_ne ?_).mpr (hs x (OQ _ hx))
   rintro rfl;exact hl.1 hx
  rw[Rj ha] at this
  have:0 < m.length:=List.length_pos_of_mem ha
  simp only[O8];omega
def x6 {mask:Nat}{xs:Array Nat}(hl:xs.size<=mask):∃j,j<=mask/\j∉xs:=by
 refine Classical.byContradiction λhc=>?_
 have all:∀j,j∈List.range (mask + 1)->j∈xs.toList:=λj hj=>by
  have:=Pp.mp hj
  refine Classical.byContradiction λhn=>hc ⟨j,@AT,λz=>hn (by simpa using z)⟩
 have:=fL nodup_range all
 simp at this
 omega
theorem u7 {P:Nat->Prop}(h:∃n,P n):∃n,P n/\∀m,m < n->¬P m:=by
 obtain⟨n,hn⟩:=h
 induction n using Nat.strongRecOn with
 |_ n ih=>
  by_cases hc:∃m,m < n/\P m
  ·obtain⟨m,hm,hp⟩:=hc
   exact ih m hm hp
  ·exact⟨n,hn,λm hm hp=>hc ⟨m,hm,hp⟩⟩
section
variable {t:SetTable}{hs:@D_}
def Tab.load' (T:Tab t hs):t.place.size<=t.mask:=by have:=T.load;omega
def Tab.first (T:Tab t hs)(h:Int):∃n,n < 10 * turns t.mask/\(mY t.mask n (st t.mask h)).j∉t.place/\∀m,m < n->(mY t.mask m (st t.mask h)).j∈t.place:=by
 obtain⟨j,hj,hn⟩:=x6 T.load'
 obtain⟨n,h1,h2⟩:=CY T.mask h hj
 obtain⟨k,hk,hlt⟩:=u7 (P:=λn=>(mY t.mask n (st t.mask h)).j∉t.place) ⟨n,by rw[h2];exact hn⟩
 refine⟨k,?_,hk,λm hm=>Classical.byContradiction λz=>hlt m hm z⟩
 rcases Qn n k with c |c
 ·exact absurd (show (mY t.mask n (st t.mask h)).j∉t.place by rw[h2];exact hn) (hlt n c)
 ·omega
end
abbrev own (o:Array (Option Nat))(j:Nat):Option Nat:=o.getD j none
structure Lay (mask:Nat)(o:Array (Option Nat))(hs:@D_):Prop where
 size:o.size=mask + 1
 all:∀k h,hs[k]? =some h->∃j,own o j=some k/\Reach mask (λx=>(own o x).isSome=true) h j
 one:∀j j' k,own o j=some k->own o j'=some k->j=j'
 le:∀j k,own o j=some k->j<=mask/\k < hs.length
abbrev Pr:=Int×Int
def hp (p:Pr):Int:=reduceHash (Builtin.Tuple.tupleHashOf [hashInt p.1,hashInt p.2])
def Sm (p:Pr):Prop:=(0<=p.1/\p.1 < 8)/\(0<=p.2/\p.2 < 8)
def vj:@A_:=(List.range 64).map λk=>(((k / 8:Nat):Int),((k % 8:Nat):Int))
def yr {p:Pr}(h:Sm p):p∈vj:=by
 unfold vj
 obtain⟨⟨a,b⟩,c,d⟩:=h
 refine O3.mpr ⟨p.1.toNat * 8 + p.2.toNat,Pp.mpr (@AT),?_⟩
 refine Prod.ext ?_ ?_ <;> dsimp only <;> omega
def x9 {l:@A_}(hn:l.Nodup)(h:∀p,p∈l->Sm p):l.length<=64:=by
 have:=fL (m:=vj) hn λx hx=>yr (h x hx)
 simpa[vj] using this
section
variable {prog:Program}{w:World}{A:Around}{E:@Ev}{s:Shared}
abbrev j7 (prog:Program)(w:World)(h:Heap)(p:Pr)(a:Addr):Prop:=IsTupleKey (intKind prog w) h [p.1,p.2] a
def j7.inj {h:Heap}{p q:Pr}{a:Addr}(x:j7 prog w h p a)(y:j7 prog w h q a):p=q:=by
 have:=IsTupleKey.inj x y
 simp at this
 exact Prod.ext this.1 this.2
structure El (f:Pr->Int)(prog:Program)(w:World)(led:Bool)(h:Heap)(S:Addr)(ps:List (Addr×Pr)):Prop where
 ex:∃o ep t,h.get? S=some o/\o.ExactSet/\o.data=.set (ps.map λq=>(f q.2,Value.ref q.1)).toArray ep t/\Tab t (ps.map λq=>f q.2)/\t.led=led
 at':∀q,q∈ps->j7 prog w h q.2 q.1/\Sm q.2
 nd:(ps.map (·.2)).Nodup
def El.len {f:Pr->Int}{led:Bool}{h:Heap}{S:Addr}{ps:List (Addr×Pr)}(P:El f prog w led h S ps):ps.length<=64:=by
 have:=x9 P.nd λp hp=>by
  obtain⟨q,hq,rfl⟩:=O3.mp hp
  exact (P.at' q hq).2
 simpa using this
end
def wq (w:World):Bool:= !(w.params.followText "set-order")
section
variable {prog:Program}{w:World}{A:Around}{E:@Ev}{s:Shared}{R:Result->Shared->Prop}{I:Addr}{fp wr:List Addr}{n:Nat}{P:Nat->Value->Prop}{St:Nat->Heap->Prop}
def fW (prog:Program)(w:World)(h:Heap)(vs:@GT)(ps:@A_):Prop:=vs.length=ps.length/\∀(i:Nat) (v:Value) (p:Pr),vs[i]? =some v->ps[i]? =some p->∃a,v=.ref a/\j7 prog w h p a/\Sm p
def xK (a:Value){Q1:@Ev}
  (h:Q1 (.ref s.heap.objs.size) {s with heap:=s.heap.push {cls:=.type "set",dict:=none,data:=.set #[] 0 (.fresh 0 0 (wq w))}}) :
  codeAny (model prog w) A (.call (.builtin "set.__new__") ⟨[.type "set",a],[]⟩) (wants Q1 E) s:=by
 refine codeAny_of_tree ?_
 show wpAny _ A.in1 (do (checkBuiltinCall "set.__new__" ⟨[.type "set",a],[]⟩);again (.builtin "set.__new__" ⟨[.type "set",a],[]⟩)) _ _ s
 refine OL (wpAny_of_eq (F.newCall_set_1 a) (Pa ⟨plainId_quiet F.plain_set_new _,Ra F.entry_set_new ?_⟩))
 rw[Q5 F.plain_set_new _]
 (unfold Builtin.«set.__new__» Builtin.Frozenset.newClass)
 have hsub0:=sub_set_self
 obtain⟨hp0,g0,d0,tk0,os0⟩:=s
 dsimp only
 wp_walk
 (refine wpAny_askSetting (Pa ?_))
 dsimp only
 simp only[newObj]
 (refine OL (wpAny_alloc (Pa ?_)))
 exact Pa h
structure Src (prog:Program)(w:World)(h:Heap)(l:Addr)(vs:@GT)(T:String)(itO:Obj)(St:Addr->Nat->Heap->Prop):Prop where
 ty:∃o,h.get? l=some o/\o.cls=.type T
 ns:isSubtype (.type T) (.type "set")=pure false
 nf:isSubtype (.type T) (.type "frozenset")=pure false
 nd:(Value.type T == Value.type "dict")=false
 it:∀(A:Around) (s1:Shared) (Q:@Ev) (E:@Ev),(∀b o,h.get? b=some o->s1.heap.get? b=some o)->Q (.ref s1.heap.objs.size) {s1 with heap:=s1.heap.push itO}->wpAny (model prog w) A (pyIter (.ref l)) Q E s1
 st:∀(h1:Heap),(∀b o,h.get? b=some o->h1.get? b=some o)->St h1.objs.size 0 (h1.push itO)
 wk:∀(A:Around) (I:Addr),A.handled=none->l≠I->Walks prog w A I [I,l] [I] vs.length (λi v=>vs[i]? =some v) (St I)
def Src.list {h:Heap}{l:Addr}{vs:@GT}(hl:h.IsList l vs.toArray):Src prog w h l vs "list" {cls:=.type "list_iterator",data:=.fields #[.ref l,.int 0 0]} (λI i h'=>h'.IsListIter I l i/\h'.IsList l vs.toArray):=by
 obtain⟨o,ho,hc,n,hd⟩:=id hl
 refine⟨⟨o,ho,hc⟩,F.sub_list_set,F.sub_list_frozenset,by decide,λA s1 Q E k hQ=>QI ⟨o,k _ _ ho,hc,n,hd⟩ hQ,λh1 k=>⟨⟨_,OV _ rfl,rfl,rfl⟩,⟨o,OI _ (k _ _ ho),hc,n,hd⟩⟩,λA I hh hne=>?_⟩
 have:=Walks.list (prog:=prog) (w:=w) hh I l hne vs.toArray
 simpa using this
def sub_tuple_set:isSubtype (.type "tuple") (.type "set")=pure false:=by rw[isSubtype_type];kernel_rfl
def sub_tuple_frozenset:isSubtype (.type "tuple") (.type "frozenset")=pure false:=by rw[isSubtype_type];kernel_rfl
def Src.tuple {h:Heap}{l:Addr}{vs:@GT}(hl:h.IsTuple l vs.toArray):Src prog w h l vs "tuple" {cls:=.type "tuple_iterator",data:=.fields #[.ref l,.int 0 0]} (λI i h'=>h'.IsTupleIter I l i/\h'.IsTuple l vs.toArray):=by
 obtain⟨o,ho,hc,n,hd⟩:=id hl
 refine⟨⟨o,ho,hc⟩,sub_tuple_set,sub_tuple_frozenset,by decide,λA s1 Q E k hQ=>QU ⟨o,k _ _ ho,hc,n,hd⟩ hQ,λh1 k=>⟨⟨_,OV _ rfl,rfl,rfl⟩,⟨o,OI _ (k _ _ ho),hc,n,hd⟩⟩,λA I hh hne=>?_⟩
 have:=Walks.tuple (prog:=prog) (w:=w) hh I l hne vs.toArray
 simpa using this
end
end L2.ST
namespace L2.SO
open PySem PySem.W PyProof.Rows
def lS {α:Type}(lt:Nat->Nat->Bool):KasT α->α
 | .ret a=>a
 | .ask i j k=>lS lt (k (lt i j))
theorem gz {α β:Type}(lt:Nat->Nat->Bool)(f:α->KasT β):∀t:KasT α,lS lt (t.bind f)=lS lt (f (lS lt t))
 | .ret _=>rfl
 | .ask i j k=>gz lt f (k (lt i j))
def vX {α:Type}(n:Nat)(lt:Nat->Nat->Bool):KasT α->Prop
 | .ret _=>True
 | .ask i j k=>i < n/\j < n/\vX n lt (k (lt i j))
theorem jm {α β:Type}{n:Nat}{lt:Nat->Nat->Bool}{f:α->KasT β}:∀{t:KasT α},vX n lt t->vX n lt (f (lS lt t))->vX n lt (t.bind f)
 | .ret _,_,h=>h
 | .ask i j k,h,h'=>⟨h.1,h.2.1,jm h.2.2 h'⟩
section
variable {n:Nat}{key:Nat->Int}
abbrev pk (key:Nat->Int)(i j:Nat):Bool:=decide (key i < key j)
abbrev Kp (key:Nat->Int)(p:Array Nat)(k:Nat):Int:=key (p.getD k 0)
structure Pm (n:Nat)(p:Array Nat):Prop where
 sz:p.size=n
 nd:p.toList.Nodup
 lt:∀x,x∈p->x < n
def Pm.at {p:Array Nat}(P:Pm n p){k:Nat}(hk:k < n):p.getD k 0 < n:=by
 have h:k < p.size:=by rw[P.sz];exact hk
 simp only[Array.getD,h,dif_pos]
 exact P.lt _ (Array.getElem_mem h)
def Pm.ne {p:Array Nat}(P:Pm n p){i k:Nat}(hi:i < n)(hk:k < n)(hne:i≠k):p.getD i 0≠p.getD k 0:=by
 have h1:i < p.toList.length:=by simpa using (by rw[P.sz];exact hi:i < p.size)
 have h2:k < p.toList.length:=by simpa using (by rw[P.sz];exact hk:k < p.size)
 have h1':i < p.size:=by rw[P.sz];exact hi
 have h2':k < p.size:=by rw[P.sz];exact hk
 have a1:p.getD i 0=p.toList[i]:=by simp[Array.getD,h1']
 have a2:p.getD k 0=p.toList[k]:=by simp[Array.getD,h2']
 rw[a1,a2]
 have q:=QL.mp P.nd
 rcases Qn i k with c |c
 ·exact q i k h1 h2 c
 ·exact (q k i h2 h1 (@AT)).symm
def Pm.perm {p q:Array Nat}(P:Pm n p)(h:q.Perm p):Pm n q:=by
 have h':=Array.perm_iff_toList_perm.mp h
 exact⟨by rw[h.size_eq];exact P.sz,h'.nodup_iff.mpr P.nd,λx hx=>P.lt x (by simpa using h'.mem_iff.mp (by simpa using hx))⟩
def xp (n:Nat):Pm n (List.toArray (List.range n)):=⟨by simp,by simpa using nodup_range,λx hx=>by simpa using hx⟩
def Inj (n:Nat)(key:Nat->Int):Prop:=∀i j,i < n->j < n->key i=key j->i=j
def Pm.tri {p:Array Nat}(P:Pm n p)(hi:Inj n key){i k:Nat}(h1:i < n)(h2:k < n)(hne:i≠k):Kp key p i < Kp key p k\/Kp key p k < Kp key p i:=by
 have:Kp key p i≠Kp key p k:=λe=>P.ne h1 h2 hne (hi _ _ (P.at h1) (P.at h2) e)
 omega
def Up (key:Nat->Int)(p:Array Nat)(m:Nat):Prop:=∀i j,i < j->j < m->Kp key p i < Kp key p j
def Dn (key:Nat->Int)(p:Array Nat)(m:Nat):Prop:=∀i j,i < j->j < m->Kp key p j < Kp key p i
def Up.snoc {p:Array Nat}{m:Nat}(U:Up key p m)(h1:1<=m)(h:Kp key p (m - 1) < Kp key p m):Up key p (m + 1):=λi j hij hj=>by
 rcases Qn j m with c |c
 ·exact U i j hij c
 ·have:j=m:=@AT
  subst this
  rcases Qn i (j - 1) with d |d
  ·exact Int.lt_trans (U i (j - 1) d (@AT)) h
  ·have:i=j - 1:=@AT
   rw[this];exact h
def Dn.snoc {p:Array Nat}{m:Nat}(U:Dn key p m)(h1:1<=m)(h:Kp key p m < Kp key p (m - 1)):Dn key p (m + 1):=λi j hij hj=>by
 rcases Qn j m with c |c
 ·exact U i j hij c
 ·have:j=m:=@AT
  subst this
  rcases Qn i (j - 1) with d |d
  ·exact Int.lt_trans h (U i (j - 1) d (@AT))
  ·have:i=j - 1:=@AT
   rw[this];exact h
theorem qP {p:Array Nat}(P:Pm n p)(hi:Inj n key):∀(f m:Nat),1<=m->m + f<=n->Up key p m->
  ∃r,(lS (pk key) (kas_asc p f m)=r/\vX n (pk key) (kas_asc p f m))/\m<=r/\r<=m + f/\Up key p r/\(r < m + f->Kp key p r < Kp key p (r - 1))
 | 0,m,_,_,U=>⟨m,⟨rfl,trivial⟩,OF _,OF _,U,λh=>absurd h (Pf _)⟩
 |f + 1,m,h1,hn,U=>by
  have b1:p.getD m 0 < n:=P.at (@AT)
  have b2:p.getD (m - 1) 0 < n:=P.at (@AT)
  unfold kas_asc lS vX
  by_cases c:Kp key p m < Kp key p (m - 1)
  ·rw[show pk key (p.getD m 0) (p.getD (m - 1) 0)=true from OE c]
   simp only[P9]
   exact⟨m,⟨rfl,b1,b2,trivial⟩,OF _,@AT,U,λ_=>c⟩
  ·rw[show pk key (p.getD m 0) (p.getD (m - 1) 0)=false from OR c]
   simp only[PV,Ql]
   have up:Kp key p (m - 1) < Kp key p m:=(P.tri hi (@AT) (@AT) (@AT)).resolve_right c
   obtain⟨r,⟨e,o⟩,a,b,u,d⟩:=qP P hi f (m + 1) (@AT) (@AT) (U.snoc h1 up)
   exact⟨r,⟨e,b1,b2,o⟩,@AT,@AT,u,λh=>d (@AT)⟩
theorem ue {p:Array Nat}(P:Pm n p)(hi:Inj n key):∀(f m:Nat),1<=m->m + f<=n->Dn key p m->
  ∃r,(lS (pk key) (kas_desc f p m 0)=(p,r,0)/\vX n (pk key) (kas_desc f p m 0))/\m<=r/\r<=m + f/\Dn key p r
 | 0,m,_,_,U=>⟨m,⟨rfl,trivial⟩,OF _,OF _,U⟩
 |f + 1,m,h1,hn,U=>by
  have b1:p.getD m 0 < n:=P.at (@AT)
  have b2:p.getD (m - 1) 0 < n:=P.at (@AT)
  unfold kas_desc lS vX
  by_cases c:Kp key p m < Kp key p (m - 1)
  ·rw[show pk key (p.getD m 0) (p.getD (m - 1) 0)=true from OE c]
   simp only[P9,Pf,gt_iff_lt,Ql]
   obtain⟨r,⟨e,o⟩,a,b,u⟩:=ue P hi f (m + 1) (@AT) (@AT) (U.snoc h1 c)
   exact⟨r,⟨e,b1,b2,o⟩,@AT,@AT,u⟩
  ·rw[show pk key (p.getD m 0) (p.getD (m - 1) 0)=false from OR c]
   simp only[PV,Ql]
   unfold lS vX
   have up:Kp key p (m - 1) < Kp key p m:=(P.tri hi (@AT) (@AT) (@AT)).resolve_right c
   rw[show pk key (p.getD (m - 1) 0) (p.getD m 0)=true from OE up]
   simp only[P9]
   exact⟨m,⟨rfl,b1,b2,b2,b1,trivial⟩,OF _,@AT,U⟩
def De {p:Array Nat}{j k:Nat}(hj:j<=p.size)(hk:k < j):(kas_rev p 0 j).getD k 0=p.getD (j - 1 - k) 0:=by
 unfold kas_rev
 rw[QD,getElem?_mirror_all hj k,OG ⟨Pz _,hk⟩,QD]
 congr 2
 omega
def JL {p:Array Nat}{m:Nat}(hm:m<=p.size)(D:Dn key p m):Up key (kas_rev p 0 m) m:=λi j hij hj=>by
 unfold Kp
 rw[De hm (@AT),De hm hj]
 exact D (m - 1 - j) (m - 1 - i) (@AT) (@AT)
def Pm.rev {p:Array Nat}(P:Pm n p)(j:Nat):Pm n (kas_rev p 0 j):=P.perm (mirror_perm ..)
def yt {p:Array Nat}(P:Pm n p)(hi:Inj n key)(h1:1<=n) :
  ∃m q,(lS (pk key) (kas_count n p)=(m,q)/\vX n (pk key) (kas_count n p))/\Pm n q/\1<=m/\m<=n/\Up key q m:=by
 obtain⟨r,⟨e,o⟩,a,b,u,d⟩:=qP P hi (n - 1) 1 (OF _) (@AT) (λi j hij hj=>@AT)
 have rest:∃m q,(lS (pk key) (if (r == n)=true then KasT.ret (r,p) else if r > 1 then .ask (p.getD 0 0) (p.getD (r - 1) 0) λc=>if c=true then .ret (r,p) else kas_descPart r n (kas_rev p 0 r) else kas_descPart r n p)=(m,q)/\
   vX n (pk key) (if (r == n)=true then KasT.ret (r,p) else if r > 1 then .ask (p.getD 0 0) (p.getD (r - 1) 0) λc=>if c=true then .ret (r,p) else kas_descPart r n (kas_rev p 0 r) else kas_descPart r n p))/\Pm n q/\1<=m/\m<=n/\Up key q m:=by
  by_cases c:(r == n)=true
  ·rw[OG c]
   exact⟨r,p,⟨rfl,trivial⟩,P,a,@AT,u⟩
  ·rw[OP c]
   have hrn:r≠n:=by simpa using c
   have dd:=d (@AT)
   by_cases c2:r > 1
   ·rw[OG c2]
    unfold lS vX
    rw[show pk key (p.getD 0 0) (p.getD (r - 1) 0)=true from OE (u 0 (r - 1) (@AT) (@AT))]
    simp only[P9]
    exact⟨r,p,⟨rfl,P.at (@AT),P.at (@AT),trivial⟩,P,a,@AT,u⟩
   ·rw[OP c2]
    have hr1:r=1:=@AT
    subst hr1
    unfold kas_descPart
    rw[gz]
    have D2:Dn key p 2:=λi j hij hj=>by
     have e1:i=0:=@AT
     have e2:j=1:=@AT
     rw[e1,e2];exact dd
    obtain⟨x,⟨e2,o2⟩,a2,b2,u2⟩:=ue P hi (n - 2) 2 (@AT) (@AT) D2
    obtain⟨y,⟨e3,o3⟩,a3,b3,u3,_⟩:=qP (P.rev x) hi (n - x) x (@AT) (@AT) (JL (by rw[P.sz];omega) u2)
    rw[show n - (1 + 1)=n - 2 from rfl,show (1 + 1:Nat)=2 from rfl]
    have t3:vX n (pk key) (kas_tail3 x n p):=by
     unfold kas_tail3
     exact jm o3 trivial
    refine⟨y,kas_rev p 0 x,⟨?_,jm o2 ?_⟩,P.rev x,@AT,@AT,u3⟩
    ·rw[e2]
     simp only[Pf,gt_iff_lt,Ql]
     unfold kas_tail3
     rw[gz,e3]
     rfl
    ·rw[e2]
     simp only[Pf,gt_iff_lt,Ql]
     exact t3
 obtain⟨m,q,⟨f1,f2⟩,f3⟩:=rest
 refine⟨m,q,⟨?_,?_⟩,f3⟩
 ·unfold kas_count
  rw[gz,e]
  exact f1
 ·unfold kas_count
  refine jm o ?_
  rw[e]
  exact f2
theorem place_spec {p:Array Nat}{k:Nat}(P:Pm n p)(hi:Inj n key)(hk:k < n)(U:Up key p k):∀(f l r:Nat),l<=r->r<=k->r - l<=f->(∀i,i < l->Kp key p i < Kp key p k)->(∀i,r<=i->i < k->Kp key p k < Kp key p i)->
  ∃x,(lS (pk key) (kas_place p k f l r)=x/\vX n (pk key) (kas_place p k f l r))/\x<=k/\(∀i,i < x->Kp key p i < Kp key p k)/\(∀i,x<=i->i < k->Kp key p k < Kp key p i)
 | 0,l,r,h1,h2,h3,a,b=>⟨l,⟨rfl,trivial⟩,@AT,a,λi hi=>b i (@AT)⟩
 |f + 1,l,r,h1,h2,h3,a,b=>by
  unfold kas_place
  by_cases c:l>=r
  ·rw[OG c]
   exact⟨l,⟨rfl,trivial⟩,@AT,a,λi hi=>b i (@AT)⟩
  ·rw[OP c]
   have b1:p.getD k 0 < n:=P.at hk
   have b2:p.getD ((l + r) / 2) 0 < n:=P.at (@AT)
   unfold lS vX
   by_cases d:Kp key p k < Kp key p ((l + r) / 2)
   ·rw[show pk key (p.getD k 0) (p.getD ((l + r) / 2) 0)=true from OE d]
    simp only[P9]
    have side:∀i,(l + r) / 2<=i->i < k->Kp key p k < Kp key p i:=λi h1 h2=>by
     rcases Qn ((l + r) / 2) i with z |z
     ·exact Int.lt_trans d (U _ _ z h2)
     ·have:i=(l + r) / 2:=@AT
      rw[this];exact d
    obtain⟨x,⟨e1,e2⟩,e3⟩:=place_spec P hi hk U f l ((l + r) / 2) (@AT) (@AT) (@AT) a side
    exact⟨x,⟨e1,b1,b2,e2⟩,e3⟩
   ·rw[show pk key (p.getD k 0) (p.getD ((l + r) / 2) 0)=false from OR d]
    simp only[PV,Ql]
    have d':Kp key p ((l + r) / 2) < Kp key p k:=(P.tri hi (@AT) hk (@AT)).resolve_right d
    have side:∀i,i < (l + r) / 2 + 1->Kp key p i < Kp key p k:=λi h=>by
     rcases Qn i ((l + r) / 2) with z |z
     ·exact Int.lt_trans (U _ _ z (@AT)) d'
     ·have:i=(l + r) / 2:=@AT
      rw[this];exact d'
    obtain⟨x,⟨e1,e2⟩,e3⟩:=place_spec P hi hk U f ((l + r) / 2 + 1) r (@AT) h2 (@AT) side b
    exact⟨x,⟨e1,b1,b2,e2⟩,e3⟩
def CF {p:Array Nat}{k l j:Nat}(hk:k < p.size)(hl:l<=k):(bubble p k (k - l)).getD j 0=if j=l then p.getD k 0 else if l < j/\j<=k then p.getD (j - 1) 0 else p.getD j 0:=by
 rw[QD,getElem?_bubble hk (k - l) (@AT) j,show k - (k - l)=l by omega]
 simp only[QD]
 split
 ·rfl
 ·split <;> rfl
theorem wy (hi:Inj n key):∀(f k:Nat) (p:Array Nat),Pm n p->1<=k->k + f=n->Up key p k->∃q,(lS (pk key) (kas_bin f p k)=q/\vX n (pk key) (kas_bin f p k))/\Pm n q/\Up key q n
 | 0,k,p,P,_,e,U=>⟨p,⟨rfl,trivial⟩,P,by rw[<-e];exact U⟩
 |f + 1,k,p,P,h1,e,U=>by
  have hk:k < n:=@AT
  obtain⟨l,⟨el,ol⟩,hl,a,b⟩:=place_spec P hi hk U k 0 k (Pz _) (OF _) (@AT) (λi h=>@AT) (λi h h'=>@AT)
  have side:Up key (bubble p k (k - l)) (k + 1):=λi j hij hj=>by
   have hks:k < p.size:=by rw[P.sz];exact hk
   unfold Kp
   rw[CF hks hl,CF hks hl]
   by_cases i1:i=l
   ·rw[OG i1,OP (@AT)]
    by_cases j2:l < j/\j<=k
    ·rw[OG j2];exact b _ (@AT) (@AT)
    ·omega
   ·rw[OP i1]
    by_cases i2:l < i/\i<=k
    ·rw[OG i2,OP (@AT),OG (@AT)]
     exact U _ _ (@AT) (@AT)
    ·rw[OP i2]
     by_cases j1:j=l
     ·rw[OG j1];exact a _ (@AT)
     ·rw[OP j1]
      by_cases j2:l < j/\j<=k
      ·rw[OG j2]
       rcases Qn i (j - 1) with z |z
       ·exact U _ _ z (@AT)
       ·omega
      ·rw[OP j2];exact U _ _ hij (@AT)
  obtain⟨q,⟨q1,q2⟩,q3⟩:=wy hi f (k + 1) (bubble p k (k - l)) (P.perm (bubble_perm ..)) (@AT) (@AT) side
  refine⟨q,⟨?_,?_⟩,q3⟩
  ·unfold kas_bin;rw[gz,el];exact q1
  ·unfold kas_bin;refine jm ol ?_;rw[el];exact q2
def BF (hi:Inj n key)(h2:2<=n):∃q,(lS (pk key) (kas_sort n)=q/\vX n (pk key) (kas_sort n))/\Pm n q/\Up key q n:=by
 obtain⟨m,q,⟨e,o⟩,P,a,b,u⟩:=yt (xp n) hi (@AT)
 by_cases c:m < n
 ·obtain⟨q',⟨e1,o1⟩,r⟩:=wy hi (n - m) m q P a (@AT) u
  refine⟨q',⟨?_,?_⟩,r⟩
  ·unfold kas_sort;rw[gz,e];dsimp only;rw[OG c,Nat.max_eq_left a];exact e1
  ·unfold kas_sort;refine jm o ?_;rw[e];dsimp only;rw[OG c,Nat.max_eq_left a];exact o1
 ·refine⟨q,⟨?_,?_⟩,P,λi j hij hj=>u i j hij (@AT)⟩
  ·unfold kas_sort;rw[gz,e];dsimp only;rw[OP c];rfl
  ·unfold kas_sort;refine jm o ?_;rw[e];dsimp only;rw[OP c];trivial
theorem wp_run {α:Type}{n:Nat}{lt:Nat->Nat->Bool}{cmp:Nat->Nat->(Bool->Shared->Prop)->Shared->Prop}{Q:α->Shared->Prop}{s:Shared} :
  ∀(t:KasT α),(∀i j C,i < n->j < n->C (lt i j) s->cmp i j C s)->vX n lt t->Q (lS lt t) s->t.kasWp cmp Q s
 | .ret a,_,_,h=>h
 | .ask i j k,hc,ho,h=>hc i j _ ho.1 ho.2.1 (wp_run (k (lt i j)) hc ho.2.2 h)
end
end L2.SO
namespace L2.ST
open PySem PySem.SetTable PySem.W PyProof.Rows
def code (p:Pr):Int:=p.1 * 8 + p.2
def zF {p q:Pr}(h1:Sm p)(h2:Sm q):code p < code q↔p.1 < q.1\/(p.1=q.1/\p.2 < q.2):=by
 unfold code Sm at *;omega
def code_inj {p q:Pr}(h1:Sm p)(h2:Sm q)(e:code p=code q):p=q:=by
 unfold code Sm at *
 refine Prod.ext ?_ ?_ <;> omega
section
variable {prog:Program}{w:World}{A:Around}{E:@Ev}{s:Shared}
abbrev sO (ps:@A_)(i:Nat):Int:=code (ps.getD i (0,0))
def Cw {ps:@A_}(nd:ps.Nodup)(hs:∀p,p∈ps->Sm p):L2.SO.Inj ps.length (sO ps):=λi j hi hj e=>by
 have a1:ps.getD i (0,0)=ps[i]:=by simp[hi]
 have a2:ps.getD j (0,0)=ps[j]:=by simp[hj]
 unfold sO at e
 rw[a1,a2] at e
 have e':=code_inj (hs _ (Qh hi)) (hs _ (Qh hj)) e
 have q:=QL.mp nd
 rcases Nat.lt_trichotomy i j with c |c |c
 ·exact absurd e' (q i j hi hj c)
 ·exact c
 ·exact absurd e'.symm (q j i hj hi c)
theorem FA {a b:Addr}{p q:Pr}{Q:Bool->Shared->Prop}(ha:j7 prog w s.heap p a)(hb:j7 prog w s.heap q b)(hp:Sm p)(hq:Sm q)(h:Q (decide (code p < code q)) s) :
  wpAny (model prog w) A (keyLt' (tuples' true) (.ref a) (.ref b)) Q E s:=by
 obtain⟨oa,ia,na,hoa,hca,hda,hia⟩:=ha
 obtain⟨ob,ib,nb,hob,hcb,hdb,hib⟩:=hb
 obtain⟨l1,rfl⟩:∃l,ia=List.toArray l:=⟨ia.toList,by simp⟩
 obtain⟨l2,rfl⟩:∃l,ib=List.toArray l:=⟨ib.toList,by simp⟩
 simp only[List.toList_toArray] at hia hib
 cases hia with
 | @cons _ v1 _ _ h1 hia=>
  cases hia with
  | @cons _ v2 _ _ h2 hia=>
   cases hia
   cases hib with
   | @cons _ u1 _ _ g1 hib=>
    cases hib with
    | @cons _ u2 _ _ g2 hib=>
     cases hib
     obtain⟨t1,rfl⟩:=QH h1
     obtain⟨t2,rfl⟩:=QH h2
     obtain⟨t3,rfl⟩:=QH g1
     obtain⟨t4,rfl⟩:=QH g2
     refine kat_lt hoa hda hob hdb ?_
     have hc:=zF hp hq
     refine kat_cons (wpAny_eqBool_int ?_)
     by_cases e1:p.1=q.1
     ·rw[show (p.1 == q.1)=true by simpa using e1]
      refine kat_yes (kat_cons (wpAny_eqBool_int ?_))
      by_cases e2:p.2=q.2
      ·rw[show (p.2 == q.2)=true by simpa using e2]
       refine kat_yes (kat_nil ?_)
       have:decide (code p < code q)=false:=OR (by rw[hc];omega)
       rw[this] at h
       simpa using h
      ·rw[show (p.2 == q.2)=false by simpa using e2]
       refine kat_no ?_
       show wpAny _ _ (oneLt' false _ _) _ _ _
       refine kat_one _ _ (lt_int ?_)
       have:decide (code p < code q)=decide (p.2 < q.2):=by
        by_cases z:p.2 < q.2
        ·rw[OE z];exact OE (hc.mpr (.inr ⟨e1,z⟩))
        ·rw[OR z];exact OR (by rw[hc];omega)
       rw[this] at h;exact h
     ·rw[show (p.1 == q.1)=false by simpa using e1]
      refine kat_no ?_
      show wpAny _ _ (oneLt' true _ _) _ _ _
      refine oneLt_int ?_
      have:decide (code p < code q)=decide (p.1 < q.1):=by
       by_cases z:p.1 < q.1
       ·rw[OE z];exact OE (hc.mpr (.inl z))
       ·rw[OR z];exact OR (by rw[hc];omega)
      rw[this] at h;exact h
theorem Ao:∀{vs:@GT} {ps:@A_},fW prog w s.heap vs ps->∃fs,KatTups s.heap vs fs/\fs.length=vs.length/\∀v∈fs,∃(i:Int) (t:Tok),v=.int i t
 | [],ps,_=>⟨[],KatTups.nil,rfl,λv hv=>by cases hv⟩
 |v :: vs,[],h=>by have:=h.1;simp at this
 |v :: vs,p :: ps,h=>by
  obtain⟨a,rfl,⟨o,items,n,ho,hc,hd,hi⟩,_⟩:=h.2 0 v p rfl rfl
  obtain⟨fs,k,e,f⟩:=Ao (vs:=vs) (ps:=ps) ⟨by simpa using h.1,λi v p h1 h2=>h.2 (i + 1) v p (by simpa using h1) (by simpa using h2)⟩
  obtain⟨l1,rfl⟩:∃l,items=List.toArray l:=⟨items.toList,by simp⟩
  simp only[List.toList_toArray] at hi
  cases hi with
  | @cons _ v1 _ _ h1 hi=>
   obtain⟨t1,rfl⟩:=QH h1
   exact⟨_ :: fs,KatTups.cons ho hc hd rfl k,by simp[e],λv hv=>by
    rcases OK.mp hv with z |z
    ·exact⟨_,_,z⟩
    ·exact f v z⟩
def xg {a:Addr}{vs:@GT}{ps:@A_}{n:Nat}{P:PySem.Fin->Shared->Prop}(ho:s.heap.get? a=some (seqObj "list" vs.toArray n))(hps:fW prog w s.heap vs ps)(nd:ps.Nodup)(h64:vs.length < 64)
  (h:∀(h':Heap) (c:Nat) (ix:Array Nat),L2.SO.Pm vs.length ix->L2.SO.Up (sO ps) ix vs.length->(∀b o,b≠a->s.heap.get? b=some o->h'.get? b=some o)->
   h'.get? a=some (seqObj "list" (ix.toList.map λi=>vs.getD i Value.none).toArray c)->P (.done (.ret .none)) {s with heap:=h'}) :
  wpAny (model prog w) A (Builtin.«list.sort» ⟨[.ref a],[]⟩) P E s:=by
 have ha:a < s.heap.objs.size:=OS ho
 obtain⟨e1,ho1⟩:∃e1,(s.heap.update a (Obj.mapSeq λ_=>(#[]:Array Value))).get? a=some (seqObj "list" #[] e1):=⟨_,get?_update_seq ho λ_=>#[]⟩
 generalize hH1:(s.heap.update a (Obj.mapSeq λ_=>(#[]:Array Value)))=H1 at ho1
 have sb1:Heap.SameBut a s.heap H1:=by rw[<-hH1];exact Heap.SameBut.update ..
 have kp2:∀b o,H1.get? b=some o->((H1.push (seqObj "tuple" vs.toArray 0)).push (seqObj "list" #[] 0)).get? b=some o:=λb o e=>OI _ (OI _ e)
 generalize hH2:((H1.push (seqObj "tuple" vs.toArray 0)).push (seqObj "list" #[] 0))=H2 at kp2
 have kp:∀b o,b≠a->s.heap.get? b=some o->H2.get? b=some o:=λb o hb e=>kp2 b o ((sb1.2 b hb).trans e)
 have ho2:=kp2 _ _ ho1
 have hps2:fW prog w H2 vs ps:=⟨hps.1,λi v p h1 h2=>by
  obtain⟨b,e,⟨o,it,m,hb,hc,hd,r⟩,hs⟩:=hps.2 i v p h1 h2
  refine⟨b,e,⟨o,it,m,kp b o (λz=>?_) hb,hc,hd,r⟩,hs⟩
  subst z
  rw[ho] at hb;cases hb
  exact absurd hc (by simp[seqObj])⟩
 have hz:vs.length<=sizeLine:=by rw[Pq];omega
 rw[list_sort_plain]
 refine OL (listItems_at ho rfl (OL (listUpdate_at ho rfl ?_ (by simpa using hz) (Pz _))))
 rw[hH1]
 refine OL (seqEpoch_at (s:={s with heap:=H1}) ho1 rfl (OL (wpAny_newTuple ?_ (by simpa using hz))))
 refine OL (wpAny_newList ?_ (Pz _))
 refine Qw ?_
 show wpAny (model prog w) A _ P E {s with heap:=(H1.push (seqObj "tuple" vs.toArray 0)).push (seqObj "list" #[] 0)}
 rw[hH2]
 have fin:∀(ix:Array Nat) (st:SortSt),L2.SO.Pm vs.length ix->L2.SO.Up (sO ps) ix vs.length->(arrOf st).map (·.2)=List.toArray (ix.toList.map λi=>vs.getD i Value.none)->failedOf st=none->
   wpAny (model prog w) A (do
    let sorted:=(arrOf st).map (·.2)
    let touched:=(<-seqEpoch a) != e1
    Builtin.List.listUpdate (.ref a) λ_=>sorted
    if let some e:=failedOf st then rule "list.sort.comparison-raised";throw e
    if touched then rule "list.sort.modified";raiseError "ValueError" "list modified during sort"
    ret .none) P E {s with heap:=H2}:=λix st P1 U1 hout hf=>by
  dsimp only
  rw[hout]
  have hsz:(List.toArray (ix.toList.map λi=>vs.getD i Value.none)).size=vs.length:=by simp[P1.sz]
  refine OL (seqEpoch_at (s:={s with heap:=H2}) ho2 rfl ?_)
  refine OL (listUpdate_at (s:={s with heap:=H2}) ho2 rfl ?_ (Pz _) (PB (Nat.le_of_eq hsz) (Nat.le_succ_of_le hz)))
  rw[hf]
  simp only[bne_self_eq_false,PV,Ql]
  obtain⟨c2,hc2⟩:∃c2,(H2.update a (Obj.mapSeq λ_=>List.toArray (ix.toList.map λi=>vs.getD i Value.none))).get? a=some (seqObj "list" (List.toArray (ix.toList.map λi=>vs.getD i Value.none)) c2):=⟨_,get?_update_seq ho2 λ_=>List.toArray (ix.toList.map λi=>vs.getD i Value.none)⟩
  exact Pa (h _ c2 ix P1 U1 (λb o hb e=>((Heap.SameBut.update H2 a _).2 b hb).trans (kp b o hb e)) hc2)
 by_cases h2:vs.length < 2
 ·have h2':vs.toArray.size < 2:=by simpa using h2
  dsimp only
  rw[OG h2',OG h2']
  refine OL (Pa ?_)
  rw[StateT.run_pure]
  refine OL (Pa ?_)
  refine fin (List.toArray (List.range vs.length)) (SortSt.mk' general' (vs.toArray.zip vs.toArray) #[] 7 none) (L2.SO.xp _) (λi j hij hj=>@AT) ?_ rfl
  have:∀{l:@GT},l.length < 2->((l.toArray.zip l.toArray).map (·.2))=List.toArray ((List.range l.length).map λi=>l.getD i Value.none):=λ{l} hl=>by
   match l,hl with
   | [],_=>simp
   | [x],_=>simp
  exact (this h2).trans (by simp)
 ·have h2':¬vs.toArray.size < 2:=by simpa using h2
  dsimp only
  rw[OP h2',OP h2']
  obtain⟨fs,kt,fl,ff⟩:=Ao (s:={s with heap:=H2}) hps2
  refine OL (kat_kind (s:={s with heap:=H2}) (T:=.type "int") kt (@AT) (λv hv=>?_) @F_ ?_)
  ·obtain⟨i,t,rfl⟩:=ff v hv
   exact .now
  ·rw[show ((Value.type "int" != Value.type "tuple"):Bool)=true by decide]
   have hinj:L2.SO.Inj vs.length (sO ps):=by
    rw[hps.1]
    refine Cw nd λp hp=>?_
    obtain⟨i,hi,e⟩:=QM.mp hp
    have hi':i < vs.length:=by rw[hps.1];exact hi
    obtain⟨_,_,_,hs⟩:=hps.2 i vs[i] p (OD hi') (by rw[OD hi,e])
    exact hs
   obtain⟨ix,⟨er,ok⟩,P1,U1⟩:=L2.SO.BF hinj (@AT)
   refine OL (P5 (kat_run (s:={s with heap:=H2}) (κ:=tuples' true) (ks:=vs) (Q:=λst s'=>s'={s with heap:=H2}/\arrOf st=ix.map (kas_item (vs.toArray.zip vs.toArray))/\failedOf st=none)
    (G:=λp s'=>p=ix/\s'={s with heap:=H2}) rfl (@AT) h64 (λp st s' a1 a2 a3 a4=>?_) (L2.SO.wp_run (n:=vs.length) (lt:=L2.SO.pk (sO ps)) _ (λi j C hi hj hC=>?_) ok ⟨er,rfl⟩)) ?_ λ_ _ x=>x)
   ·obtain⟨rfl,rfl⟩:=a4
    exact⟨rfl,a2,a3⟩
   ·unfold kas_ask
    have hi':i < ps.length:=by rw[<-hps.1];exact hi
    have hj':j < ps.length:=by rw[<-hps.1];exact hj
    obtain⟨b1,eb1,hb1,s1⟩:=hps2.2 i vs[i] ps[i] (OD hi) (OD hi')
    obtain⟨b2,eb2,hb2,s2⟩:=hps2.2 j vs[j] ps[j] (OD hj) (OD hj')
    have e1:vs.getD i Value.none=.ref b1:=by rw[<-eb1];simp[hi]
    have e2:vs.getD j Value.none=.ref b2:=by rw[<-eb2];simp[hj]
    rw[e1,e2]
    refine FA (s:={s with heap:=H2}) hb1 hb2 s1 s2 ?_
    have:L2.SO.pk (sO ps) i j=decide (code ps[i] < code ps[j]):=by
     unfold L2.SO.pk sO;simp[hi',hj']
    rw[<-this];exact hC
   ·rintro⟨⟨⟩,st⟩ s' ⟨rfl,har,hf⟩
    exact fin ix st P1 U1 (kat_snds rfl har) hf
end
section
variable {prog:Program}{w:World}{A:Around}{E:@Ev}{s:Shared}
def told (w:World)(S:Addr)(ep:Nat)(es:Array (Int×Value)):Array (Int×Value):=if w.params.followText "set-order" then pickOrder (w.params.setOrder S ep) es else es
end
end L2.ST
namespace OM
abbrev Pr:=Int×Int
def zI (p q:Pr):Prop:=p.1 < q.1\/(p.1=q.1/\p.2 < q.2)
def lI (p:Pr):¬zI p p:=by unfold zI;omega
def By {p q r:Pr}(a:zI p q)(b:zI q r):zI p r:=by unfold zI at *;omega
abbrev vh (l:@A_):Prop:=l.Pairwise zI
theorem dR:∀{l m:@A_},vh l->vh m->(∀x,x∈l↔x∈m)->l=m
 | [],[],_,_,_=>rfl
 | [],b :: m,_,_,h=>absurd ((h b).mpr (ON ..)) (by simp)
 |a :: l,[],_,_,h=>absurd ((h a).mp (ON ..)) (by simp)
 |a :: l,b :: m,hl,hm,h=>by
  have hl':=List.pairwise_cons.mp hl
  have hm':=List.pairwise_cons.mp hm
  have e:a=b:=by
   rcases OK.mp ((h a).mp (ON ..)) with e |e
   ·exact e
   ·rcases OK.mp ((h b).mpr (ON ..)) with e' |e'
    ·exact e'.symm
    ·exact absurd (By (hm'.1 a e) (hl'.1 b e')) (lI _)
  subst e
  congr 1
  refine dR hl'.2 hm'.2 λx=>⟨λhx=>?_,λhx=>?_⟩
  ·rcases OK.mp ((h x).mp (OQ _ hx)) with e |e
   ·subst e;exact absurd (hl'.1 x hx) (lI _)
   ·exact e
  ·rcases OK.mp ((h x).mpr (OQ _ hx)) with e |e
   ·subst e;exact absurd (hm'.1 x hx) (lI _)
   ·exact e
def kH {l:@A_}(h:vh l):l.Nodup:=h.imp λ{a b} hab e=>by subst e;exact lI _ hab
def b7 {l:@A_}(p:Pr->Bool)(h:vh l):vh (l.filter p):=h.sublist List.filter_sublist
def bP (n:Nat):@A_:=(List.range (n * n)).map λk=>(((k / n:Nat):Int),((k % n:Nat):Int))
def aZ {n:Nat}{p:Pr}:p∈bP n↔(0<=p.1/\p.1 < n)/\(0<=p.2/\p.2 < n):=by
 unfold bP
 rw[O3]
 constructor
 ·rintro⟨k,hk,rfl⟩
  have hk:=Pp.mp hk
  have hn:0 < n:=by
   rcases Nat.eq_zero_or_pos n with e |e
   ·subst e;omega
   ·exact e
  have h1:k / n < n:=Nat.div_lt_of_lt_mul hk
  have h2:k % n < n:=Nat.mod_lt _ hn
  generalize k / n=q at h1
  generalize k % n=r at h2
  exact⟨⟨Int.natCast_nonneg _,by dsimp only;omega⟩,⟨Int.natCast_nonneg _,by dsimp only;omega⟩⟩
 ·rintro⟨⟨a0,a1⟩,⟨b0,b1⟩⟩
  have hn:0 < n:=@AT
  refine⟨p.1.toNat * n + p.2.toNat,Pp.mpr ?_,?_⟩
  ·have h1:p.1.toNat + 1<=n:=@AT
   have h2:p.2.toNat < n:=@AT
   have:=Nat.mul_le_mul_right n h1
   rw[Nat.add_mul] at this
   omega
  ·have h2:p.2.toNat < n:=@AT
   have e1:(p.1.toNat * n + p.2.toNat) / n=p.1.toNat:=by
    rw[Nat.mul_comm,Nat.mul_add_div hn,Nat.div_eq_of_lt h2];rfl
   have e2:(p.1.toNat * n + p.2.toNat) % n=p.2.toNat:=by
    rw[Nat.mul_comm,Nat.mul_add_mod,Nat.mod_eq_of_lt h2]
   rw[e1,e2]
   refine Prod.ext ?_ ?_ <;> dsimp only <;> omega
def cQ (n:Nat):vh (bP n):=by
 unfold bP
 refine Qv.mpr (QN ?_ List.pairwise_lt_range)
 intro a b ha hb hab
 have ha:=Pp.mp ha
 have hb:=Pp.mp hb
 have hn:0 < n:=by
  rcases Nat.eq_zero_or_pos n with e |e
  ·subst e;omega
  ·exact e
 have h1:a / n<=b / n:=Nat.div_le_div_right (Qz hab)
 have e1:=Nat.div_add_mod a n
 have e2:=Nat.div_add_mod b n
 unfold zI
 dsimp only
 rcases Qn (a / n) (b / n) with c |c
 ·left;omega
 ·right
  have e:a / n=b / n:=@AT
  rw[e] at e1
  omega
open Classical in
noncomputable def c9 (n:Nat)(R:Int->Int->Prop):@A_:=(bP n).filter λp=>decide (R p.1 p.2)
def cG {n:Nat}{R:Int->Int->Prop}{p:Pr}:p∈c9 n R↔((0<=p.1/\p.1 < n)/\(0<=p.2/\p.2 < n))/\R p.1 p.2:=by
 unfold c9
 rw[OJ,aZ]
 simp
def gc (n:Nat)(R:Int->Int->Prop):vh (c9 n R):=b7 _ (cQ n)
def zu {n:Nat}{R S:Int->Int->Prop}(h:∀a b:Int,0<=a->a < n->0<=b->b < n->(R a b↔S a b)):c9 n R=c9 n S:=by
 refine dR (gc n R) (gc n S) λx=>?_
 rw[cG,cG]
 constructor
 ·rintro⟨⟨⟨a,b⟩,c,d⟩,r⟩;exact⟨⟨⟨a,b⟩,c,d⟩,(h _ _ a b c d).mp r⟩
 ·rintro⟨⟨⟨a,b⟩,c,d⟩,r⟩;exact⟨⟨⟨a,b⟩,c,d⟩,(h _ _ a b c d).mpr r⟩
def Wn (n:Nat)(l:@A_):Prop:=∀p,p∈l->(0<=p.1/\p.1 < n)/\(0<=p.2/\p.2 < n)
abbrev Mem (l:@A_)(a b:Int):Prop:=(a,b)∈l
def Bm {n:Nat}{l:@A_}(w:Wn n l)(r:vh l):c9 n (Mem l)=l:=by
 refine dR (gc n _) r λx=>?_
 rw[cG]
 exact⟨λh=>h.2,λh=>⟨w x h,h⟩⟩
def FX (n:Nat)(R:Int->Int->Prop):Wn n (c9 n R):=λ_ h=>(cG.mp h).1
def DN (n:Nat)(R:Int->Int->Prop):(c9 n R).length<=n * n:=by
 unfold c9
 refine PB (Pu ..) ?_
 unfold bP;simp
inductive Tr (R:Int->Int->Prop):Int->Int->Prop
 |one {a b}:R a b->Tr R a b
 |more {a b c}:R a b->Tr R b c->Tr R a c
theorem Tr.trans {R:Int->Int->Prop}{a b c:Int}(h:Tr R a b)(k:Tr R b c):Tr R a c:=by
 induction h with
 |one r=>exact .more r k
 |more r _ ih=>exact .more r (ih k)
theorem Tr.least {R S:Int->Int->Prop}(f:∀a b,R a b->S a b)(t:∀a b c,S a b->S b c->S a c){a b:Int}(h:Tr R a b):S a b:=by
 induction h with
 |one r=>exact f _ _ r
 |more r _ ih=>exact t _ _ _ (f _ _ r) ih
structure Ord (n:Nat)(l:@A_):Prop where
 lo:1<=n
 hi:n<=8
 wn:Wn n l
 ris:vh l
 irr:∀a,(a,a)∉l
 tr:∀a b c,(a,b)∈l->(b,c)∈l->(a,c)∈l
def Ord.tr_mem {n:Nat}{l:@A_}(O:Ord n l){a b:Int}:Tr (Mem l) a b↔(a,b)∈l:=
 ⟨λh=>h.least (λ_ _ r=>r) λa b c=>O.tr a b c,λh=>.one h⟩
def Ord.closed {n:Nat}{l:@A_}(O:Ord n l):c9 n (Tr (Mem l))=l:=by
 rw[zu (S:=Mem l) λa b _ _ _ _=>O.tr_mem,Bm O.wn O.ris]
theorem yW {l m:@A_}(hl:l.Nodup)(h:∀x,x∈l->x∈m):l.length<=m.length:=by
 induction l generalizing m with
 |nil=>exact Pz _
 |cons a l ih=>
  have ha:=h a (ON ..)
  have hl':=Pl.mp hl
  have:=ih (m:=m.erase a) hl'.2 λx hx=>by
   refine (List.mem_erase_of_ne ?_).mpr (h x (OQ _ hx))
   rintro rfl;exact hl'.1 hx
  rw[Rj ha] at this
  have:0 < m.length:=List.length_pos_of_mem ha
  simp only[O8];omega
def sub_eq {l m:@A_}(hl:vh l)(hm:vh m)(h:∀x,x∈l->x∈m)(e:l.length=m.length):l=m:=by
 refine dR hl hm λx=>⟨h x,λhx=>Classical.byContradiction λhn=>?_⟩
 have:=yW (l:=x :: l) (m:=m) (Pl.mpr ⟨hn,kH hl⟩) λy hy=>by
  rcases OK.mp hy with e |e
  ·subst e;exact hx
  ·exact h y e
 simp only[O8] at this
 omega
def more (l:@A_):@A_:=l.flatMap λp=>(l.filter λq=>decide (q.1=p.2)).map λq=>(p.1,q.2)
abbrev Tb:=Nat->Nat->Bool
def Tb.set (M:Tb)(a b:Nat):Tb:=λx y=>if x=a/\y=b then true else M x y
def GQ (M:Tb)(m:Nat):Prop:=∀k a b,k < m->M a k=true->M k b=true->M a b=true
def Phase (M0 M:Tb)(m:Nat)(D:Nat->Nat->Prop):Prop:=∀a b,M a b=true↔M0 a b=true\/(D a b/\M0 a m=true/\M0 m b=true)
def Phase.start (M:Tb)(m:Nat):Phase M M m λ_ _=>False:=λa b=>by simp
def Phase.row {M0 M:Tb}{m:Nat}{D:Nat->Nat->Prop}(P:Phase M0 M m D)(a:Nat):M a m=true↔M0 a m=true:=by
 rw[P]
 exact⟨λh=>h.elim id λh=>h.2.1,.inl⟩
def Phase.col {M0 M:Tb}{m:Nat}{D:Nat->Nat->Prop}(P:Phase M0 M m D)(b:Nat):M m b=true↔M0 m b=true:=by
 rw[P]
 exact⟨λh=>h.elim id λh=>h.2.2,.inl⟩
def Phase.step {M0 M:Tb}{m:Nat}{D:Nat->Nat->Prop}(P:Phase M0 M m D)(x y:Nat) :
  Phase M0 (if M x m=true/\M m y=true then M.set x y else M) m (λa b=>D a b\/(a=x/\b=y)):=λa b=>by
 have r:=P.row x
 have c:=P.col y
 by_cases h:M x m=true/\M m y=true
 ·rw[OG h]
  unfold Tb.set
  by_cases e:a=x/\b=y
  ·rw[OG e]
   obtain⟨rfl,rfl⟩:=e
   simp only[true_iff]
   exact .inr ⟨.inr (by simp),r.mp h.1,c.mp h.2⟩
  ·rw[OP e,P]
   constructor
   ·rintro (q | ⟨d,q⟩)
    ·exact .inl q
    ·exact .inr ⟨.inl d,q⟩
   ·rintro (q | ⟨d |d,q⟩)
    ·exact .inl q
    ·exact .inr ⟨d,q⟩
    ·exact absurd d e
 ·rw[OP h,P]
  constructor
  ·rintro (q | ⟨d,q⟩)
   ·exact .inl q
   ·exact .inr ⟨.inl d,q⟩
  ·rintro (q | ⟨d | ⟨rfl,rfl⟩,q1,q2⟩)
   ·exact .inl q
   ·exact .inr ⟨d,q1,q2⟩
   ·exact absurd ⟨r.mpr q1,c.mpr q2⟩ h
def Phase.done {M0 M:Tb}{m n:Nat}{D:Nat->Nat->Prop}(P:Phase M0 M m D)(hD:∀a b,a < n->b < n->D a b)(hM:∀a b,M0 a b=true->a < n/\b < n)(T:GQ M0 m) :
  GQ M (m + 1)/\∀a b,M a b=true->a < n/\b < n:=by
 have hM':∀a b,M a b=true->a < n/\b < n:=λa b h=>by
  rcases (P a b).mp h with q | ⟨_,q1,q2⟩
  ·exact hM a b q
  ·exact⟨(hM _ _ q1).1,(hM _ _ q2).2⟩
 have put:∀a b,M0 a m=true->M0 m b=true->M a b=true:=λa b h1 h2=>(P a b).mpr (.inr ⟨hD a b (hM _ _ h1).1 (hM _ _ h2).2,h1,h2⟩)
 refine⟨λk a b hk h1 h2=>?_,hM'⟩
 rcases Qn k m with c |c
 ·rcases (P a k).mp h1 with q1 | ⟨_,q1,q1'⟩
  ·rcases (P k b).mp h2 with q2 | ⟨_,q2,q2'⟩
   ·exact (P a b).mpr (.inl (T k a b c q1 q2))
   ·exact put a b (T k a m c q1 q2) q2'
  ·rcases (P k b).mp h2 with q2 | ⟨_,q2,q2'⟩
   ·exact put a b q1 (T k m b c q1' q2)
   ·exact put a b q1 q2'
 ·have e:k=m:=@AT
  subst e
  exact put a b ((P.row a).mp h1) ((P.col b).mp h2)
structure Tab (n:Nat)(ps:@A_)(M:Tb):Prop where
 inn:∀a b,M a b=true->a < n/\b < n
 sub:∀a b:Nat,((a:Int),(b:Int))∈ps->M a b=true
 sup:∀a b:Nat,M a b=true->Tr (Mem ps) a b
def Tab.phase {n:Nat}{ps:@A_}{M0 M:Tb}{m:Nat}{D:Nat->Nat->Prop}(T:Tab n ps M0)(P:Phase M0 M m D):Tab n ps M:=
 ⟨λa b h=>by
  rcases (P a b).mp h with q | ⟨_,q1,q2⟩
  ·exact T.inn a b q
  ·exact⟨(T.inn _ _ q1).1,(T.inn _ _ q2).2⟩,
  λa b h=>(P a b).mpr (.inl (T.sub a b h)),
  λa b h=>by
  rcases (P a b).mp h with q | ⟨_,q1,q2⟩
  ·exact T.sup a b q
  ·exact (T.sup _ _ q1).trans (T.sup _ _ q2)⟩
def Tab.all {n:Nat}{ps:@A_}{M:Tb}(w:Wn n ps)(T:Tab n ps M)(H:GQ M n)(a b:Nat):M a b=true↔Tr (Mem ps) a b:=by
 refine⟨T.sup a b,λh=>?_⟩
 have key:∀{x y:Int},Tr (Mem ps) x y->M x.toNat y.toNat=true:=λ{x y} h=>by
  induction h with
  | @one x y r=>
   have:=w _ r
   refine T.sub _ _ ?_
   have e1:((x.toNat:Nat):Int)=x:=by simp only at this;omega
   have e2:((y.toNat:Nat):Int)=y:=by simp only at this;omega
   rw[e1,e2];exact r
  | @more x y z r _ ih=>
   have:=w _ r
   have e1:((x.toNat:Nat):Int)=x:=by simp only at this;omega
   have e2:((y.toNat:Nat):Int)=y:=by simp only at this;omega
   have q:M x.toNat y.toNat=true:=T.sub _ _ (by rw[e1,e2];exact r)
   exact H y.toNat _ _ (T.inn _ _ q).2 q ih
 have:=key h
 simpa using this
end OM
namespace L2.ST
open PySem PySem.SetTable PySem.W PyProof.Rows
section
variable {prog:Program}{w:World}{A:Around}{E:@Ev}{s:Shared}
def JK {ps:@A_}(hs:∀p,p∈ps->Sm p){ix:Array Nat}(P:L2.SO.Pm ps.length ix)(U:L2.SO.Up (sO ps) ix ps.length):OM.vh (ix.toList.map λi=>ps.getD i (0,0)):=by
 refine Qv.mpr (QL.mpr λi j hi hj hij=>?_)
 have hi':i < ix.size:=by simpa using hi
 have hj':j < ix.size:=by simpa using hj
 have q:=U i j hij (by rw[<-P.sz];exact hj')
 unfold L2.SO.Kp sO at q
 have ei:ix.getD i 0=ix.toList[i]:=by simp[Array.getD,hi']
 have ej:ix.getD j 0=ix.toList[j]:=by simp[Array.getD,hj']
 rw[ei,ej] at q
 have ai:ix.toList[i] < ps.length:=P.lt _ (by simp)
 have aj:ix.toList[j] < ps.length:=P.lt _ (by simp)
 have bi:Sm (ps.getD ix.toList[i] (0,0)):=by rw[O5,OD ai];exact hs _ (Qh ai)
 have bj:Sm (ps.getD ix.toList[j] (0,0)):=by rw[O5,OD aj];exact hs _ (Qh aj)
 exact (zF bi bj).mp q
def Iv {n:Nat}{ix:Array Nat}(P:L2.SO.Pm n ix){k:Nat}(hk:k < n):k∈ix.toList:=by
 refine Classical.byContradiction λhn=>?_
 have:=fL (l:=k :: ix.toList) (m:=List.range n) (Pl.mpr ⟨hn,P.nd⟩) λx hx=>by
  rcases OK.mp hx with e |e
  ·rw[e];exact Pp.mpr hk
  ·exact Pp.mpr (P.lt x (by simpa using e))
 simp[P.sz] at this
 omega
theorem Ld {h:Heap}{vs:@GT}{ps:@A_}(hps:fW prog w h vs ps){ix:Array Nat}(P:L2.SO.Pm vs.length ix) :
  fW prog w h (ix.toList.map λi=>vs.getD i Value.none) (ix.toList.map λi=>ps.getD i (0,0)):=by
 refine⟨by simp,λi v p h1 h2=>?_⟩
 rw[OU] at h1 h2
 cases e:ix.toList[i]? with
 |none=>rw[e] at h1;cases h1
 |some k=>
  rw[e] at h1 h2
  have hk:k < vs.length:=P.lt k (by simpa using O0 e)
  have hk':k < ps.length:=by rw[<-hps.1];exact hk
  simp[hk,hk'] at h1 h2
  exact hps.2 k v p (by rw[OD hk,h1]) (by rw[OD hk',h2])
def Bc {v:Value}{vs:@GT}{ps:@A_}{Q:@Ev}(hps:fW prog w s.heap vs ps)(nd:ps.Nodup)(h64:vs.length < 64)
  (hcol:∀(Q':@GT->Shared->Prop),(∀h' tk,(∀b o,s.heap.get? b=some o->h'.get? b=some o)->Q' vs {s with heap:=h',toks:=tk})->wpAny (model prog w) A.in1 (collect v) Q' (λe s'=>E e s') s)
  (h:∀(h1 h':Heap) (tk:Nat) (D:Addr) (out:@GT) (qs:@A_) (c:Nat),(∀b o,s.heap.get? b=some o->h1.get? b=some o)->D=h1.objs.size->(∀b o,h1.get? b=some o->h'.get? b=some o)->h'.get? D=some (seqObj "list" out.toArray c)->fW prog w h' out qs->(∀u,u∈out->u∈vs)->OM.vh qs->(∀p,p∈qs↔p∈ps)->
   Q (.ref D) {s with heap:=h',toks:=tk}):wpAny (model prog w) A (call (.builtin "sorted") [v]) Q E s:=by
 have hsm:∀p,p∈ps->Sm p:=λp hp=>by
  obtain⟨i,hi,e⟩:=QM.mp hp
  have hi':i < vs.length:=by rw[hps.1];exact hi
  obtain⟨_,_,_,hs⟩:=hps.2 i vs[i] p (OD hi') (by rw[OD hi,e])
  exact hs
 (refine Calls.call_function_entry kind_sorted plain_sorted entry_sorted (args_sorted1 _) ?_)
 unfold Builtin.«sorted»
 refine OL (m:=checkCount "sorted" 1 1 ([v]:@GT).length) (Pa ?_)
 refine OL (hcol _ λh1 tk1 k1=>?_)
 have hz:vs.length<=sizeLine:=by rw[Pq];omega
 refine OL (wpAny_newList ?_ hz)
 show wpAny _ _ _ _ _ {s with heap:=h1.push (seqObj "list" vs.toArray 0),toks:=tk1}
 have hoL:(h1.push (seqObj "list" vs.toArray 0)).get? h1.objs.size=some (seqObj "list" vs.toArray 0):=OV _ rfl
 have kp:∀b o,s.heap.get? b=some o->(h1.push (seqObj "list" vs.toArray 0)).get? b=some o:=λb o e=>OI _ (k1 b o e)
 have hp1:fW prog w (h1.push (seqObj "list" vs.toArray 0)) vs ps:=⟨hps.1,λi v p a b=>by
  obtain⟨c,e,⟨o,it,n,ho,r⟩,hs⟩:=hps.2 i v p a b
  exact⟨c,e,⟨o,it,n,kp _ _ ho,r⟩,hs⟩⟩
 have hne:∀b o,s.heap.get? b=some o->b≠h1.objs.size:=λb o e=>Py (OS (k1 b o e))
 refine OL (Qw (wpAny_call_entry slot_list_sort ⟨_,hoL,rfl⟩ entry_list_sort ?_ (args_list_sort _)))
 refine xg (s:={s with heap:=h1.push (seqObj "list" vs.toArray 0),toks:=tk1}) hoL hp1 nd h64 λh' c ix P U hk ho=>?_
 refine⟨_,rfl,Pa ⟨_,rfl,?_⟩⟩
 have kk:∀b o,s.heap.get? b=some o->h'.get? b=some o:=λb o e=>hk b o (hne b o e) (kp b o e)
 have P':L2.SO.Pm ps.length ix:=by rw[<-hps.1];exact P
 have k2:∀b o,h1.get? b=some o->h'.get? b=some o:=λb o e=>hk b o (Py (OS e)) (OI _ e)
 refine h h1 h' tk1 h1.objs.size _ (ix.toList.map λi=>ps.getD i (0,0)) c k1 rfl k2 ho (Ld ⟨hps.1,λi v p a b=>?_⟩ P) (λu hu=>?_) (JK hsm P' (by rw[<-hps.1];exact U)) λp=>⟨λhp=>?_,λhp=>?_⟩
 ·obtain⟨c,e,⟨o,it,n,ho,r⟩,hs⟩:=hps.2 i v p a b
  exact⟨c,e,⟨o,it,n,kk _ _ ho,r⟩,hs⟩
 ·obtain⟨i,hi,rfl⟩:=O3.mp hu
  have:i < vs.length:=P.lt i (by simpa using hi)
  rw[O5,OD this]
  exact Qh this
 ·obtain⟨i,hi,rfl⟩:=O3.mp hp
  have:i < ps.length:=P'.lt i (by simpa using hi)
  rw[O5,OD this]
  exact Qh this
 ·obtain⟨i,hi,e⟩:=QM.mp hp
  refine O3.mpr ⟨i,Iv P' hi,?_⟩
  rw[O5,OD hi,e];rfl
end
end L2.ST
namespace L2
open PySem PySem.Spec PyProof.Rows
abbrev Pr:=Int×Int
abbrev Sm:=L2.ST.Sm
section
variable {X:Cx}{pins:@C_}{σ:St}{H H':Hp}{s:Shared}
def jn (H H':Hp):Prop:=(∀b xs,H b=some (.tup xs)->H' b=some (.tup xs))/\∀b o u,H b=some (.aW o u)->H' b=some (.aW o u)
def jn.refl (H:Hp):jn H H:=⟨λ_ _ h=>h,λ_ _ _ h=>h⟩
def jn.trans {H H1 H2:Hp}(a:jn H H1)(b:jn H1 H2):jn H H2:=⟨λc xs h=>b.1 c xs (a.1 c xs h),λc o u h=>b.2 c o u (a.2 c o u h)⟩
def aw.grow {H H':Hp}(e:aw H H'):jn H H':=⟨λb xs h=>e b _ h,λb o u h=>e b _ h⟩
def jn.new {H:Hp}{l:Addr}{o:HO}(h:H l=none):jn H (upd H l o):=⟨λb xs e=>by rw[ay (aN e h)];exact e,λb o' u e=>by rw[ay (aN e h)];exact e⟩
def aw.new {H:Hp}{l:Addr}{o:HO}(h:H l=none):aw H (upd H l o):=λb u e=>Kt.of (by rw[ay (aN e h)];exact e)
def fN.grow {K:Frag}{a:Addr}{xs:List V}(h:fN K H a xs)(g:jn H H'):fN K H' a xs:=by
 rcases h with (h | ⟨o,h⟩) |h
 ·exact .inl (.inl (g.1 _ _ h))
 ·exact .inl (.inr ⟨o,g.2 _ _ _ h⟩)
 ·exact .inr h
def jn.list {a:Addr}{ys:List V}{o:HO}(h:H a=some (.lst ys)):jn H (upd H a o):=
 ⟨λb xs e=>by rw[ay (HK e h (by intro z;cases z))];exact e,λb o' u e=>by rw[ay (HK e h (by intro z;cases z))];exact e⟩
def bw (K:Frag)(H:Hp):List V->@A_->Prop:=Paired λv p=>∃a,v=.ref a/\fN K H a [.int p.1,.int p.2]
def bw.grow {K:Frag}{vs:List V}{ps:@A_}(h:bw K H vs ps)(g:jn H H'):bw K H' vs ps:=Paired.mapP h λv p ⟨a,e,q⟩=>⟨a,e,q.grow g⟩
theorem Paired.getP {α β:Type}{F:α->β->Prop}:∀{l:List α} {m:List β} {i:Nat} {x:α},Paired F l m->l[i]? =some x->∃y,m[i]? =some y/\F x y
 |_,_,_,_,.nil,e=>by simp at e
 |_,_,0,_,.cons r _,e=>by simp at e;subst e;exact⟨_,rfl,r⟩
 |_,_,i + 1,x,.cons _ t,e=>by
  obtain⟨u,h1,h2⟩:=Paired.getP (i:=i) (x:=x) t (by simpa using e)
  exact⟨u,by simpa using h1,h2⟩
theorem Paired.getQ {α β:Type}{F:α->β->Prop}:∀{l:List α} {m:List β} {i:Nat} {y:β},Paired F l m->m[i]? =some y->∃x,l[i]? =some x/\F x y
 |_,_,_,_,.nil,e=>by simp at e
 |_,_,0,_,.cons r _,e=>by simp at e;subst e;exact⟨_,rfl,r⟩
 |_,_,i + 1,x,.cons _ t,e=>by
  obtain⟨u,h1,h2⟩:=Paired.getQ (i:=i) (y:=x) t (by simpa using e)
  exact⟨u,by simpa using h1,h2⟩
theorem z6 (I:@B_){a:Addr}{p:Pr}(h:fN X.K H a [.int p.1,.int p.2]):L2.ST.j7 X.prog X.w s.heap p a:=by
 obtain⟨its,r,⟨o,ho,hc,n,hd⟩,_⟩:=I.tuple h
 cases r with
 |cons r1 r=>
  cases r with
  |cons r2 r=>
   cases r
   obtain⟨t1,rfl⟩:=r1
   obtain⟨t2,rfl⟩:=r2
   exact⟨o,_,n,ho,hc,hd,.cons (intKind_is ..) (.cons (intKind_is ..) .nil)⟩
def pairs_at (I:@B_){vs:List V}{us:@GT}{ps:@A_}(hv:Vals vs us)(h:bw X.K H vs ps)(hs:∀p,p∈ps->Sm p):L2.ST.fW X.prog X.w s.heap us ps:=by
 refine⟨by rw[<-hv.length];exact Paired.length h,λi u p e1 e2=>?_⟩
 obtain⟨v,ev,a,rfl,q⟩:=Paired.getQ h e2
 obtain⟨u',eu,ru⟩:=hv.get ev
 rw[e1] at eu;cases eu
 cases ru
 exact⟨a,rfl,z6 I q,hs p (O0 e2)⟩
theorem rA (I:@B_){vs:List V}{us:@GT}{ps:@A_}(hv:Vals vs us)(h:bw X.K H vs ps){h':Heap}(k:∀b o,s.heap.get? b=some o->h'.get? b=some o):∀{out:@GT} {qs:@A_},
  (∀u,u∈out->u∈us)->L2.ST.fW X.prog X.w h' out qs->∃ws,Vals ws out/\bw X.K H ws qs
 | [],[],_,_=>⟨[],.nil,.nil⟩
 | [],_ :: _,_,hp=>by have:=hp.1;simp at this
 |_ :: _,[],_,hp=>by have:=hp.1;simp at this
 |u :: out,q :: qs,hm,hp=>by
  obtain⟨ws,a1,a2⟩:=rA I hv h k (out:=out) (qs:=qs) (λx hx=>hm x (OQ _ hx)) ⟨by have:=hp.1;simpa using this,λi v p e1 e2=>hp.2 (i + 1) v p (by simpa using e1) (by simpa using e2)⟩
  obtain⟨i,hi,e⟩:=QM.mp (hm u (ON ..))
  have hi':i < vs.length:=by rw[hv.length];exact hi
  obtain⟨u',eu,ru⟩:=hv.get (OD hi')
  rw[OD hi,e] at eu
  cases eu
  obtain⟨p,ep,a,ea,qa⟩:=Paired.getP h (OD hi')
  rw[ea] at ru
  cases ru
  obtain⟨b,eb,hb,_⟩:=hp.2 0 (.ref a) q rfl rfl
  cases eb
  have pa:L2.ST.j7 X.prog X.w h' p a:=by
   obtain⟨o,it,n,ho,r⟩:=z6 I qa
   exact⟨o,it,n,k _ _ ho,r⟩
  have:p=q:=L2.ST.j7.inj pa hb
  subst this
  exact⟨.ref a :: ws,.cons rfl a1,.cons ⟨a,rfl,qa⟩ a2⟩
def zM (K:Frag):List V->Hp->VK->Prop:=λxs H Q=>∃a vs ps,xs= [.ref a]/\iF K H a vs/\bw K H vs ps/\(∀p,p∈ps->Sm p)/\ps.Nodup/\ps.length < 64/\
 ∀l ws qs,H l=none->bw K H ws qs->OM.vh qs->(∀p,p∈qs↔p∈ps)->Q (.ref l) (upd H l (.lst ws))
def yw (I:@B_){vs:List V}{us:@GT}{ps:@A_}(hv:Vals vs us)(hp:bw X.K H vs ps)(hlen:ps.length < 64){Q:VK}
  (q:∀l ws qs,H l=none->bw X.K H ws qs->OM.vh qs->(∀p,p∈qs↔p∈ps)->Q (.ref l) (upd H l (.lst ws)))
  {h1 h':Heap} {tk:Nat} {D:Addr} {out:@GT} {qs:@A_} {c:Nat} (k1:∀b o,s.heap.get? b=some o->h1.get? b=some o) (eD:D=h1.objs.size) (k2:∀b o,h1.get? b=some o->h'.get? b=some o)
  (ho:h'.get? D=some (seqObj "list" out.toArray c)) (hpq:L2.ST.fW X.prog X.w h' out qs) (hm:∀u,u∈out->u∈us) (hr:OM.vh qs) (hmem:∀p,p∈qs↔p∈ps):EP X pins σ Q (.ref D) {s with heap:=h',toks:=tk}:=by
 obtain⟨ws,r1,r2⟩:=rA I hv hp (λb o e=>k2 b o (k1 b o e)) hm hpq
 have I1:Inv X pins σ H {s with heap:=h1,toks:=tk}:=I.kept k1
 have hf:H D=none:=by rw[eD];exact I1.hok.fresh (OF _)
 have hz:ws.length<=sizeLine:=by
  have e1:=r1.length
  have e2:out.length=qs.length:=hpq.1
  have e3:=OM.yW (OM.kH hr) λx hx=>(hmem x).mp hx
  rw[Pq];omega
 have I2:Inv X pins σ (upd H D (.lst ws)) {s with heap:=h',toks:=tk}:=I1.laid (t':=tk) k2 (by rw[eD];exact OF _) (show dA X.prog X.w _ h' _ (.lst ws) from⟨hz,out,c,r1,ho⟩)
 exact⟨.ref D,_,I2,rfl,q D ws qs hf r2 hr hmem⟩
def pe:gu X (.builtin "sorted") (zM X.K):=by
 intro pins s σ H xs us Q I r h
 obtain⟨a,vs,ps,rfl,hq,hp,hs,nd,hl,q⟩:=h
 obtain⟨u,rfl,rx⟩:=vals1 r
 cases rx
 obtain⟨its,rv,pl,hz⟩:=I.list hq
 have hpa:=pairs_at I rv hp hs
 have h64:its.length < 64:=by rw[hpa.1];exact hl
 refine L2.ST.Bc (v:=.ref a) hpa nd h64 (λQ' hQ'=>collect_list pl.isList ?_ (by rw[Pq];omega)) λh1 h' tk D out qs c k1 eD k2 ho hpq hm hr hmem=>?_
 ·exact hQ' _ s.toks λb o e=>by
   rw[Heap.get?_update_ne _ _ _ _ (Py (OS e)),Heap.get?_push_ne _ _ _ (Py (OS e))];exact e
 ·exact yw I rv hp hl q k1 eD k2 ho hpq hm hr hmem
end
def iK (cells:List (Str×Addr)):List (Str×NameKind)->List (Str×Addr)->List (Str×Addr)
 | [],cs=>cs
 | (n,k) :: r,cs=>iK cells r (if k == .free then (n,(cells.lookup n).getD 0) :: cs else cs)
def nt {scope:Scope}{env:Env}(h:∀y∈scope.names,y.2=.free->∃c,env.cells.lookup y.1=some c):closureFor scope env=pure (iK env.cells scope.names []):=by
 unfold closureFor
 have key:∀(l:List (Str×NameKind)) (cs:List (Str×Addr)),(∀y∈l,y.2=.free->∃c,env.cells.lookup y.1=some c)->
   (forIn l cs (λ(x:Str×NameKind) (r:List (Str×Addr))=>if (x.2 == NameKind.free)=true then (do let a <-cellOf env x.1;pure (ForInStep.yield ((x.1,a) :: r)):Sem _) else pure (ForInStep.yield r)):Sem (List (Str×Addr)))=pure (iK env.cells l cs):=by
  intro l
  induction l with
  |nil=>intro cs _;rfl
  |cons y l ih=>
   intro cs hy
   obtain⟨n,k⟩:=y
   rw[List.forIn_cons]
   unfold iK
   by_cases hk:(k == NameKind.free)=true
   ·have hk':k=.free:=by simpa using hk
    obtain⟨c,hc⟩:=hy (n,k) (ON ..) hk'
    have hce:cellOf env n=pure c:=by unfold cellOf;rw[hc]
    simp only[hk,P9]
    have hc':env.cells.lookup n=some c:=hc
    rw[hce,hc']
    simp only[pure_bind,Option.getD_some]
    exact ih _ λz hz=>hy z (OQ _ hz)
   ·simp only[hk,Ql,PV]
    simp only[pure_bind]
    exact ih _ λz hz=>hy z (OQ _ hz)
 have:=key scope.names [] h
 simp only[bind_pure_comp] at this ⊢
 first
  |exact this
  | (rw[this];rfl)
  | (simpa using this)
theorem mK {cells:List (Str×Addr)}{x:Str}:∀{l:List (Str×NameKind)} {cs:List (Str×Addr)},((x,NameKind.free)∈l\/cs.lookup x=some ((cells.lookup x).getD 0))->(iK cells l cs).lookup x=some ((cells.lookup x).getD 0)
 | [],cs,h=>by
  rcases h with h |h
  ·cases h
  ·exact h
 | (n,k) :: r,cs,h=>by
  unfold iK
  refine mK ?_
  by_cases hk:(k == NameKind.free)=true
  ·rw[OG hk]
   by_cases hx:x=n
   ·subst hx;right;simp
   ·rcases h with h |h
    ·rcases OK.mp h with e |e
     ·injection e with e1 _;exact absurd e1 hx
     ·exact .inl e
    ·right
     rw[lookup_cons,show (x == n)=false by simpa using hx]
     exact h
  ·rw[OP hk]
   rcases h with h |h
   ·rcases OK.mp h with e |e
    ·injection e with _ e2;exact absurd (by rw[<-e2];rfl) hk
    ·exact .inl e
   ·exact .inr h
theorem mR {cells:List (Str×Addr)}{x:Str}{c:Addr}:∀{l:List (Str×NameKind)} {cs:List (Str×Addr)},(iK cells l cs).lookup x=some c->((x,NameKind.free)∈l/\c=(cells.lookup x).getD 0)\/cs.lookup x=some c
 | [],cs,h=>.inr h
 | (n,k) :: r,cs,h=>by
  unfold iK at h
  rcases mR h with⟨a,b⟩ |a
  ·exact .inl ⟨OQ _ a,b⟩
  ·by_cases hk:(k == NameKind.free)=true
   ·rw[OG hk,lookup_cons] at a
    by_cases hx:x=n
    ·subst hx
     simp at a
     have:k=.free:=by simpa using hk
     subst this
     exact .inl ⟨ON ..,a.symm⟩
    ·rw[show (x == n)=false by simpa using hx] at a
     exact .inr a
   ·rw[OP hk] at a
    exact .inr a
theorem pE {f:Str->NameKind->NameKind}{x:Str}:∀(l:List (Str×NameKind)),(l.map λy=>(y.1,f y.1 y.2)).lookup x=(l.lookup x).map (f x)
 | []=>rfl
 | (n,k) :: l=>by
  rw[P8,lookup_cons,lookup_cons]
  by_cases hx:x=n
  ·subst hx;simp
  ·have hb:(x == n)=false:=by simpa using hx
   simp only[hb]
   exact pE l
def qI (scope:Scope)(env:Env)(x:Str):(relabel scope env).names.lookup x=(scope.names.lookup x).map λk=>if (k == .free && env.scope.kind == .function && env.kindOf x == some .cell) then .cell else k:=by
 have e:(relabel scope env).names=scope.names.map λy=>(y.1,if (y.2 == .free && env.scope.kind == .function && env.kindOf y.1 == some .cell) then .cell else y.2):=by
  unfold relabel
  dsimp only
  refine Qe λy _=>?_
  obtain⟨n,k⟩:=y
  dsimp only
  split <;> rfl
 rw[e]
 exact pE (f:=λn k=>if (k == .free && env.scope.kind == .function && env.kindOf n == some .cell) then .cell else k) scope.names
theorem nK:∀(l:List (Str×NameKind)) (n:Nat) (acc:List (Str×Addr)),cellsFrom n l acc=cellsFrom n l [] ++ acc
 | [],_,_=>rfl
 | (x,k) :: r,n,acc=>by
  unfold cellsFrom
  split
  ·rw[nK r (n + 1) ((x,n) :: acc),nK r (n + 1) [(x,n)],Qu];rfl
  ·exact nK r n acc
theorem qZ:∀{l:List (Str×NameKind)} {n:Nat} {x:Str} {c:Addr},(x,c)∈cellsFrom n l []->n<=c/\(x,NameKind.cell)∈l
 | [],_,_,_,h=>by cases h
 | (y,k) :: r,n,x,c,h=>by
  unfold cellsFrom at h
  split at h
  ·rename_i hk
   have hk:k=.cell:=by simpa using hk
   rw[nK] at h
   rcases OT.mp h with h |h
   ·have:=qZ h;exact⟨@AT,OQ _ this.2⟩
   ·rw[O7] at h;cases h;subst hk;exact⟨OF _,ON ..⟩
  ·have:=qZ h;exact⟨this.1,OQ _ this.2⟩
abbrev GU (X:Cx)(scope:Scope)(C:Addr):List (Str×Addr):=cellsFrom (C + 1) scope.names (iK X.env.cells scope.names [])
def G7 {M:Model}{A:Around}{E:@Ev}{s:Shared}{scope:Scope}{g:Addr}{cl:List (Str×Addr)}{qual:Str}{env:Env}{Q:Env->Shared->Prop}
  (h:∀h',h'.Ns s.heap.objs.size (λ_=>none)->(∀b o,s.heap.get? b=some o->h'.get? b=some o)->CellsOk h' (s.heap.objs.size + 1) (cellsFrom (s.heap.objs.size + 1) scope.names [])->Q (newEnv scope s.heap.objs.size g (cellsFrom (s.heap.objs.size + 1) scope.names cl) qual none .none (some env) builtinsNs) {s with heap:=h'}) :
  wpAny M A (newFunctionEnv scope g cl [] qual none .none (some env)) Q E s:=by
 simp only[newFunctionEnv,Option.isSome_some,P9]
 refine OL (wpAny_alloc ?_)
 refine OL (wpAny_layCells _ (λname kind cells=>by cases hkc:kind == NameKind.cell <;> simp[hkc]) _ _ _ _ ?_)
 have ok:=cellsFrom_ok scope.names (s.heap.push {cls:=.type "dict",data:=.dict #[]}) (s.heap.objs.size + 1) [] ⟨λ_ _ hm=>(nomatch hm),List.Pairwise.nil⟩ (by rw[Qk];exact OF _)
 rw[Qk] at ok
 rw[show ({s with heap:=s.heap.push {cls:=.type "dict",data:=.dict #[]}}:Shared).heap.objs.size=s.heap.objs.size + 1 from Qk ..]
 rw[List.forIn_nil]
 exact OL (Pa (Pa (h _ ((Heap.Ns.new s.heap (.type "dict")).keeps (pushCells_keeps _ _)) (λb o e=>pushCells_keeps _ _ b o (OI _ e)) ok)))
def jx (X:Cx)(NB:@IN)(scope:Scope)(C:Addr)(ex:List Addr)(s3:Shared)(H3:Hp)(pn:@C_):Cx:=
 {X with N:=NB,s₀:=s3,H₀:=H3,env:=compEnvC scope (GU X scope C) C X.env,outer:=X.stack,ex:=ex,fn:=λx=>scope.names.lookup x == some .cell,pn:=pn,xe:=λ_ _=>False}
def dU (own:Nat)(ixs:@IR)(σ:St):St:=List.replicate own none ++ ixs.map λi=>(σ[i]?).join
structure cj (X:Cx)(NB:@IN)(own:Nat)(ixs:@IR)(scope:Scope):Prop where
 kind:scope.kind=.function
 names:∀y∈scope.names,scope.names.lookup y.1=some y.2
 frees:∀y∈scope.names,y.2=.free->X.env.kindOf y.1=some .cell\/X.env.kindOf y.1=some .free
 nd:NB.Nodup
 len:NB.length=own + ixs.length
 at':∀k,k < ixs.length->NB[own + k]? =X.N[ixs.getD k 0]?/\∀x,NB[own + k]? =some x->(x,NameKind.free)∈scope.names
section
variable {X:Cx}{NB:@IN}{own:Nat}{ixs:@IR}{scope:Scope}{pins:@C_}{σ:St}{H:Hp}{s:Shared}
def BK (S:cj X NB own ixs scope)(I:@B_){fp:List Addr}(hfp:∀b∈fp,kl X pins H b)(hob:∀b∈fp,∃o,s.heap.get? b=some o){h1:Heap}{tk:Nat}
  (hn:h1.Ns s.heap.objs.size (λ_=>none)) (hk:∀b o,s.heap.get? b=some o->h1.get? b=some o) (hcl:CellsOk h1 (s.heap.objs.size + 1) (cellsFrom (s.heap.objs.size + 1) scope.names [])) :
  Inv (jx X NB scope s.heap.objs.size fp s H (X.pn ++ pins)) [] (dU own ixs σ) H {s with heap:=h1,toks:=tk}:=by
 have stk:=I.stack
 have frees:∀{x:Str},(x,NameKind.free)∈scope.names->∃c,X.env.cells.lookup x=some c:=λ{x} hx=>I.ok.has x (S.frees _ hx rfl)
 have clE:∀{x:Str} {c:Addr},(GU X scope s.heap.objs.size).lookup x=some c->((x,c)∈cellsFrom (s.heap.objs.size + 1) scope.names []/\s.heap.objs.size < c)\/((x,NameKind.free)∈scope.names/\X.env.cells.lookup x=some c):=λ{x c} h=>by
  unfold GU at h
  rw[nK,List.lookup_append] at h
  cases q:(cellsFrom (s.heap.objs.size + 1) scope.names []).lookup x with
  |some c'=>
   rw[q] at h
   cases h
   have hm:=PN q
   exact .inl ⟨hm,(qZ hm).1⟩
  |none=>
   rw[q] at h
   have h:(iK X.env.cells scope.names []).lookup x=some c:=h
   rcases mR h with⟨a,b⟩ |a
   ·obtain⟨c',e⟩:=frees a
    rw[e] at b
    exact .inr ⟨a,by rw[e,b];rfl⟩
   ·simp at a
 have clF:∀{x:Str},(x,NameKind.free)∈scope.names->(GU X scope s.heap.objs.size).lookup x=some ((X.env.cells.lookup x).getD 0):=λ{x} hm=>by
  unfold GU
  rw[nK,List.lookup_append]
  cases q:(cellsFrom (s.heap.objs.size + 1) scope.names []).lookup x with
  |some c'=>
   have h1:=S.names _ (qZ (PN q)).2
   have h2:=S.names _ hm
   dsimp only at h1 h2
   rw[h1] at h2
   cases h2
  |none=>exact mK (.inl hm)
 have kindB:∀x,(jx X NB scope s.heap.objs.size fp s H (X.pn ++ pins)).env.kindOf x=(scope.names.lookup x).map λk=>if (k == .free && X.env.scope.kind == .function && X.env.kindOf x == some .cell) then .cell else k:=λx=>qI scope X.env x
 have isFree:∀{x:Str},((jx X NB scope s.heap.objs.size fp s H (X.pn ++ pins)).env.kindOf x=some .cell\/(jx X NB scope s.heap.objs.size fp s H (X.pn ++ pins)).env.kindOf x=some .free)->(x,NameKind.free)∈scope.names\/scope.names.lookup x=some .cell:=λ{x} h=>by
  rw[kindB] at h
  cases e:scope.names.lookup x with
  |none=>rw[e] at h;simp at h
  |some k=>
   have hm:=PN e
   cases k with
   |free=>exact .inl hm
   |cell=>exact .inr rfl
   |_=>rw[e] at h;simp at h
 have neN:∀b o,s.heap.get? b=some o->b≠s.heap.objs.size:=λb o e=>Py (OS e)
 have cellN:∀{x:Str} {c:Addr},X.env.cells.lookup x=some c->c < s.heap.objs.size:=λ{x c} e=>by
  obtain⟨v,o,ho,_⟩:=I.cell x c e
  exact OS ho
 have ok:(jx X NB scope s.heap.objs.size fp s H (X.pn ++ pins)).Ok:=by
  refine⟨I.ok.mod,S.kind,I.ok.glob,I.ok.blt,OF _,λx y c h1 h2=>?_,λx hx=>?_,λx c h hc=>?_,I.ok.hd,I.ok.frames,.inl rfl,λb hb=>?_,I.bs,PB I.ok.bsz I.sz,λb o e hb=>?_,λb hb hs=>?_,stk,I.stkFree⟩
  ·rcases clE h1 with⟨a,l1⟩ | ⟨a,l1⟩
   ·rcases clE h2 with⟨b,l2⟩ | ⟨b,l2⟩
    ·exact name_of_addr hcl.apart a b
    ·exact absurd (Rk l1 (cellN l2)) (Pf _)
   ·rcases clE h2 with⟨b,l2⟩ | ⟨b,l2⟩
    ·exact absurd (Rk l2 (cellN l1)) (Pf _)
    ·exact I.ok.inj x y c l1 l2
  ·rcases isFree hx with hm |hm
   ·exact⟨_,clF hm⟩
   ·obtain⟨c,hc⟩:=Option.isSome_iff_exists.mp (PySem.W.cellsFrom_some scope.names (s.heap.objs.size + 1) (iK X.env.cells scope.names []) (.inl hm))
    exact⟨c,hc⟩
  ·rcases clE hc with⟨a,l1⟩ | ⟨a,l1⟩
   ·exact Qz l1
   ·have h1:=S.names _ a
    dsimp only at h1
    have h:(scope.names.lookup x == some NameKind.cell)=true:=h
    rw[h1] at h
    cases h
  ·obtain⟨_,f1,f2,f3,f4,f5⟩:=hfp b hb
   obtain⟨o,ho⟩:=hob b hb
   refine⟨neN b o ho,λx c h z=>?_⟩
   rcases clE h with⟨a,l1⟩ | ⟨a,l1⟩
   ·rw[z] at l1
    exact Pf _ (Rk l1 (OS ho))
   ·exact f4 x c l1 z
  ·obtain⟨_,f1,f2,f3,f4,f5⟩:=hfp b hb
   rcases f3 with f3 |f3
   ·exact I.ok.noex b o e f3
   ·exact absurd (Pj (OS e) (PB I.ok.bsz f3)) (Pf _)
  ·obtain⟨_,f1,f2,f3,f4,f5⟩:=hfp b hb
   rcases OK.mp (I.stkSub b hs) with z |z
   ·exact f1 z
   ·exact f2 z
 refine⟨ok,rfl,I.bare,Un.kept hk,⟨_,hn,λi x v h1' h2' h3'=>?_⟩,λx c h=>?_,I.hok.fresh (OF _),λx c h=>?_,λp hp=>?_,I.hok.kept hk,?_⟩
 ·
  have h1':NB[i]? =some x:=h1'
  have hown:own<=i:=by
   refine Classical.byContradiction λhc=>?_
   have hlt:i < own:=Nat.lt_of_not_le hc
   unfold dU at h2'
   rw[Pg (by simpa using hlt),P0,OG hlt] at h2'
   cases h2'
  obtain⟨k,rfl⟩:∃k,i=own + k:=⟨i - own,@AT ⟩
  have hk':k < ixs.length:=by
   have:=(OO.mp h1').1
   rw[S.len] at this;omega
  obtain⟨e1,e2⟩:=S.at' k hk'
  have hm:=e2 x h1'
  unfold dU at h2'
  rw[Po (by simp),PL,Nat.add_sub_cancel_left,OU,OD hk'] at h2'
  simp only[Option.map_some,Option.some.injEq] at h2'
  have hix:ixs.getD k 0=ixs[k]:=by simp[hk']
  have hσ:σ[ixs[k]]? =some (some v):=by
   cases e:σ[ixs[k]]? with
   |none=>rw[e] at h2';cases h2'
   |some o=>rw[e] at h2';simp at h2';rw[h2']
  rw[e1,hix] at h1'
  have hkind:=S.frees _ hm rfl
  have hvis:An X.env.scope x:=hkind.elim (λz=>.inr (.inl z)) (λz=>.inr (.inr z))
  obtain⟨m,hm',hl⟩:=I.loc
  obtain⟨u,r,look⟩:=hl _ x v h1' hσ hvis
  refine⟨u,r,.inr ⟨?_,?_⟩⟩
  ·rw[kindB]
   have hfr:scope.names.lookup x=some .free:=S.names _ hm
   rw[hfr]
   simp only[Option.map_some]
   split
   ·exact .inl rfl
   ·exact .inr rfl
  ·rcases look with⟨z,_⟩ | ⟨_,c,hc,hcell⟩
   ·rcases hkind with q |q
    ·rw[q] at z;cases z
    ·rw[q] at z;cases z
   ·refine⟨c,?_,?_⟩
    ·have:=clF hm
     rw[hc] at this
     exact this
    ·obtain⟨o,ho,hd⟩:=hcell
     exact⟨o,hk _ _ ho,hd⟩
 ·rcases clE h with⟨a,_⟩ | ⟨_,l1⟩
  ·exact⟨_,(hcl.empty _ _ a).1⟩
  ·obtain⟨v,o,ho,hd⟩:=I.cell x c l1
   exact⟨v,o,hk _ _ ho,hd⟩
 ·rcases clE h with⟨_,l1⟩ | ⟨_,l1⟩
  ·exact I.hok.fresh (Qz l1)
  ·exact I.freeC x c l1
 ·have hp':p∈X.pn ++ pins:=by
   rcases OT.mp hp with z |z
   ·exact z
   ·cases z
  obtain⟨e,n,ne,nf,d⟩:=I.pin p hp'
  refine⟨hk _ _ e,n,neN _ _ e,λz=>?_,d⟩
  rcases OK.mp (I.stkSub _ z) with q |q
  ·exact ne q
  ·exact nf q
 ·show (dU own ixs σ).length=NB.length
  unfold dU
  rw[S.len];simp
end
abbrev zO (ifs:List Expr)(env:Env):Sem Bool:=forIn ifs true λc r=>if r=true then do let ok <-isTrue c env (eval c env);pure (ForInStep.yield ok) else pure (ForInStep.yield r)
theorem BY {prog:Program}{w:World}{A:Around}{R:Result->Shared->Prop}{s:Shared}{elt target iter:Expr}{ifs:List Expr}{scope:Scope}{pos:Pos}{it acc:Value}{env:Env}(I:Nat->Shared->Prop)
  (turn:∀n s,I n s->wpAny (model prog w) A (pyNext it) (λr s1=>match r with
   |none=>R (.ok .next) s1
   |some v=>wpAny (model prog w) A (letOwnedTupleGo target it v) (λ_ s1'=>wpAny (model prog w) A (assign target env v) (λ_ s2=>
     wpAny (model prog w) A (zO ifs env) (λok s3=>
      if ok=true then wpAny (model prog w) A (eval elt env) (λx s4=>wpAny (model prog w) A (call (.builtin "list.append") [acc,x]) (λ_ s5=>∃m,m < n/\I m s5) (λ_ _=>False) s4) (λ_ _=>False) s3
      else ∃m,m < n/\I m s3) (λ_ _=>False) s2) (λ_ _=>False) s1') (λ_ _=>False) s1) (λ_ _=>False) s)
  (n:Nat) (h:I n s):codeAny (model prog w) A (.compLoop (.ListComp elt [⟨target,iter,ifs,0⟩] scope pos) 0 it acc env) R s:=by
 refine codeAny_loop rfl I (λn s hI=>?_) n h
 (show wpAny _ A ((compTurn (.ListComp elt [⟨target,iter,ifs,0⟩] scope pos) 0 it acc env).onRaise (λx=>do (noteFrame x env);theTreesLotGoes x)) _ _ s)
 refine wpAny_noted ?_
 rw[compTurn_list]
 refine OL (wpAny_standAt (OL (P5 (turn n s hI) (λr s1 h1=>?_) λ_ _ z=>z.elim)))
 cases r with
 |none=>exact Pa h1
 |some v=>
  refine OL (P5 h1 (λ_ s1' h1'=>?_) λ_ _ z=>z.elim)
  refine OL (P5 h1' (λ_ s2 h2=>OL (P5 h2 (λok s3 h3=>?_) λ_ _ z=>z.elim)) λ_ _ z=>z.elim)
  cases ok with
  |false=>exact Pa ⟨rfl,h3⟩
  |true=>exact OL (OL (P5 h3 (λx s4 h4=>OL (P5 h4 (λ_ s5 h5=>Pa (Pa ⟨rfl,h5⟩)) λ_ _ z=>z.elim)) λ_ _ z=>z.elim))
def DH (X:Cx)(ifs:List Expr)(t:TT):Prop:=
 ∀(pins:@C_) (s:Shared) (σ:St) (H:Hp) (Q:Bool->Hp->Prop),@B_->t σ H Q->wpAny @EQ X.A (zO ifs X.env) (TP X pins σ Q) X.xe s
def JF:TT:=λ_ H Q=>Q true H
def uJ {X:Cx}:DH X [] JF:=λpins s σ H Q I h=>Pa ⟨H,I,h⟩
def zX {X:Cx}{c:Expr}{t:TT}(h:PT X c t):DH X [c] t:=λpins s σ H Q I q=>wpAny_tests_one (h pins s σ H Q I q)
def yj (own:Nat)(ixs:@IR)(wi:TI)(g:TG)(tt:TT)(te:TE)(σ:St)(H:Hp)(Q:VK):Prop:=wi σ H λJ H1=>∀D,H1 D=none->∃W:Nat->Nat->St->Hp->Prop,(∃m,W 0 m (dU own ixs σ) (upd H1 D (.lst [])))/\∀i m σ' H',W i m σ' H'->
 (J.stop i H'/\(∃acc,H' D=some (.lst acc))/\Q (.ref D) H')\/
 (J.go i H'/\∃N:St->Hp->Prop,(∀σ2 H2,N σ2 H2->∃m',m' < m/\W (i + 1) m' σ2 H2)/\∀x H2,J.yld i H' x H2->g x σ' H2 λσ3 H3=>tt σ3 H3 λb H4=>
  if b=true then te σ3 H4 λv H5=>∃acc,H5 D=some (.lst acc)/\acc.length < sizeLine/\N σ3 (upd H5 D (.lst (acc ++ [v]))) else N σ3 H4)
section
variable {X:Cx}{NB:@IN}{own:Nat}{ixs:@IR}{scope:Scope}{elt tg iter:Expr}{ifs:List Expr}{pos:Pos}{wi:TI}{g:TG}{tt:TT}{te:TE}
def tT (hc:X.calm=true)(S:cj X NB own ixs scope)
  (hg:∀C ex s3 H3 pn,PG @Ix tg g) (ht:∀C ex s3 H3 pn,DH @Ix ifs tt) (he:∀C ex s3 H3 pn,PE @Ix elt te)
  {pins:@C_} {σ:St} {H1:Hp} {s2:Shared} {it:Addr} {fp:List Addr} {tn:Nat->Heap->Prop} {J:It} {Q:VK} (I2:Inv X pins σ H1 s2) (T:Turn X.prog X.w X.K tg J fp it tn) (st2:tn 0 s2.heap) (f2:∀b∈fp,kl X pins H1 b)
  (hQ:∀D,H1 D=none->∃W:Nat->Nat->St->Hp->Prop,(∃m,W 0 m (dU own ixs σ) (upd H1 D (.lst [])))/\∀i m σ' H',W i m σ' H'->
   (J.stop i H'/\(∃acc,H' D=some (.lst acc))/\Q (.ref D) H')\/
   (J.go i H'/\∃N:St->Hp->Prop,(∀σ2 H2,N σ2 H2->∃m',m' < m/\W (i + 1) m' σ2 H2)/\∀x H2,J.yld i H' x H2->g x σ' H2 λσ3 H3=>tt σ3 H3 λb H4=>
    if b=true then te σ3 H4 λv H5=>∃acc,H5 D=some (.lst acc)/\acc.length < sizeLine/\N σ3 (upd H5 D (.lst (acc ++ [v]))) else N σ3 H4))
  {E:@Ev} {RR:Value->Addr->Result->Shared->Prop}
  (fin:∀D C H' s' m,Inv X pins σ H' s'->Q (.ref D) H'->s'.heap.Ns C m->H' C=none->C≠X.env.locals->(∀x c,X.env.cells.lookup x=some c->c≠C)->X.s₀.heap.objs.size<=C->(∀p∈X.pn ++ pins,p.1≠C)->RR (.ref D) C (.ok .next) s') :
  wpAny @EQ X.A (newList []) (λacc s3=>wpAny @EQ X.A (newFunctionEnv scope X.env.globals (iK X.env.cells scope.names []) [] X.env.qual none .none (some X.env)) (λcenv s4=>
   codeAny @EQ X.A (.compStart (.ListComp elt [⟨tg,iter,ifs,0⟩] scope pos) 0 (.ref it) acc {cenv with scope:=relabel scope X.env}) (RR acc cenv.locals) s4) E s3) E s2:=by
 refine wpAny_newList ?_ (Pz _)
 have hD:H1 s2.heap.objs.size=none:=I2.hok.fresh (OF _)
 obtain⟨W,⟨m0,w0⟩,turn⟩:=hQ s2.heap.objs.size hD
 generalize hs3:({s2 with heap:=s2.heap.push (seqObj "list" ([]:@GT).toArray 0)}:Shared)=s3
 have I3:Inv X pins σ (upd H1 s2.heap.objs.size (.lst [])) s3:=by
  rw[<-hs3]
  exact I2.lnew (ys:=[]) (its:=[]) (t':=s2.toks) .nil (Pz _)
 have k3:∀b o,s2.heap.get? b=some o->s3.heap.get? b=some o:=λb o e=>by rw[<-hs3];exact OI _ e
 have sz3:s3.heap.objs.size=s2.heap.objs.size + 1:=by rw[<-hs3];exact Qk ..
 have ob2:∀b∈fp,∃o,s2.heap.get? b=some o:=λb hb=>let ⟨o,e,_⟩:=T.obj 0 _ st2 b hb;⟨o,e⟩
 have neD:∀b∈fp,b≠s2.heap.objs.size:=λb hb=>let ⟨o,e⟩:=ob2 b hb;Py (OS e)
 have f3:∀b∈fp,kl X pins (upd H1 s2.heap.objs.size (.lst [])) b:=λb hb=>by
  obtain⟨a1,a2⟩:=f2 b hb
  exact⟨by rw[ay (neD b hb)];exact a1,a2⟩
 have st3:tn 0 s3.heap:=T.keep _ _ _ st2 λb _ o e=>k3 b o e
 refine G7 λh4 hn4 k4 ok4=>?_
 have I4:Inv (jx X NB scope s3.heap.objs.size fp s3 (upd H1 s2.heap.objs.size (.lst [])) (X.pn ++ pins)) [] (dU own ixs σ) (upd H1 s2.heap.objs.size (.lst [])) {s3 with heap:=h4}:=
  BK S I3 f3 (λb hb=>let ⟨o,e⟩:=ob2 b hb;⟨o,k3 _ _ e⟩) hn4 k4 ok4
 have st4:tn 0 h4:=T.keep _ _ _ st3 λb _ o e=>k4 b o e
 generalize hB:jx X NB scope s3.heap.objs.size fp s3 (upd H1 s2.heap.objs.size (.lst [])) (X.pn ++ pins)=B at I4
 have hgB:PG B tg g:=by rw[<-hB];exact hg _ _ _ _ _
 have htB:DH B ifs tt:=by rw[<-hB];exact ht _ _ _ _ _
 have heB:PE B elt te:=by rw[<-hB];exact he _ _ _ _ _
 have eP:B.prog=X.prog:=by rw[<-hB];rfl
 have eW:B.w=X.w:=by rw[<-hB];rfl
 have eK:B.K=X.K:=by rw[<-hB];rfl
 have eA:B.A=X.A:=by rw[<-hB];rfl
 have eC:B.calm=true:=by rw[<-hB];exact hc
 have eX:B.xe=λ_ _=>False:=by rw[<-hB];rfl
 have eE:B.env=compEnvC scope (GU X scope s3.heap.objs.size) s3.heap.objs.size X.env:=by rw[<-hB];rfl
 have ex:B.ex=fp:=by rw[<-hB];rfl
 have eL:B.env.locals=s3.heap.objs.size:=by rw[eE];rfl
 have stat:∀{H':Hp},(∀b∈fp,H' b=none)->∀b∈fp,kl B [] H' b:=λ{H'} hn b hb=>by
  obtain⟨a1,a2,a3,a4,a5,a6⟩:=f3 b hb
  obtain⟨o,eo⟩:=ob2 b hb
  refine⟨hn b hb,?_,λz=>?_,.inl (by rw[ex];exact hb),λx c e z=>?_,λp hp z=>?_⟩
  ·rw[eL];exact Py (OS (k3 _ _ eo))
  ·have hz:b∈nQ X.stack:=by rw[<-hB] at z;exact z
   rcases OK.mp (I3.stkSub b hz) with q |q
   ·exact a2 q
   ·exact a3 q
  ·rw[eE] at e
   have e:(GU X scope s3.heap.objs.size).lookup x=some c:=e
   unfold GU at e
   rw[nK,List.lookup_append] at e
   cases q:(cellsFrom (s3.heap.objs.size + 1) scope.names []).lookup x with
   |some c'=>
    rw[q] at e
    cases e
    have l1:=(qZ (PN q)).1
    rw[z] at l1
    exact Pf _ (Rk l1 (OS (k3 _ _ eo)))
   |none=>
    rw[q] at e
    have e:(iK X.env.cells scope.names []).lookup x=some c:=e
    rcases mR e with⟨m1,m2⟩ |m1
    ·obtain⟨c',e'⟩:=I3.ok.has x (S.frees _ m1 rfl)
     rw[e'] at m2
     exact a5 x c' e' (by rw[<-z,m2];rfl)
    ·simp at m1
  ·have hp':p∈X.pn ++ pins:=by
    rw[<-hB] at hp
    rcases OT.mp hp with q |q
    ·exact q
    ·cases q
   exact a6 p hp' z
 have back:∀{σ':St} {H':Hp} {s':Shared},Inv B [] σ' H' s'->Inv X pins σ H' s':=λ{σ' H' s'} J'=>by
  have u:=J'.base
  have os:=J'.os
  have bare:=J'.bare
  have hok:=J'.hok
  subst hB
  exact I3.call' (ch:=fp) os u hok bare λb hb=>by
   obtain⟨a1,a2,a3,a4,a5,a6⟩:=f3 b hb
   exact⟨a4,a2,a5,a6⟩
 have loop:∀s5:Shared,s5={s3 with heap:=h4}->
   codeAny @EQ X.A (.compLoop (.ListComp elt [⟨tg,iter,ifs,0⟩] scope pos) 0 (.ref it) (.ref s2.heap.objs.size) (compEnvC scope (GU X scope s3.heap.objs.size) s3.heap.objs.size X.env)) (RR (.ref s2.heap.objs.size) s3.heap.objs.size) s5:=by
  rintro s5 rfl
  refine BY (λn s'=>∃i σ' H',Inv B [] σ' H' s'/\tn i s'.heap/\(∀b∈fp,H' b=none)/\W i n σ' H') ?_ m0 ⟨0,_,_,I4,st4,λb hb=>(f3 b hb).1,w0⟩
  rintro n s6 ⟨i,σ6,H6,I6,st6,fr6,w6⟩
  rcases turn i n σ6 H6 w6 with⟨stop,⟨acc,hacc⟩,qn⟩ | ⟨go,N,hN,step⟩
  ·have:=T.done B eP eW eK eC i [] s6 σ6 H6 (λ_ _=>False) I6 (stat fr6) st6 stop
   rw[eA] at this
   refine cI this λr s7 ⟨hr,I7⟩=>?_
   subst hr
   obtain⟨m7,hn7,_⟩:=I7.loc
   rw[eL] at hn7
   have J7:=back I7
   refine fin _ _ H6 s7 m7 J7 qn hn7 (by rw[<-eL];exact I7.free) (λz=>?_) (λx c e z=>?_) ?_ λp hp z=>?_
   ·have:=I3.lt
    rw[<-z] at this
    exact Pf _ this
   ·obtain⟨v,o,ho,_⟩:=I3.cell x c e
    exact absurd (OS ho) (by rw[z];exact Pf _)
   ·exact I3.sz
   ·have:=OS (I3.pin p hp).1
    rw[z] at this
    exact Pf _ this
  ·have hitem:=T.item B eP eW eK eC i [] s6 σ6 H6 (λ_ _=>False) I6 (stat fr6) st6 go
   rw[eA] at hitem
   refine cI hitem λr s7 ⟨u,hr,h7⟩=>?_
   subst hr
   refine cI h7 λ_ s8 ⟨x,H8,I8,r8,y8,st8,fr8⟩=>?_
   have I8':=I8.pinned (stat fr8) (T.obj _ _ st8)
   have ha:=hgB _ s8 σ6 H8 x u _ I8' r8 (step x H8 y8)
   rw[eP,eW,eA,eE,eX] at ha
   refine cI ha λ_ s9 ⟨σ9,H9,I9,q9⟩=>?_
   have hb:=htB _ s9 σ9 H9 _ I9 q9
   rw[eP,eW,eA,eE,eX] at hb
   refine cI hb λok s10 ⟨H10,I10,q10⟩=>?_
   have again:∀{σ7:St} {H7:Hp} {s7:Shared},Inv B ([] ++ rD fp s8.heap) σ7 H7 s7->N σ7 H7->∃m,m < n/\∃i σ' H',Inv B [] σ' H' s7/\tn i s7.heap/\(∀b∈fp,H' b=none)/\W i m σ' H':=λ{σ7 H7 s7} I7 n7=>by
    obtain⟨m',hm,w7⟩:=hN σ7 H7 n7
    refine⟨m',hm,i + 1,σ7,H7,I7.unpinned,T.keep _ _ _ st8 λb hb o e=>(I7.pin (b,o) (Pe _ (Pe _ (lj hb e)))).1,λb hb=>?_,w7⟩
    obtain⟨o,e,d⟩:=T.obj _ _ st8 b hb
    exact (I7.pin (b,o) (Pe _ (Pe _ (lj hb e)))).2.1
   cases ok with
   |false=>
    simp only[PV,Ql] at q10 ⊢
    exact again I10 q10
   |true=>
    simp only[P9] at q10 ⊢
    have hv:=heB _ s10 σ9 H10 _ I10 q10
    rw[eP,eW,eA,eE,eX] at hv
    refine cI hv λy s11 ⟨v,H11,I11,r11,acc,hacc,hz,q11⟩=>?_
    have hap:=o7 (X:=B) _ s11 σ9 H11 (.ref s2.heap.objs.size) [v] (.ref s2.heap.objs.size) [y] (λz H'=>z=.non/\N σ9 H') I11 rfl (.cons r11 .nil) ⟨_,acc,v,rfl,rfl,hacc,hz,rfl,q11⟩
    rw[eP,eW,eA,eX] at hap
    exact cI hap λ_ s12 ⟨_,H12,I12,_,_,q12⟩=>again I12 q12
 exact codeAny_compStart_list (loop _ rfl) (T.self X.A 0 _ _ _ st4 (loop _ rfl))
def xl (hc:X.calm=true)(S:cj X NB own ixs scope)(hi:PI X tg iter wi)
  (hg:∀C ex s3 H3 pn,PG @Ix tg g) (ht:∀C ex s3 H3 pn,DH @Ix ifs tt) (he:∀C ex s3 H3 pn,PE @Ix elt te)
  (hs:∀x,foldedSetIterable iter X.env x=pure x:=by intro _;rfl) :
  PE X (.ListComp elt [⟨tg,iter,ifs,0⟩] scope pos) (yj own ixs wi g tt te):=by
 intro pins s σ H Q I h
 rw[eval_ListComp]
 refine wpAny_comprehension_free (use:=none) rfl hs (nt λy hy e=>I.ok.has _ (S.frees y hy e)) S.kind (λy hy e=>by rw[S.names y hy,e]) ?_
 refine cI (hi pins s σ H _ I h) λv s1 h1=>cI h1 λitv s2 h2=>?_
 obtain⟨it,fp,tn,J,H2,e,I2,T,st2,f2,q2⟩:=h2
 subst e
 refine tT hc S hg ht he I2 T st2 f2 q2 (RR:=λacc C=>compPost @EQ X.A X.xe none (EP X pins σ Q) acc C) λD C H' s' m J' q hn hC n1 n2 n3 n4=>?_
 refine⟨m,hn,λh'' sb=>⟨.ref D,H',?_,rfl,q⟩⟩
 exact J'.turned (t':=s'.toks) (it:=C) (λb o hb e=>sb.extBut b o hb e) hC n1 (.inr n3) n2 n4
def Es {i:Nat}{y:Str}{py spos:Pos}(hc:X.calm=true)(S:cj X NB own ixs scope)(hi:PI X tg iter wi)
  (hg:∀C ex s3 H3 pn,PG @Ix tg g) (ht:∀C ex s3 H3 pn,DH @Ix ifs tt) (he:∀C ex s3 H3 pn,PE @Ix elt te)
  (hN:X.N.Nodup) (hy:X.N[i]? =some y) (hl:X.env.scope.names.lookup y=some .local)
  (hsw:swapsWith (.ListComp elt [⟨tg,iter,ifs,0⟩] scope pos) (some (.Name y py)) spos.line X.env=pure true)
  (hs:∀x,foldedSetIterable iter X.env x=pure x:=by intro _;rfl) :
  PS X (.Assign [.Name y py] (.ListComp elt [⟨tg,iter,ifs,0⟩] scope pos) spos) (λD σ H=>yj own ixs wi g tt te σ H λv H'=>D.nx (σ.set i (some v)) H'):=by
 intro pins s σ H D I h
 rw[exec_Assign_Name_used _ _ _ _ hsw]
 refine OL (wpAny_standAt (OL ?_))
 show wpAny _ X.A (comprehension (.ListComp elt [⟨tg,iter,ifs,0⟩] scope pos) scope X.env _ (newList []) false (eval iter X.env) (some (assign (.Name y py) X.env)) >>= λ_=>pure ()) _ _ s
 refine OL (P5 (wpAny_comprehension_free (use:=some (assign (.Name y py) X.env)) (Q:=λ_ s'=>SP X pins D .next s') rfl hs (nt λy hy e=>I.ok.has _ (S.frees y hy e)) S.kind (λy hy e=>by rw[S.names y hy,e]) ?_)
  (λ_ s' hq=>Pa (Pa hq)) λ_ _ e=>e)
 refine cI (hi pins s σ H _ I h) λv s1 h1=>cI h1 λitv s2 h2=>?_
 obtain⟨it,fp,tn,J,H2,e,I2,T,st2,f2,q2⟩:=h2
 subst e
 refine tT hc S hg ht he I2 T st2 f2 q2 (Q:=λv H'=>D.nx (σ.set i (some v)) H') (RR:=λacc C=>compPost @EQ X.A X.xe (some (assign (.Name y py) X.env)) (λ_ s'=>SP X pins D .next s') acc C) λD' C H' s' m J' q hn hC n1 n2 n3 n4=>?_
 show wpAny _ X.A (assign (.Name y py) X.env (.ref D')) _ _ s'
 refine wpAny_assign_Name (uc J' hN hy (.inl hl) (v:=.ref D') rfl (λs'' I'' ⟨a,sb,ha⟩=>?_) (.inr hl))
 have hCa:C≠a:=by
  rcases ha with z |z
  ·rw[z];exact n1
  ·exact (n2 _ _ z).symm
 refine⟨m,hn.sameBut sb hCa,λh3 sb3=>⟨_,H',?_,q⟩⟩
 exact I''.turned (t':=s''.toks) (it:=C) (λb o hb e=>sb3.extBut b o hb e) hC n1 (.inr n3) n2 n4
end
section
variable {own:Nat}{ixs:@IR}{g:TG}{tt:TT}{te:TE}{σ:St}{H:Hp}{Q:VK}{K:Frag}{D a:Addr}{xs:List V}
abbrev fQ (g:TG)(tt:TT)(te:TE)(D:Addr)(x:V)(σ:St)(H:Hp)(N:St->Hp->Prop):Prop:=g x σ H λσ3 H3=>tt σ3 H3 λb H4=>
  if b=true then te σ3 H4 λv H5=>∃acc,H5 D=some (.lst acc)/\acc.length < sizeLine/\N σ3 (upd H5 D (.lst (acc ++ [v]))) else N σ3 H4
def B7 (Pv:Nat->St->Hp->Prop)(h0:Pv 0 (dU own ixs σ) (upd H D (.lst [])))(hl:∀i σ H,i<=xs.length->Pv i σ H->iF K H a xs)
  (hs:∀i x σ H,xs[i]? =some x->Pv i σ H->fQ g tt te D x σ H (Pv (i + 1))) (hd:∀σ H,Pv xs.length σ H->(∃acc,H D=some (.lst acc))/\Q (.ref D) H) :
  ∃W:Nat->Nat->St->Hp->Prop,(∃m,W 0 m (dU own ixs σ) (upd H D (.lst [])))/\∀i m σ' H',W i m σ' H'->
   ((AR K a).stop i H'/\(∃acc,H' D=some (.lst acc))/\Q (.ref D) H')\/
   ((AR K a).go i H'/\∃N:St->Hp->Prop,(∀σ2 H2,N σ2 H2->∃m',m' < m/\W (i + 1) m' σ2 H2)/\∀x H2,(AR K a).yld i H' x H2->fQ g tt te D x σ' H2 N):=by
 refine⟨λi m σ H=>m=xs.length - i/\i<=xs.length/\Pv i σ H,⟨xs.length,by simp,Pz _,h0⟩,?_⟩
 rintro i m σ H ⟨rfl,hi,p⟩
 have q:=hl i σ H hi p
 by_cases hlt:i < xs.length
 ·refine .inr ⟨⟨xs,xs[i],q,by simp[hlt]⟩,Pv (i + 1),λσ' H' p'=>⟨xs.length - (i + 1),@AT,rfl,hlt,p'⟩,λx H' y=>?_⟩
  obtain⟨e,y⟩:=y
  subst e
  exact hs i x σ _ (y xs q) p
 ·have e:i=xs.length:=@AT
  subst e
  exact .inl ⟨⟨xs,q,OF _⟩,hd σ H p⟩
def zb {lo:Int}{n:Nat}(Pv:Nat->St->Hp->Prop)(h0:Pv 0 (dU own ixs σ) (upd H D (.lst [])))
  (hs:∀i σ H,i < n->Pv i σ H->fQ g tt te D (.int (lo + i)) σ H (Pv (i + 1))) (hd:∀σ H,Pv n σ H->(∃acc,H D=some (.lst acc))/\Q (.ref D) H) :
  ∃W:Nat->Nat->St->Hp->Prop,(∃m,W 0 m (dU own ixs σ) (upd H D (.lst [])))/\∀i m σ' H',W i m σ' H'->
   ((Er lo n).stop i H'/\(∃acc,H' D=some (.lst acc))/\Q (.ref D) H')\/
   ((Er lo n).go i H'/\∃N:St->Hp->Prop,(∀σ2 H2,N σ2 H2->∃m',m' < m/\W (i + 1) m' σ2 H2)/\∀x H2,(Er lo n).yld i H' x H2->fQ g tt te D x σ' H2 N):=by
 refine⟨λi m σ H=>m=n - i/\i<=n/\Pv i σ H,⟨n,by simp,Pz _,h0⟩,?_⟩
 rintro i m σ H ⟨rfl,hi,p⟩
 by_cases hlt:i < n
 ·refine .inr ⟨hlt,Pv (i + 1),λσ' H' p'=>⟨n - (i + 1),@AT,rfl,hlt,p'⟩,λx H' y=>?_⟩
  obtain⟨e,y⟩:=y
  subst e y
  exact hs i σ _ hlt p
 ·have e:i=n:=@AT
  subst e
  exact .inl ⟨OF _,hd σ H p⟩
end
mutual
inductive Rep (K:Frag)(H:Hp):V->PyData->Prop
 |non:Rep K H .non .none
 |bl (b:Bool):Rep K H (.bl b) (.bool b)
 |int (i:Int):Rep K H (.int i) (.int i)
 |str (x:Str):Rep K H (.str x) (.str x)
 |tup {a:Addr} {xs:List V} {ds:List PyData}:fN K H a xs->kL K H xs ds->Rep K H (.ref a) (.tuple ds)
 |lst {a:Addr} {xs:List V} {ds:List PyData}:iF K H a xs->kL K H xs ds->Rep K H (.ref a) (.list ds)
inductive kL (K:Frag)(H:Hp):List V->List PyData->Prop
 |nil:kL K H [] []
 |cons {x:V} {xs:List V} {d:PyData} {ds:List PyData}:Rep K H x d->kL K H xs ds->kL K H (x :: xs) (d :: ds)
end
section
variable {X:Cx}{pins:@C_}{σ:St}{H H':Hp}{s:Shared}
mutual
theorem Rep.reads (I:@B_):∀{x:V} {d:PyData} {u:Value},Rep X.K H x d->RelV x u->∃as,Reads s.heap u d as
 |_,_,_,.non,r=>by cases r;exact⟨_,.none⟩
 |_,_,_,.bl b,r=>by cases r;exact⟨_,.bool b⟩
 |_,_,_,.int i,r=>by obtain⟨t,rfl⟩:=r;exact⟨_,.int i t⟩
 |_,_,_,.str x,r=>by obtain⟨t,rfl⟩:=r;exact⟨_,.str x t⟩
 |_,_,_,.tup h hs,r=>by
  cases r
  obtain⟨its,rv,⟨o,ho,hc,n,hd⟩,_⟩:=I.tuple h
  obtain⟨as,q⟩:=kL.reads I hs rv
  exact⟨_,.tuple ho hc hd (by simpa using q)⟩
 |_,_,_,.lst h hs,r=>by
  cases r
  obtain⟨its,rv,pl,_⟩:=I.list h
  obtain⟨o,ho,hc,n,hd⟩:=pl.isList
  obtain⟨as,q⟩:=kL.reads I hs rv
  exact⟨_,.list ho hc hd (by simpa using q)⟩
theorem kL.reads (I:@B_):∀{xs:List V} {ds:List PyData} {us:@GT},kL X.K H xs ds->Vals xs us->∃as,ReadsAll s.heap us ds as
 |_,_,_,.nil,r=>by cases r;exact⟨_,.nil⟩
 |_,_,_,.cons h hs,r=>by
  cases r with
  |cons r1 r2=>
   obtain⟨as,q⟩:=Rep.reads I h r1
   obtain⟨bs,q'⟩:=kL.reads I hs r2
   exact⟨_,.cons q q'⟩
end
def Im (K:Frag)(neg:Bool):R2:=λx y H Q=>∃d e,Rep K H x d/\Rep K H y e/\SeqAt.shaped d=true/\SeqAt.shaped e=true/\Q (.bl (if neg then !PyData.eqv d e else PyData.eqv d e)) H
def cJ (hu:X.A.units + 64 < cLine):lP X (compareOp .Eq) (Im X.K false):=by
 intro pins s σ H x y v u Q I rx ry h
 obtain⟨d,e,h1,h2,s1,s2,q⟩:=h
 obtain⟨as,r1⟩:=h1.reads I rx
 obtain⟨bs,r2⟩:=h2.reads I ry
 exact SeqAt.compareEq_shaped r1 r2 s1 s2 hu ⟨.bl _,H,I,rfl,q⟩
def ji (hu:X.A.units + 64 < cLine):lP X (compareOp .NotEq) (Im X.K true):=by
 intro pins s σ H x y v u Q I rx ry h
 obtain⟨d,e,h1,h2,s1,s2,q⟩:=h
 obtain⟨as,r1⟩:=h1.reads I rx
 obtain⟨bs,r2⟩:=h2.reads I ry
 exact SeqAt.compareNe_shaped r1 r2 s1 s2 hu ⟨.bl _,H,I,rfl,q⟩
def IY (K:Frag)(neg:Bool):R2:=λx y H Q=>∃p xs d ds,y=.ref p/\(iF K H p xs\/fN K H p xs)/\kL K H xs ds/\Rep K H x d/\SeqAt.shaped d=true/\(∀e,e∈ds->SeqAt.shaped e=true)/\
 Q (.bl (if neg then !(ds.any λe=>PyData.eqv e d) else ds.any λe=>PyData.eqv e d)) H
theorem kL.at' {K:Frag}:∀{xs:List V} {ds:List PyData} {i:Nat} {x:V},kL K H xs ds->xs[i]? =some x->∃d,ds[i]? =some d/\Rep K H x d
 |_,_,_,_,.nil,e=>by simp at e
 |_,_,0,_,.cons r _,e=>by simp at e;subst e;exact⟨_,rfl,r⟩
 |_,_,i + 1,x,.cons _ t,e=>by
  obtain⟨u,h1,h2⟩:=kL.at' (i:=i) (x:=x) t (by simpa using e)
  exact⟨u,by simpa using h1,h2⟩
theorem kL.len {K:Frag}:∀{xs:List V} {ds:List PyData},kL K H xs ds->xs.length=ds.length
 |_,_,.nil=>rfl
 |_,_,.cons _ t=>by simp[kL.len t]
open Classical in
theorem ot (I:@B_)(d:PyData):∀{xs:List V} {us:@GT} {ds:List PyData},Vals xs us->kL X.K H xs ds->(∀e,e∈ds->SeqAt.shaped e=true)->∃f:Value->Bool,us.any f=(ds.any λe=>PyData.eqv e d)/\∀u,u∈us->∃e as,e∈ds/\Reads s.heap u e as/\f u=PyData.eqv e d:=by
 intro xs us ds hv hr hs
 let f:Value->Bool:=λu=>if h:∃e as,SeqAt.shaped e=true/\Reads s.heap u e as then PyData.eqv (Classical.choose h) d else false
 have hf:∀{u:Value} {e:PyData} {as:List Addr},SeqAt.shaped e=true->Reads s.heap u e as->f u=PyData.eqv e d:=λ{u e as} h1 h2=>by
  have hx:∃e as,SeqAt.shaped e=true/\Reads s.heap u e as:=⟨e,as,h1,h2⟩
  show (if h:∃e as,SeqAt.shaped e=true/\Reads s.heap u e as then PyData.eqv (Classical.choose h) d else false)=_
  rw[dif_pos hx]
  obtain⟨bs,q1,q2⟩:=Q0 hx
  rw[SeqAt.Reads.unique _ _ _ _ _ (Qo q1) q2 h2]
 refine⟨f,?_,?_⟩
 ·induction hv generalizing ds with
  |nil=>cases hr;rfl
  | @cons x u xs us r1 r2 ih=>
   cases hr with
   | @cons _ _ e es h1 h2=>
    obtain⟨as,q⟩:=h1.reads I r1
    rw[Qj,Qj,hf (hs e (ON ..)) q,ih h2 λz hz=>hs z (OQ _ hz)]
 ·intro u hu
  obtain⟨i,hi,e0⟩:=QM.mp hu
  have hi':i < xs.length:=by rw[hv.length];exact hi
  obtain⟨u',eu,ru⟩:=hv.get (OD hi')
  rw[OD hi,e0] at eu
  cases eu
  obtain⟨e,ee,re⟩:=kL.at' hr (OD hi')
  obtain⟨as,q⟩:=re.reads I ru
  have hm:=O0 ee
  exact⟨e,as,hm,q,hf (hs e hm) q⟩
def uN (hu:X.A.units + 100 < cLine):lP X (compareOp .In) (IY X.K false):=by
 intro pins s σ H x y v u Q I rx ry h
 obtain⟨p,xs,d,ds,rfl,hq,hs,hx,s1,s2,q⟩:=h
 cases ry
 obtain⟨bs,r2⟩:=hx.reads I rx
 have key:∀{e:PyData} {as:List Addr} {u:Value},SeqAt.shaped e=true->Reads s.heap u e as->SeqAt.EqAt X.A.in1 s u v (PyData.eqv e d):=λ{e as u} h1 h2=>by
  refine SeqAt.eqAt_reads _ _ _ _ _ _ _ _ h2 r2 (Qo h1) (Qo s1) ?_
  have:=SeqAt.depth_of_shaped h1
  show X.A.units + 1 + _ < _
  omega
 rcases hq with hq |hq
 ·obtain⟨its,r,pl,hz⟩:=I.list hq
  obtain⟨f,e1,e2⟩:=ot I d r hs s2
  refine SeqAt.in_listAt f pl.isList (λw hw=>?_) ⟨.bl _,H,I,rfl,?_⟩
  ·obtain⟨e,as,hm,rd,ef⟩:=e2 w (by simpa using hw)
   rw[ef];exact key (s2 e hm) rd
  ·rw[show its.toArray.any f=its.any f by simp,e1];exact q
 ·obtain⟨its,r,pl,hz⟩:=I.tuple hq
  obtain⟨f,e1,e2⟩:=ot I d r hs s2
  refine SeqAt.in_tupleAt f pl (λw hw=>?_) ⟨.bl _,H,I,rfl,?_⟩
  ·obtain⟨e,as,hm,rd,ef⟩:=e2 w (by simpa using hw)
   rw[ef];exact key (s2 e hm) rd
  ·rw[show its.toArray.any f=its.any f by simp,e1];exact q
inductive Fi (K:Frag)(H:Hp):V->String->Prop
 |non:Fi K H .non "NoneType"
 |bl (b:Bool):Fi K H (.bl b) "bool"
 |int (i:Int):Fi K H (.int i) "int"
 |str (x:Str):Fi K H (.str x) "str"
 |tup {a:Addr} {xs:List V}:fN K H a xs->Fi K H (.ref a) "tuple"
 |lst {a:Addr} {xs:List V}:iF K H a xs->Fi K H (.ref a) "list"
 |dic {a:Addr} {kvs:List (Key×V)}:H a=some (.dK kvs)->Fi K H (.ref a) "dict"
def NG (K:Frag):List V->Hp->VK->Prop:=λxs H Q=>∃x T t b,xs= [x,.ty T]/\Fi K H x t/\PySem.W.kitOne K (.type t) (.type T)=some b/\Q (.bl b) H
theorem DL:gu X (.builtin "isinstance") (NG X.K):=by
 intro pins s σ H xs us Q I r h
 obtain⟨x,T,t,b,rfl,ty,e,q⟩:=h
 obtain⟨u,c,rfl,rx,rc⟩:=vals2 r
 cases rc
 have fin:∀tk,EP X pins σ Q (.bool b) {s with toks:=tk}:=λtk=>⟨.bl b,H,I.tok tk,rfl,q⟩
 cases ty with
 |non=>exact kN I rx .non e fin
 |bl b=>exact kN I rx (.bl b) e fin
 |int i=>exact kN I rx (.int i) e fin
 |str z=>exact kN I rx (.str z) e fin
 |dic hk=>exact kN I rx (.dK hk) e fin
 |tup hq=>
  cases rx
  obtain⟨its,rv,⟨o,h1,h2,_⟩,_⟩:=I.tuple hq
  exact PJ PySem.W.kitx_tuple I.kIn ⟨o,h1,h2⟩ e (λz=>nomatch z) fin
 |lst hq=>
  cases rx
  obtain⟨its,rv,pl,_⟩:=I.list hq
  obtain⟨o,h1,h2,_⟩:=pl.isList
  exact PJ PySem.W.kitx_list I.kIn ⟨o,h1,h2⟩ e (λz=>nomatch z) fin
def xh {A:Around}{its:@GT}{bs:List Bool}(hv:Vals (bs.map V.bl) its):TruthOf X.prog X.w A (λi v=>its[i]? =some v) (λi=>bs.getD i false):=λi v s Q E hi hq=>by
 have hl:=hv.length
 have hi2:i < bs.length:=by
  have:=(OO.mp hi).1
  rw[<-hl] at this;simpa using this
 obtain⟨u,eu,ru⟩:=hv.get (i:=i) (x:=.bl bs[i]) (by simp[hi2])
 rw[hi] at eu;cases eu
 cases ru
 refine PQ ?_
 have:bs.getD i false=bs[i]:=by simp[hi2]
 rw[<-this];exact hq
theorem range_all (bs:List Bool):(List.range bs.length).all (λi=>bs.getD i false)=bs.all id:=by
 induction bs with
 |nil=>rfl
 |cons b bs ih=>
  rw[O8,List.range_succ_eq_map,all_cons,Q2,all_cons,<-ih]
  rfl
theorem range_any (bs:List Bool):(List.range bs.length).any (λi=>bs.getD i false)=bs.any id:=by
 induction bs with
 |nil=>rfl
 |cons b bs ih=>
  rw[O8,List.range_succ_eq_map,Qj,List.any_map,Qj,<-ih]
  rfl
def yu (K:Frag)(f:List Bool->Bool):List V->Hp->VK->Prop:=λxs H Q=>∃a bs,xs= [.ref a]/\iF K H a (bs.map V.bl)/\Q (.bl (f bs)) H
def qz (hc:X.calm=true){a:Addr}{bs:List Bool}{Q:VK}(I:@B_)(hq:iF X.K H a (bs.map V.bl)){f:List Bool->Bool}{g:(Nat->Bool)->Nat->Bool}(hfg:g (λi=>bs.getD i false) bs.length=f bs)(q:Q (.bl (f bs)) H) :
  wpAny @EQ X.A.in1 (pyIter (.ref a)) (λit s2=>∃Ii fp wr n P St tr,it=.ref Ii/\Walks X.prog X.w X.A.in1 Ii fp wr n P St/\St 0 s2.heap/\TruthOf X.prog X.w X.A.in1 P tr/\
   ∀h' tk,(∀b o,b∉wr->s2.heap.get? b=some o->h'.get? b=some o)->EP X pins σ Q (.bool (g tr n)) {s2 with heap:=h',toks:=tk}) X.xe s:=by
 obtain⟨its,rv,pl,hz⟩:=I.list hq
 have hh:X.A.in1.handled=none:=I.ok.hd hc
 have hlen:its.length=bs.length:=by rw[<-rv.length];simp
 obtain⟨o,ho,_⟩:=id pl.isList
 refine QI pl.isList ?_
 have W:=Walks.list (prog:=X.prog) (w:=X.w) hh s.heap.objs.size a (Py (OS ho)) its.toArray
 refine⟨s.heap.objs.size,_,_,_,_,_,λi=>bs.getD i false,rfl,W,⟨⟨_,OV _ rfl,rfl,rfl⟩,pl.isList.push _⟩,?_,λh' tk k=>?_⟩
 ·have:=xh (X:=X) (A:=X.A.in1) rv
  simpa using this
 ·have e:its.toArray.size=bs.length:=by simpa using hlen
  rw[e,hfg]
  have I1:Inv X pins σ H {s with heap:=s.heap.push {cls:=.type "list_iterator",data:=.fields #[.ref a,.int 0 0]}}:=I.kept (t':=s.toks) λb o e=>OI _ e
  have hf:H s.heap.objs.size=none:=I.hok.fresh (OF _)
  have fp:=I.fpOk (H':=H) (b:=s.heap.objs.size) (OF _) hf
  refine⟨.bl _,H,I1.turned (it:=s.heap.objs.size) (t':=tk) (λb o hb e=>k b o (by simpa using hb) e) hf fp.2.1 fp.2.2.2.1 fp.2.2.2.2.1 fp.2.2.2.2.2,rfl,q⟩
def hZ (hc:X.calm=true):gu X (.builtin "all") (yu X.K λbs=>bs.all id):=by
 intro pins s σ H xs us Q I r h
 obtain⟨a,bs,rfl,hq,q⟩:=h
 obtain⟨u,rfl,rx⟩:=vals1 r
 cases rx
 exact call_all_walk (qz hc I hq (f:=λbs=>bs.all id) (g:=λtr n=>(List.range n).all tr) (range_all bs) q)
def wI (hc:X.calm=true):gu X (.builtin "any") (yu X.K λbs=>bs.any id):=by
 intro pins s σ H xs us Q I r h
 obtain⟨a,bs,rfl,hq,q⟩:=h
 obtain⟨u,rfl,rx⟩:=vals1 r
 cases rx
 exact call_any_walk (qz hc I hq (f:=λbs=>bs.any id) (g:=λtr n=>(List.range n).any tr) (range_any bs) q)
def Eo:gu X (.type "range") (λxs H Q=>∃n:Int,xs= [.int n]/\∀p,H p=none->Q (.ref p) (upd H p (.bN 0 n))):=by
 intro pins s σ H xs us Q I r h
 obtain⟨n,rfl,q⟩:=h
 obtain⟨u,rfl,rx⟩:=vals1 r
 obtain⟨t,rfl⟩:=rx
 refine call_range_1 ⟨.ref s.heap.objs.size,upd H s.heap.objs.size (.bN 0 n),?_,rfl,q _ (I.hok.fresh (OF _))⟩
 exact I.laid (λb o e=>OI _ e) (OF _) ⟨_,_,_,OV _ rfl⟩
def sZ (hc:X.calm=true):gu X (.type "list") (λxs H Q=>∃p n,xs= [.ref p]/\H p=some (.bN 0 n)/\0<=n/\n<=1000/\∀l,H l=none->Q (.ref l) (upd H l (.lst ((List.range n.toNat).map λ(i:Nat)=>V.int (i:Int))))):=by
 intro pins s σ H xs us Q I r h
 obtain⟨p,n,rfl,hp,h0,h1,q⟩:=h
 obtain⟨u,rfl,rx⟩:=vals1 r
 cases rx
 obtain⟨t,u,v,hr⟩:∃t u v,s.heap.get? p=some {cls:=.type "range",data:=.fields #[.int 0 t,.int n u,.int 1 v]}:=I.hok p _ hp
 have hsz:Builtin.Range.rangeSize 0 n 1=(n.toNat:Int):=by rw[rangeSize_one];split <;> omega
 refine call_list_range (I.ok.hd hc) hr (small_one (@AT) (@AT) (@AT) (@AT)) hsz (@AT) λh' tk acc c k hS hacc=>?_
 have hv:Vals ((List.range n.toNat).map λ(i:Nat)=>V.int (i:Int)) acc.toList:=by
  have key:∀(m:Nat) (us:@GT) (j:Nat),us.length=m->(∀(i:Nat) (v:Value),us[i]? =some v->∃t,v=Value.int ((j + i:Nat):Int) t)->Vals ((List.range' j m).map λ(i:Nat)=>V.int (i:Int)) us:=by
   intro m
   induction m with
   |zero=>intro us j hl _;cases us with
    |nil=>exact .nil
    |cons a b=>simp at hl
   |succ m ih=>
    intro us j hl hh
    cases us with
    |nil=>simp at hl
    |cons u us=>
     rw[List.range'_succ,P8]
     refine .cons (by have:=hh 0 u rfl;simp at this;exact this) (ih us (j + 1) (by simpa using hl) λi v hi=>?_)
     obtain⟨t,e⟩:=hh (i + 1) v (by simpa using hi)
     exact⟨t,by rw[e];congr 2;omega⟩
  have:=key n.toNat acc.toList 0 (by simpa using hacc.1) λi v hi=>by
   obtain⟨t,e⟩:=hacc.2 i v (by simpa using hi)
   exact⟨t,by rw[e];simp⟩
  rw[List.range_eq_range'];exact this
 refine⟨.ref s.heap.objs.size,_,I.laid (t':=tk) k (OF _) (show dA X.prog X.w _ h' _ (.lst _) from⟨by simp;rw[Pq];omega,acc.toList,c,hv,by simpa using hS⟩),rfl,q _ (I.hok.fresh (OF _))⟩
end
def Rc (h:Heap)(e:Addr)(cls:Value)(T:Addr)(fl:Value):Prop:=∃oe vs oT ts,h.get? e=some oe/\oe.cls=cls/\oe.dict=none/\oe.data=.fields vs/\vs[1]? =some (.ref T)/\vs[2]? =some .none/\T≠e/\h.get? T=some oT/\oT.data=.fields ts/\ts[3]? =some fl
abbrev Keeps (F:List Addr)(ch:List Addr)(h h':Heap):Prop:=∀b o,h.get? b=some o->b∉F->b∉ch->h'.get? b=some o
abbrev Slots (F:List Addr)(h h':Heap):Prop:=∀b o,h.get? b=some o->b∈F->∃sl,h'.get? b=some {o with slots:=sl}
section
variable {M:Model}{A:Around}{E:@Ev}{s:Shared}{base:Heap}{env:Env}{outer:List Env}{L e:Addr}{cls:Value}{Q:Unit->Shared->Prop}
def J5 {oe:Obj}{vs:Array Value}{head:Value}{hadNext:Bool}(hfr:A.frames=some (env :: outer))(hl:s.heap.FunFrames base (env :: outer))(hf:env.frame=some L)(he:s.heap.get? e=some oe)(hc:oe.cls=cls)(hdd:oe.dict=none)(hd:oe.data=.fields vs)(hsz:1 < vs.size)(h2:vs[2]? =some .none)
  (h:∀h' T,Keeps (nQ (env :: outer)) [e] s.heap h'->Slots (nQ (env :: outer)) s.heap h'->s.heap.get? T=none->Rc h' e cls T (rawInt L)->Q () {s with heap:=h'}) :
  wpAny M A (do let a <-frameOf env;let pl <-entryPlaceOf L hadNext;let b <-EntryCells.newEntry head a .none (rawInt L) .none pl;setField (.ref e) 1 b) Q E s:=by
 have eF:e∉nQ (env :: outer):=λz=>by
  obtain⟨_,o,q,n⟩:=hl.mem z
  rw[he] at q;cases q;exact n _ hd
 refine OL (wpAny_frameOf_fun hfr hl hf λh1 s1=>?_)
 refine OL (wpAny_entryPlaceOf λpl hpl=>?_)
 unfold EntryCells.newEntry newFields
 refine OL (wpAny_newObj_type ?_ (hpl.sizeOk5 _ _ _ _ _))
 have e1:h1.get? e=some oe:=(s1.2.1 e eF).trans he
 have e2:=OI (h:=h1) {cls:=.type "traceback",dict:=none,data:=.fields ([head,.ref L,.none,rawInt L,.none] ++ (if pl.isEmpty then List.replicate 6 Value.none else pl)).toArray} e1
 have tn:h1.objs.size≠e:=Nat.ne_of_gt (OS e1)
 refine Rn e2 hd hsz (h _ h1.objs.size (λb o q hb hn=>?_) (λb o q hb=>?_) ?_ ?_)
 ·have hbe:b≠e:=by simpa using hn
  have q1:h1.get? b=some o:=(s1.2.1 b hb).trans q
  rw[PU _ _ (Ne.symm hbe)]
  exact OI _ q1
 ·obtain⟨sl,q1⟩:=s1.2.2 b o q
  have hbe:b≠e:=λz=>eF (z▸hb)
  refine⟨sl,?_⟩
  rw[PU _ _ (Ne.symm hbe)]
  exact OI _ q1
 ·cases q:s.heap.get? h1.objs.size with
  |none=>rfl
  |some o=>obtain⟨sl,q1⟩:=s1.2.2 _ o q;exact absurd (OS q1) (Pf _)
 ·have d3:=Rl hd (·.setIfInBounds 1 (Value.ref h1.objs.size))
  have e3:=QZ (Obj.mapFields (·.setIfInBounds 1 (Value.ref h1.objs.size))) e2 (Obj.isFreed_of_fields d3)
  refine⟨_,_,_,_,e3,(Obj.cls_mapFields _ _).trans hc,?_,d3,by simp[hsz],by rw[Array.getElem?_setIfInBounds_ne (@AT)];exact h2,tn,(PU _ _ (Ne.symm tn)).trans (OV h1 rfl),rfl,?_⟩
  ·unfold Obj.mapFields
   split <;> exact hdd
  ·rcases hpl with rfl | ⟨_,_,_,_,_,_,_,rfl⟩ <;> simp
def BU {T0:Addr}(hfr:A.frames=some (env :: outer))(hl:s.heap.FunFrames base (env :: outer))(hf:env.frame=some L)(r:Rc s.heap e cls T0 .none)
  (h:∀h' T,Keeps (nQ (env :: outer)) [e,T0] s.heap h'->Slots (nQ (env :: outer)) s.heap h'->(s.heap.get? T=none\/T=T0)->Rc h' e cls T (rawInt L)->Q () {s with heap:=h'}):wpAny M A (noteFrame (.ref e) env) Q E s:=by
 obtain⟨oe,vs,oT,ts,he,hc,hdd,hd,h1,h2,hTe,hT,hdT,h3⟩:=r
 have tF:T0∉nQ (env :: outer):=λz=>by
  obtain⟨_,o,q,n⟩:=hl.mem z
  rw[hT] at q;cases q;exact n _ hdT
 unfold noteFrame
 simp only[hf]
 refine OL (wpAny_field he hd h1 ?_)
 rw[OG (show (Value.ref T0 != Value.none)=true from by simp)]
 refine OL (wpAny_field hT hdT h3 ?_)
 rw[OP (show ¬((Value.none == rawInt L)=true) from by simp[rawInt])]
 refine OL (Rn hT hdT (Q9.mp h3).1 ?_)
 have oth:∀b,b≠T0->(s.heap.update T0 (Obj.mapFields (·.setIfInBounds 3 Value.none))).get? b=s.heap.get? b:=λb hb=>PU _ _ (Ne.symm hb)
 have nf:∀b o,s.heap.get? b=some o->(∀ws,o.data≠.fields ws)->b≠T0:=λb o q n z=>by
  rw[z,hT] at q;cases q;exact n _ hdT
 refine J5 (base:=base) hfr (hl.of_keeps λb o q n=>⟨o,(oth b (nf b o q n)).trans q,rfl⟩) hf ((oth e (Ne.symm hTe)).trans he) hc hdd hd (Q9.mp h1).1 h2 λh' T kp sl tn rc=>?_
 refine h h' T (λb o q hb hn=>?_) (λb o q hb=>?_) ?_ rc
 ·simp only[OK,Pw,Qm,not_or] at hn
  exact kp b o ((oth b hn.2).trans q) hb (by simp[hn.1])
 ·exact sl b o ((oth b λz=>tF (z▸hb)).trans q) hb
 ·by_cases z:T=T0
  ·exact .inr z
  ·exact .inl ((oth T z).symm.trans tn)
def EV {T:Addr}{fl:Value}(r:Rc s.heap e cls T fl)(h:∀h',Keeps [] [T] s.heap h'->Rc h' e cls T .none->Q () {s with heap:=h'}):wpAny M A (setFlight (.ref e) none) Q E s:=by
 obtain⟨oe,vs,oT,ts,he,hc,hdd,hd,h1,h2,hTe,hT,hdT,h3⟩:=r
 have sz:3 < ts.size:=(Q9.mp h3).1
 unfold setFlight
 refine OL (wpAny_field he hd h1 ?_)
 rw[OG (show (Value.ref T != Value.none)=true from by simp)]
 refine Rn hT hdT sz (h _ (λb o q _ hn=>?_) ?_)
 ·have hb:b≠T:=by simpa using hn
  exact (PU _ _ (Ne.symm hb)).trans q
 ·have d3:=Rl hdT (·.setIfInBounds 3 ((none:@Is).elim Value.none λf=>rawInt f))
  exact⟨oe,vs,_,_,(PU _ _ hTe).trans he,hc,hdd,hd,h1,h2,hTe,QZ _ hT (Obj.isFreed_of_fields d3),d3,by simp[sz]⟩
end
section
variable {P:Program}{w:World}
theorem dA.there {H:Hp}{h:Heap}{a:Addr}{o:HO}(x:dA P w H h a o):∃u,h.get? a=some u:=by
 cases o with
 |lst xs=>obtain⟨_,_,_,_,e⟩:=x;exact⟨_,e⟩
 |tup xs=>obtain⟨_,_,_,u,e,_⟩:=x;exact⟨u,e⟩
 |dK kvs=>obtain⟨_,_,_,_,o,_,_,e,_⟩:=x;exact⟨_,e⟩
 |dT kvs=>obtain⟨_,_,_,_,o,_,_,e,_⟩:=x;exact⟨_,e⟩
 |set S n=>obtain⟨o,_,_,_,e,_⟩:=x;exact⟨_,e⟩
 |ins C dx fs=>obtain⟨_,_,_,e,_⟩:=x;exact⟨_,e⟩
 |own y=>obtain⟨_,e⟩:=x;exact⟨_,e⟩
 |xd fs=>obtain⟨_,⟨_,_,_,e,_⟩,_⟩:=x;exact⟨_,e⟩
 |bN lo hi=>obtain⟨_,_,_,e⟩:=x;exact⟨_,e⟩
 |aW ob u=>obtain⟨e,_⟩:=x;exact⟨_,e⟩
 |tbl ps=>exact⟨_,show h.get? a=some _ from x⟩
 |met f y=>exact⟨_,show h.get? a=some _ from x⟩
 |ext φ=>obtain⟨_,⟨_,e⟩,_⟩:=x;exact⟨_,e⟩
end
structure Lies (h₀:Heap)(H:Hp)(h:Heap)(e:Addr)(cls:Value):Prop where
 free:H e=none
 new:h₀.get? e=none
 ob:∃T,Rc h e cls T .none/\H T=none/\h₀.get? T=none
def o6 (P:Program)(w:World):Bl:=λouter H s E e s'=>∃ea cls H',e=.ref ea/\s'.os=s.os/\AllBare s'.gens/\Un (nQ outer) [] H H' s.heap s'.heap/\og P w H' s'.heap/\Lies s.heap H' s'.heap ea cls/\E cls none H'
section
variable {P:Program}{w:World}{M:Model}{A:Around}{E':@Ev}{s:Shared}{env:Env}{outer:List Env}{L e:Addr}{cls:Value}{base h₀:Heap}{H:Hp}{Q:Unit->Shared->Prop}
def Dq {h h':Heap}(hok:og P w H h)(k:∀b o,h.get? b=some o->(∃u,H b=some u)->h'.get? b=some o):og P w H h':=λa o ha=>
 (hok a o ha).stay (λb u hb q=>k b u q (hb.elim (λz=>⟨o,by rw[z];exact ha⟩) λz=>⟨_,z⟩)) (λ_ q=>q) λ_ _ q=>q
def CM (hfr:A.frames=some (env :: outer))(hf:env.frame=some L)(hfn:s.heap.FunFrames base (env :: outer))(hok:og P w H s.heap)(hff:∀b∈nQ (env :: outer),H b=none)(Ly:Lies h₀ H s.heap e cls)(hex:∀b o,h₀.get? b=some o->∃o',s.heap.get? b=some o')
  (hQ:∀h',(∀b o,s.heap.get? b=some o->b∉nQ (env :: outer)->((∃o0,h₀.get? b=some o0)\/∃u,H b=some u)->h'.get? b=some o)->(∀b o,s.heap.get? b=some o->b∈nQ (env :: outer)->∃sl,h'.get? b=some {o with slots:=sl})->Lies h₀ H h' e cls->og P w H h'->Q () {s with heap:=h'}) :
  wpAny M A (leaving env (.ref e)) Q E' s:=by
 obtain⟨fr,nw,T0,rc,hHT,hnT⟩:=Ly
 obtain⟨oe,vs,oT,ts,he,hc,hdd,hd,h1,h2,hTe,hT,hdT,h3⟩:=id rc
 have tF:T0∉nQ (env :: outer):=λz=>by
  obtain⟨_,o,q,n⟩:=hfn.mem z
  rw[hT] at q;cases q;exact n _ hdT
 unfold leaving
 refine OL (BU hfr hfn hf rc λh4 T kp sl tn rc4=>EV rc4 λh5 kp5 rc5=>?_)
 have nT:∀b o,s.heap.get? b=some o->b≠T0->b≠T:=λb o q n z=>by
  rcases tn with tn |tn
  ·rw[z,tn] at q;cases q
  ·exact n (z.trans tn)
 have kept:∀b o,s.heap.get? b=some o->b∉nQ (env :: outer)->((∃o0,h₀.get? b=some o0)\/∃u,H b=some u)->h5.get? b=some o:=λb o q hb hor=>by
  have be:b≠e:=λz=>by subst z;rcases hor with⟨_,z⟩ | ⟨_,z⟩ <;> simp_all
  have bT:b≠T0:=λz=>by subst z;rcases hor with⟨_,z⟩ | ⟨_,z⟩ <;> simp_all
  exact kp5 b o (kp b o q hb (by simp[be,bT])) (by simp) (by simp[nT b o q bT])
 have slot:∀b o,s.heap.get? b=some o->b∈nQ (env :: outer)->∃sl,h5.get? b=some {o with slots:=sl}:=λb o q hb=>by
  obtain⟨x,q4⟩:=sl b o q hb
  exact⟨x,kp5 b _ q4 (by simp) (by simp[nT b o q λz=>tF (z▸hb)])⟩
 have fresh:H T=none/\h₀.get? T=none:=by
  rcases tn with tn |tn
  ·refine⟨?_,?_⟩
   ·cases q:H T with
    |none=>rfl
    |some u=>obtain⟨o,qo⟩:=(hok T u q).there;rw[tn] at qo;cases qo
   ·cases q:h₀.get? T with
    |none=>rfl
    |some u=>obtain⟨o,qo⟩:=hex T u q;rw[tn] at qo;cases qo
  ·rw[tn];exact⟨hHT,hnT⟩
 refine hQ h5 kept slot ⟨fr,nw,T,rc5,fresh.1,fresh.2⟩ (Dq hok λb o q hu=>kept b o q (λz=>?_) (.inr hu))
 obtain⟨u,hu⟩:=hu
 rw[hff b z] at hu;cases hu
end
section
variable {P:Program}{w:World}{K:Frag}{mg:@FS}{base:Heap}{N:@IN}{qual:Str}{scope:Scope}{f:Addr}{cd:Value}{A:Around}{outer:List Env}{s0:Shared}{H0:Hp}{E:XK}
def aP:Passes (o6 P w) (pM (o6 P w) P w K mg base N qual scope f cd A outer s0 H0 E) E:=by
 intro pins σ H s e s' I hcx
 obtain⟨ea,cls,H',rfl,os,bare,un,hok,Ly,q⟩:=hcx
 have I':=I.call' os un hok bare (λb hb=>absurd hb (by simp))
 have old:∀{b:Addr},s.heap.get? b=none->s0.heap.get? b=none:=λ{b} hb=>by
  cases z:s0.heap.get? b with
  |none=>rfl
  |some o=>obtain⟨o',z'⟩:=I.base.there b o z (show b∉([]:List Addr) by simp);rw[hb] at z';cases z'
 have Ly0:Lies s0.heap H' s'.heap ea cls:=by
  obtain⟨fr,nw,T,rc,hHT,hnT⟩:=Ly
  exact⟨fr,old nw,T,rc,hHT,old hnT⟩
 have above:s0.heap.objs.size<=(envOfC qual scope s0.heap.objs.size f cd).locals:=I.ok.above
 refine CM (base:=base) (h₀:=s0.heap) I'.ok.frames rfl I'.stack I'.hok I'.stkFree Ly0 (λb o z=>I'.base.there b o z (show b∉([]:List Addr) by simp)) λh' kept slot Ly' hok'=>?_
 have nL:∀{b:Addr} {o:Obj},s0.heap.get? b=some o->b∉nQ outer->b∉nQ (envOfC qual scope s0.heap.objs.size f cd :: outer):=λ{b o} z hb hm=>by
  rcases OK.mp (I'.stkSub b hm) with e |e
  ·have:=OS z
   rw[e] at this
   exact absurd (Pj this above) (Pf _)
  ·exact hb e
 have inn:∀{b:Addr},b∈nQ outer->b∈nQ (envOfC qual scope s0.heap.objs.size f cd :: outer):=λ{b} hb=>by
  obtain⟨en,h1,h2⟩:=QT.mp hb
  exact QT.mpr ⟨en,OQ _ h1,h2⟩
 refine⟨ea,cls,H',rfl,os.trans I.os,bare,⟨λb o z n hb _=>?_,λb o z n hb _=>?_,λb o z n _=>I'.base.free b o z n (show b∉([]:List Addr) by simp),λb o z _=>?_,I'.base.tups,I'.base.frzs,I'.base.tbls⟩,hok',Ly',q⟩
 ·exact kept b o (I'.base.keep b o z n hb (show b∉([]:List Addr) by simp)) (nL z hb) (.inl ⟨o,z⟩)
 ·obtain⟨sl,z1⟩:=I'.base.slot b o z n hb (show b∉([]:List Addr) by simp)
  obtain⟨sl2,z2⟩:=slot b _ z1 (inn hb)
  exact⟨sl2,z2⟩
 ·obtain⟨o',z1⟩:=I'.base.there b o z (show b∉([]:List Addr) by simp)
  by_cases hb:b∈nQ (envOfC qual scope s0.heap.objs.size f cd :: outer)
  ·obtain⟨sl,z2⟩:=slot b o' z1 hb
   exact⟨_,z2⟩
  ·exact⟨o',kept b o' z1 hb (.inl ⟨o,z⟩)⟩
end
def mroIn (K:Frag)(C:Addr):@GT:=match K.lookup C with
 |some ⟨_,_,.cls cd,_⟩=>cd.mro
 |_=>[]
structure Eg (k:Nat)(A:Around):Prop where
 dp:A.depth + 3 * k + 5 < recursionLimit
 un:A.units + 16 * k + 200 < cLine
 gd:A.guards=some []
def eG.h {k:Nat}{A:Around}(r:eG k A):Eg k A:=⟨r.dp,r.un,r.gd⟩
def Eg.units {k:Nat}{A:Around}(r:Eg k A):A.units + 64 < cLine:=by have:=r.un;omega
section
variable {P:Program}{w:World}{K:Frag}{mg:@FS}{base:Heap}
def Ca.Hr {x qual:Str}{st:Stmt}{f:Addr}{fd:FuncData}{N ps:@IN}{k:Nat}{sp:Sp}(F:Ca K x qual st f fd)(S:aF N ps (ao st))(len:∀vs H Q E,sp vs H Q E->vs.length=ps.length)
  (hbody:∀(cdv:Value) (A:Around) (outer:List Env) (s:Shared) (H:Hp) (vs:List V) (Q:VK) (E:XK),eG k (A.deeper (envOfC qual (ao st) s.heap.objs.size f cdv))->sp vs H Q E->
   ∃t,sL (pM (o6 P w) P w K mg base N qual (ao st) f cdv A outer s H E) (c3 st) t/\t {nx:=λ_ H'=>Q .non H',rt:=Q} (start N vs) H):fM P w K mg base (o6 P w) (k + 1) f fd ps sp:=by
 obtain⟨oc,od,kV,doc,pm,an,cdv,ct,osl,rfl,lk,hcd⟩:=F.ex
 exact Ck lk hcd S len λA outer s H vs Q E hr hsp=>hbody cdv A outer s H vs Q E hr hsp
end
section
variable {X:Cx}
def ko (hu:X.A.units + 100 < cLine):lP X (compareOp .NotIn) (IY X.K true):=by
 intro pins s σ H x y v u Q I rx ry h
 obtain⟨p,xs,d,ds,rfl,hq,hs,hx,s1,s2,q⟩:=h
 cases ry
 obtain⟨bs,r2⟩:=hx.reads I rx
 have key:∀{e:PyData} {as:List Addr} {u:Value},SeqAt.shaped e=true->Reads s.heap u e as->SeqAt.EqAt X.A.in1 s u v (PyData.eqv e d):=λ{e as u} h1 h2=>by
  refine SeqAt.eqAt_reads _ _ _ _ _ _ _ _ h2 r2 (Qo h1) (Qo s1) ?_
  have:=SeqAt.depth_of_shaped h1
  show X.A.units + 1 + _ < _
  omega
 rcases hq with hq |hq
 ·obtain⟨its,r,pl,hz⟩:=I.list hq
  obtain⟨f,e1,e2⟩:=ot I d r hs s2
  refine SeqAt.notIn_listAt f pl.isList (λw hw=>?_) ⟨.bl _,H,I,rfl,?_⟩
  ·obtain⟨e,as,hm,rd,ef⟩:=e2 w (by simpa using hw)
   rw[ef];exact key (s2 e hm) rd
  ·rw[show its.toArray.any f=its.any f by simp,e1];exact q
 ·obtain⟨its,r,pl,hz⟩:=I.tuple hq
  obtain⟨f,e1,e2⟩:=ot I d r hs s2
  refine SeqAt.notIn_tupleAt f pl (λw hw=>?_) ⟨.bl _,H,I,rfl,?_⟩
  ·obtain⟨e,as,hm,rd,ef⟩:=e2 w (by simpa using hw)
   rw[ef];exact key (s2 e hm) rd
  ·rw[show its.toArray.any f=its.any f by simp,e1];exact q
end
abbrev D:=PyData
def kD:Key->D
 | .inl i=>.int i
 | .inr x=>.str x
mutual
inductive Rp (K:Frag)(G:Hp):V->D->Prop
 |non:Rp K G .non .none
 |bl (b:Bool):Rp K G (.bl b) (.bool b)
 |int (i:Int):Rp K G (.int i) (.int i)
 |str (x:Str):Rp K G (.str x) (.str x)
 |tup {a:Addr} {xs:List V} {ds:List D}:fN K G a xs->cz K G xs ds->Rp K G (.ref a) (.tuple ds)
 |lst {a:Addr} {xs:List V} {ds:List D}:G a=some (.lst xs)->cz K G xs ds->Rp K G (.ref a) (.list ds)
 |scr {a:Addr} {ns:@D_}:iF K G a (ns.map V.int)->Rp K G (.ref a) (.dict [(.none,.list (ns.map int))])
 |dK {a:Addr} {kvs:List (Key×V)} {ds:List (D×D)}:G a=some (.dK kvs)->Cb K G kvs ds->Rp K G (.ref a) (.dict ds)
 |dT {a:Addr} {kvs:List (List Key×V)} {ds:List (D×D)}:G a=some (.dT kvs)->Cg K G kvs ds->Rp K G (.ref a) (.dict ds)
inductive cz (K:Frag)(G:Hp):List V->List D->Prop
 |nil:cz K G [] []
 |cons {x:V} {xs:List V} {d:D} {ds:List D}:Rp K G x d->cz K G xs ds->cz K G (x :: xs) (d :: ds)
inductive Cb (K:Frag)(G:Hp):List (Key×V)->List (D×D)->Prop
 |nil:Cb K G [] []
 |cons {k:Key} {x:V} {xs:List (Key×V)} {d:D} {ds:List (D×D)}:Rp K G x d->Cb K G xs ds->Cb K G ((k,x) :: xs) ((kD k,d) :: ds)
inductive Cg (K:Frag)(G:Hp):List (List Key×V)->List (D×D)->Prop
 |nil:Cg K G [] []
 |cons {k:List Key} {x:V} {xs:List (List Key×V)} {d:D} {ds:List (D×D)}:Rp K G x d->Cg K G xs ds->Cg K G ((k,x) :: xs) ((.tuple (k.map kD),d) :: ds)
end
section
variable {K:Frag}{G G' H H':Hp}
def Lg {b:Addr}{o:HO}(h:Kt H b o)(hu:∀ps,o≠.tbl ps):H b=some o:=by
 obtain⟨u,e,k,_⟩:=h.some
 rw[e,k hu]
def uL {b:Addr}{o:HO}{xs:List V}(h:Kt H b o)(e:H b=some (.lst xs)):o=.lst xs:=by
 obtain⟨u,eu,k1,k2⟩:=h.some
 rw[e] at eu
 cases eu
 by_cases c:∃ps,o=.tbl ps
 ·obtain⟨ps,z⟩:=k2 c;cases z
 ·exact (k1 λps z=>c ⟨ps,z⟩).symm
theorem my {a b:Addr}{o u:HO}(h:Kt H b u)(hb:b≠a)(ha:∀x y,H a≠some (.aW x y)):Kt (upd H a o) b u:=by
 cases u with
 |tbl ps=>
  obtain⟨m,e,t,k⟩:=h
  refine⟨m,by rw[ay hb];exact e,t,λc hc=>?_⟩
  obtain⟨x,ex,ix⟩:=k c hc
  exact⟨x,by rw[ay (λz=>ha x _ (z▸ex))];exact ex,ix⟩
 |_=>exact (ay hb).trans h
def Rd.mono {a:Addr}{u:HO}(h:Rd G a u)(s:aw G G')(hu:∀ps,u≠.tbl ps:=by intro _ z;cases z):Rd G' a u:=h.elim (λe=>.inl (Lg (s _ _ e) hu)) λ⟨o,e⟩=>.inr ⟨o,s _ _ e⟩
mutual
theorem Rp.mono (s:aw G G'):∀{x:V} {d:D},Rp K G x d->Rp K G' x d
 |_,_,.non=>.non
 |_,_,.bl b=>.bl b
 |_,_,.int i=>.int i
 |_,_,.str x=>.str x
 |_,_,.tup h hs=>.tup (h.grow s.grow) (cz.mono s hs)
 |_,_,.lst h hs=>.lst (s _ _ h) (cz.mono s hs)
 |_,_,.scr h=>.scr (s.seq h)
 |_,_,.dK h hs=>.dK (s _ _ h) (Cb.mono s hs)
 |_,_,.dT h hs=>.dT (s _ _ h) (Cg.mono s hs)
theorem cz.mono (s:aw G G'):∀{xs:List V} {ds:List D},cz K G xs ds->cz K G' xs ds
 |_,_,.nil=>.nil
 |_,_,.cons h hs=>.cons (Rp.mono s h) (cz.mono s hs)
theorem Cb.mono (s:aw G G'):∀{xs:List (Key×V)} {ds:List (D×D)},Cb K G xs ds->Cb K G' xs ds
 |_,_,.nil=>.nil
 |_,_,.cons h hs=>.cons (Rp.mono s h) (Cb.mono s hs)
theorem Cg.mono (s:aw G G'):∀{xs:List (List Key×V)} {ds:List (D×D)},Cg K G xs ds->Cg K G' xs ds
 |_,_,.nil=>.nil
 |_,_,.cons h hs=>.cons (Rp.mono s h) (Cg.mono s hs)
end
theorem cz.len:∀{xs:List V} {ds:List D},cz K G xs ds->xs.length=ds.length
 |_,_,.nil=>rfl
 |_,_,.cons _ t=>by simp[cz.len t]
theorem cz.at:∀{xs:List V} {ds:List D} {i:Nat} {d:D},cz K G xs ds->ds[i]? =some d->∃x,xs[i]? =some x/\Rp K G x d
 |_,_,_,_,.nil,e=>by simp at e
 |_,_,0,_,.cons r _,e=>by simp at e;subst e;exact⟨_,rfl,r⟩
 |_,_,i + 1,x,.cons _ t,e=>by
  obtain⟨u,h1,h2⟩:=cz.at (i:=i) (d:=x) t (by simpa using e)
  exact⟨u,by simpa using h1,h2⟩
theorem cz.at':∀{xs:List V} {ds:List D} {i:Nat} {x:V},cz K G xs ds->xs[i]? =some x->∃d,ds[i]? =some d/\Rp K G x d
 |_,_,_,_,.nil,e=>by simp at e
 |_,_,0,_,.cons r _,e=>by simp at e;subst e;exact⟨_,rfl,r⟩
 |_,_,i + 1,x,.cons _ t,e=>by
  obtain⟨u,h1,h2⟩:=cz.at' (i:=i) (x:=x) t (by simpa using e)
  exact⟨u,by simpa using h1,h2⟩
theorem cz.append:∀{xs ys:List V} {ds es:List D},cz K G xs ds->cz K G ys es->cz K G (xs ++ ys) (ds ++ es)
 |_,_,_,_,.nil,s=>s
 |_,_,_,_,.cons r t,s=>.cons r (cz.append t s)
def cz.snoc {xs:List V}{ds:List D}{x:V}{d:D}(h:cz K G xs ds)(q:Rp K G x d):cz K G (xs ++ [x]) (ds ++ [d]):=h.append (.cons q .nil)
theorem cz.take:∀{xs:List V} {ds:List D} (n:Nat),cz K G xs ds->cz K G (xs.take n) (ds.take n)
 |_,_,0,_=>.nil
 |_,_,_ + 1,.nil=>.nil
 |_,_,n + 1,.cons r t=>.cons r (cz.take n t)
theorem cz.drop:∀{xs:List V} {ds:List D} (n:Nat),cz K G xs ds->cz K G (xs.drop n) (ds.drop n)
 |_,_,0,r=>r
 |_,_,_ + 1,.nil=>.nil
 |_,_,n + 1,.cons _ t=>cz.drop n t
theorem cz.set {x:V}{d:D}(r:Rp K G x d):∀{xs:List V} {ds:List D} (i:Nat),cz K G xs ds->cz K G (xs.set i x) (ds.set i d)
 |_,_,_,.nil=>.nil
 |_,_,0,.cons _ t=>.cons r t
 |_,_,i + 1,.cons q t=>.cons q (cz.set r i t)
theorem cz.rep {n:Nat}{xs:List V}{ds:List D}(h:cz K G xs ds):cz K G (List.replicate n xs).flatten (List.replicate n ds).flatten:=by
 induction n with
 |zero=>exact .nil
 |succ n ih=>rw[Px,Px,Qd,Qd];exact h.append ih
mutual
def CW:D->Bool
 | .dict _=>false
 | .list ds=>sD ds
 | .tuple ds=>sD ds
 |_=>true
def sD:List D->Bool
 | []=>true
 |d :: ds=>CW d && sD ds
end
mutual
theorem Rp.rep:∀{x:V} {d:D},Rp K G x d->CW d=true->Rep K G x d
 |_,_,.non,_=>.non
 |_,_,.bl b,_=>.bl b
 |_,_,.int i,_=>.int i
 |_,_,.str x,_=>.str x
 |_,_,.tup h hs,e=>.tup h (cz.reps hs (by simpa[CW] using e))
 |_,_,.lst h hs,e=>.lst (.inl (.inl h)) (cz.reps hs (by simpa[CW] using e))
 |_,_,.scr _,e=>by simp[CW] at e
 |_,_,.dK _ _,e=>by simp[CW] at e
 |_,_,.dT _ _,e=>by simp[CW] at e
theorem cz.reps:∀{xs:List V} {ds:List D},cz K G xs ds->sD ds=true->kL K G xs ds
 |_,_,.nil,_=>.nil
 |_,_,.cons h hs,e=>.cons (Rp.rep h (by simp[sD] at e;exact e.1)) (cz.reps hs (by simp[sD] at e;exact e.2))
end
def Own (K:Frag)(G H:Hp)(a:Addr):D->Prop
 | .list ds=>∃xs,H a=some (.lst xs)/\cz K G xs ds
 | .dict ds=>(∃kvs,H a=some (.dK kvs)/\Cb K G kvs ds)\/∃kvs,H a=some (.dT kvs)/\Cg K G kvs ds
 |_=>False
def Own.obj {a:Addr}{d:D}(h:Own K G H a d):∃o,H a=some o:=by
 cases d <;> first |exact h.elim |skip
 ·obtain⟨xs,e,_⟩:=h;exact⟨_,e⟩
 ·rcases h with⟨_,e,_⟩ | ⟨_,e,_⟩ <;> exact⟨_,e⟩
def Own.mono {a:Addr}{d:D}(h:Own K G H a d)(s:aw G G')(m:∀o,H a=some o->Kt H' a o):Own K G' H' a d:=by
 cases d <;> first |exact h.elim |skip
 ·obtain⟨xs,e,r⟩:=h;exact⟨xs,m _ e,r.mono s⟩
 ·rcases h with⟨k,e,r⟩ | ⟨k,e,r⟩
  ·exact .inl ⟨k,m _ e,r.mono s⟩
  ·exact .inr ⟨k,m _ e,r.mono s⟩
def Own.rp {a:Addr}{d:D}(h:Own K G H a d)(n:G a=none){G':Hp}(s:aw G G')(e:∀o,H a=some o->G' a=some o):Rp K G' (.ref a) d:=by
 cases d <;> first |exact h.elim |skip
 ·obtain⟨xs,q,r⟩:=h;exact .lst (e _ q) (r.mono s)
 ·rcases h with⟨k,q,r⟩ | ⟨k,q,r⟩
  ·exact .dK (e _ q) (r.mono s)
  ·exact .dT (e _ q) (r.mono s)
def m6 (K:Frag)(B:@Is)(G H:Hp)(v:V)(d:D):Prop:=Rp K G v d\/∃a,v=.ref a/\B≠some a/\Own K G H a d
def iL (B:@Is)(H H':Hp):Prop:=(∀b o,H b=some o->B≠some b->Kt H' b o)/\∀b o u,H b=some (.aW o u)->H' b=some (.aW o u)
def iL.refl (B:@Is)(H:Hp):iL B H H:=⟨λ_ _ h _=>Kt.of h,λ_ _ _ h=>h⟩
theorem y6 {B:@Is}{b:Addr}{o:HO}(h1:Kt H b o)(y:iL B H H')(n:B≠some b):Kt H' b o:=by
 cases o with
 |tbl ps=>
  obtain⟨m,e,t,k⟩:=h1
  obtain⟨m2,e2,t2,k2⟩:=y.1 b _ e n
  refine⟨m ++ m2,by rw[e2,Array.append_assoc],by rw[Qx];exact t.app t2,λc hc=>?_⟩
  rw[Qx,OT] at hc
  rcases hc with hc |hc
  ·obtain⟨o,eo,io⟩:=k c hc;exact⟨o,y.2 c _ _ eo,io⟩
  ·exact k2 c hc
 |_=>exact y.1 b _ h1 n
def iL.trans {B:@Is}{H1:Hp}(x:iL B H H1)(y:iL B H1 H'):iL B H H':=⟨λb o h n=>y6 (x.1 b o h n) y n,λb o u h=>y.2 b o u (x.2 b o u h)⟩
def aw.mov (s:aw H H')(B:@Is):iL B H H':=⟨λb o h _=>s b o h,λb o u h=>s b _ h⟩
def m6.mono {B:@Is}{v:V}{d:D}(h:m6 K B G H v d)(s:aw G G')(m:iL B H H'):m6 K B G' H' v d:=by
 rcases h with h | ⟨a,e,n,h⟩
 ·exact .inl (h.mono s)
 ·exact .inr ⟨a,e,n,h.mono s λo q=>m.1 a o q n⟩
def m6.rpH {B:@Is}{v:V}{d:D}(h:m6 K B G H v d)(s:aw G H):Rp K H v d:=by
 rcases h with h | ⟨a,rfl,n,h⟩
 ·exact h.mono s
 ·cases d <;> first |exact h.elim |skip
  ·obtain⟨xs,q,r⟩:=h;exact .lst q (r.mono s)
  ·rcases h with⟨k,q,r⟩ | ⟨k,q,r⟩
   ·exact .dK q (r.mono s)
   ·exact .dT q (r.mono s)
def m6.list {B:@Is}{v:V}{ds:List D}(h:m6 K B G H v (.list ds))(s:aw G H):∃a xs,v=.ref a/\Rd H a (.lst xs)/\cz K G xs ds:=by
 rcases h with h | ⟨a,rfl,n,xs,q,r⟩
 ·cases h with
  |lst h r=>exact⟨_,_,rfl,.inl (s _ _ h),r⟩
 ·exact⟨a,xs,rfl,.inl q,r⟩
def m6.tuple {B:@Is}{v:V}{ds:List D}(h:m6 K B G H v (.tuple ds))(s:aw G H):∃a xs,v=.ref a/\fN K H a xs/\cz K G xs ds:=by
 rcases h with h | ⟨a,rfl,n,h⟩
 ·cases h with
  |tup h r=>exact⟨_,_,rfl,h.grow s.grow,r⟩
 ·exact h.elim
def m6.int {B:@Is}{v:V}{i:Int}(h:m6 K B G H v (.int i)):v=.int i:=by
 rcases h with h | ⟨a,rfl,n,h⟩
 ·cases h;rfl
 ·exact h.elim
def m6.bool {B:@Is}{v:V}{b:Bool}(h:m6 K B G H v (.bool b)):v=.bl b:=by
 rcases h with h | ⟨a,rfl,n,h⟩
 ·cases h;rfl
 ·exact h.elim
def m6.str {B:@Is}{v:V}{x:Str}(h:m6 K B G H v (.str x)):v=.str x:=by
 rcases h with h | ⟨a,rfl,n,h⟩
 ·cases h;rfl
 ·exact h.elim
def m6.none {B:@Is}{v:V}(h:m6 K B G H v .none):v=.non:=by
 rcases h with h | ⟨a,rfl,n,h⟩
 ·cases h;rfl
 ·exact h.elim
end
def Fz:HO->Prop
 | .tup _=>True
 | .aW _ _=>True
 |_=>False
def Mx (H:Hp)(b:Addr):Prop:=H b≠none/\∀o,H b=some o->¬Fz o
def Mx.lst {H:Hp}{b:Addr}{xs:List V}(h:H b=some (.lst xs)):Mx H b:=⟨by rw[h];simp,λys z=>by rw[h] at z;cases z;exact λy=>y⟩
theorem Mx.same {H H':Hp}{b:Addr}(h:Mx H b)(m:∀o,H b=some o->Kt H' b o):Mx H' b:=by
 obtain⟨h1,h2⟩:=h
 cases e:H b with
 |none=>exact absurd e h1
 |some o=>
  obtain⟨u,eu,k1,k2⟩:=(m o e).some
  refine⟨by rw[eu];simp,λxs z=>?_⟩
  rw[eu] at z
  cases z
  by_cases c:∃ps,o=.tbl ps
  ·obtain⟨ps,e⟩:=k2 c;rw[e];exact λy=>y
  ·rw[k1 λps e=>c ⟨ps,e⟩];exact h2 o e
def Own.mx {K:Frag}{G H:Hp}{a:Addr}{d:D}(h:Own K G H a d):Mx H a:=by
 cases d <;> first |exact h.elim |skip
 ·obtain⟨xs,e,_⟩:=h;exact Mx.lst e
 ·rcases h with⟨k,e,_⟩ | ⟨k,e,_⟩ <;> exact⟨by rw[e];simp,λys z=>by rw[e] at z;cases z;exact λy=>y⟩
open Classical in
noncomputable def fP (G H:Hp):Hp:=λb=>match G b with
 |some o=>some o
 |none=>match H b with
  |some o=>if Fz o then some o else none
  |none=>none
def mT {G H:Hp}:aw G (fP G H):=λb o e=>Kt.of (by unfold fP;rw[e])
theorem ve {G H:Hp}(s:aw G H){b:Addr}{o:HO}(e:H b=some o)(f:Fz o):fP G H b=some o:=by
 unfold fP
 cases q:G b with
 |some u=>
  obtain⟨u',eu,k1,k2⟩:=(s b u q).some
  rw[e] at eu
  cases eu
  by_cases c:∃ps,u=.tbl ps
  ·obtain⟨ps,z⟩:=k2 c;subst z;exact f.elim
  ·rw[k1 λps z=>c ⟨ps,z⟩]
 |none=>simp only[e];rw[OG f]
theorem jt {G H:Hp}(s:aw G H):aw (fP G H) H:=λb o e=>by
 unfold fP at e
 cases q:G b with
 |some u=>rw[q] at e;cases e;exact s b _ q
 |none=>
  rw[q] at e
  cases q2:H b with
  |none=>rw[q2] at e;cases e
  |some u=>
   rw[q2] at e
   dsimp only at e
   split at e
   ·cases e;exact Kt.of q2
   ·cases e
theorem qe {G H H':Hp}(hh:aw H H'){b:Addr}(m:Mx H b):fP G H' b=G b:=by
 unfold fP
 cases q:G b with
 |some u=>rfl
 |none=>
  obtain⟨h1,h2⟩:=m
  cases e:H b with
  |none=>exact absurd e h1
  |some o=>
   have hm:=(show Mx H b from⟨h1,h2⟩).same (hh b)
   cases e2:H' b with
   |none=>rfl
   |some u=>simp only;rw[OP (hm.2 u e2)]
def nV {K:Frag}{G H:Hp}(s:aw G H){a:Addr}{xs:List V}(h:fN K H a xs):fN K (fP G H) a xs:=by
 rcases h with (h | ⟨o,h⟩) |h
 ·exact .inl (.inl (ve s h trivial))
 ·exact .inl (.inr ⟨o,ve s h trivial⟩)
 ·exact .inr h
structure Fx where
 K:Frag
 H0:Hp
 G0:Hp
 par:List Addr
 ca:Str->Addr
 br:Nat->Bool
 bx:@Is
inductive Sl where
 |no |fz (d:D) |ow (d:D) |bx |br (d:D)
abbrev En:=List Sl
inductive Nv where
 |no |da (d:D) |bx
def Sl.val:Sl->Nv
 | .no=>.no
 | .fz d=>.da d
 | .ow d=>.da d
 | .br d=>.da d
 | .bx=>.bx
def vl (env:En):List Nv:=env.map Sl.val
def Nt (Γ:Fx)(B:@Is)(G H:Hp)(i:Nat)(o:Option (Option V)):Sl->Prop
 | .no=>True
 | .fz d=>∃v,o=some (some v)/\Rp Γ.K G v d
 | .ow d=>∃a,o=some (some (.ref a))/\Γ.H0 a=none/\G a=none/\B≠some a/\Own Γ.K G H a d
 | .bx=>∃a,o=some (some (.ref a))/\B=some a
 | .br d=>Γ.br i=true/\∃a,o=some (some (.ref a))/\B≠some a/\a∉Γ.par/\Own Γ.K G H a d
structure SR (Γ:Fx)(B:@Is)(G H:Hp)(σ:St)(env:En)(β:Int):Prop where
 sub:aw G H
 old:aw Γ.G0 G
 new:∀b,Mx Γ.H0 b->Γ.G0 b=none->G b=none
 keep:∀b o,Γ.H0 b=some o->b∉Γ.par->Kt H b o
 pin:∀b,b∈Γ.par->Mx H b
 fix:∀b,Γ.bx=some b->B=some b
 box:∀b,B=some b->H b=some (.lst [.int β])/\G b=none/\(b∈Γ.par\/Γ.H0 b=none)
 len:σ.length=env.length
 slot:∀(i:Nat) (s:Sl),env[i]? =some s->Nt Γ B G H i (σ[i]?) s
 sep:∀(i j:Nat) (a:Addr) (d e:D),env[i]? =some (.ow d)->env[j]? =some (.ow e)->σ[i]? =some (some (.ref a))->σ[j]? =some (some (.ref a))->i=j
structure Ext (G H G' H':Hp):Prop where
 hh:aw H H'
 gg:aw G G'
 gh:aw G' H'
 on:∀b,Mx H b->G' b=G b
def Ext.refl {G H:Hp}(s:aw G H):Ext G H G H:=⟨aw.refl _,aw.refl _,s,λ_ _=>rfl⟩
def Ext.tups {G H H':Hp}(s:aw G H)(hh:aw H H'):Ext G H (fP G H') H':=⟨hh,mT,jt (s.trans hh),λ_ m=>qe hh m⟩
def Ext.new {G H:Hp}(s:aw G H){p:Addr}{o:HO}(h:H p=none):Ext G H (upd G p o) (upd H p o):=by
 refine⟨aw.new h,aw.new (s.free h),λb u e=>?_,λb hb=>?_⟩
 ·by_cases z:b=p
  ·subst z;rw[aB] at e;exact Kt.of (by rw[aB];exact e)
  ·rw[ay z] at e;exact my (s b u e) z (λx y w=>by rw[h] at w;cases w)
 ·exact ay (λz=>hb.1 (by rw[z];exact h))
def Ext.own {G H:Hp}(s:aw G H){p:Addr}{o:HO}(h:H p=none):Ext G H G (upd H p o):=
 ⟨aw.new h,aw.refl _,s.trans (aw.new h),λ_ _=>rfl⟩
def Ext.trans {G H G1 H1 G2 H2:Hp}(x:Ext G H G1 H1)(y:Ext G1 H1 G2 H2):Ext G H G2 H2:=by
 refine⟨x.hh.trans y.hh,x.gg.trans y.gg,y.gh,λb hb=>?_⟩
 rw[y.on b (hb.same λo e=>x.hh b o e),x.on b hb]
section
variable {Γ:Fx}{B:@Is}{G H G' H':Hp}{σ:St}{env:En}{β:Int}
def SR.there (I:@H_){b:Addr}(h:Γ.H0 b≠none):H b≠none:=by
 by_cases hp:b∈Γ.par
 ·exact (I.pin b hp).1
 ·cases e:Γ.H0 b with
  |none=>exact absurd e h
  |some o=>obtain⟨u,eu,_⟩:=(I.keep b o e hp).some;rw[eu];simp
def SR.thereM (I:@H_){b:Addr}(h:Mx Γ.H0 b):Mx H b:=by
 by_cases hp:b∈Γ.par
 ·exact I.pin b hp
 ·exact h.same λo e=>I.keep b o e hp
def SR.ext (I:@H_)(x:Ext G H G' H'):SR Γ B G' H' σ env β:=by
 refine⟨x.gh,I.old.trans x.gg,λb h1 h2=>?_,λb o h1 h2=>(I.keep b o h1 h2).step x.hh,λb hb=>?_,I.fix,λb e=>?_,I.len,λi s e=>?_,I.sep⟩
 ·rw[x.on b (I.thereM h1)];exact I.new b h1 h2
 ·exact (I.pin b hb).same λo e=>x.hh b o e
 ·obtain⟨h1,h2,h3⟩:=I.box b e
  exact⟨x.hh b _ h1,by rw[x.on b (Mx.lst h1)];exact h2,h3⟩
 ·have q:=I.slot i s e
  cases s with
  |no=>trivial
  |fz d=>obtain⟨v,h1,h2⟩:=q;exact⟨v,h1,h2.mono x.gg⟩
  |ow d=>
   obtain⟨a,h1,h2,h3,h4,h5⟩:=q
   exact⟨a,h1,h2,by rw[x.on a h5.mx];exact h3,h4,h5.mono x.gg λo q=>x.hh a o q⟩
  |bx=>exact q
  |br d=>obtain⟨b1,a,h1,h4,hp,h5⟩:=q;exact⟨b1,a,h1,h4,hp,h5.mono x.gg λo q=>x.hh a o q⟩
def iA (env:En)(i:Nat):En:=match env[i]? with
 |some (.ow d)=>env.set i (.fz d)
 |_=>env
def aW (L:@IR)(env:En):En:=L.foldl iA env
def cy (L M:@IR)(env:En):aW (L ++ M) env=aW M (aW L env):=by unfold aW;rw[List.foldl_append]
def zr (env:En)(i:Nat)(s:Sl)(h:∀t,env[i]? =some t->t.val=s.val):vl (env.set i s)=vl env:=by
 unfold vl
 apply List.ext_getElem?
 intro j
 rw[OU,OU,List.getElem?_set]
 by_cases e:i=j
 ·subst e
  by_cases hi:i < env.length
  ·simp only[P9,hi]
   have:=h _ (OD hi)
   simp[OD hi,this]
  ·simp only[P9,hi,Ql]
   rw[Qg (@AT)]
 ·simp[e]
def FJ (env:En)(i:Nat):vl (iA env i)=vl env:=by
 unfold iA
 split
 ·rename_i d e
  exact zr _ _ _ λt ht=>by rw[e] at ht;cases ht;rfl
 ·rfl
theorem dQ (L:@IR)(env:En):vl (aW L env)=vl env:=by
 unfold aW
 induction L generalizing env with
 |nil=>rfl
 |cons i L ih=>rw[foldl_cons,ih,FJ]
theorem Eb {i:Nat}{d:D}(h:(vl env)[i]? =some (.da d)):env[i]? =some (.fz d)\/env[i]? =some (.ow d)\/env[i]? =some (.br d):=by
 unfold vl at h
 rw[OU] at h
 cases e:env[i]? with
 |none=>rw[e] at h;simp at h
 |some s=>
  rw[e] at h
  cases s with
  |no=>simp[Sl.val] at h
  |fz d'=>simp[Sl.val] at h;subst h;exact .inl rfl
  |ow d'=>simp[Sl.val] at h;subst h;exact .inr (.inl rfl)
  |bx=>simp[Sl.val] at h
  |br d'=>simp[Sl.val] at h;subst h;exact .inr (.inr rfl)
theorem Mi {i:Nat}(h:(vl env)[i]? =some .bx):env[i]? =some .bx:=by
 unfold vl at h
 rw[OU] at h
 cases e:env[i]? with
 |none=>rw[e] at h;simp at h
 |some s=>
  rw[e] at h
  cases s with
  |bx=>rfl
  |_=>simp[Sl.val] at h
def SR.freeze (I:@H_)(i:Nat)(hb:Γ.br i=false){d:D}(h:(vl env)[i]? =some (.da d)):∃G' v,SR Γ B G' H σ (iA env i) β/\aw G G'/\σ[i]? =some (some v)/\Rp Γ.K G' v d:=by
 rcases Eb h with e |e |e
 ·obtain⟨v,h1,h2⟩:=I.slot i _ e
  exact⟨G,v,by unfold iA;rw[e];exact I,aw.refl _,h1,h2⟩
 rotate_left
 ·obtain⟨z,_⟩:=I.slot i _ e
  rw[hb] at z;cases z
 ·obtain⟨a,h1,h2,h3,h4,h5⟩:=I.slot i _ e
  obtain⟨o,ho⟩:=h5.obj
  have sG:aw G (upd G a o):=aw.new h3
  have hi:i < env.length:=(OO.mp e).1
  have hr:Rp Γ.K (upd G a o) (.ref a) d:=h5.rp h3 sG λo' q=>by rw[ho] at q;cases q;exact aB
  refine⟨upd G a o,.ref a,?_,sG,h1,hr⟩
  unfold iA
  rw[e]
  refine⟨λb u q=>?_,I.old.trans sG,λb n1 n2=>?_,I.keep,I.pin,I.fix,λb q=>?_,by rw[Qa];exact I.len,λj s q=>?_,λj k c d1 d2 q1 q2 q3 q4=>?_⟩
  ·by_cases z:b=a
   ·subst z;rw[aB] at q;cases q;exact Kt.of ho
   ·rw[ay z] at q;exact I.sub b u q
  ·rw[ay (λz=>n1.1 (by rw[z];exact h2))];exact I.new b n1 n2
  ·obtain⟨k1,k2,k3⟩:=I.box b q
   exact⟨k1,by rw[ay (λz=>h4 (by rw[<-z];exact q))];exact k2,k3⟩
  ·by_cases z:j=i
   ·subst z
    rw[O6 hi] at q
    cases q
    exact⟨.ref a,h1,hr⟩
   ·rw[O2 (Ne.symm z)] at q
    have w:=I.slot j s q
    cases s with
    |no=>trivial
    |fz d'=>obtain⟨v,w1,w2⟩:=w;exact⟨v,w1,w2.mono sG⟩
    |ow d'=>
     obtain⟨c,w1,w2,w3,w4,w5⟩:=w
     have ca:c≠a:=λz2=>z (I.sep j i c d' d q e w1 (by rw[z2];exact h1))
     exact⟨c,w1,w2,by rw[ay ca];exact w3,w4,w5.mono sG λo q=>Kt.of q⟩
    |bx=>exact w
    |br d'=>obtain⟨b1,c,w1,w4,wp,w5⟩:=w;exact⟨b1,c,w1,w4,wp,w5.mono sG λo q=>Kt.of q⟩
  ·have ne:∀{j:Nat} {d':D},(env.set i (Sl.fz d))[j]? =some (.ow d')->env[j]? =some (.ow d'):=λ{j d'} q=>by
    by_cases z:j=i
    ·subst z;rw[O6 hi] at q;cases q
    ·rw[O2 (Ne.symm z)] at q;exact q
   exact I.sep j k c d1 d2 (ne q1) (ne q2) q3 q4
theorem SR.aW (I:@H_)(L:@IR)(hb:∀i,i∈L->Γ.br i=false):∃G',SR Γ B G' H σ (aW L env) β/\aw G G':=by
 induction L generalizing env G with
 |nil=>exact⟨G,I,aw.refl _⟩
 |cons i L ih=>
  show ∃G',SR Γ B G' H σ (L2.aW L (iA env i)) β/\aw G G'
  have key:∃G1,SR Γ B G1 H σ (iA env i) β/\aw G G1:=by
   cases e:env[i]? with
   |none=>exact⟨G,by unfold iA;rw[e];exact I,aw.refl _⟩
   |some s=>
    cases s with
    |ow d=>
     obtain⟨G1,v,h1,h2,_⟩:=I.freeze i (hb i (ON ..)) (d:=d) (by unfold vl;rw[OU,e];rfl)
     exact⟨G1,h1,h2⟩
    |_=>exact⟨G,by unfold iA;rw[e];exact I,aw.refl _⟩
  obtain⟨G1,I1,s1⟩:=key
  obtain⟨G2,I2,s2⟩:=ih I1 λj hj=>hb j (OQ _ hj)
  exact⟨G2,I2,s1.trans s2⟩
def SR.set (I:@H_){i:Nat}(hi:i < env.length){v:V}{d:D}(h:Rp Γ.K G v d):SR Γ B G H (σ.set i (some v)) (env.set i (.fz d)) β:=by
 have hs:i < σ.length:=by rw[I.len];exact hi
 refine⟨I.sub,I.old,I.new,I.keep,I.pin,I.fix,I.box,by rw[Qa,Qa];exact I.len,λj s q=>?_,λj k c d1 d2 q1 q2 q3 q4=>?_⟩
 ·by_cases z:j=i
  ·subst z
   rw[O6 hi] at q
   cases q
   exact⟨v,by rw[O6 hs],h⟩
  ·rw[O2 (Ne.symm z)] at q ⊢
   exact I.slot j s q
 ·have ne:∀{j:Nat} {d':D},(env.set i (Sl.fz d))[j]? =some (.ow d')->j≠i/\env[j]? =some (.ow d'):=λ{j d'} q=>by
   by_cases z:j=i
   ·subst z;rw[O6 hi] at q;cases q
   ·rw[O2 (Ne.symm z)] at q;exact⟨z,q⟩
  obtain⟨n1,e1⟩:=ne q1
  obtain⟨n2,e2⟩:=ne q2
  rw[O2 (Ne.symm n1)] at q3
  rw[O2 (Ne.symm n2)] at q4
  exact I.sep j k c d1 d2 e1 e2 q3 q4
def SR.setOw (I:@H_){i:Nat}(hi:i < env.length){a:Addr}{d:D}(h0:Γ.H0 a=none)(hg:G a=none)(hb:B≠some a)(h:Own Γ.K G H a d)(hn:∀(j:Nat) (d':D),env[j]? =some (.ow d')->j≠i->σ[j]?≠some (some (.ref a))):SR Γ B G H (σ.set i (some (.ref a))) (env.set i (.ow d)) β:=by
 have hs:i < σ.length:=by rw[I.len];exact hi
 refine⟨I.sub,I.old,I.new,I.keep,I.pin,I.fix,I.box,by rw[Qa,Qa];exact I.len,λj s q=>?_,λj k c d1 d2 q1 q2 q3 q4=>?_⟩
 ·by_cases z:j=i
  ·subst z
   rw[O6 hi] at q
   cases q
   exact⟨a,by rw[O6 hs],h0,hg,hb,h⟩
  ·rw[O2 (Ne.symm z)] at q ⊢
   exact I.slot j s q
 ·by_cases z1:j=i
  ·by_cases z2:k=i
   ·rw[z1,z2]
   ·subst z1
    rw[O2 (Ne.symm z2)] at q2 q4
    rw[O6 hs] at q3
    cases q3
    exact absurd q4 (hn k d2 q2 z2)
  ·by_cases z2:k=i
   ·subst z2
    rw[O2 (Ne.symm z1)] at q1 q3
    rw[O6 hs] at q4
    cases q4
    exact absurd q3 (hn j d1 q1 z1)
   ·rw[O2 (Ne.symm z1)] at q1 q3
    rw[O2 (Ne.symm z2)] at q2 q4
    exact I.sep j k c d1 d2 q1 q2 q3 q4
def SR.fresh (I:@H_){a:Addr}(h:H a=none):Γ.H0 a=none/\G a=none/\B≠some a/\∀(j:Nat) (d:D),env[j]? =some (.ow d)->σ[j]?≠some (some (.ref a)):=by
 have hB:B≠some a:=λz=>by rw[(I.box a z).1] at h;cases h
 refine⟨?_,I.sub.free h,hB,λj d e z=>?_⟩
 ·cases e:Γ.H0 a with
  |none=>rfl
  |some o=>exact absurd h (I.there (by rw[e];simp))
 ·obtain⟨c,h1,_,_,_,h5⟩:=I.slot j _ e
  rw[z] at h1
  cases h1
  obtain⟨o,ho⟩:=h5.obj
  rw[h] at ho;cases ho
def SR.write (I:@H_)(hb:∀j,Γ.br j=false){i:Nat}{a:Addr}{d d':D}{o:HO}(e:env[i]? =some (.ow d))(ea:σ[i]? =some (some (.ref a)))(h:∀H',H' a=some o->aw G H'->Own Γ.K G H' a d'):SR Γ B G (upd H a o) σ (env.set i (.ow d')) β:=by
 obtain⟨a',h1,h2,h3,h4,h5⟩:=I.slot i _ e
 rw[ea] at h1;cases h1
 have hi:i < env.length:=(OO.mp e).1
 have ha:∀x y,H a≠some (.aW x y):=λx y w=>h5.mx.2 _ w trivial
 have sub:aw G (upd H a o):=λb u q=>my (I.sub b u q) (λz=>by rw[z,h3] at q;cases q) ha
 refine⟨sub,I.old,I.new,λb u q n=>?_,λb q=>?_,I.fix,λb q=>?_,by rw[Qa];exact I.len,λj s q=>?_,λj k c d1 d2 q1 q2 q3 q4=>?_⟩
 ·exact my (I.keep b u q n) (λz=>by rw[z,h2] at q;cases q) ha
 ·by_cases z:b=a
  ·subst z;exact (h _ aB sub).mx
  ·exact (I.pin b q).same λo e=>Kt.of (by rw[ay z];exact e)
 ·obtain⟨k1,k2,k3⟩:=I.box b q
  exact⟨by rw[ay (λz=>h4 (by rw[<-z];exact q))];exact k1,k2,k3⟩
 ·by_cases z:j=i
  ·subst z
   rw[O6 hi] at q
   cases q
   exact⟨a,ea,h2,h3,h4,h _ aB sub⟩
  ·rw[O2 (Ne.symm z)] at q
   have w:=I.slot j s q
   cases s with
   |no=>trivial
   |fz d1=>exact w
   |ow d1=>
    obtain⟨c,w1,w2,w3,w4,w5⟩:=w
    have ca:c≠a:=λz2=>z (I.sep j i c d1 d q e w1 (by rw[z2];exact ea))
    exact⟨c,w1,w2,w3,w4,w5.mono (aw.refl _) λo q=>Kt.of (by rw[ay ca];exact q)⟩
   |bx=>exact w
   |br d1=>obtain⟨b1,_⟩:=w;rw[hb j] at b1;cases b1
 ·have back:∀{j:Nat} {d1:D},(env.set i (Sl.ow d'))[j]? =some (.ow d1)->∃d2,env[j]? =some (.ow d2):=λ{j d1} q=>by
   by_cases z:j=i
   ·subst z;exact⟨d,e⟩
   ·rw[O2 (Ne.symm z)] at q;exact⟨d1,q⟩
  obtain⟨_,b1⟩:=back q1
  obtain⟨_,b2⟩:=back q2
  exact I.sep j k c _ _ b1 b2 q3 q4
end
inductive R (α:Type) where
 |ok (a:α) (β:Int)
 |exc (c:Str)
 |bad
def R.bnd {α γ:Type}(r:R α)(k:α->Int->R γ):R γ:=match r with
 | .ok a β=>k a β
 | .exc c=>.exc c
 | .bad=>.bad
def R.of {α:Type}(o:Option α)(β:Int):R α:=match o with
 |some a=>.ok a β
 |none=>.bad
abbrev VF (α:Type):=List Nv->Int->R α
def Kp (Γ:Fx)(H':Hp):Prop:=∀b o,Γ.H0 b=some o->b∉Γ.par->Kt H' b o
def Out {α:Type}(Γ:Fx)(E:XK)(r:R α)(P:α->Int->Prop):Prop:=match r with
 | .ok a β=>P a β
 | .exc c=>∀H',Kp Γ H'->E (.ref (Γ.ca c)) none H'
 | .bad=>False
section
variable {α γ:Type}{Γ:Fx}{E:XK}
theorem Out.bnd {r:R α}{k:α->Int->R γ}{P:γ->Int->Prop}(h:Out Γ E (r.bnd k) P):Out Γ E r λa β=>Out Γ E (k a β) P:=by
 cases r with
 |ok a β=>exact h
 |exc c=>exact h
 |bad=>exact h
theorem Out.imp {r:R α}{P P':α->Int->Prop}(h:Out Γ E r P)(i:∀a β,P a β->P' a β):Out Γ E r P':=by
 cases r with
 |ok a β=>exact i a β h
 |exc c=>exact h
 |bad=>exact h
theorem Out.of {o:Option α}{β:Int}{P:α->Int->Prop}(h:Out Γ E (R.of o β) P):∃a,o=some a/\P a β:=by
 cases o with
 |none=>exact h.elim
 |some a=>exact⟨a,rfl,h⟩
end
inductive Md where
 |b |v |w
def VO (K:Frag)(B:@Is)(H G' H':Hp):Md->D->V->Prop
 | .b,d,v=>m6 K B G' H' v d
 | .v,d,v=>Rp K G' v d
 | .w,d,v=>∃a,v=.ref a/\H a=none/\G' a=none/\Own K G' H' a d
def pT (Γ:Fx)(E:XK)(f:VF D)(L:@IR)(md:Md):TE:=λσ H Q=>∃env G B β,@H_/\
 Out Γ E (f (vl env) β) λd β'=>∀v G' H',SR Γ B G' H' σ (aW L env) β'->aw G G'->iL B H H'->VO Γ.K B H G' H' md d v->Q v H'
def SE (X:Cx)(Γ:Fx)(E:XK)(e:Expr)(f:VF D)(L:@IR)(md:Md):Prop:=PE X e (pT Γ E f L md)
def qT (Γ:Fx)(E:XK)(f:VF Bool)(L:@IR):TT:=λσ H Q=>∃env G B β,@H_/\
 Out Γ E (f (vl env) β) λc β'=>∀G' H',SR Γ B G' H' σ (aW L env) β'->aw G G'->iL B H H'->Q c H'
def zw (X:Cx)(Γ:Fx)(E:XK)(e:Expr)(f:VF Bool)(L:@IR):Prop:=PT X e (qT Γ E f L)
def xr (X:Cx)(Γ:Fx)(E:XK)(e:Expr)(f:VF Bool)(L:@IR):Prop:=PW X e (qT Γ E f L)
def aT (Γ:Fx)(E:XK)(f:VF (List D))(L:@IR):TA:=λσ H Q=>∃env G B β,@H_/\
 Out Γ E (f (vl env) β) λds β'=>∀vs G' H',SR Γ B G' H' σ (aW L env) β'->aw G G'->iL B H H'->cz Γ.K G' vs ds->Q vs H'
def SA (X:Cx)(Γ:Fx)(E:XK)(es:List Expr)(f:VF (List D))(L:@IR):Prop:=PA X es (aT Γ E f L)
def PE.post' {X:Cx}{e:Expr}{t u:TE}(h:PE X e t)(m:∀σ H Q,u σ H Q->t σ H Q):PE X e u:=λpins s σ H Q I q=>h pins s σ H Q I (m σ H Q q)
def PT.post {X:Cx}{e:Expr}{t u:TT}(h:PT X e t)(m:∀σ H Q,u σ H Q->t σ H Q):PT X e u:=λpins s σ H Q I q=>h pins s σ H Q I (m σ H Q q)
def PW.post {X:Cx}{e:Expr}{t u:TT}(h:PW X e t)(m:∀σ H Q,u σ H Q->t σ H Q):PW X e u:=λwh pins s σ H Q I q=>h wh pins s σ H Q I (m σ H Q q)
def PA.post {X:Cx}{es:List Expr}{t u:TA}(h:PA X es t)(m:∀σ H Q,u σ H Q->t σ H Q):PA X es u:=λpos pins s σ H Q I q=>h pos pins s σ H Q I (m σ H Q q)
def PS.post {X:Cx}{st:Stmt}{t u:TS}(h:PS X st t)(m:∀D σ H,u D σ H->t D σ H):PS X st u:=λpins s σ H D I q=>h pins s σ H D I (m D σ H q)
def dat:Option Nv->Option D
 |some (.da d)=>some d
 |_=>none
def gv (i:Nat):VF D:=λvs β=>R.of (dat vs[i]?) β
def cst (d:D):VF D:=λ_ β=>.ok d β
section
variable {X:Cx}{Γ:Fx}{E:XK}{e a b c:Expr}{f fa fb fc:VF D}{L La Lb Lc:@IR}{md ma mb mc:Md}{pos:Pos}
theorem join_some {o:Option Nv}{d:D}(h:dat o=some d):o=some (.da d):=by
 cases o with
 |none=>cases h
 |some o=>cases o with
  |da x=>cases h;rfl
  |_=>cases h
def SR.letIn {B:@Is}{G H:Hp}{σ:St}{env:En}{β:Int}(I:@H_){p:Addr}{d:D}(h0:Γ.H0 p=none)(hg:G p=none)(hb:B≠some p)(hn:∀(j:Nat) (d':D),env[j]? =some (.ow d')->σ[j]?≠some (some (.ref p)))(h:Own Γ.K G H p d) :
  ∃G',SR Γ B G' H σ env β/\aw G G'/\Rp Γ.K G' (.ref p) d:=by
 obtain⟨o,ho⟩:=h.obj
 have sG:aw G (upd G p o):=aw.new hg
 refine⟨upd G p o,⟨λb u q=>?_,I.old.trans sG,λb n1 n2=>?_,I.keep,I.pin,I.fix,λb q=>?_,I.len,λj s q=>?_,I.sep⟩,sG,h.rp hg sG λo' q=>by rw[ho] at q;cases q;exact aB⟩
 ·by_cases z:b=p
  ·subst z;rw[aB] at q;cases q;exact Kt.of ho
  ·rw[ay z] at q;exact I.sub b u q
 ·rw[ay (λz=>n1.1 (by rw[z];exact h0))];exact I.new b n1 n2
 ·obtain⟨k1,k2,k3⟩:=I.box b q
  exact⟨k1,by rw[ay (λz=>hb (by rw[<-z];exact q))];exact k2,k3⟩
 ·have w:=I.slot j s q
  cases s with
  |no=>trivial
  |fz d'=>obtain⟨v,w1,w2⟩:=w;exact⟨v,w1,w2.mono sG⟩
  |ow d'=>
   obtain⟨c,w1,w2,w3,w4,w5⟩:=w
   have ca:c≠p:=λz2=>hn j d' q (by rw[<-z2];exact w1)
   exact⟨c,w1,w2,by rw[ay ca];exact w3,w4,w5.mono sG λo q=>Kt.of q⟩
  |bx=>exact w
  |br d'=>obtain⟨b1,c,w1,w4,wp,w5⟩:=w;exact⟨b1,c,w1,w4,wp,w5.mono sG λo q=>Kt.of q⟩
def vA {env:En}{i j:Nat}{d:D}(h:(iA env i)[j]? =some (.ow d)):env[j]? =some (.ow d):=by
 unfold iA at h
 split at h
 ·rename_i d' e
  by_cases z:i=j
  ·subst z
   rw[O6 (OO.mp e).1] at h;cases h
  ·rw[O2 z] at h;exact h
 ·exact h
theorem qO {L:@IR}{env:En}{j:Nat}{d:D}(h:(aW L env)[j]? =some (.ow d)):env[j]? =some (.ow d):=by
 unfold aW at h
 induction L generalizing env with
 |nil=>exact h
 |cons i L ih=>exact vA (ih h)
def SR.letW {B:@Is}{G H G' H':Hp}{σ:St}{env:En}{β β':Int}{L:@IR}{d:D}{v:V}(I:@H_)(I':SR Γ B G' H' σ (L2.aW L env) β')(h:VO Γ.K B H G' H' .w d v):∃G2,SR Γ B G2 H' σ (L2.aW L env) β'/\aw G' G2/\Rp Γ.K G2 v d:=by
 obtain⟨p,rfl,h1,h2,h3⟩:=h
 obtain⟨q1,q2,q3,q4⟩:=I.fresh h1
 exact I'.letIn q1 h2 q3 (λj d' e=>q4 j d' (qO e)) h3
def SE.wv (h:SE X Γ E e f L .w):SE X Γ E e f L .v:=by
 refine PE.post' h λσ H Q ⟨env,G,B,β,I,o⟩=>⟨env,G,B,β,I,o.imp λd β' k v G' H' I' s m vo=>?_⟩
 obtain⟨G2,I2,s2,r⟩:=I.letW I' vo
 exact k v G2 H' I2 (s.trans s2) m r
theorem VO.brw {B:@Is}{H G' H':Hp}{d:D}{v:V}{K:Frag}(h:VO K B H G' H' md d v)(hB:∀x,B=some x->H x≠none):m6 K B G' H' v d:=by
 cases md with
 |b=>exact h
 |v=>exact .inl h
 |w=>
  obtain⟨p,rfl,h1,h2,h3⟩:=h
  exact .inr ⟨p,rfl,λz=>hB p z h1,h3⟩
def SR.boxThere {B:@Is}{G H:Hp}{σ:St}{env:En}{β:Int}(I:@H_):∀x,B=some x->H x≠none:=λx e=>by rw[(I.box x e).1];simp
def ae (i:Nat){x:Str}(hN:X.N[i]? =some x:=by rfl)(hv:An X.env.scope x:=by first |exact Or.inl rfl |exact Or.inr (Or.inl rfl) |exact Or.inr (Or.inr rfl))(hd:@G_:=by decide)
  (hcd:(x == ("__classdict__":Str))=false:=by decide):SE X Γ E (.Name x pos) (gv i) [] .b:=by
 refine PE.post' (km hN hv hd hcd) λσ H Q ⟨env,G,B,β,I,o⟩=>?_
 obtain⟨d,e,k⟩:=o.of
 have e:=join_some e
 rcases Eb e with q |q |q
 ·obtain⟨v,h1,h2⟩:=I.slot i _ q
  exact⟨v,h1,k v G H I (aw.refl _) (iL.refl _ _) (.inl h2)⟩
 ·obtain⟨p,h1,h2,h3,h4,h5⟩:=I.slot i _ q
  exact⟨.ref p,h1,k _ G H I (aw.refl _) (iL.refl _ _) (.inr ⟨p,rfl,h4,h5⟩)⟩
 ·obtain⟨_,p,h1,h4,_,h5⟩:=I.slot i _ q
  exact⟨.ref p,h1,k _ G H I (aw.refl _) (iL.refl _ _) (.inr ⟨p,rfl,h4,h5⟩)⟩
def ak (i:Nat)(hb:Γ.br i=false){x:Str}(hN:X.N[i]? =some x:=by rfl)(hv:An X.env.scope x:=by first |exact Or.inl rfl |exact Or.inr (Or.inl rfl) |exact Or.inr (Or.inr rfl))(hd:@G_:=by decide)
  (hcd:(x == ("__classdict__":Str))=false:=by decide):SE X Γ E (.Name x pos) (gv i) [i] .v:=by
 refine PE.post' (km hN hv hd hcd) λσ H Q ⟨env,G,B,β,I,o⟩=>?_
 obtain⟨d,e,k⟩:=o.of
 obtain⟨G',v,I',s,h1,h2⟩:=I.freeze i hb (join_some e)
 exact⟨v,h1,k v G' H I' s (iL.refl _ _) h2⟩
def FH {v:V}{d:D}(h:PE X e (tC v))(r:∀G,Rp Γ.K G v d):SE X Γ E e (cst d) [] .v:=by
 refine PE.post' h λσ H Q ⟨env,G,B,β,I,o⟩=>?_
 exact o v G H I (aw.refl _) (iL.refl _ _) (r G)
def au {i:Int}{j}:SE X Γ E (.Constant (.int i) j pos) (cst (.int i)) [] .v:=FH yd λ_=>.int i
def me {i:Bool}{j}:SE X Γ E (.Constant (.bool i) j pos) (cst (.bool i)) [] .v:=FH Au λ_=>.bl i
def rC {x:Str}{j}:SE X Γ E (.Constant (.str x) j pos) (cst (.str x)) [] .v:=FH Ji λ_=>.str x
def Ay {x:Str}{i:Int}{t:Tok}(hg:Gl X x)(hm:X.mg x=some (.int i t))(hd:@G_:=by decide):SE X Γ E (.Name x pos) (cst (.int i)) [] .v:=FH (F0 hg hm (show RelV (.int i) _ from⟨_,rfl⟩) hd) λ_=>.int i
def two {W:V->V->Hp->Prop}{B:@Is}{G H:Hp}{σ:St}{env:En}{β:Int}(I:@H_)
  (h:Out Γ E (fa (vl env) β) λd1 β1=>Out Γ E (fb (vl env) β1) λd2 β2=>∀x y G2 H2,SR Γ B G2 H2 σ (aW (La ++ Lb) env) β2->aw G G2->iL B H H2->m6 Γ.K B G2 H2 x d1->m6 Γ.K B G2 H2 y d2->W x y H2) :
  pT Γ E fa La ma σ H λx H1=>pT Γ E fb Lb mb σ H1 λy H2=>W x y H2:=by
 refine⟨env,G,B,β,I,h.imp λd1 β1 h x G1 H1 I1 s1 m1 vx=>⟨aW La env,G1,B,β1,I1,?_⟩⟩
 rw[dQ]
 refine h.imp λd2 β2 k y G2 H2 I2 s2 m2 vy=>?_
 refine k x y G2 H2 (by rw[cy];exact I2) (s1.trans s2) (m1.trans m2) ((vx.brw I.boxThere).mono s2 m2) (vy.brw I1.boxThere)
def oB (K:Frag)(r:R2)(g:D->D->Option D)(md:Md):Prop:=∀(B:@Is) (G H:Hp) (x y:V) (dx dy d:D) (Q:VK),aw G H->(∀x,B=some x->H x≠none)->m6 K B G H x dx->m6 K B G H y dy->g dx dy=some d->
 (∀v G' H',Ext G H G' H'->VO K B H G' H' md d v->Q v H')->r x y H Q
def f2 (fa fb:VF D)(g:D->D->Option D):VF D:=λvs β=>(fa vs β).bnd λx β1=>(fb vs β1).bnd λy β2=>R.of (g x y) β2
theorem fK {B:@Is}{H H2:Hp}(m:iL B H H2)(hB:∀x,B=some x->H2 x≠none){p:Addr}(h:H2 p=none):H p=none:=by
 cases e:H p with
 |none=>rfl
 |some o=>obtain⟨u,eu,_⟩:=(m.1 p o e λz=>hB p z h).some;rw[eu] at h;cases h
theorem VO.back {K:Frag}{B:@Is}{H H2 G' H':Hp}{d:D}{v:V}(h:VO K B H2 G' H' md d v)(m:iL B H H2)(hB:∀x,B=some x->H2 x≠none):VO K B H G' H' md d v:=by
 cases md with
 |b=>exact h
 |v=>exact h
 |w=>obtain⟨p,e,h1,h2,h3⟩:=h;exact⟨p,e,fK m hB h1,h2,h3⟩
def p4 {r:R2}{g:D->D->Option D}{Q:VK}(pr:oB Γ.K r g md){B:@Is}{G H:Hp}{σ:St}{env:En}{β:Int}(I:@H_)
  (h:Out Γ E (f2 fa fb g (vl env) β) λd β'=>∀v G' H',SR Γ B G' H' σ (aW (La ++ Lb) env) β'->aw G G'->iL B H H'->VO Γ.K B H G' H' md d v->Q v H') :
  pT Γ E fa La ma σ H λx H1=>pT Γ E fb Lb mb σ H1 λy H2=>r x y H2 Q:=by
 refine two I (h.bnd.imp λd1 β1 h=>h.bnd.imp λd2 β2 h x y G2 H2 I2 s2 m2 bx by'=>?_)
 obtain⟨d,e,k⟩:=h.of
 refine pr B G2 H2 x y d1 d2 d Q I2.sub I2.boxThere bx by' e λv G' H' x' vo=>?_
 exact k v G' H' (I2.ext x') (s2.trans x'.gg) (m2.trans (x'.hh.mov B)) (vo.back m2 I2.boxThere)
def bz {op:Operator}{r:R2}{g:D->D->Option D}(ho:lP X (binaryOp op) r)(pr:oB Γ.K r g md)(ha:SE X Γ E a fa La ma)(hb:SE X Γ E b fb Lb mb):SE X Γ E (.BinOp a op b pos) (f2 fa fb g) (La ++ Lb) md:=
 PE.post' (um ho ha hb) λσ H Q ⟨env,G,B,β,I,o⟩=>p4 pr I o
def c4 {op:CmpOp}{r:R2}{g:D->D->Option D}(ho:lP X (compareOp op) r)(pr:oB Γ.K r g md)(ha:SE X Γ E a fa La ma)(hb:SE X Γ E b fb Lb mb)(hm:behindInMarks op b=false):SE X Γ E (.Compare a [op] [b] pos) (f2 fa fb g) (La ++ Lb) md:=
 PE.post' (GK ho ha hb hm) λσ H Q ⟨env,G,B,β,I,o⟩=>p4 pr I o
def aO {r:R2}{g:D->D->Option D}(hr:Ed X r)(pr:oB Γ.K r g md)(ha:SE X Γ E a fa La ma)(hb:SE X Γ E b fb Lb mb)(hs:AN b):SE X Γ E (.Subscript a b pos) (f2 fa fb g) (La ++ Lb) md:=
 PE.post' (nh hr ha hb hs) λσ H Q ⟨env,G,B,β,I,o⟩=>p4 pr I o
def DS (K:Frag)(r:V->Hp->VK->Prop)(g:D->Option D)(md:Md):Prop:=∀(B:@Is) (G H:Hp) (x:V) (dx d:D) (Q:VK),aw G H->(∀x,B=some x->H x≠none)->m6 K B G H x dx->g dx=some d->
 (∀v G' H',Ext G H G' H'->VO K B H G' H' md d v->Q v H')->r x H Q
def f1 (fa:VF D)(g:D->Option D):VF D:=λvs β=>(fa vs β).bnd λx β1=>R.of (g x) β1
def lB {r:V->Hp->VK->Prop}{g:D->Option D}{Q:VK}(pr:DS Γ.K r g md){B:@Is}{G H:Hp}{σ:St}{env:En}{β:Int}(I:@H_)
  (h:Out Γ E (f1 fa g (vl env) β) λd β'=>∀v G' H',SR Γ B G' H' σ (aW La env) β'->aw G G'->iL B H H'->VO Γ.K B H G' H' md d v->Q v H') :
  pT Γ E fa La ma σ H λx H1=>r x H1 Q:=by
 refine⟨env,G,B,β,I,h.bnd.imp λd1 β1 h x G1 H1 I1 s1 m1 vx=>?_⟩
 obtain⟨d,e,k⟩:=h.of
 refine pr B G1 H1 x d1 d Q I1.sub I1.boxThere (vx.brw I.boxThere) e λv G' H' x' vo=>?_
 exact k v G' H' (I1.ext x') (s1.trans x'.gg) (m1.trans (x'.hh.mov B)) (vo.back m1 I1.boxThere)
def xW {op:UnaryOp}{r:V->Hp->VK->Prop}{g:D->Option D}(ho:My X (unaryOp op) r)(pr:DS Γ.K r g md)(ha:SE X Γ E a fa La ma):SE X Γ E (.UnaryOp op a pos) (f1 fa g) La md:=
 PE.post' (LZ ho ha) λσ H Q ⟨env,G,B,β,I,o⟩=>lB pr I o
def a8 {id:String}{r:List V->Hp->VK->Prop}{g:D->Option D}{x:Str}{p:Pos}(hc:gu X (.builtin id) r)(pr:DS Γ.K (λx=>r [x]) g md)(hg:Gl X x)(hm:X.mg x=none)(hv:bootBuiltins x=some (.builtin id))(ha:SE X Γ E a fa La ma)(hn:x≠"__name__":=by decide)(hdb:@G_:=by decide)
  (he:starEach [a] X.env=(false,eval a X.env) :: starEach [] X.env:=by rfl):SE X Γ E (.Call (.Name x p) [a] [] pos) (f1 fa g) La md:=
 PE.post' (oy hc hg hm hv (a9 ha b9 he) hn hdb he) λσ H Q ⟨env,G,B,β,I,o⟩=>lB (r:=λx=>r [x]) pr I o
def cH {id:String}{r:List V->Hp->VK->Prop}{g:D->Option D}{x:Str}{p:Pos}(hc:gu X (.type id) r)(pr:DS Γ.K (λx=>r [x]) g md)(hg:Gl X x)(hm:X.mg x=none)(hv:bootBuiltins x=some (.type id))(ha:SE X Γ E a fa La ma)(hn:x≠"__name__":=by decide)(hdb:@G_:=by decide)
  (he:starEach [a] X.env=(false,eval a X.env) :: starEach [] X.env:=by rfl):SE X Γ E (.Call (.Name x p) [a] [] pos) (f1 fa g) La md:=
 PE.post' (kC hc hg hm hv (a9 ha b9 he) hn hdb he) λσ H Q ⟨env,G,B,β,I,o⟩=>lB (r:=λx=>r [x]) pr I o
def fX (fa fb:VF D):VF D:=λvs β=>(fa vs β).bnd λx β1=>match x with
 | .bool true=>fb vs β1
 | .bool false=>.ok (.bool false) β1
 |_=>.bad
def Ku (fa fb:VF D):VF D:=λvs β=>(fa vs β).bnd λx β1=>match x with
 | .bool false=>fb vs β1
 | .bool true=>.ok (.bool true) β1
 |_=>.bad
def kg {op}(h:SE X Γ E a fa La md):SE X Γ E (.BoolOp op [a] pos) fa La md:=Jz h
theorem kc {rest:List Expr}(ha:SE X Γ E a fa La ma)(hb:SE X Γ E (.BoolOp .And (b :: rest) pos) fb Lb .v)(hbr:∀i,i∈Lb->Γ.br i=false):SE X Γ E (.BoolOp .And (a :: b :: rest) pos) (fX fa fb) (La ++ Lb) .v:=by
 refine PE.post' (JM ha hb) λσ H Q ⟨env,G,B,β,I,o⟩=>?_
 refine⟨env,G,B,β,I,o.bnd.imp λd1 β1 h x G1 H1 I1 s1 m1 vx=>?_⟩
 have bx:=vx.brw I.boxThere
 cases d1 with
 |bool c=>
  obtain rfl:=bx.bool
  refine⟨c,rfl,?_⟩
  cases c with
  |true=>exact pS ⟨_,G1,B,β1,I1,by rw[dQ];exact h.imp λd β' k v G' H' I' s' m' vo=>k v G' H' (by rw[cy];exact I') (s1.trans s') (m1.trans m') vo⟩
  |false=>
   obtain⟨G2,I2,s2⟩:=I1.aW Lb hbr
   exact pX (h _ G2 H1 (by rw[cy];exact I2) (s1.trans s2) m1 (.bl false))
 |_=>exact h.elim
theorem Mj {rest:List Expr}(ha:SE X Γ E a fa La ma)(hb:SE X Γ E (.BoolOp .Or (b :: rest) pos) fb Lb .v)(hbr:∀i,i∈Lb->Γ.br i=false):SE X Γ E (.BoolOp .Or (a :: b :: rest) pos) (Ku fa fb) (La ++ Lb) .v:=by
 refine PE.post' (L7 ha hb) λσ H Q ⟨env,G,B,β,I,o⟩=>?_
 refine⟨env,G,B,β,I,o.bnd.imp λd1 β1 h x G1 H1 I1 s1 m1 vx=>?_⟩
 have bx:=vx.brw I.boxThere
 cases d1 with
 |bool c=>
  obtain rfl:=bx.bool
  refine⟨c,rfl,?_⟩
  cases c with
  |true=>
   obtain⟨G2,I2,s2⟩:=I1.aW Lb hbr
   exact pS (h _ G2 H1 (by rw[cy];exact I2) (s1.trans s2) m1 (.bl true))
  |false=>exact pX ⟨_,G1,B,β1,I1,by rw[dQ];exact h.imp λd β' k v G' H' I' s' m' vo=>k v G' H' (by rw[cy];exact I') (s1.trans s') (m1.trans m') vo⟩
 |_=>exact h.elim
def Cu:D->Option D
 | .bool c=>some (.bool (!c))
 |_=>none
theorem Ep (ha:SE X Γ E a fa La ma):SE X Γ E (.UnaryOp .Not a pos) (f1 fa Cu) La .v:=by
 refine PE.post' (Kl ha) λσ H Q ⟨env,G,B,β,I,o⟩=>?_
 refine lB (r:=λx H1 Q=>∃c,x=.bl c/\Q (.bl (!c)) H1) ?_ I o
 intro B G H x dx d Q s hB bx e k
 cases dx with
 |bool c=>
  obtain rfl:=bx.bool
  cases e
  exact⟨c,rfl,k _ G H (Ext.refl s) (.bl _)⟩
 |_=>cases e
def Ir:D->Option Bool
 | .none=>some false
 | .bool b=>some b
 | .int i=>some (i != 0)
 | .str y=>if y.length<=sizeLine then some ((y.length:Int) != 0) else none
 | .list ds=>some (!ds.isEmpty)
 | .tuple ds=>some (!ds.isEmpty)
 | .dict _=>none
def iS (fa:VF D):VF Bool:=λvs β=>(fa vs β).bnd λx β1=>R.of (Ir x) β1
def pq {K:Frag}{G:Hp}{xs:List V}{ds:List D}(r:cz K G xs ds):(!ds.isEmpty)= !xs.isEmpty:=by cases r <;> rfl
theorem cA (hK:X.K=Γ.K)(ha:SE X Γ E a fa La ma)(he:∀whole,isTrue a X.env whole=(do let v <-whole;standAt a.pos;holding [v] (truthy v)):=by intro _;rfl):zw X Γ E a (iS fa) La:=by
 refine PT.post (Ct ha he) λσ H Q ⟨env,G,B,β,I,o⟩=>?_
 refine⟨env,G,B,β,I,o.bnd.imp λd1 β1 h x G1 H1 I1 s1 m1 vx=>?_⟩
 obtain⟨c,e,k⟩:=h.of
 have bx:=vx.brw I.boxThere
 refine⟨c,?_,k G1 H1 I1 s1 m1⟩
 rw[hK]
 cases d1 with
 |none=>obtain rfl:=bx.none;cases e;rfl
 |bool b=>obtain rfl:=bx.bool;cases e;rfl
 |int i=>obtain rfl:=bx.int;cases e;rfl
 |str y=>
  obtain rfl:=bx.str
  simp only[Ir] at e
  split at e
  ·cases e;exact⟨by assumption,rfl⟩
  ·cases e
 |list ds=>obtain⟨p,xs,rfl,hq,r⟩:=bx.list I1.sub;cases e;exact .inl ⟨xs,.inl hq,pq r⟩
 |tuple ds=>obtain⟨p,xs,rfl,hq,r⟩:=bx.tuple I1.sub;cases e;exact .inr (.inl ⟨xs,hq,pq r⟩)
 |dict ds=>cases e
def cM (fa:VF D):VF Bool:=λvs β=>(fa vs β).bnd λx β1=>match x with
 | .bool c=>.ok c β1
 |_=>.bad
theorem bS {op:CmpOp}{r:R2}{g:D->D->Option D}(ho:lP X (compareOp op) r)(pr:oB Γ.K r g .v)(ha:SE X Γ E a fa La ma)(hb:SE X Γ E b fb Lb mb)(hm:behindInMarks op b=false):zw X Γ E (.Compare a [op] [b] pos) (cM (f2 fa fb g)) (La ++ Lb):=by
 refine PT.post (Gv ho ha hb hm) λσ H Q ⟨env,G,B,β,I,o⟩=>?_
 refine p4 pr I (o.bnd.imp λd β' h v G' H' I' s' m' vo=>?_)
 cases d with
 |bool c=>cases vo;exact⟨c,rfl,h G' H' I' s' m'⟩
 |_=>exact h.elim
def oH (t:VF Bool):VF Bool:=λvs β=>(t vs β).bnd λc β1=>.ok (!c) β1
def Ac (t u:VF Bool):VF Bool:=λvs β=>(t vs β).bnd λc β1=>if c=true then u vs β1 else .ok false β1
def oR (t u:VF Bool):VF Bool:=λvs β=>(t vs β).bnd λc β1=>if c=true then .ok true β1 else u vs β1
variable {ta tb tc:VF Bool}
def eB (ha:zw X Γ E a ta La):zw X Γ E (.UnaryOp .Not a pos) (oH ta) La:=by
 refine PT.post (IQ ha) λσ H Q ⟨env,G,B,β,I,o⟩=>?_
 exact⟨env,G,B,β,I,o.bnd.imp λc β1 h=>h⟩
def xr.t (h:xr X Γ E e ta La):zw X Γ E e ta La:=PW.pt h
def vd (ha:zw X Γ E a ta La):xr X Γ E (.BoolOp .And [a] pos) ta La:=AD ha
def oN (ha:zw X Γ E a ta La):xr X Γ E (.BoolOp .Or [a] pos) ta La:=HZ ha
theorem xX {rest:List Expr}(ha:zw X Γ E a ta La)(hb:xr X Γ E (.BoolOp .And (b :: rest) pos) tb Lb)(hbr:∀i,i∈Lb->Γ.br i=false):xr X Γ E (.BoolOp .And (a :: b :: rest) pos) (Ac ta tb) (La ++ Lb):=by
 refine PW.post (Cv ha hb) λσ H Q ⟨env,G,B,β,I,o⟩=>?_
 refine⟨env,G,B,β,I,o.bnd.imp λc β1 h G1 H1 I1 s1 m1=>?_⟩
 cases c with
 |true=>exact pS ⟨_,G1,B,β1,I1,by rw[dQ];exact Out.imp h λd β' k G' H' I' s' m'=>k G' H' (by rw[cy];exact I') (s1.trans s') (m1.trans m')⟩
 |false=>
  obtain⟨G2,I2,s2⟩:=I1.aW Lb hbr
  exact pX (h G2 H1 (by rw[cy];exact I2) (s1.trans s2) m1)
theorem ur {rest:List Expr}(ha:zw X Γ E a ta La)(hb:xr X Γ E (.BoolOp .Or (b :: rest) pos) tb Lb)(hbr:∀i,i∈Lb->Γ.br i=false):xr X Γ E (.BoolOp .Or (a :: b :: rest) pos) (oR ta tb) (La ++ Lb):=by
 refine PW.post (LR ha hb) λσ H Q ⟨env,G,B,β,I,o⟩=>?_
 refine⟨env,G,B,β,I,o.bnd.imp λc β1 h G1 H1 I1 s1 m1=>?_⟩
 cases c with
 |true=>
  obtain⟨G2,I2,s2⟩:=I1.aW Lb hbr
  exact pS (h G2 H1 (by rw[cy];exact I2) (s1.trans s2) m1)
 |false=>exact pX ⟨_,G1,B,β1,I1,by rw[dQ];exact Out.imp h λd β' k G' H' I' s' m'=>k G' H' (by rw[cy];exact I') (s1.trans s') (m1.trans m')⟩
def Mc (t:VF Bool)(fa fb:VF D):VF D:=λvs β=>(t vs β).bnd λc β1=>if c=true then fa vs β1 else fb vs β1
theorem HX (hc:zw X Γ E c tc Lc)(ha:SE X Γ E a fa La md)(hb:SE X Γ E b fb Lb md)(hbr:∀i,i∈La ++ Lb->Γ.br i=false):SE X Γ E (.IfExp c a b pos) (Mc tc fa fb) (Lc ++ (La ++ Lb)) md:=by
 refine PE.post' (CK hc ha hb) λσ H Q ⟨env,G,B,β,I,o⟩=>?_
 refine⟨env,G,B,β,I,o.bnd.imp λc β1 h G1 H1 I1 s1 m1=>?_⟩
 obtain⟨G2,I2,s2⟩:=I1.aW (La ++ Lb) hbr
 have idem:∀M:@IR,(∀i,i∈M->i∈La ++ Lb)->aW M (aW (La ++ Lb) (aW Lc env))=aW (La ++ Lb) (aW Lc env):=by
  have key:∀(M:@IR) (en:En) (k:Nat),k∈M->∀d',(aW M en)[k]?≠some (.ow d'):=by
   intro M
   induction M with
   |nil=>intro en k hm;cases hm
   |cons i M ih=>
    intro en k hm d' z
    rcases OK.mp hm with y |y
    ·subst y
     have z1:(iA en k)[k]? =some (.ow d'):=qO (L:=M) z
     have z2:=vA z1
     unfold iA at z1
     rw[z2] at z1
     dsimp only at z1
     rw[O6 (OO.mp z2).1] at z1;cases z1
    ·exact ih (iA en i) k y d' z
  intro M
  induction M with
  |nil=>intro _;rfl
  |cons i M ih=>
   intro hM
   show aW M (iA _ i)=_
   have:iA (aW (La ++ Lb) (aW Lc env)) i=aW (La ++ Lb) (aW Lc env):=by
    have hn:=key (La ++ Lb) (aW Lc env) i (hM i (ON ..))
    generalize aW (La ++ Lb) (aW Lc env)=en at hn ⊢
    unfold iA
    split
    ·rename_i d e;exact absurd e (hn d)
    ·rfl
   rw[this]
   exact ih λj hj=>hM j (OQ _ hj)
 have go:∀{f:VF D} {M:@IR},(∀i,i∈M->i∈La ++ Lb)->Out Γ E (f (vl env) β1) (λd β'=>∀v G' H',SR Γ B G' H' σ (aW (Lc ++ (La ++ Lb)) env) β'->aw G G'->iL B H H'->VO Γ.K B H G' H' md d v->Q v H')->pT Γ E f M md σ H1 Q:=λ{f M} hM h=>by
  refine⟨_,G2,B,β1,I2,?_⟩
  rw[dQ,dQ]
  refine h.imp λd β' k v G' H' I' s' m' vo=>?_
  rw[idem M hM,<-cy] at I'
  exact k v G' H' I' ((s1.trans s2).trans s') (m1.trans m') (vo.back m1 I1.boxThere)
 cases c with
 |true=>exact pS (go (λi hi=>Qr _ hi) h)
 |false=>exact pX (go (λi hi=>Pe _ hi) h)
def ah:VF (List D):=λ_ β=>.ok [] β
def aa (fa:VF D)(fr:VF (List D)):VF (List D):=λvs β=>(fa vs β).bnd λx β1=>(fr vs β1).bnd λxs β2=>.ok (x :: xs) β2
variable {fr:VF (List D)}{es:List Expr}
def af:SA X Γ E [] ah []:=PA.post b9 λσ H Q ⟨env,G,B,β,I,o⟩=>o [] G H I (aw.refl _) (iL.refl _ _) .nil
def ab (ha:SE X Γ E a fa La .v)(hr:SA X Γ E es fr Lb)(hs:starEach (a :: es) X.env=(false,eval a X.env) :: starEach es X.env:=by rfl):SA X Γ E (a :: es) (aa fa fr) (La ++ Lb):=by
 refine PA.post (a9 ha hr hs) λσ H Q ⟨env,G,B,β,I,o⟩=>?_
 refine⟨env,G,B,β,I,o.bnd.imp λd1 β1 h x G1 H1 I1 s1 m1 vx=>⟨aW La env,G1,B,β1,I1,?_⟩⟩
 rw[dQ]
 refine h.bnd.imp λds β2 k xs G2 H2 I2 s2 m2 r=>?_
 exact k (x :: xs) G2 H2 (by rw[cy];exact I2) (s1.trans s2) (m1.trans m2) (.cons (vx.mono s2) r)
def bD (fr:VF (List D)):VF D:=λvs β=>(fr vs β).bnd λds β1=>if ds.length<=sizeLine then .ok (.tuple ds) β1 else .bad
def dI (fr:VF (List D)):VF D:=λvs β=>(fr vs β).bnd λds β1=>if ds.length<=sizeLine then .ok (.list ds) β1 else .bad
def bo {x1}(h:SA X Γ E es fr L):SE X Γ E (.Tuple es x1 pos) (bD fr) L .v:=by
 refine PE.post' (yU h) λσ H Q ⟨env,G,B,β,I,o⟩=>?_
 refine⟨env,G,B,β,I,o.bnd.imp λds β1 k xs G1 H1 I1 s1 m1 r=>?_⟩
 by_cases hz:ds.length<=sizeLine
 ·rw[OG hz] at k
  refine⟨by rw[r.len];exact hz,λp hp=>?_⟩
  have x:=Ext.new I1.sub (o:=.tup xs) hp
  exact k _ _ _ (I1.ext x) (s1.trans x.gg) (m1.trans (x.hh.mov B)) (.tup (.inl (.inl aB)) (r.mono x.gg))
 ·rw[OP hz] at k;exact k.elim
def cZ (h:SA X Γ E es fr L):SE X Γ E (.List es pos) (dI fr) L .w:=by
 refine PE.post' (D9 h) λσ H Q ⟨env,G,B,β,I,o⟩=>?_
 refine⟨env,G,B,β,I,o.bnd.imp λds β1 k xs G1 H1 I1 s1 m1 r=>?_⟩
 by_cases hz:ds.length<=sizeLine
 ·rw[OG hz] at k
  refine⟨by rw[r.len];exact hz,λp hp=>?_⟩
  have x:=Ext.own I1.sub (o:=.lst xs) hp
  exact k _ _ _ (I1.ext x) s1 (m1.trans (x.hh.mov B)) ⟨p,rfl,fK m1 I1.boxThere hp,I1.sub.free hp,xs,aB,r⟩
 ·rw[OP hz] at k;exact k.elim
inductive FR where
 |ok (d:D) (fresh:Bool)
 |exc (c:Str)
 |bad
def FV (K:Frag)(H G' H':Hp)(fr:Bool)(d:D)(v:V):Prop:=if fr=true then ∃a,v=.ref a/\H a=none/\G' a=none/\Own K G' H' a d else Rp K G' v d
def Gh (K:Frag)(ca:Str->Addr)(n:Nat)(F:@Cl):Sp:=λvs H Q E=>∃G ds,aw G H/\ds.length=n/\cz K G vs ds/\match F ds with
 | .ok d fr=>∀v G' H',aw H H'->aw G G'->aw G' H'->(∀b,Mx H b->G b=none->G' b=none)->FV K H G' H' fr d v->Q v H'
 | .exc c=>∀H',aw H H'->E (.ref (ca c)) none H'
 | .bad=>False
structure bZ (P:Program)(w:World)(K:Frag)(mg:@FS)(base:Heap)(ca:Str->Addr)(x:Str)(ps:@IN)(k:Nat)(F:@Cl):Prop where
 ex:∃f fd,mg x=some (.ref f)/\PySem.W.keepIn K (.ref f)=true/\Binds K fd ps []/\fM P w K mg base (o6 P w) k f fd ps (Gh K ca ps.length F)
 len:∀ds,F ds≠.bad->ds.length=ps.length
def av (F:@Cl)(fr:VF (List D)):VF D:=λvs β=>(fr vs β).bnd λds β1=>match F ds with
 | .ok d _=>.ok d β1
 | .exc c=>.exc c
 | .bad=>.bad
def tM (F:@Cl)(fr:VF (List D)):VF D:=λvs β=>(fr vs β).bnd λds β1=>match F ds with
 | .ok d true=>.ok d β1
 | .ok _ false=>.bad
 | .exc c=>.exc c
 | .bad=>.bad
def SR.called {B:@Is}{G1 H1 G2 H2:Hp}{σ:St}{env:En}{β:Int}(I1:SR Γ B G1 H1 σ env β)(h:aw H1 H2)(g:aw G1 G2)(s:aw G2 H2)(n:∀b,Mx H1 b->G1 b=none->G2 b=none):SR Γ B G2 H2 σ env β/\iL B H1 H2:=by
 refine⟨⟨s,I1.old.trans g,λb n1 n2=>?_,λb o e np=>(I1.keep b o e np).step h,λb hb=>?_,I1.fix,λb e=>?_,I1.len,λi t e=>?_,I1.sep⟩,h.mov B⟩
 ·exact n b (I1.thereM n1) (I1.new b n1 n2)
 ·exact (I1.pin b hb).same λo e=>h b o e
 ·obtain⟨h1,h2,h3⟩:=I1.box b e
  exact⟨h b _ h1,n b (Mx.lst h1) h2,h3⟩
 ·have q:=I1.slot i t e
  cases t with
  |no=>trivial
  |fz d=>obtain⟨v,h1,h2⟩:=q;exact⟨v,h1,h2.mono g⟩
  |ow d=>
   obtain⟨p,h1,h2,h3,h4,h5⟩:=q
   exact⟨p,h1,h2,n p h5.mx h3,h4,h5.mono g λo q=>h p o q⟩
  |bx=>exact q
  |br d=>obtain⟨b1,p,h1,h4,hp,h5⟩:=q;exact⟨b1,p,h1,h4,hp,h5.mono g λo q=>h p o q⟩
def SR.kp {B:@Is}{G H H':Hp}{σ:St}{env:En}{β:Int}(I:@H_)(h:aw H H'):Kp Γ H':=λb o e n=>(I.keep b o e n).step h
theorem tH {F:@Cl}{ps:@IN}{Q:VK}{B:@Is}{G H:Hp}{σ:St}{env:En}{β:Int}(I:@H_)(hK:X.K=Γ.K){wv:Bool}
  (h:Out Γ E (if wv=true then tM F fr (vl env) β else av F fr (vl env) β) λd β'=>∀v G' H',SR Γ B G' H' σ (aW L env) β'->aw G G'->iL B H H'->VO Γ.K B H G' H' (if wv=true then .w else .v) d v->Q v H') (hl:∀ds,F ds≠.bad->ds.length=ps.length) :
  aT Γ E fr L σ H λvs H1=>Gh X.K Γ.ca ps.length F vs H1 Q E:=by
 refine⟨env,G,B,β,I,?_⟩
 have h:Out Γ E (fr (vl env) β) λds β1=>Out Γ E (match F ds with
   | .ok d true=>.ok d β1
   | .ok d false=>if wv=true then .bad else .ok d β1
   | .exc c=>.exc c
   | .bad=>.bad) λd β'=>∀v G' H',SR Γ B G' H' σ (aW L env) β'->aw G G'->iL B H H'->VO Γ.K B H G' H' (if wv=true then .w else .v) d v->Q v H':=by
  cases wv with
  |true=>
   simp only[P9] at h ⊢
   refine h.bnd.imp λds β1 h=>?_
   cases q:F ds with
   |ok d b=>rw[q] at h;cases b <;> exact h
   |exc c=>rw[q] at h;exact h
   |bad=>rw[q] at h;exact h
  |false=>
   simp only[PV,Ql] at h ⊢
   refine h.bnd.imp λds β1 h=>?_
   cases q:F ds with
   |ok d b=>rw[q] at h;cases b <;> exact h
   |exc c=>rw[q] at h;exact h
   |bad=>rw[q] at h;exact h
 refine h.imp λds β1 k vs G1 H1 I1 s1 m1 r=>?_
 refine⟨G1,ds,I1.sub,?_,by rw[hK];exact r,?_⟩
 ·exact hl ds λz=>by rw[z] at k;exact k
 cases q:F ds with
 |bad=>rw[q] at k;exact k
 |exc c=>rw[q] at k;exact λH' s=>k H' (I1.kp s)
 |ok d b=>
  rw[q] at k
  intro v G' H' hh hg hs hn fv
  obtain⟨I2,m2⟩:=I1.called hh hg hs hn
  cases b with
  |true=>
   obtain⟨p,rfl,p1,p2,p3⟩:∃a,v=.ref a/\H1 a=none/\G' a=none/\Own X.K G' H' a d:=fv
   rw[hK] at p3
   have hp:=fK m1 I1.boxThere p1
   cases wv with
   |true=>exact k _ G' H' I2 (s1.trans hg) (m1.trans m2) ⟨p,rfl,hp,p2,p3⟩
   |false=>
    obtain⟨q1,q2,q3,q4⟩:=I1.fresh p1
    obtain⟨G3,I3,s3,r3⟩:=I2.letIn q1 p2 q3 q4 p3
    exact k _ G3 H' I3 ((s1.trans hg).trans s3) (m1.trans m2) r3
  |false=>
   cases wv with
   |true=>exact k.elim
   |false=>
    have fv:Rp X.K G' v d:=fv
    rw[hK] at fv
    exact k _ G' H' I2 (s1.trans hg) (m1.trans m2) fv
def aA {x:Str}{ps:@IN}{k:Nat}{F:@Cl}{p:Pos}(hf:bZ X.prog X.w X.K X.mg X.base Γ.ca x ps k F)(hr:eG k X.A)(hx:Passes (o6 X.prog X.w) X E)(hK:X.K=Γ.K)(hg:Gl X x)(ha:SA X Γ E (a :: es) fr L)(hdb:@G_:=by decide)
  (he:starEach (a :: es) X.env=(false,eval a X.env) :: starEach es X.env:=by rfl) (hpl:(backTo pos (starEach es X.env)).any (·.1)=false:=by rfl):SE X Γ E (.Call (.Name x p) (a :: es) [] pos) (av F fr) L .v:=by
 obtain⟨f,fd,hm,hk,hb,hF⟩:=hf.ex
 refine PE.post' (nR (dvs:=[]) hF hr hg hm hk hb .nil hx ha hdb he hpl) λσ H Q ⟨env,G,B,β,I,o⟩=>?_
 show aT Γ E fr L σ H λvs H1=>Gh X.K Γ.ca ps.length F (vs ++ []) H1 Q E
 have:=tH (Q:=Q) (wv:=false) (ps:=ps) I hK o hf.len
 simpa using this
def CA {x:Str}{ps:@IN}{k:Nat}{F:@Cl}{p:Pos}(hf:bZ X.prog X.w X.K X.mg X.base Γ.ca x ps k F)(hr:eG k X.A)(hx:Passes (o6 X.prog X.w) X E)(hK:X.K=Γ.K)(hg:Gl X x)(ha:SA X Γ E (a :: es) fr L)(hdb:@G_:=by decide)
  (he:starEach (a :: es) X.env=(false,eval a X.env) :: starEach es X.env:=by rfl) (hpl:(backTo pos (starEach es X.env)).any (·.1)=false:=by rfl):SE X Γ E (.Call (.Name x p) (a :: es) [] pos) (tM F fr) L .w:=by
 obtain⟨f,fd,hm,hk,hb,hF⟩:=hf.ex
 refine PE.post' (nR (dvs:=[]) hF hr hg hm hk hb .nil hx ha hdb he hpl) λσ H Q ⟨env,G,B,β,I,o⟩=>?_
 show aT Γ E fr L σ H λvs H1=>Gh X.K Γ.ca ps.length F (vs ++ []) H1 Q E
 have:=tH (Q:=Q) (wv:=true) (ps:=ps) I hK o hf.len
 simpa using this
end
inductive SO where
 |nx (env:En) (β:Int)
 |bk (env:En) (β:Int)
 |ct (env:En) (β:Int)
 |rt (d:D) (fr:Bool) (β:Int)
 |exc (c:Str)
 |bad
abbrev SF:=En->Int->SO
def RV (Γ:Fx)(G' H':Hp)(fr:Bool)(d:D)(v:V):Prop:=if fr=true then ∃a,v=.ref a/\Γ.H0 a=none/\G' a=none/\Own Γ.K G' H' a d else Rp Γ.K G' v d
def sI (Γ:Fx)(E:XK)(G:Hp)(N:Ends):SO->Prop
 | .nx env β=>∀B G' H' σ,SR Γ B G' H' σ env β->aw G G'->N.nx σ H'
 | .bk env β=>∀B G' H' σ,SR Γ B G' H' σ env β->aw G G'->N.bk σ H'
 | .ct env β=>∀B G' H' σ,SR Γ B G' H' σ env β->aw G G'->N.ct σ H'
 | .rt d fr β=>∀B G' H' σ env v,SR Γ B G' H' σ env β->aw G G'->RV Γ G' H' fr d v->N.rt v H'
 | .exc c=>∀H',Kp Γ H'->E (.ref (Γ.ca c)) none H'
 | .bad=>False
def sT (Γ:Fx)(E:XK)(m:SF):TS:=λN σ H=>∃env G B β,@H_/\sI Γ E G N (m env β)
def SS (X:Cx)(Γ:Fx)(E:XK)(st:Stmt)(m:SF):Prop:=PS X st (sT Γ E m)
def DV (X:Cx)(Γ:Fx)(E:XK)(st:List Stmt)(m:SF):Prop:=sL X st (sT Γ E m)
def sL.post {X:Cx}{st:List Stmt}{t u:TS}(h:sL X st t)(m:∀D σ H,u D σ H->t D σ H):sL X st u:=λpins s σ H D I q=>h pins s σ H D I (m D σ H q)
def aL (m m':SF):SF:=λenv β=>match m env β with
 | .nx env' β'=>m' env' β'
 |r=>r
def mh:SF:=λenv β=>.nx env β
section
variable {X:Cx}{Γ:Fx}{E:XK}{e a b c:Expr}{f fa fb:VF D}{L La Lb:@IR}{md ma mb:Md}{pos:Pos}{st:Stmt}{sts:List Stmt}{m m':SF}{ta:VF Bool}
theorem sI.weak {G G1:Hp}{N:Ends}{r:SO}(h:sI Γ E G N r)(s:aw G G1):sI Γ E G1 N r:=by
 cases r with
 |nx env β=>exact λB G' H' σ I s'=>h B G' H' σ I (s.trans s')
 |bk env β=>exact λB G' H' σ I s'=>h B G' H' σ I (s.trans s')
 |ct env β=>exact λB G' H' σ I s'=>h B G' H' σ I (s.trans s')
 |rt d fr β=>exact λB G' H' σ env v I s'=>h B G' H' σ env v I (s.trans s')
 |exc c=>exact h
 |bad=>exact h
def cu:DV X Γ E [] mh:=sL.post AJ λN σ H ⟨env,G,B,β,I,o⟩=>o B G H σ I (aw.refl _)
theorem ar (h:SS X Γ E st m)(h':DV X Γ E sts m'):DV X Γ E (st :: sts) (aL m m'):=by
 refine sL.post (jl h h') λN σ H ⟨env,G,B,β,I,o⟩=>?_
 refine⟨env,G,B,β,I,?_⟩
 unfold aL at o
 cases q:m env β with
 |nx env' β'=>rw[q] at o;exact λB' G' H' σ' I' s'=>⟨env',G',B',β',I',o.weak s'⟩
 |bk env' β'=>rw[q] at o;exact o
 |ct env' β'=>rw[q] at o;exact o
 |rt d fr β'=>rw[q] at o;exact o
 |exc c=>rw[q] at o;exact o
 |bad=>rw[q] at o;exact o
def az (h:SS X Γ E st m):DV X Γ E [st] m:=jE h
def toS {α:Type}(r:R α)(k:α->Int->SO):SO:=match r with
 | .ok x β=>k x β
 | .exc c=>.exc c
 | .bad=>.bad
theorem c7 {α:Type}{G:Hp}{N:Ends}{r:R α}{k:α->Int->SO}{P:α->Int->Prop}(h:sI Γ E G N (toS r k))(i:∀x β,sI Γ E G N (k x β)->P x β):Out Γ E r P:=by
 cases r with
 |ok x β=>exact i x β h
 |exc c=>exact h
 |bad=>exact h
def SR.set' {B:@Is}{G H:Hp}{σ:St}{env:En}{β:Int}(I:@H_)(i:Nat){v:V}{d:D}(h:Rp Γ.K G v d):SR Γ B G H (σ.set i (some v)) (env.set i (.fz d)) β:=by
 by_cases hi:i < env.length
 ·exact I.set hi h
 ·have h1:env.set i (.fz d)=env:=Qt (@AT)
  have h2:σ.set i (some v)=σ:=Qt (by rw[I.len];omega)
  rw[h1,h2];exact I
def SR.setOw' {B:@Is}{G H:Hp}{σ:St}{env:En}{β:Int}(I:@H_)(i:Nat){a:Addr}{d:D}(h0:Γ.H0 a=none)(hg:G a=none)(hb:B≠some a)(h:Own Γ.K G H a d)(hn:∀(j:Nat) (d':D),env[j]? =some (.ow d')->σ[j]?≠some (some (.ref a))):SR Γ B G H (σ.set i (some (.ref a))) (env.set i (.ow d)) β:=by
 by_cases hi:i < env.length
 ·exact I.setOw hi h0 hg hb h λj d' e _=>hn j d' e
 ·have h1:env.set i (.ow d)=env:=Qt (@AT)
  have h2:σ.set i (some (.ref a))=σ:=Qt (by rw[I.len];omega)
  rw[h1,h2];exact I
def bR (i:Nat)(L:@IR)(f:VF D):SF:=λenv β=>toS (f (vl env) β) λd β'=>.nx ((aW L env).set i (.fz d)) β'
def bg {i:Nat}{x:Str}{pos':Pos}(he:SE X Γ E e f L .v)(hN:X.N.Nodup)(hi:X.N[i]? =some x:=by rfl)(hx:Loc X.env.scope x:=by first |exact Or.inl rfl |exact Or.inr rfl)(hs:swapsWith e (some (.Name x pos')) pos.line X.env=pure false:=by rfl)(hf:X.fn x=true\/X.env.scope.names.lookup x=some .local:=by first |exact .inl rfl |exact .inr rfl |assumption) :
  SS X Γ E (.Assign [.Name x pos'] e pos) (bR i L f):=by
 refine PS.post (rN hN hi hx he hs hf) λN σ H ⟨env,G,B,β,I,o⟩=>?_
 refine⟨env,G,B,β,I,c7 o λd β' k v G' H' I' s' m' vo=>?_⟩
 exact k B G' H' _ (I'.set' i vo) s'
def jX (i:Nat)(L:@IR)(f:VF D):SF:=λenv β=>toS (f (vl env) β) λd β'=>.nx ((aW L env).set i (.ow d)) β'
def gY {i:Nat}{x:Str}{pos':Pos}(he:SE X Γ E e f L .w)(hN:X.N.Nodup)(hi:X.N[i]? =some x:=by rfl)(hx:Loc X.env.scope x:=by first |exact Or.inl rfl |exact Or.inr rfl)(hs:swapsWith e (some (.Name x pos')) pos.line X.env=pure false:=by rfl)(hf:X.fn x=true\/X.env.scope.names.lookup x=some .local:=by first |exact .inl rfl |exact .inr rfl |assumption) :
  SS X Γ E (.Assign [.Name x pos'] e pos) (jX i L f):=by
 refine PS.post (rN hN hi hx he hs hf) λN σ H ⟨env,G,B,β,I,o⟩=>?_
 refine⟨env,G,B,β,I,c7 o λd β' k v G' H' I' s' m' vo=>?_⟩
 obtain⟨p,rfl,h1,h2,h3⟩:=vo
 obtain⟨q1,q2,q3,q4⟩:=I.fresh h1
 exact k B G' H' _ (I'.setOw' i q1 h2 q3 h3 λj d' z=>q4 j d' (qO z)) s'
def jo (L:@IR)(f:VF D):SF:=λenv β=>toS (f (vl env) β) λ_ β'=>.nx (aW L env) β'
def fY (he:SE X Γ E e f L md)(hs:swapsWith e none pos.line X.env=pure false:=by rfl):SS X Γ E (.Expr e pos) (jo L f):=by
 refine PS.post (ql he hs) λN σ H ⟨env,G,B,β,I,o⟩=>?_
 exact⟨env,G,B,β,I,c7 o λd β' k v G' H' I' s' m' vo=>k B G' H' _ I' s'⟩
def bL (f:VF D):SF:=λenv β=>toS (f (vl env) β) λd β'=>.rt d false β'
def aU (he:SE X Γ E e f L .v):SS X Γ E (.Return (some e) pos) (bL f):=by
 refine PS.post (oD he) λN σ H ⟨env,G,B,β,I,o⟩=>?_
 exact⟨env,G,B,β,I,c7 o λd β' k v G' H' I' s' m' vo=>k B G' H' σ _ v I' s' vo⟩
def oj (f:VF D):SF:=λenv β=>toS (f (vl env) β) λd β'=>.rt d true β'
def kX (he:SE X Γ E e f L .w):SS X Γ E (.Return (some e) pos) (oj f):=by
 refine PS.post (oD he) λN σ H ⟨env,G,B,β,I,o⟩=>?_
 refine⟨env,G,B,β,I,c7 o λd β' k v G' H' I' s' m' vo=>?_⟩
 obtain⟨p,rfl,h1,h2,h3⟩:=vo
 obtain⟨q1,_⟩:=I.fresh h1
 exact k B G' H' σ _ _ I' s' ⟨p,rfl,q1,h2,h3⟩
def uo (i:Nat):SF:=λenv β=>match env[i]? with
 |some (.fz d)=>.rt d false β
 |some (.ow d)=>.rt d true β
 |_=>.bad
theorem p5 (i:Nat){x:Str}{p:Pos}(hN:X.N[i]? =some x:=by rfl)(hv:An X.env.scope x:=by first |exact Or.inl rfl |exact Or.inr (Or.inl rfl) |exact Or.inr (Or.inr rfl))(hd:@G_:=by decide)
  (hcd:(x == ("__classdict__":Str))=false:=by decide):SS X Γ E (.Return (some (.Name x p)) pos) (uo i):=by
 refine PS.post (oD (km hN hv hd hcd)) λN σ H ⟨env,G,B,β,I,o⟩=>?_
 unfold uo at o
 cases q:env[i]? with
 |none=>rw[q] at o;exact o.elim
 |some s=>
  rw[q] at o
  cases s with
  |no=>exact o.elim
  |bx=>exact o.elim
  |br d=>exact o.elim
  |fz d=>
   obtain⟨v,h1,h2⟩:=I.slot i _ q
   exact⟨v,h1,o B G H σ env v I (aw.refl _) h2⟩
  |ow d=>
   obtain⟨p,h1,h2,h3,h4,h5⟩:=I.slot i _ q
   exact⟨_,h1,o B G H σ env _ I (aw.refl _) ⟨p,rfl,h2,h3,h5⟩⟩
def kO (L:@IR)(t:VF Bool)(m m':SF):SF:=λenv β=>toS (t (vl env) β) λc β'=>if c=true then m (aW L env) β' else m' (aW L env) β'
theorem dw {x y:List Stmt}(hc:zw X Γ E c ta L)(ha:DV X Γ E x m)(hb:DV X Γ E y m'):SS X Γ E (.If c x y pos) (kO L ta m m'):=by
 refine PS.post (HU hc ha hb) λN σ H ⟨env,G,B,β,I,o⟩=>?_
 refine⟨env,G,B,β,I,c7 o λd β' k G' H' I' s' m'=>?_⟩
 cases d with
 |true=>exact pS ⟨_,G',B,β',I',sI.weak k s'⟩
 |false=>exact pX ⟨_,G',B,β',I',sI.weak k s'⟩
def iG (L:@IR)(t:VF Bool)(m:SF):Nat->SF
 | 0=>λ_ _=>.bad
 |n + 1=>λenv β=>toS (t (vl env) β) λc β'=>if c=true then (match m (aW L env) β' with
   | .nx env2 β2=>iG L t m n env2 β2
   | .ct env2 β2=>iG L t m n env2 β2
   | .bk env2 β2=>.nx env2 β2
   |r=>r) else .nx (aW L env) β'
theorem oA {x:List Stmt}(n:Nat)(hp:PassesOwn @EQ X.A X.env X.xe)(hc:zw X Γ E c ta L)(hb:DV X Γ E x m):SS X Γ E (.While c x [] pos) (iG L ta m n):=by
 refine PS.post (Dz hp hc hb) λN σ H ⟨env,G,B,β,I,o⟩=>?_
 refine⟨λk σ H=>∃env G1 B β,SR Γ B G1 H σ env β/\aw G G1/\sI Γ E G1 N (iG L ta m k env β),⟨n,env,G,B,β,I,aw.refl _,o⟩,?_⟩
 rintro k σ H ⟨env,G1,B,β,I,sG,o⟩
 cases k with
 |zero=>exact o.elim
 |succ k=>
  refine⟨env,G1,B,β,I,c7 o λd β' q G' H' I' s' m'=>?_⟩
  cases d with
  |false=>exact pX (q B G' H' σ I' s')
  |true=>
   refine pS ⟨λσ H=>∃env G1 B β,SR Γ B G1 H σ env β/\aw G G1/\sI Γ E G1 N (iG L ta m k env β),λσ' H' h=>⟨k,Nat.lt_succ_self k,h⟩,aW L env,G',B,β',I',?_⟩
   rw[OG rfl] at q
   cases r:m (aW L env) β' with
   |nx env2 β2=>rw[r] at q;exact λB2 G2 H2 σ2 I2 s2=>⟨env2,G2,B2,β2,I2,(sG.trans s').trans s2,sI.weak q (s'.trans s2)⟩
   |ct env2 β2=>rw[r] at q;exact λB2 G2 H2 σ2 I2 s2=>⟨env2,G2,B2,β2,I2,(sG.trans s').trans s2,sI.weak q (s'.trans s2)⟩
   |bk env2 β2=>rw[r] at q;exact λB2 G2 H2 σ2 I2 s2=>q B2 G2 H2 σ2 I2 (s'.trans s2)
   |rt d fr β2=>rw[r] at q;exact sI.weak q s'
   |exc c=>rw[r] at q;exact q
   |bad=>rw[r] at q;exact q
def Walk (K:Frag)(B:@Is)(G H1:Hp)(ds:List D)(J:It):Prop:=∀Gc H (i:Nat),aw G Gc->aw Gc H->iL B H1 H->
 (i < ds.length->J.go i H/\∀x H',J.yld i H x H'->∃G' d,Ext Gc H G' H'/\ds[i]? =some d/\Rp K G' x d)/\(ds.length<=i->J.stop i H)
def Walk.any {K:Frag}{B:@Is}{G H1:Hp}{ds:List D}{J:It}(h:Walk K B G (λ_=>none) ds J):Walk K B G H1 ds J:=λGc H i s1 s2 _=>h Gc H i s1 s2 ⟨(λb o e=>by cases e),λb o u e=>by cases e⟩
def iT (Γ:Fx)(E:XK)(f:VF (List D))(L:@IR)(md:Md):TI:=λσ H Rr=>∃env G B β,@H_/\
 Out Γ E (f (vl env) β) λds β'=>∀J G' H',SR Γ B G' H' σ (aW L env) β'->aw G G'->iL B H H'->Walk Γ.K B G' (match md with | .b=>H' |_=>λ_=>none) ds J->Rr J H'
def SI (X:Cx)(Γ:Fx)(E:XK)(tg e:Expr)(f:VF (List D))(L:@IR)(md:Md):Prop:=PI X tg e (iT Γ E f L md)
def PI.post {X:Cx}{tg e:Expr}{t u:TI}(h:PI X tg e t)(m:∀σ H Q,u σ H Q->t σ H Q):PI X tg e u:=λpins s σ H Q I q=>h pins s σ H Q I (m σ H Q q)
variable {tg:Expr}
def lV:D->Option (List D)
 | .list ds=>some ds
 | .tuple ds=>some ds
 |_=>none
def bc (fa:VF D):VF (List D):=λvs β=>(fa vs β).bnd λx β1=>R.of (lV x) β1
end
def Ot (K:Frag)(tl:TE):TI:=λσ H R=>tl σ H λx H1=>∃a xs,x=.ref a/\((iF K H1 a xs/\R (AR K a) H1)\/(fN K H1 a xs/\R (HJ K a) H1))
section
variable {X:Cx}{tg l:Expr}{tl:TE}
def HH (hl:PE X l tl):PI X tg l (Ot X.K tl):=by
 intro pins s σ H R I h
 refine cI (hl pins s σ H _ I h) λv s1 ⟨x,H1,I1,r1,q1⟩=>?_
 obtain⟨a,xs,e,q⟩:=q1
 subst e
 cases r1
 rcases q with⟨hq,q⟩ | ⟨hq,q⟩
 ·obtain⟨its,rv,p,hz⟩:=I1.list hq
  refine QI p.isList ?_
  refine⟨s1.heap.objs.size,[s1.heap.objs.size],_,_,H1,rfl,I1.kept (t':=s1.toks) λb o e=>OI _ e,oU a _,⟨_,OV _ rfl,rfl,rfl⟩,λb hb=>?_,q⟩
  have e:b=s1.heap.objs.size:=by simpa using hb
  subst e
  exact I1.fpOk (OF _) (I1.hok.fresh (OF _))
 ·obtain⟨its,rv,p,hz⟩:=I1.tuple hq
  refine QU (show s1.heap.IsTuple a its.toArray from p) ?_
  refine⟨s1.heap.objs.size,[s1.heap.objs.size],_,_,H1,rfl,I1.kept (t':=s1.toks) λb o e=>OI _ e,qJ a _,⟨_,OV _ rfl,rfl,rfl⟩,λb hb=>?_,q⟩
  have e:b=s1.heap.objs.size:=by simpa using hb
  subst e
  exact I1.fpOk (OF _) (I1.hok.fresh (OF _))
end
section
variable {X:Cx}{Γ:Fx}{E:XK}{e a b c:Expr}{f fa fb:VF D}{L La Lb:@IR}{md ma mb:Md}{pos:Pos}{st:Stmt}{sts:List Stmt}{m m':SF}{ta:VF Bool}{tg:Expr}
def oG {K:Frag}{B:@Is}{G H1:Hp}{p:Addr}{xs:List V}{ds:List D}(h:∀Gc H,aw G Gc->aw Gc H->iL B H1 H->iF K H p xs)(r:cz K G xs ds):Walk K B G H1 ds (AR K p):=λGc H i s1 s2 m=>by
 have hq:=h Gc H s1 s2 m
 refine⟨λhi=>⟨?_,λx H' y=>?_⟩,λhi=>⟨xs,hq,by rw[r.len];exact hi⟩⟩
 ·have hi':i < xs.length:=by rw[r.len];exact hi
  exact⟨xs,xs[i],hq,by simp[hi']⟩
 ·obtain⟨rfl,y⟩:=y
  obtain⟨d,e,q⟩:=r.at' (y xs hq)
  exact⟨Gc,d,Ext.refl s2,e,q.mono s1⟩
def vY {K:Frag}{B:@Is}{G H1:Hp}{p:Addr}{xs:List V}{ds:List D}(h:∀Gc H,aw G Gc->aw Gc H->iL B H1 H->fN K H p xs)(r:cz K G xs ds):Walk K B G H1 ds (HJ K p):=λGc H i s1 s2 m=>by
 have hq:=h Gc H s1 s2 m
 refine⟨λhi=>⟨?_,λx H' y=>?_⟩,λhi=>⟨xs,hq,by rw[r.len];exact hi⟩⟩
 ·have hi':i < xs.length:=by rw[r.len];exact hi
  exact⟨xs,xs[i],hq,by simp[hi']⟩
 ·obtain⟨rfl,y⟩:=y
  obtain⟨d,e,q⟩:=r.at' (y xs hq)
  exact⟨Gc,d,Ext.refl s2,e,q.mono s1⟩
theorem Jm (hK:X.K=Γ.K)(ha:SE X Γ E a fa La .v):SI X Γ E tg a (bc fa) La .v:=by
 refine PI.post (HH ha) λσ H Q ⟨env,G,B,β,I,o⟩=>?_
 refine⟨env,G,B,β,I,o.bnd.imp λd1 β1 h x G1 H1 I1 s1 m1 vx=>?_⟩
 obtain⟨ds,e,k⟩:=h.of
 rw[hK]
 have vx:Rp Γ.K G1 x d1:=vx
 cases d1 with
 |list l=>
  cases e
  cases vx with
  | @lst p xs _ hq r=>exact⟨p,xs,rfl,.inl ⟨.inl (Rd.mono (.inl hq) I1.sub),k _ G1 H1 I1 s1 m1 (oG (λGc H t1 t2 _=>.inl (Rd.mono (.inl hq) (t1.trans t2))) r)⟩⟩
 |tuple l=>
  cases e
  cases vx with
  | @tup p xs _ hq r=>exact⟨p,xs,rfl,.inr ⟨hq.grow I1.sub.grow,k _ G1 H1 I1 s1 m1 (vY (λGc H t1 t2 _=>hq.grow (t1.trans t2).grow) r)⟩⟩
 |_=>cases e
theorem iz (hK:X.K=Γ.K)(ha:SE X Γ E a fa La ma):SI X Γ E tg a (bc fa) La .b:=by
 refine PI.post (HH ha) λσ H Q ⟨env,G,B,β,I,o⟩=>?_
 refine⟨env,G,B,β,I,o.bnd.imp λd1 β1 h x G1 H1 I1 s1 m1 vx=>?_⟩
 obtain⟨ds,e,k⟩:=h.of
 rw[hK]
 have vx:=vx.brw I.boxThere
 cases d1 with
 |list l=>
  cases e
  rcases vx with vx | ⟨p,rfl,hb,xs,q,r⟩
  ·cases vx with
   | @lst p xs _ hq r=>exact⟨p,xs,rfl,.inl ⟨.inl (Rd.mono (.inl hq) I1.sub),k _ G1 H1 I1 s1 m1 (oG (λGc H t1 t2 _=>.inl (Rd.mono (.inl hq) (t1.trans t2))) r)⟩⟩
  ·exact⟨p,xs,rfl,.inl ⟨.inl (.inl q),k _ G1 H1 I1 s1 m1 (oG (λGc H t1 t2 mv=>.inl (.inl (mv.1 p _ q hb))) r)⟩⟩
 |tuple l=>
  cases e
  rcases vx with vx | ⟨p,rfl,hb,q⟩
  ·cases vx with
   | @tup p xs _ hq r=>exact⟨p,xs,rfl,.inr ⟨hq.grow I1.sub.grow,k _ G1 H1 I1 s1 m1 (vY (λGc H t1 t2 _=>hq.grow (t1.trans t2).grow) r)⟩⟩
  ·exact q.elim
 |_=>cases e
def gf (lo:Int)(n:Nat):List D:=(List.range n).map λ(k:Nat)=>int (lo + k)
def gx (lo:Int)(n:Nat):(gf lo n).length=n:=by unfold gf;simp
def Cs {K:Frag}{B:@Is}{G H1:Hp}(lo:Int)(n:Nat):Walk K B G H1 (gf lo n) (Er lo n):=λGc H i s1 s2 m=>by
 rw[gx]
 refine⟨λhi=>⟨hi,λx H' y=>?_⟩,λhi=>hi⟩
 obtain⟨rfl,rfl⟩:=y
 refine⟨Gc,.int (lo + i),Ext.refl s2,?_,.int _⟩
 unfold gf
 rw[OU,Qy hi];rfl
def Hr (j:Int):Bool:=Nat.ble j.natAbs 1000000
def DR {j:Int}(h:Hr j=true): -(2 ^ 62)<=j/\j < 2 ^ 62:=by
 have:=Nat.le_of_ble_eq_true h
 omega
def Bw {j:Int}(h: -1000<=j)(h2:j<=10000):Hr j=true:=Nat.ble_eq_true_of_le (@AT)
def gm (fa:VF D):VF (List D):=λvs β=>(fa vs β).bnd λx β1=>match x with
 | .int j=>if Hr j=true then .ok (gf 0 j.toNat) β1 else .bad
 |_=>.bad
theorem ou {p:Pos}(hg:Gl X "range")(hm:X.mg "range"=none)(ha:SE X Γ E a fa La ma)(hs:starEach [a] X.env= [(false,eval a X.env)]:=by rfl)(hs':starEach [a] X.env=(false,eval a X.env) :: starEach [] X.env:=by rfl):SI X Γ E tg (.Call (.Name "range" p) [a] [] pos) (gm fa) La md:=by
 refine PI.post (mC hg hm (a9 ha b9 hs') hs) λσ H Q ⟨env,G,B,β,I,o⟩=>?_
 refine⟨env,G,B,β,I,o.bnd.imp λd1 β1 h x G1 H1 I1 s1 m1 vx=>?_⟩
 have vx:=vx.brw I.boxThere
 cases d1 with
 |int j=>
  obtain rfl:=vx.int
  dsimp only at h
  by_cases hj:Hr j=true
  ·rw[OG hj] at h
   exact⟨j,rfl,(DR hj).1,(DR hj).2,h _ G1 H1 I1 s1 m1 (Cs 0 _)⟩
  ·rw[OP hj] at h;exact h.elim
 |_=>exact h.elim
inductive Tg where
 |nm (i:Nat)
 |two (i j:Nat)
def pairD:D->Option (D×D)
 | .tuple [x,y]=>some (x,y)
 |_=>none
def CG {d x y:D}(h:pairD d=some (x,y)):d=.tuple [x,y]:=by
 unfold pairD at h
 split at h
 ·cases h;rfl
 ·cases h
def ij:Tg->D->En->Option En
 | .nm i,d,env=>some (env.set i (.fz d))
 | .two i j,d,env=>(pairD d).map λp=>(env.set i (.fz p.1)).set j (.fz p.2)
def nY:Tg->D->List Nv->Option (List Nv)
 | .nm i,d,vs=>some (vs.set i (.da d))
 | .two i j,d,vs=>(pairD d).map λp=>(vs.set i (.da p.1)).set j (.da p.2)
def zp (env:En)(i:Nat)(s:Sl):vl (env.set i s)=(vl env).set i s.val:=by unfold vl;rw[List.map_set]
theorem Hi (t:Tg)(d:D)(env:En):(ij t d env).map vl=nY t d (vl env):=by
 cases t with
 |nm i=>show some (vl _)=some _;rw[zp];rfl
 |two i j=>
  show ((pairD d).map _).map vl=(pairD d).map _
  cases pairD d with
  |none=>rfl
  |some p=>show some (vl _)=some _;rw[zp,zp];rfl
def gT (Γ:Fx)(t:Tg):TG:=λv σ H Q=>∃env G B β d env',@H_/\Rp Γ.K G v d/\ij t d env=some env'/\∀σ',SR Γ B G H σ' env' β->Q σ' H
def SG (X:Cx)(Γ:Fx)(tg:Expr)(t:Tg):Prop:=PG X tg (gT Γ t)
def PG.post {X:Cx}{tg:Expr}{t u:TG}(h:PG X tg t)(m:∀v σ H Q,u v σ H Q->t v σ H Q):PG X tg u:=λpins s σ H v uu Q I r q=>h pins s σ H v uu Q I r (m v σ H Q q)
def dz {i:Nat}{x:Str}(hN:X.N.Nodup)(hi:X.N[i]? =some x:=by rfl)(hx:Loc X.env.scope x:=by first |exact Or.inl rfl |exact Or.inr rfl)(hf:X.fn x=true\/X.env.scope.names.lookup x=some .local:=by first |exact .inl rfl |exact .inr rfl |assumption):SG X Γ (.Name x pos) (.nm i):=by
 refine PG.post (dE hN hi hx hf) λv σ H Q ⟨env,G,B,β,d,env',I,r,e,k⟩=>?_
 cases e
 exact k _ (I.set' i r)
theorem dO {i j:Nat}{x y:Str}{px py:Pos}{n:Nat}(hN:X.N.Nodup)(hc:X.calm=true:=by rfl)(hK:X.K=Γ.K:=by rfl)(hi:X.N[i]? =some x:=by rfl)(hj:X.N[j]? =some y:=by rfl)(hx:Loc X.env.scope x:=by first |exact Or.inl rfl |exact Or.inr rfl)(hy:Loc X.env.scope y:=by first |exact Or.inl rfl |exact Or.inr rfl)
  (hf:X.fn x=true\/X.env.scope.names.lookup x=some .local:=by first |exact .inl rfl |exact .inr rfl |assumption) (hf':X.fn y=true\/X.env.scope.names.lookup y=some .local:=by first |exact .inl rfl |exact .inr rfl |assumption):SG X Γ (.Tuple [.Name x px,.Name y py] n pos) (.two i j):=by
 refine PG.post (rZ (n:=2) hc (eQ (dE hN hi hx hf) (eQ (dE hN hj hy hf') nX))) λv σ H Q ⟨env,G,B,β,d,env',I,r,e,k⟩=>?_
 rw[hK]
 have e:(pairD d).map (λp=>(env.set i (.fz p.1)).set j (.fz p.2))=some env':=e
 cases q:pairD d with
 |none=>rw[q] at e;cases e
 |some p=>
  obtain⟨dx,dy⟩:=p
  rw[q] at e
  cases e
  obtain rfl:=CG q
  cases r with
  | @tup p xs _ hq r=>
   cases r with
   |cons r1 r=>
    cases r with
    |cons r2 r=>
     cases r
     exact⟨p,_,rfl,hq.grow I.sub.grow,rfl,_,_,rfl,_,_,rfl,rfl,k _ ((I.set' i r1).set' j r2)⟩
def lU (t:Tg)(m:SF):List D->SF
 | []=>λenv β=>.nx env β
 |d :: ds=>λenv β=>match ij t d env with
  |none=>.bad
  |some env1=>match m env1 β with
   | .nx env2 β2=>lU t m ds env2 β2
   | .ct env2 β2=>lU t m ds env2 β2
   | .bk env2 β2=>.nx env2 β2
   |r=>r
def iO (t:Tg)(L:@IR)(fi:VF (List D))(m:SF):SF:=λenv β=>toS (fi (vl env) β) λds β'=>lU t m ds (aW L env) β'
def ke {t:Tg}{fi:VF (List D)}{x:List Stmt}(hp:PassesOwn @EQ X.A X.env X.xe)(hc:X.calm=true)(hi:SI X Γ E tg e fi L .v)(hg:SG X Γ tg t)(hb:DV X Γ E x m)(hs:∀x,foldedSetIterable e X.env x=pure x:=by intro _;rfl):SS X Γ E (.For tg e x [] pos) (iO t L fi m):=by
 refine PS.post (uO hp hc hi hg hb hs) λN σ H ⟨env,G,B,β,I,o⟩=>?_
 refine⟨env,G,B,β,I,c7 o λds β' q J G' H' I' s' m' w=>?_⟩
 have w:Walk Γ.K B G' (λ_=>none) ds J:=w
 refine⟨λi n σ H=>n=ds.length - i/\i<=ds.length/\∃env G1 B β,SR Γ B G1 H σ env β/\aw G' G1/\sI Γ E G1 N (lU t m (ds.drop i) env β),⟨ds.length,by simp,Pz _,aW L env,G',B,β',I',aw.refl _,by rw[List.drop_zero];exact sI.weak q s'⟩,?_⟩
 rintro i n σ H ⟨rfl,hi,env,G1,B1,β1,I1,s1,q⟩
 obtain⟨w1,w2⟩:=w G1 H i s1 I1.sub ⟨(λb o e=>by cases e),λb o u e=>by cases e⟩
 by_cases hlt:i < ds.length
 ·obtain⟨go,yl⟩:=w1 hlt
  refine .inr ⟨go,λσ H=>∃env G2 B β,SR Γ B G2 H σ env β/\aw G' G2/\sI Γ E G2 N (lU t m (ds.drop (i + 1)) env β),λσ2 H2 h=>⟨ds.length - (i + 1),@AT,rfl,hlt,h⟩,λx H2 y=>?_⟩
  obtain⟨G2,d,x2,ed,rd⟩:=yl x H2 y
  have I2:=I1.ext x2
  have q:=sI.weak q x2.gg
  rw[Rb hlt] at q
  have ed':ds[i]=d:=by rw[OD hlt] at ed;exact Option.some.inj ed
  rw[ed'] at q
  unfold lU at q
  cases eb:ij t d env with
  |none=>rw[eb] at q;exact q.elim
  |some env1=>
   rw[eb] at q
   refine⟨env,G2,B1,β1,d,env1,I2,rd,eb,λσ3 I3=>⟨env1,G2,B1,β1,I3,?_⟩⟩
   have s2:=s1.trans x2.gg
   dsimp only at q
   cases r:m env1 β1 with
   |nx env2 β2=>rw[r] at q;exact λB2 G3 H3 σ2 I2 s3=>⟨env2,G3,B2,β2,I2,s2.trans s3,sI.weak q s3⟩
   |ct env2 β2=>rw[r] at q;exact λB2 G3 H3 σ2 I2 s3=>⟨env2,G3,B2,β2,I2,s2.trans s3,sI.weak q s3⟩
   |bk env2 β2=>rw[r] at q;exact λB2 G3 H3 σ2 I2 s3=>q B2 G3 H3 σ2 I2 s3
   |rt d fr β2=>rw[r] at q;exact q
   |exc c=>rw[r] at q;exact q
   |bad=>rw[r] at q;exact q
 ·have e:i=ds.length:=@AT
  subst e
  rw[drop_length] at q
  exact .inl ⟨w2 (OF _),q B1 G1 H σ I1 (aw.refl _)⟩
end
abbrev Fx.jx (Γ:Fx)(H0 G0:Hp)(par:List Addr)(br:Nat->Bool)(bx:@Is):Fx:=⟨Γ.K,H0,G0,par,Γ.ca,br,bx⟩
def iy (own:Nat)(ixs:@IR)(vs:List Nv):List Nv:=List.replicate own .no ++ ixs.map λi=>(vs[i]?).getD .no
def LA:Option Sl->Sl
 |some (.ow d)=>.br d
 |some s=>s
 |none=>.no
def benv (own:Nat)(ixs:@IR)(env:En):En:=List.replicate own .no ++ ixs.map λi=>LA env[i]?
theorem Hk (o:Option Sl):(LA o).val=(o.map Sl.val).getD .no:=by
 cases o with
 |none=>rfl
 |some s=>cases s <;> rfl
def EZ (own:Nat)(ixs:@IR)(env:En):vl (benv own ixs env)=iy own ixs (vl env):=by
 unfold vl benv iy
 rw[Pn,List.map_replicate,QE]
 congr 1
 refine Qe λi _=>?_
 show (LA env[i]?).val=_
 rw[Hk,OU]
def zh (env:En):Prop:=∀(i:Nat) (d:D),env[i]?≠some (.ow d)
theorem wm {env:En}(h:zh env)(L:@IR):aW L env=env:=by
 unfold aW
 induction L with
 |nil=>rfl
 |cons i L ih=>
  rw[foldl_cons]
  have:iA env i=env:=by
   unfold iA
   split
   ·rename_i d e;exact absurd e (h i d)
   ·rfl
  rw[this];exact ih
def tD (own:Nat)(ixs:@IR)(env:En):zh (benv own ixs env):=λi d e=>by
 unfold benv at e
 have hm:=O0 e
 rcases OT.mp hm with h |h
 ·have:=Qi h;cases this
 ·obtain⟨k,_,hk⟩:=O3.mp h
  cases q:env[k]? with
  |none=>rw[q] at hk;cases hk
  |some s=>rw[q] at hk;cases s <;> cases hk
def rS {env:En}(h:zh env)(i:Nat)(d:D):zh (env.set i (.fz d)):=λj d' e=>by
 by_cases z:i=j
 ·subst z
  by_cases hi:i < env.length
  ·rw[O6 hi] at e;cases e
  ·rw[Qt (@AT)] at e;exact h _ _ e
 ·rw[O2 z] at e;exact h _ _ e
theorem AQ {env env1:En}{t:Tg}{d:D}(h:zh env)(e:ij t d env=some env1):zh env1:=by
 cases t with
 |nm i=>cases e;exact rS h i d
 |two i j=>
  have e:(pairD d).map _=some env1:=e
  cases q:pairD d with
  |none=>rw[q] at e;cases e
  |some p=>rw[q] at e;cases e;exact rS (rS h _ _) _ _
theorem Bn {env env1:En}{t:Tg}{d:D}(e:ij t d env=some env1)(d':D):ij t d' env1=ij t d' env:=by
 cases t with
 |nm i=>cases e;show some _=some _;rw[set_set]
 |two i j=>
  have e:(pairD d).map _=some env1:=e
  cases q:pairD d with
  |none=>rw[q] at e;cases e
  |some p=>
   rw[q] at e;cases e
   show (pairD d').map _=(pairD d').map _
   cases pairD d' with
   |none=>rfl
   |some p'=>
    show some _=some _
    congr 1
    dsimp only
    by_cases z:i=j
    ·subst z;simp[set_set]
    ·rw[List.set_comm _ _ (Ne.symm z),set_set,set_set]
def Ext.mov {G H G' H':Hp}(x:Ext G H G' H')(B:@Is):iL B H H':=x.hh.mov B
section
variable {Γ:Fx}{B:@Is}{G H G1 H1 Gc Hc:Hp}{σ σ':St}{env envb:En}{β β':Int}{own:Nat}{ixs:@IR}{Da:Addr}{acc:List V}
def yh (envb:En):Nat->Bool:=λj=>match envb[j]? with
 |some (.br _)=>true
 |_=>false
def SR.block (I:@H_)(own:Nat)(ixs:@IR)(hD:H Da=none):SR (Γ.jx (upd H Da (.lst [])) G (Da :: B.toList) (yh (benv own ixs env)) B) B G (upd H Da (.lst [])) (dU own ixs σ) (benv own ixs env) β:=by
 obtain⟨q1,q2,q3,q4⟩:=I.fresh hD
 have nB:∀b,B=some b->b≠Da:=λb e z=>q3 (by rw[<-z];exact e)
 refine⟨I.sub.trans (aw.new hD),aw.refl _,λb _ h=>h,λb o h _=>Kt.of h,λb hb=>?_,λb e=>e,λb e=>?_,?_,λi s e=>?_,λi j c d d' e=>absurd e (tD own ixs env i d)⟩
 ·rcases OK.mp hb with z |z
  ·subst z;exact Mx.lst aB
  ·have z':B=some b:=by simpa using z
   exact Mx.lst (by rw[ay (nB b z')];exact (I.box b z').1)
 ·obtain⟨h1,h2,_⟩:=I.box b e
  exact⟨by rw[ay (nB b e)];exact h1,h2,.inl (OQ _ (by simpa using e))⟩
 ·unfold dU benv;simp
 ·by_cases hi:i < own
  ·unfold benv at e
   rw[Pg (by simpa using hi),P0,OG hi] at e
   cases e;trivial
  ·have e0:=e
   unfold benv at e
   rw[Po (by simpa using hi),PL,OU] at e
   cases ek:ixs[i - own]? with
   |none=>rw[ek] at e;cases e
   |some k=>
    rw[ek] at e
    have e:LA env[k]? =s:=Option.some.inj e
    have es:(dU own ixs σ)[i]? =some ((σ[k]?).join):=by
     unfold dU
     rw[Po (by simpa using hi),PL,OU,ek];rfl
    rw[es]
    cases q:env[k]? with
    |none=>rw[q] at e;subst e;trivial
    |some t=>
     rw[q] at e
     have w:=I.slot k t q
     cases t with
     |no=>subst e;trivial
     |fz d=>subst e;obtain⟨v,h1,h2⟩:=w;exact⟨v,by rw[h1];rfl,h2⟩
     |bx=>subst e;obtain⟨a,h1,h2⟩:=w;exact⟨a,by rw[h1];rfl,h2⟩
     |ow d=>
      subst e
      obtain⟨a,h1,h2,h3,h4,h5⟩:=w
      obtain⟨o,ho⟩:=h5.obj
      have aD:a≠Da:=aN ho hD
      refine⟨by show yh _ i=true;unfold yh;rw[e0];rfl,a,by rw[h1];rfl,h4,?_,h5.mono (aw.refl _) λo q=>Kt.of (by rw[ay aD];exact q)⟩
      intro hm
      rcases OK.mp hm with z |z
      ·exact aD z
      ·exact h4 (by simpa using z)
     |br d=>
      subst e
      obtain⟨b1,a,h1,h4,hp,h5⟩:=w
      obtain⟨o,ho⟩:=h5.obj
      have aD:a≠Da:=aN ho hD
      refine⟨by show yh _ i=true;unfold yh;rw[e0];rfl,a,by rw[h1];rfl,h4,?_,h5.mono (aw.refl _) λo q=>Kt.of (by rw[ay aD];exact q)⟩
      intro hm
      rcases OK.mp hm with z |z
      ·exact aD z
      ·exact h4 (by simpa using z)
def SR.unblock (I:@H_){br:Nat->Bool}(hD:H Da=none)(J:SR (Γ.jx (upd H Da (.lst [])) G (Da :: B.toList) br B) B Gc Hc σ' envb β'):SR Γ B Gc Hc σ env β'/\iL B H Hc/\Gc Da=none:=by
 obtain⟨q1,q2,q3,q4⟩:=I.fresh hD
 have up:∀{b:Addr},Mx H b->Mx (upd H Da (.lst [])) b:=λ{b} h=>h.same λo e=>Kt.of (by rw[ay (aN e hD)];exact e)
 have mv0:∀b o,H b=some o->B≠some b->Kt Hc b o:=λb o e n=>J.keep b o (show upd H Da (.lst []) b=some o by rw[ay (aN e hD)];exact e) λhm=>by
  rcases OK.mp hm with z |z
  ·rw[z,hD] at e;cases e
  ·exact n (by simpa using z)
 have mv:iL B H Hc:=⟨mv0,λb o u e=>mv0 b _ e λz=>by rw[(I.box b z).1] at e;cases e⟩
 refine⟨⟨J.sub,I.old.trans J.old,λb h1 h2=>J.new b (up (I.thereM h1)) (I.new b h1 h2),λb o h1 h2=>y6 (I.keep b o h1 h2) mv λz=>?_,λb hb=>J.thereM (up (I.pin b hb)),I.fix,λb e=>?_,I.len,λi s e=>?_,I.sep⟩,mv,J.new Da (Mx.lst (show upd H Da (.lst []) Da=some (.lst []) from aB)) q2⟩
 ·obtain⟨_,_,h3⟩:=I.box b z
  rcases h3 with h3 |h3
  ·exact h2 h3
  ·rw[h1] at h3;cases h3
 ·obtain⟨j1,j2,_⟩:=J.box b e
  exact⟨j1,j2,(I.box b e).2.2⟩
 ·have w:=I.slot i s e
  cases s with
  |no=>trivial
  |fz d=>obtain⟨v,h1,h2⟩:=w;exact⟨v,h1,h2.mono J.old⟩
  |bx=>exact w
  |ow d=>
   obtain⟨a,h1,h2,h3,h4,h5⟩:=w
   exact⟨a,h1,h2,J.new a (up h5.mx) h3,h4,h5.mono J.old λo q=>mv.1 a o q h4⟩
  |br d=>
   obtain⟨b1,a,h1,h4,hp,h5⟩:=w
   exact⟨b1,a,h1,h4,hp,h5.mono J.old λo q=>mv.1 a o q h4⟩
def SR.updD {ys:List V}(J:@H_)(hp:Da∈Γ.par)(h0:Mx Γ.H0 Da)(g0:Γ.G0 Da=none)(hB:B≠some Da):SR Γ B G (upd H Da (.lst ys)) σ env β:=by
 have gD:=J.new Da h0 g0
 have ha:∀x y,H Da≠some (.aW x y):=λx y w=>(J.pin Da hp).2 _ w trivial
 refine⟨λb u q=>my (J.sub b u q) (λz=>by rw[z,gD] at q;cases q) ha,J.old,J.new,λb u q n=>my (J.keep b u q n) (λz=>n (by rw[z];exact hp)) ha,λb hb=>?_,J.fix,λb e=>?_,J.len,λi s e=>?_,J.sep⟩
 ·by_cases z:b=Da
  ·subst z;exact Mx.lst aB
  ·exact (J.pin b hb).same λo e=>Kt.of (by rw[ay z];exact e)
 ·obtain⟨h1,h2⟩:=J.box b e
  exact⟨by rw[ay (λz=>hB (by rw[<-z];exact e))];exact h1,h2⟩
 ·have w:=J.slot i s e
  cases s with
  |no=>trivial
  |fz d=>exact w
  |bx=>exact w
  |ow d=>
   obtain⟨a,h1,h2,h3,h4,h5⟩:=w
   have aD:a≠Da:=λz=>h0.1 (by rw[<-z];exact h2)
   exact⟨a,h1,h2,h3,h4,h5.mono (aw.refl _) λo q=>Kt.of (by rw[ay aD];exact q)⟩
  |br d=>
   obtain⟨b1,a,h1,h4,hpa,h5⟩:=w
   have aD:a≠Da:=λz=>hpa (by rw[z];exact hp)
   exact⟨b1,a,h1,h4,hpa,h5.mono (aw.refl _) λo q=>Kt.of (by rw[ay aD];exact q)⟩
end
def R.okb {α γ:Type}(r:R α)(k:α->Int->R γ):R γ:=match r with
 | .ok a β=>k a β
 |_=>.bad
def iq (t:Tg)(ft:VF Bool)(fe:VF D)(vs:List Nv):List D->Int->R (List D)
 | [],β=>.ok [] β
 |d :: ds,β=>match nY t d vs with
  |none=>.bad
  |some vs1=>(ft vs1 β).okb λc β1=>if c=true then (fe vs1 β1).okb λx β2=>(iq t ft fe vs ds β2).okb λxs β3=>.ok (x :: xs) β3 else iq t ft fe vs ds β1
def aM (own:Nat)(ixs:@IR)(t:Tg)(fi:VF (List D))(ft:VF Bool)(fe:VF D):VF D:=λvs β=>(fi vs β).bnd λds β1=>if ds.length<=sizeLine then (iq t ft fe (iy own ixs vs) ds β1).okb λxs β2=>.ok (.list xs) β2 else .bad
def j0:VF Bool:=λ_ β=>.ok true β
def HE (own:Nat)(ixs Lc:@IR)(j:Nat):Bool:=decide (j < own) || (match ixs[j - own]? with
 |some i=>Lc.contains i
 |none=>false)
theorem E6 {α γ:Type}{Γ:Fx}{E:XK}{r:R α}{k:α->Int->R γ}{P:γ->Int->Prop}(h:Out Γ E (r.okb k) P):∃a β,r=.ok a β/\Out Γ E (k a β) P:=by
 cases r with
 |ok a β=>exact⟨a,β,rfl,h⟩
 |exc c=>exact h.elim
 |bad=>exact h.elim
section
variable {X:Cx}{Γ:Fx}{E:XK}{tg iter elt:Expr}{ifs:List Expr}{scope:Scope}{NB:@IN}{own:Nat}{ixs Li Lc Lt Le:@IR}{t:Tg}{fi:VF (List D)}{ft:VF Bool}{fe:VF D}{pos:Pos}
def cN {X:Cx}{Γ:Fx}{E:XK}:DH X [] (qT Γ E j0 []):=λpins s σ H Q I ⟨env,G,B,β,J,o⟩=>uJ pins s σ H Q I (o G H J (aw.refl _) (iL.refl _ _))
def c5 {X:Cx}{Γ:Fx}{E:XK}{c:Expr}{ta:VF Bool}{L:@IR}(h:zw X Γ E c ta L):DH X [c] (qT Γ E ta L):=zX h
def jq {NB:@IN}{scope:Scope}{C:Addr}{ex:List Addr}{s3:Shared}{H3:Hp}{pn:@C_}{P:Program}{w:World}:Passes (o6 P w) @Ix E0:=λpins σ H s e s' I h=>by
 obtain⟨_,_,_,_,_,_,_,_,_,q⟩:=h
 exact q.elim
abbrev gU (Γ:Fx)(t:Tg):TG:=λv σ H Q=>∃H0 G0 par br bx,gT (Γ.jx H0 G0 par br bx) t v σ H Q
abbrev tU (Γ:Fx)(own:Nat)(ixs Lc:@IR)(ft:VF Bool)(Lt:@IR):TT:=λσ H Q=>∃H0 G0 par br bx,(∀j,HE own ixs Lc j=true->br j=false)/\qT (Γ.jx H0 G0 par br bx) E0 ft Lt σ H Q
abbrev eU (Γ:Fx)(own:Nat)(ixs Lc:@IR)(fe:VF D)(Le:@IR):TE:=λσ H Q=>∃H0 G0 par br bx,(∀j,HE own ixs Lc j=true->br j=false)/\pT (Γ.jx H0 G0 par br bx) E0 fe Le .v σ H Q
def HG {σ:St}{H:Hp}{Q:VK}(hLc:∀i,i∈Lc->Γ.br i=false)(h:pT Γ E (aM own ixs t fi ft fe) (Li ++ Lc) .w σ H Q):yj own ixs (iT Γ E fi Li .b) (gU Γ t) (tU Γ own ixs Lc ft Lt) (eU Γ own ixs Lc fe Le) σ H Q:=by
 obtain⟨env,G,B,β,I,o⟩:=h
 refine⟨env,G,B,β,I,o.bnd.imp λds β1 h J G1 H1 I1 s1 m1 wk Da hD=>?_⟩
 have wk:Walk Γ.K B G1 H1 ds J:=wk
 by_cases hz:ds.length<=sizeLine
 case neg=>rw[OP hz] at h;exact h.elim
 rw[OG hz] at h
 obtain⟨xs0,β0,e0,h⟩:=E6 h
 have h:∀v G' H',SR Γ B G' H' σ (aW (Li ++ Lc) env) β0->aw G G'->iL B H H'->VO Γ.K B H G' H' .w (.list xs0) v->Q v H':=h
 obtain⟨G2,I2,s2⟩:=I1.aW Lc hLc
 rw[<-cy] at I2
 obtain⟨q1,q2,q3,q4⟩:=I2.fresh hD
 have Ib0:=I2.block own ixs hD
 generalize hbr:yh (benv own ixs (aW (Li ++ Lc) env))=br at Ib0
 have hbo:∀j,HE own ixs Lc j=true->br j=false:=by
  intro j hj
  rw[<-hbr]
  unfold yh
  split
  ·rename_i d e
   exfalso
   unfold benv at e
   by_cases hjo:j < own
   ·rw[Pg (by simpa using hjo),P0,OG hjo] at e;cases e
   ·rw[Po (by simpa using hjo),PL,OU] at e
    unfold HE at hj
    rw[OR hjo,Bool.false_or] at hj
    cases ek:ixs[j - own]? with
    |none=>rw[ek] at hj;cases hj
    |some k=>
     rw[ek] at hj e
     have hk:k∈Lc:=by simpa using hj
     have e:LA (aW (Li ++ Lc) env)[k]? =.br d:=Option.some.inj e
     cases q:(aW (Li ++ Lc) env)[k]? with
     |none=>rw[q] at e;cases e
     |some s=>
      rw[q] at e
      cases s with
      |no=>cases e
      |fz _=>cases e
      |bx=>cases e
      |br d'=>
       obtain⟨b1,_⟩:=I2.slot k _ q
       rw[hLc k hk] at b1;cases b1
      |ow d'=>
       rw[cy] at q
       have key:∀(M:@IR) (en:En),k∈M->∀d',(aW M en)[k]?≠some (.ow d'):=by
        intro M
        induction M with
        |nil=>intro en hm;cases hm
        |cons i M ih=>
         intro en hm d' z
         rcases OK.mp hm with y |y
         ·subst y
          have z1:(iA en k)[k]? =some (.ow d'):=qO (L:=M) z
          have z2:=vA z1
          unfold iA at z1
          rw[z2] at z1
          dsimp only at z1
          rw[O6 (OO.mp z2).1] at z1;cases z1
         ·exact ih (iA en i) y d' z
       exact key Lc _ hk d' q
  ·rfl
 have evb:vl (benv own ixs (aW (Li ++ Lc) env))=iy own ixs (vl env):=by rw[EZ,dQ]
 refine⟨λi n σ' H'=>n=ds.length - i/\i<=ds.length/\∃envb Gc β' acc accd,SR (Γ.jx (upd H1 Da (.lst [])) G2 (Da :: B.toList) br B) B Gc H' σ' envb β'/\(envb=benv own ixs (aW (Li ++ Lc) env)\/∃d,ij t d (benv own ixs (aW (Li ++ Lc) env))=some envb)/\
   H' Da=some (.lst acc)/\cz Γ.K Gc acc accd/\accd.length<=i/\∃xs,iq t ft fe (iy own ixs (vl env)) (ds.drop i) β'=.ok xs β0/\accd ++ xs=xs0,
  ⟨ds.length,by simp,Pz _,_,G2,β1,[],[],Ib0,.inl rfl,aB,.nil,Pz _,xs0,by rw[List.drop_zero];exact e0,rfl⟩,?_⟩
 rintro i n σ' H' ⟨rfl,hi',envb,Gc,β',acc,accd,Ib,eb,hacc,racc,lacc,xs,ec,exs⟩
 obtain⟨Io,mv,gD⟩:=I2.unblock hD Ib
 obtain⟨w1,w2⟩:=wk Gc H' i (s2.trans Ib.old) Ib.sub mv
 by_cases hlt:i < ds.length
 ·obtain⟨go,yl⟩:=w1 hlt
  refine .inr ⟨go,λσ' H'=>∃envb Gc β' acc accd,SR (Γ.jx (upd H1 Da (.lst [])) G2 (Da :: B.toList) br B) B Gc H' σ' envb β'/\(envb=benv own ixs (aW (Li ++ Lc) env)\/∃d,ij t d (benv own ixs (aW (Li ++ Lc) env))=some envb)/\
   H' Da=some (.lst acc)/\cz Γ.K Gc acc accd/\accd.length<=i + 1/\∃xs,iq t ft fe (iy own ixs (vl env)) (ds.drop (i + 1)) β'=.ok xs β0/\accd ++ xs=xs0,λσ2 H2 hh=>⟨ds.length - (i + 1),@AT,rfl,hlt,hh⟩,λx H2 y=>?_⟩
  obtain⟨G3,d,x3,ed,rd⟩:=yl x H2 y
  have I3:=Ib.ext x3
  have ed':ds[i]=d:=by rw[OD hlt] at ed;exact Option.some.inj ed
  rw[Rb hlt,ed'] at ec
  unfold iq at ec
  cases ebv:nY t d (iy own ixs (vl env)) with
  |none=>rw[ebv] at ec;cases ec
  |some vs1=>
   rw[ebv] at ec
   dsimp only at ec
   obtain⟨env1,eb1,ev1⟩:∃env1,ij t d (benv own ixs (aW (Li ++ Lc) env))=some env1/\vl env1=vs1:=by
    have:=Hi t d (benv own ixs (aW (Li ++ Lc) env))
    rw[evb,ebv] at this
    cases q:ij t d (benv own ixs (aW (Li ++ Lc) env)) with
    |none=>rw[q] at this;cases this
    |some env1=>rw[q] at this;exact⟨env1,rfl,Option.some.inj this⟩
   have eb2:ij t d envb=some env1:=by
    rcases eb with rfl | ⟨d0,eb⟩
    ·exact eb1
    ·rw[Bn eb];exact eb1
   have no1:zh env1:=AQ (tD _ _ _) eb1
   have a2:H2 Da=some (.lst acc):=x3.hh _ _ hacc
   refine⟨_,_,_,_,_,envb,G3,B,β',d,env1,I3,rd,eb2,λσ3 I4=>?_⟩
   refine⟨_,_,_,_,_,hbo,env1,G3,B,β',I4,?_⟩
   rw[ev1]
   cases et:ft vs1 β' with
   |exc c=>rw[et] at ec;cases ec
   |bad=>rw[et] at ec;cases ec
   |ok c β2=>
    rw[et] at ec
    intro G4 H4 I5 s4 m4
    rw[wm no1] at I5
    have a4:H4 Da=some (.lst acc):=m4.1 _ _ a2 q3
    cases c with
    |false=>
     refine pX ⟨env1,G4,β2,acc,accd,I5,.inr ⟨d,eb1⟩,a4,racc.mono (x3.gg.trans s4),@AT,xs,?_,exs⟩
     exact ec
    |true=>
     refine pS ⟨_,_,_,_,_,hbo,env1,G4,B,β2,I5,?_⟩
     rw[ev1]
     have ec:((fe vs1 β2).okb λx β3=>(iq t ft fe (iy own ixs (vl env)) (ds.drop (i + 1)) β3).okb λxs β4=>R.ok (x :: xs) β4)=R.ok xs β0:=ec
     cases ee:fe vs1 β2 with
     |exc c=>rw[ee] at ec;cases ec
     |bad=>rw[ee] at ec;cases ec
     |ok dx β3=>
      rw[ee] at ec
      intro v G5 H5 I6 s5 m5 vo
      rw[wm no1] at I6
      have a5:H5 Da=some (.lst acc):=m5.1 _ _ a4 q3
      have ec:((iq t ft fe (iy own ixs (vl env)) (ds.drop (i + 1)) β3).okb λxs β4=>R.ok (dx :: xs) β4)=R.ok xs β0:=ec
      cases er:iq t ft fe (iy own ixs (vl env)) (ds.drop (i + 1)) β3 with
      |exc c=>rw[er] at ec;cases ec
      |bad=>rw[er] at ec;cases ec
      |ok ys β4=>
       rw[er] at ec
       cases ec
       refine⟨acc,a5,by rw[racc.len];omega,env1,G5,β3,acc ++ [v],accd ++ [dx],?_,.inr ⟨d,eb1⟩,aB,(racc.mono ((x3.gg.trans s4).trans s5)).snoc vo,by rw[O9];simp;omega,ys,er,by rw[<-exs,Qu];rfl⟩
       refine I6.updD (ON ..) (Mx.lst (show upd H1 Da (.lst []) Da=some (.lst []) from aB)) (I2.sub.free hD) q3
 ·have e:i=ds.length:=@AT
  subst e
  rw[drop_length] at ec
  cases ec
  rw[Qs] at exs
  subst exs
  refine .inl ⟨w2 (OF _),⟨acc,hacc⟩,h _ Gc H' Io ((s1.trans s2).trans Ib.old) (m1.trans mv) ⟨Da,rfl,fK m1 I1.boxThere hD,gD,acc,hacc,racc⟩⟩
def bU (hg:∀H0 G0 par br bx C ex s3 H3 pn,SG @Ix (Γ.jx H0 G0 par br bx) tg t)(C:Addr)(ex:List Addr)(s3:Shared)(H3:Hp)(pn:@C_):PG @Ix tg (gU Γ t):=by
 rintro pins s σ H v u Q I r ⟨H0,G0,par,br,bx,q⟩
 exact hg H0 G0 par br bx C ex s3 H3 pn pins s σ H v u Q I r q
def bO (Lc:@IR)(hc:X.calm=true)(S:cj X NB own ixs scope)(hLc:∀i,i∈Lc->Γ.br i=false)(hi:SI X Γ E tg iter fi Li .b)
  (hg:∀H0 G0 par br bx C ex s3 H3 pn,SG @Ix (Γ.jx H0 G0 par br bx) tg t)
  (ht:∀H0 G0 par br bx C ex s3 H3 pn,(∀j,HE own ixs Lc j=true->br j=false)->DH @Ix ifs (qT (Γ.jx H0 G0 par br bx) E0 ft Lt))
  (he:∀H0 G0 par br bx C ex s3 H3 pn,(∀j,HE own ixs Lc j=true->br j=false)->SE @Ix (Γ.jx H0 G0 par br bx) E0 elt fe Le .v)
  (hs:∀x,foldedSetIterable iter X.env x=pure x:=by intro _;rfl) :
  SE X Γ E (.ListComp elt [⟨tg,iter,ifs,0⟩] scope pos) (aM own ixs t fi ft fe) (Li ++ Lc) .w:=by
 refine PE.post' (xl (g:=gU Γ t) (tt:=tU Γ own ixs Lc ft Lt) (te:=eU Γ own ixs Lc fe Le) hc S hi (bU hg) (λC ex s3 H3 pn=>?_) (λC ex s3 H3 pn=>?_) hs) λσ H Q h=>HG hLc h
 ·rintro pins s σ H Q I ⟨H0,G0,par,br,bx,b,q⟩
  exact ht H0 G0 par br bx C ex s3 H3 pn b pins s σ H Q I q
 ·rintro pins s σ H Q I ⟨H0,G0,par,br,bx,b,q⟩
  exact he H0 G0 par br bx C ex s3 H3 pn b pins s σ H Q I q
def mE {i:Nat}{y:Str}{py spos:Pos}(Lc:@IR)(hc:X.calm=true)(S:cj X NB own ixs scope)(hLc:∀i,i∈Lc->Γ.br i=false)(hi:SI X Γ E tg iter fi Li .b)
  (hg:∀H0 G0 par br bx C ex s3 H3 pn,SG @Ix (Γ.jx H0 G0 par br bx) tg t)
  (ht:∀H0 G0 par br bx C ex s3 H3 pn,(∀j,HE own ixs Lc j=true->br j=false)->DH @Ix ifs (qT (Γ.jx H0 G0 par br bx) E0 ft Lt))
  (he:∀H0 G0 par br bx C ex s3 H3 pn,(∀j,HE own ixs Lc j=true->br j=false)->SE @Ix (Γ.jx H0 G0 par br bx) E0 elt fe Le .v)
  (hN:X.N.Nodup) (hy:X.N[i]? =some y:=by rfl) (hl:X.env.scope.names.lookup y=some .local:=by rfl)
  (hsw:swapsWith (.ListComp elt [⟨tg,iter,ifs,0⟩] scope pos) (some (.Name y py)) spos.line X.env=pure true:=by rfl)
  (hs:∀x,foldedSetIterable iter X.env x=pure x:=by intro _;rfl) :
  SS X Γ E (.Assign [.Name y py] (.ListComp elt [⟨tg,iter,ifs,0⟩] scope pos) spos) (bR i (Li ++ Lc) (aM own ixs t fi ft fe)):=by
 refine PS.post (Es (g:=gU Γ t) (tt:=tU Γ own ixs Lc ft Lt) (te:=eU Γ own ixs Lc fe Le) hc S hi (bU hg) (λC ex s3 H3 pn=>?_) (λC ex s3 H3 pn=>?_) hN hy hl hsw hs) λN σ H ⟨env,G,B,β,I,o⟩=>?_
 ·rintro pins s σ H Q I ⟨H0,G0,par,br,bx,b,q⟩
  exact ht H0 G0 par br bx C ex s3 H3 pn b pins s σ H Q I q
 ·rintro pins s σ H Q I ⟨H0,G0,par,br,bx,b,q⟩
  exact he H0 G0 par br bx C ex s3 H3 pn b pins s σ H Q I q
 refine HG hLc ⟨env,G,B,β,I,c7 o λd β' k v G' H' I' s' m' vo=>?_⟩
 obtain⟨G2,I2,s2,r⟩:=I.letW I' vo
 exact k B G2 H' _ (I2.set' i r) (s'.trans s2)
end
def fin:SO->FR
 | .nx _ _=>.ok .none false
 | .rt d fr _=>.ok d fr
 | .exc c=>.exc c
 |_=>.bad
def yA (n:Nat)(ds:List D):En:=ds.map Sl.fz ++ List.replicate (n - ds.length) .no
def aS (n p:Nat)(m:SF):@Cl:=λds=>if ds.length=p then fin (m (yA n ds) 0) else .bad
abbrev Fx.fn (K:Frag)(H G:Hp)(ca:Str->Addr):Fx:=⟨K,H,G,[],ca,λ_=>false,none⟩
def SR.start {K:Frag}{H G:Hp}{ca:Str->Addr}{N:@IN}{vs:List V}{ds:List D}(s:aw G H)(r:cz K G vs ds)(hn:ds.length<=N.length):SR (Fx.fn K H G ca) none G H (start N vs) (yA N.length ds) 0:=by
 have hl:=r.len
 refine⟨s,aw.refl _,λb _ h=>h,λb o h _=>Kt.of h,λb h=>(by cases h),λb h=>(by cases h),λb h=>(by cases h),?_,λi t e=>?_,λi j a d e h=>?_⟩
 ·unfold L2.start yA;simp;omega
 ·unfold yA at e
  by_cases hi:i < ds.length
  ·rw[Pg (by simpa using hi),OU,OD hi] at e
   cases e
   obtain⟨x,hx,rx⟩:=r.at (OD hi)
   refine⟨x,?_,rx⟩
   unfold L2.start
   rw[Pg (by simpa[hl] using hi),OU,hx];rfl
  ·rw[Po (by simpa using hi),P0] at e
   split at e
   ·cases e;trivial
   ·cases e
 ·unfold yA at h
  have hm:=O0 h
  rcases OT.mp hm with z |z
  ·obtain⟨_,_,z⟩:=O3.mp z;cases z
  ·have:=Qi z;cases this
section
variable {P:Program}{w:World}{K:Frag}{mg:@FS}{base:Heap}{ca:Str->Addr}
def aR {x qual:Str}{st:Stmt}{f:Addr}{fd:FuncData}{N ps:@IN}{k:Nat}{m:SF}(F:Ca K x qual st f fd)(S:aF N ps (ao st))
  (hbody:∀(cdv:Value) (A:Around) (outer:List Env) (s:Shared) (H G:Hp) (E:XK),eG k (A.deeper (envOfC qual (ao st) s.heap.objs.size f cdv))->DV (pM (o6 P w) P w K mg base N qual (ao st) f cdv A outer s H E) (Fx.fn K H G ca) E (c3 st) m) :
  fM P w K mg base (o6 P w) (k + 1) f fd ps (Gh K ca ps.length (aS N.length ps.length m)):=by
 have hpn:ps.length<=N.length:=by have:=congrArg List.length S.pre;rw[PH] at this;omega
 refine F.Hr S (λvs H Q E h=>?_) (λcdv A outer s H vs Q E hr h=>?_)
 ·obtain⟨G,ds,sG,hl,r,_⟩:=h
  rw[r.len];exact hl
 ·obtain⟨G,ds,sG,hl,r,h⟩:=h
  refine⟨_,hbody cdv A outer s H G E hr,?_⟩
  have I:=SR.start (ca:=ca) (N:=N) sG r (@AT)
  refine⟨_,G,none,0,I,?_⟩
  unfold aS at h
  rw[OG hl] at h
  have fin':∀{B G' H' σ env β},SR (Fx.fn K H G ca) B G' H' σ env β->aw H H':=λJ b o e=>J.keep b o e (λz=>by cases z)
  cases q:m (yA N.length ds) 0 with
  |nx env β=>rw[q] at h;exact λB G' H' σ J s'=>h .non G' H' (fin' J) s' J.sub (λb h1 h2=>J.new b h1 h2) Rp.non
  |bk env β=>rw[q] at h;exact h.elim
  |ct env β=>rw[q] at h;exact h.elim
  |rt d fr β=>
   rw[q] at h
   refine λB G' H' σ env v J s' rv=>h v G' H' (fin' J) s' J.sub (λb h1 h2=>J.new b h1 h2) ?_
   cases fr with
   |true=>exact rv
   |false=>exact rv
  |exc c=>rw[q] at h;exact λH' kp=>h H' λb o e=>kp b o e (λz=>by cases z)
  |bad=>rw[q] at h;exact h.elim
def Hg {n:Nat}{F F':@Cl}(h:∀ds,ds.length=n->F' ds≠.bad->F ds=F' ds){vs:List V}{H:Hp}{Q:VK}{E:XK}(q:Gh K ca n F' vs H Q E):Gh K ca n F vs H Q E:=by
 obtain⟨G,ds,s,hl,r,q⟩:=q
 refine⟨G,ds,s,hl,r,?_⟩
 by_cases hb:F' ds=.bad
 ·rw[hb] at q;exact q.elim
 ·rw[h ds hl hb];exact q
def bZ.imp {x:Str}{ps:@IN}{k:Nat}{F F':@Cl}(h:bZ P w K mg base ca x ps k F)(i:∀ds,F' ds≠.bad->F ds=F' ds):bZ P w K mg base ca x ps k F':=by
 obtain⟨f,fd,a,b,c,d⟩:=h.ex
 exact⟨⟨f,fd,a,b,c,d.imp λvs H Q E q=>Hg (λds _=>i ds) q⟩,λds hn=>h.len ds (by rw[i ds hn];exact hn)⟩
def aH {n p:Nat}{m:SF}(ds:List D)(h:aS n p m ds≠.bad):ds.length=p:=by
 unfold aS at h
 by_cases hl:ds.length=p
 ·exact hl
 ·rw[OP hl] at h;exact absurd rfl h
end
section
variable {X:Cx}{Γ:Fx}{E:XK}{e a b c:Expr}{f fa fb:VF D}{L La Lb:@IR}{md ma mb:Md}{pos apos cpos np:Pos}
def rq:Option Sl->Bool
 |some (.ow (.list _))=>true
 |_=>false
theorem nZ {o:Option Sl}(h:rq o=true):∃ds,o=some (.ow (.list ds)):=by
 cases o with
 |none=>cases h
 |some s=>
  cases s with
  |ow d=>cases d with
   |list ds=>exact⟨ds,rfl⟩
   |_=>cases h
  |_=>cases h
def HA (i:Nat)(env:En)(β:Int)(g:List D->Option (List D)):SO:=match env[i]? with
 |some (.ow (.list ds))=>(match g ds with
  |some es=>.nx (env.set i (.ow (.list es))) β
  |none=>.bad)
 |_=>.bad
def nC (i:Nat)(L:@IR)(f:VF D):SF:=λenv β=>if rq env[i]? =true then toS (f (vl env) β) λd β'=>HA i (aW L env) β' λds=>if ds.length < sizeLine then some (ds ++ [d]) else none else .bad
def qc {Γ:Fx}{E:XK}{G:Hp}{N:Ends}{i:Nat}{env:En}{β:Int}{g:List D->Option (List D)}(h:sI Γ E G N (HA i env β g)):∃ds es,env[i]? =some (.ow (.list ds))/\g ds=some es/\sI Γ E G N (.nx (env.set i (.ow (.list es))) β):=by
 unfold HA at h
 split at h
 ·rename_i ds q
  cases e:g ds with
  |none=>rw[e] at h;exact h.elim
  |some es=>rw[e] at h;exact⟨ds,es,q,e,h⟩
 ·exact h.elim
def kF (i:Nat){x:Str}(hb:∀j,Γ.br j=false)(he:SE X Γ E e f L .v)(hN:X.N[i]? =some x:=by rfl)(hv:An X.env.scope x:=by first |exact Or.inl rfl |exact Or.inr (Or.inl rfl) |exact Or.inr (Or.inr rfl))(hd:@G_:=by decide)
  (hcd:(x == ("__classdict__":Str))=false:=by decide)
  (hbase:attributeBase (.Name x np) "append" X.env (eval (.Name x np) X.env)=eval (.Name x np) X.env:=by rfl)
  (hfew:((backTo cpos (starEach [e] X.env)).all (λx=> !x.1) && (backToKw cpos (keywordEach [] X.env)).all (λx=>x.1.isSome)
   && decide ([e].length + ([]:List Keyword).length + (if ([]:List Keyword).isEmpty then 0 else 1) < 30))=true:=by rfl)
  (hline:(apos.endLine == cpos.line)=true:=by rfl) (hs:starEach [e] X.env=(false,eval e X.env) :: starEach [] X.env:=by rfl)
  (hsw:swapsWith (.Call (.Attribute (.Name x np) "append" apos) [e] [] cpos) none pos.line X.env=pure false:=by rfl) :
  SS X Γ E (.Expr (.Call (.Attribute (.Name x np) "append" apos) [e] [] cpos) pos) (nC i L f):=by
 refine PS.post (ql (Ah QQ PySem.F.slot_list_append PySem.F.type_list_append o7 (km hN hv hd hcd) (a9 he b9 hs) hbase hfew hline hs rfl) hsw) λN σ H ⟨env,G,B,β,I,o⟩=>?_
 unfold nC at o
 by_cases hO:rq env[i]? =true
 case neg=>rw[OP hO] at o;exact o.elim
 rw[OG hO] at o
 obtain⟨ds0,q0⟩:=nZ hO
 obtain⟨p,h1,_,_,_,xs,h5,_⟩:=I.slot i _ q0
 refine⟨_,h1,.inl ⟨rfl,xs,.inl (.inl h5)⟩,?_⟩
 refine⟨env,G,B,β,I,c7 o λd β' k v G' H' I' s' m' vo=>?_⟩
 obtain⟨ds,es,q,eg,k⟩:=qc k
 by_cases hz:ds.length < sizeLine
 case neg=>rw[OP hz] at eg;cases eg
 rw[OG hz] at eg
 cases eg
 obtain⟨p',g1,_,_,_,ys,g5,g6⟩:=I'.slot i _ q
 rw[h1] at g1;cases g1
 refine⟨p,ys,v,rfl,rfl,g5,by rw[g6.len];exact hz,?_⟩
 exact k B G' _ σ (I'.write hb q h1 λH2 e2 s2=>⟨_,e2,g6.snoc vo⟩) s'
def Mk:V->List V->Hp->VK->Prop:=λx vs H Q=>∃l b xs zs,x=.ref l/\vs= [.ref b]/\H l=some (.lst xs)/\Rd H b (.lst zs)/\xs.length + zs.length<=sizeLine/\Q .non (upd H l (.lst (xs ++ zs)))
def Inv.lstR {pins:@C_}{σ:St}{H:Hp}{s:Shared}{l:Addr}{xs:List V}(I:@B_)(hH:Rd H l (.lst xs)):xs.length<=sizeLine/\∃(its:@GT) (n:Nat),Vals xs its/\xs.length=its.length/\s.heap.get? l=some {cls:=.type "list",data:=.seq its.toArray n}:=by
 obtain⟨z,its,n,r,e⟩:=hH.ok I.hok
 exact⟨z,its,n,r,r.length,e⟩
def GA:KG X "list.extend" Mk:=by
 intro pins s σ H x vs v us Q I rx rv h
 obtain⟨l,b,xs,zs,rfl,rfl,hH,hB,hz,q⟩:=h
 cases rx
 obtain⟨u,rfl,ru⟩:=rv.one
 cases ru
 obtain⟨z,its,n,r,hl,e⟩:=I.lstM hH
 obtain⟨z2,its2,n2,r2,hl2,e2⟩:=I.lstR hB
 have hsz:its.toArray.size + its2.toArray.size<=sizeLine:=by rw[OX,OX];omega
 have hlong:¬(!its.toArray.isEmpty && Builtin.List.listTooLong (its.toArray.size + its2.toArray.size))=true:=by
  rw[xP hsz,Bool.and_false]
  exact OZ
 refine call_meets F.slot_list_extend ⟨_,e,rfl⟩ F.entry_list_extend (F.args_list_extend_2 _ _)
  (AutoSeq1.list_extend_list_list_0 l its.toArray n b its2.toArray n2 hlong (by rw[OX];omega) (@AT)) ⟨e,e2,?_⟩
 refine⟨.non,_,I.lset (its':=its ++ its2) hH e (by simp) (r.append r2) ?_,rfl,q⟩
 rw[O9]
 omega
def BQ (i:Nat)(L:@IR)(f:VF D):SF:=λenv β=>if rq env[i]? =true then toS (f (vl env) β) λd β'=>HA i (aW L env) β' λds=>match d with
 | .list es=>if ds.length + es.length<=sizeLine then some (ds ++ es) else none
 |_=>none else .bad
theorem BE (i:Nat){x:Str}(hb:∀j,Γ.br j=false)(he:SE X Γ E e f L md)(hN:X.N[i]? =some x:=by rfl)(hv:An X.env.scope x:=by first |exact Or.inl rfl |exact Or.inr (Or.inl rfl) |exact Or.inr (Or.inr rfl))(hd:@G_:=by decide)
  (hcd:(x == ("__classdict__":Str))=false:=by decide)
  (hbase:attributeBase (.Name x np) "extend" X.env (eval (.Name x np) X.env)=eval (.Name x np) X.env:=by rfl)
  (hfew:((backTo cpos (starEach [e] X.env)).all (λx=> !x.1) && (backToKw cpos (keywordEach [] X.env)).all (λx=>x.1.isSome)
   && decide ([e].length + ([]:List Keyword).length + (if ([]:List Keyword).isEmpty then 0 else 1) < 30))=true:=by rfl)
  (hline:(apos.endLine == cpos.line)=true:=by rfl) (hs:starEach [e] X.env=(false,eval e X.env) :: starEach [] X.env:=by rfl)
  (hsw:swapsWith (.Call (.Attribute (.Name x np) "extend" apos) [e] [] cpos) none pos.line X.env=pure false:=by rfl) :
  SS X Γ E (.Expr (.Call (.Attribute (.Name x np) "extend" apos) [e] [] cpos) pos) (BQ i L f):=by
 refine PS.post (ql (Ah QQ PySem.F.slot_list_extend PySem.F.type_list_extend GA (km hN hv hd hcd) (a9 he b9 hs) hbase hfew hline hs rfl) hsw) λN σ H ⟨env,G,B,β,I,o⟩=>?_
 unfold BQ at o
 by_cases hO:rq env[i]? =true
 case neg=>rw[OP hO] at o;exact o.elim
 rw[OG hO] at o
 obtain⟨ds0,q0⟩:=nZ hO
 obtain⟨p,h1,_,_,_,xs,h5,_⟩:=I.slot i _ q0
 refine⟨_,h1,.inl ⟨rfl,xs,.inl (.inl h5)⟩,?_⟩
 refine⟨env,G,B,β,I,c7 o λd β' k v G' H' I' s' m' vo=>?_⟩
 obtain⟨ds,es,q,eg,k⟩:=qc k
 cases d with
 |list fs=>
  dsimp only at eg
  by_cases hz:ds.length + fs.length<=sizeLine
  case neg=>rw[OP hz] at eg;cases eg
  rw[OG hz] at eg
  cases eg
  obtain⟨p',g1,_,_,_,ys,g5,g6⟩:=I'.slot i _ q
  rw[h1] at g1;cases g1
  obtain⟨pb,zs,rfl,hq,rz⟩:=(vo.brw I.boxThere).list I'.sub
  refine⟨p,pb,ys,zs,rfl,rfl,g5,hq,by rw[g6.len,rz.len];exact hz,?_⟩
  exact k B G' _ σ (I'.write hb q h1 λH2 e2 s2=>⟨_,e2,g6.append rz⟩) s'
 |_=>cases eg
def rb (i:Nat)(Le Li:@IR)(fe fi:VF D):SF:=λenv β=>toS (fe (vl env) β) λd β1=>if rq (aW Le env)[i]? =true then toS (fi (vl env) β1) λk β2=>HA i (aW (Le ++ Li) env) β2 λds=>match k with
 | .int j=>(uF ds.length j).map λn=>ds.set n d
 |_=>none else .bad
theorem zZ (i:Nat){x:Str}{spos:Pos}(hb:∀j,Γ.br j=false)(he:SE X Γ E e f La .v)(hi:SE X Γ E a fa Lb mb)(hN:X.N[i]? =some x:=by rfl)(hv:An X.env.scope x:=by first |exact Or.inl rfl |exact Or.inr (Or.inl rfl) |exact Or.inr (Or.inr rfl))(hd:@G_:=by decide)
  (hcd:(x == ("__classdict__":Str))=false:=by decide)
  (hA:∀v,assign (.Subscript (.Name x np) a spos) X.env v=(do
   let ov <-holding [v] (eval (.Name x np) X.env)
   let iv <-holding [v,ov] (eval a X.env)
   standAt spos
   holding [v,ov,iv] (setItem ov iv v)
   release [v,ov,iv] []):=by intro _;rfl)
  (hs:swapsWithSole [.Subscript (.Name x np) a spos] e pos.line X.env=pure false:=by rfl) (hw:swappedStores [.Subscript (.Name x np) a spos] e X.env=pure none:=by rfl)
  (h1:(assignEach [.Subscript (.Name x np) a spos] X.env).map (·.2)= [assign (.Subscript (.Name x np) a spos) X.env]:=by rfl) :
  SS X Γ E (.Assign [.Subscript (.Name x np) a spos] e pos) (rb i La Lb f fa):=by
 refine PS.post (rG he (vg (km hN hv hd hcd) hi set_list hA) hs hw h1) λN σ H ⟨env,G,B,β,I,o⟩=>?_
 refine⟨env,G,B,β,I,c7 o λd β1 o v G1 H1 I1 s1 m1 vo=>?_⟩
 by_cases hO:rq (aW La env)[i]? =true
 case neg=>rw[OP hO] at o;exact o.elim
 rw[OG hO] at o
 obtain⟨ds0,q0⟩:=nZ hO
 obtain⟨p,h1,_,_,_,xs,h5,_⟩:=I1.slot i _ q0
 refine⟨_,h1,aW La env,G1,B,β1,I1,?_⟩
 rw[dQ]
 refine c7 o λk β2 o w G2 H2 I2 s2 m2 vi=>?_
 rw[<-cy] at I2
 obtain⟨ds,es,q,eg,o⟩:=qc o
 cases k with
 |int j=>
  dsimp only at eg
  obtain rfl:=(vi.brw I1.boxThere).int
  obtain⟨p',g1,_,_,_,ys,g5,g6⟩:=I2.slot i _ q
  rw[h1] at g1;cases g1
  cases en:uF ds.length j with
  |none=>rw[en] at eg;cases eg
  |some n=>
   rw[en] at eg
   cases eg
   have vo:Rp Γ.K G1 v d:=vo
   refine⟨p,ys,j,n,rfl,rfl,g5,by rw[g6.len];exact en,?_⟩
   exact o B G2 _ σ (I2.write hb q h1 λH3 e3 s3=>⟨_,e3,g6.set (vo.mono s2) n⟩) (s1.trans s2)
 |_=>cases eg
end
section
variable {K:Frag}{X:Cx}
def rK {g:Int->Int->V}{gd:D->D->Option D}(h:∀dx dy d,gd dx dy=some d->∃i j,dx=.int i/\dy=.int j/\∀G,Rp K G (g i j) d):oB K (xF g) gd .v:=by
 intro B G H x y dx dy d Q s hB bx by' e k
 obtain⟨i,j,rfl,rfl,r⟩:=h _ _ _ e
 obtain rfl:=bx.int
 obtain rfl:=by'.int
 exact⟨i,j,rfl,rfl,k _ G H (Ext.refl s) (r G)⟩
def AA {C:Int->Int->Prop}{g:Int->Int->V}{gd:D->D->Option D}(h:∀dx dy d,gd dx dy=some d->∃i j,dx=.int i/\dy=.int j/\C i j/\∀G,Rp K G (g i j) d):oB K (rI C g) gd .v:=by
 intro B G H x y dx dy d Q s hB bx by' e k
 obtain⟨i,j,rfl,rfl,c,r⟩:=h _ _ _ e
 obtain rfl:=bx.int
 obtain rfl:=by'.int
 exact⟨i,j,rfl,rfl,c,k _ G H (Ext.refl s) (r G)⟩
def gI (c:Int->Int->Bool)(g:Int->Int->D):D->D->Option D
 | .int i,.int j=>if c i j=true then some (g i j) else none
 |_,_=>none
def Fp (g:Int->Int->D):D->D->Option D
 | .int i,.int j=>some (g i j)
 |_,_=>none
def zR {c:Int->Int->Bool}{g:Int->Int->D}{dx dy d:D}(h:gI c g dx dy=some d):∃i j,dx=.int i/\dy=.int j/\c i j=true/\d=g i j:=by
 unfold gI at h
 split at h
 ·split at h
  ·cases h;exact⟨_,_,rfl,rfl,by assumption,rfl⟩
  ·cases h
 ·cases h
def nu {g:Int->Int->D}{dx dy d:D}(h:Fp g dx dy=some d):∃i j,dx=.int i/\dy=.int j/\d=g i j:=by
 unfold Fp at h
 split at h
 ·cases h;exact⟨_,_,rfl,rfl,rfl⟩
 ·cases h
def qX:D->D->Option D:=Fp λi j=>.int (i - j)
def DB:oB K (xF λi j=>.int (i - j)) qX .v:=rK λdx dy d h=>by obtain⟨i,j,rfl,rfl,rfl⟩:=nu h;exact⟨i,j,rfl,rfl,λ_=>.int _⟩
def Ic:D->D->Option D:=gI (λ_ j=>decide (0 < j) && decide (j < 1073741824)) λi j=>.int (i / j)
def LL:oB K (rI GS λi j=>.int (i / j)) Ic .v:=AA λdx dy d h=>by obtain⟨i,j,rfl,rfl,c,rfl⟩:=zR h;exact⟨i,j,rfl,rfl,by simpa[GS] using c,λ_=>.int _⟩
def lT:D->D->Option D:=gI (λ_ j=>decide (0 < j)) λi j=>.int (i % j)
def t6:oB K (rI (λ_ j=>0 < j) λi j=>.int (i % j)) lT .v:=AA λdx dy d h=>by obtain⟨i,j,rfl,rfl,c,rfl⟩:=zR h;exact⟨i,j,rfl,rfl,by simpa using c,λ_=>.int _⟩
def Jr (i j:Int):Bool:=decide (0<=j) && decide (j<=1000000) && decide (i.natAbs < 2 ^ 64)
def FN {i j:Int}(h:Jr i j=true):Jl i j:=by
 unfold Jr at h
 simp only[O1,OY] at h
 exact⟨h.1.1,h.1.2,h.2⟩
def Iz:D->D->Option D:=gI Jr λi j=>.int (i * 2 ^ j.toNat)
def Kv:oB K (rI Jl λi j=>.int (i * 2 ^ j.toNat)) Iz .v:=AA λdx dy d h=>by obtain⟨i,j,rfl,rfl,c,rfl⟩:=zR h;exact⟨i,j,rfl,rfl,FN c,λ_=>.int _⟩
def Dd:D->D->Option D:=Fp λi j=>.int (Builtin.bitAnd i j)
def KZ:oB K (xF λi j=>.int (Builtin.bitAnd i j)) Dd .v:=rK λdx dy d h=>by obtain⟨i,j,rfl,rfl,rfl⟩:=nu h;exact⟨i,j,rfl,rfl,λ_=>.int _⟩
def MJ:D->D->Option D:=Fp λi j=>.int (Builtin.bitOr i j)
def K4:oB K (xF λi j=>.int (Builtin.bitOr i j)) MJ .v:=rK λdx dy d h=>by obtain⟨i,j,rfl,rfl,rfl⟩:=nu h;exact⟨i,j,rfl,rfl,λ_=>.int _⟩
def qd:D->D->Option D:=Fp λi j=>.bool (decide (i < j))
def xG:D->D->Option D:=Fp λi j=>.bool (decide (i<=j))
def Ke:D->D->Option D:=Fp λi j=>.bool (decide (j < i))
def xY:oB K (xF λi j=>.bl (decide (i < j))) qd .v:=rK λdx dy d h=>by obtain⟨i,j,rfl,rfl,rfl⟩:=nu h;exact⟨i,j,rfl,rfl,λ_=>.bl _⟩
def BH:oB K (xF λi j=>.bl (decide (i<=j))) xG .v:=rK λdx dy d h=>by obtain⟨i,j,rfl,rfl,rfl⟩:=nu h;exact⟨i,j,rfl,rfl,λ_=>.bl _⟩
def IU:oB K (xF λi j=>.bl (decide (j < i))) Ke .v:=rK λdx dy d h=>by obtain⟨i,j,rfl,rfl,rfl⟩:=nu h;exact⟨i,j,rfl,rfl,λ_=>.bl _⟩
mutual
theorem zH:∀d:D,d.canLay0=true->CW d=true
 | .none,_=>rfl
 | .bool _,_=>rfl
 | .int _,_=>rfl
 | .str _,_=>rfl
 | .list ds,h=>by simp only[PyData.canLay0] at h;simp only[CW];exact rJ ds h
 | .tuple ds,h=>by simp only[PyData.canLay0] at h;simp only[CW];exact rJ ds h
 | .dict _,h=>by simp[PyData.canLay0] at h
theorem rJ:∀ds:List D,PyData.canLayAll0 ds=true->sD ds=true
 | [],_=>rfl
 |d :: ds,h=>by
  simp only[PyData.canLayAll0,O1] at h
  simp only[sD,O1]
  exact⟨zH d h.1,rJ ds h.2⟩
end
def u9 {d:D}(h:SeqAt.shaped d=true):CW d=true:=zH d (Qo h)
theorem As:∀{ds:List D},(ds.all SeqAt.shaped)=true->sD ds=true
 | [],_=>rfl
 |d :: ds,h=>by
  rw[all_cons,O1] at h
  simp only[sD,O1]
  exact⟨u9 h.1,As h.2⟩
def cY (neg:Bool)(x y:D):Option D:=if (SeqAt.shaped x && SeqAt.shaped y)=true then some (.bool (if neg then !PyData.eqv x y else PyData.eqv x y)) else none
def eM {neg:Bool}:oB K (Im K neg) (cY neg) .v:=by
 intro B G H x y dx dy d Q s hB bx by' e k
 unfold cY at e
 split at e
 ·rename_i h
  rw[O1] at h
  cases e
  exact⟨dx,dy,(bx.rpH s).rep (u9 h.1),(by'.rpH s).rep (u9 h.2),h.1,h.2,k _ G H (Ext.refl s) (.bl _)⟩
 ·cases e
def mX (neg:Bool)(x y:D):Option D:=match lV y with
 |some ds=>if (SeqAt.shaped x && ds.all SeqAt.shaped)=true then some (.bool (if neg then !(ds.any λe=>PyData.eqv e x) else ds.any λe=>PyData.eqv e x)) else none
 |none=>none
theorem m6.seq {B:@Is}{G H:Hp}{v:V}{d:D}{ds:List D}(h:m6 K B G H v d)(e:lV d=some ds)(s:aw G H):∃a xs,v=.ref a/\(iF K H a xs\/fN K H a xs)/\cz K G xs ds:=by
 cases d with
 |list l=>cases e;obtain⟨a,xs,e,q,r⟩:=h.list s;exact⟨a,xs,e,.inl (.inl q),r⟩
 |tuple l=>cases e;obtain⟨a,xs,e,q,r⟩:=h.tuple s;exact⟨a,xs,e,.inr q,r⟩
 |_=>cases e
theorem uy {neg:Bool}:oB K (IY K neg) (mX neg) .v:=by
 intro B G H x y dx dy d Q s hB bx by' e k
 unfold mX at e
 cases q:lV dy with
 |none=>rw[q] at e;cases e
 |some ds=>
  rw[q] at e
  dsimp only at e
  split at e
  ·rename_i h
   rw[O1] at h
   cases e
   obtain⟨a,xs,rfl,hq,r⟩:=by'.seq q s
   refine⟨a,xs,dx,ds,rfl,hq,(r.mono s).reps (As h.2),(bx.rpH s).rep (u9 h.1),h.1,λe he=>O4.mp h.2 e he,k _ G H (Ext.refl s) (.bl _)⟩
  ·cases e
def Gp:D->Bool
 | .none=>true
 |_=>false
theorem cz.ints {G:Hp}:∀ns:@D_,cz K G (ns.map V.int) (ns.map int)
 | []=>.nil
 |n :: ns=>.cons (.int n) (cz.ints ns)
theorem Cb.noNone {G:Hp}{kvs:List (Key×V)}{d:D}{r:List (D×D)}(h:Cb K G kvs ((.none,d) :: r)):False:=by
 generalize e:(PyData.none,d) :: r=l at h
 cases h with
 |nil=>cases e
 | @cons k x xs d' ds _ _=>
  injection e with e1 _
  injection e1 with e2 _
  cases k <;> cases e2
theorem Cg.noNone {G:Hp}{kvs:List (List Key×V)}{d:D}{r:List (D×D)}(h:Cg K G kvs ((.none,d) :: r)):False:=by
 generalize e:(PyData.none,d) :: r=l at h
 cases h with
 |nil=>cases e
 | @cons k x xs d' ds _ _=>
  injection e with e1 _
  injection e1 with e2 _
  cases e2
def m6.scr {B:@Is}{G H:Hp}{v:V}{ds:List D}(h:m6 K B G H v (.dict [(.none,.list ds)]))(s:aw G H):∃a xs,v=.ref a/\iF K H a xs/\cz K G xs ds:=by
 rcases h with h | ⟨a,rfl,n,h⟩
 ·cases h with
  | @scr a ns q=>exact⟨a,_,rfl,s.seq q,cz.ints ns⟩
  |dK _ r=>exact r.noNone.elim
  |dT _ r=>exact r.noNone.elim
 ·rcases h with⟨_,_,r⟩ | ⟨_,_,r⟩
  ·exact r.noNone.elim
  ·exact r.noNone.elim
def bh:D->D->Option D
 | .list ds,.int i=>l8 ds i
 | .tuple ds,.int i=>l8 ds i
 | .str z,.int i=>if z.length<=sizeLine then (l8 z.cps.toList i).map λc=>.str ⟨#[c]⟩ else none
 | .dict [(.none,.list ds)],.int i=>l8 ds i
 |_,_=>none
theorem uz {G:Hp}{xs:List V}{ds:List D}{i:Int}{d:D}(r:cz K G xs ds)(h:l8 ds i=some d):∃x,l8 xs i=some x/\Rp K G x d:=by
 unfold l8 at h ⊢
 rw[r.len]
 cases e:uF ds.length i with
 |none=>rw[e] at h;cases h
 |some j=>rw[e] at h;exact r.at h
theorem bA:oB K (N5 K) bh .v:=by
 intro B G H x y dx dy d Q s hB bx by' e k
 cases dx with
 |list ds=>
  cases dy with
  |int i=>
   obtain rfl:=by'.int
   obtain⟨a,xs,rfl,q,r⟩:=bx.list s
   obtain⟨v,ev,rv⟩:=uz r e
   exact .inl ⟨a,xs,i,v,rfl,rfl,.inl q,ev,k _ G H (Ext.refl s) rv⟩
  |_=>cases e
 |tuple ds=>
  cases dy with
  |int i=>
   obtain rfl:=by'.int
   obtain⟨a,xs,rfl,q,r⟩:=bx.tuple s
   obtain⟨v,ev,rv⟩:=uz r e
   exact .inr (.inl ⟨a,xs,i,v,rfl,rfl,q,ev,k _ G H (Ext.refl s) rv⟩)
  |_=>cases e
 |str z=>
  cases dy with
  |int i=>
   obtain rfl:=by'.int
   obtain rfl:=bx.str
   simp only[bh] at e
   split at e
   ·rename_i hz
    cases q:l8 z.cps.toList i with
    |none=>rw[q] at e;cases e
    |some c=>rw[q] at e;cases e;exact .inr (.inr ⟨z,i,c,rfl,rfl,hz,q,k _ G H (Ext.refl s) (.str _)⟩)
   ·cases e
  |_=>cases e
 |none=>cases dy <;> cases e
 |bool b=>cases dy <;> cases e
 |int b=>cases dy <;> cases e
 |dict b=>
  obtain⟨ds,i,rfl,rfl,e⟩:∃ds i,b= [(.none,.list ds)]/\dy=.int i/\l8 ds i=some d:=by
   unfold bh at e
   split at e
   ·contradiction
   ·contradiction
   ·contradiction
   ·rename_i h;cases h;exact⟨_,_,rfl,rfl,e⟩
   ·cases e
  obtain rfl:=by'.int
  obtain⟨a,xs,rfl,q,r⟩:=bx.scr s
  obtain⟨v,ev,rv⟩:=uz r e
  exact .inl ⟨a,xs,i,v,rfl,rfl,q,ev,k _ G H (Ext.refl s) rv⟩
def dP:D->Option D
 | .list ds=>some (.int ds.length)
 | .tuple ds=>some (.int ds.length)
 | .str z=>if z.length<=sizeLine then some (.int z.length) else none
 | .dict [(.none,.list ds)]=>some (.int ds.length)
 |_=>none
def NH (K:Frag):List V->Hp->VK->Prop:=λxs H Q=>∃x n,xs= [x]/\LD K x H n/\Q (.int n) H
def jC:DS K (λx=>NH K [x]) dP .v:=by
 intro B G H x dx d Q s hB bx e k
 unfold dP at e
 split at e
 ·cases e;obtain⟨a,xs,rfl,q,r⟩:=bx.list s;exact⟨_,_,rfl,.inl ⟨xs,.inl q,r.len.symm⟩,k _ G H (Ext.refl s) (.int _)⟩
 ·cases e;obtain⟨a,xs,rfl,q,r⟩:=bx.tuple s;exact⟨_,_,rfl,.inr ⟨xs,q,r.len.symm⟩,k _ G H (Ext.refl s) (.int _)⟩
 ·obtain rfl:=bx.str
  split at e
  ·rename_i hz;cases e;exact⟨_,_,rfl,⟨hz,rfl⟩,k _ G H (Ext.refl s) (.int _)⟩
  ·cases e
 ·cases e;obtain⟨a,xs,rfl,q,r⟩:=bx.scr s;exact⟨_,_,rfl,.inl ⟨xs,q,r.len.symm⟩,k _ G H (Ext.refl s) (.int _)⟩
 ·cases e
def fT:D->Option D
 | .list ds=>some (.tuple ds)
 | .tuple ds=>some (.tuple ds)
 |_=>none
theorem gW:DS K (λx H Q=>∃p ys,[x]= [.ref p]/\((iF K H p ys/\∀l,H l=none->Q (.ref l) (upd H l (.tup ys)))\/(fN K H p ys/\Q (.ref p) H))) fT .v:=by
 intro B G H x dx d Q s hB bx e k
 cases dx with
 |list ds=>
  cases e
  obtain⟨a,xs,rfl,q,r⟩:=bx.list s
  refine⟨a,xs,rfl,.inl ⟨.inl q,λl hl=>?_⟩⟩
  have x:=Ext.new s (o:=.tup xs) hl
  exact k _ _ _ x (.tup (.inl (.inl aB)) (r.mono x.gg))
 |tuple ds=>
  cases e
  rcases bx with bx | ⟨_,_,_,z⟩
  ·cases bx with
   | @tup a xs _ hq r=>exact⟨a,xs,rfl,.inr ⟨hq.grow s.grow,k _ G H (Ext.refl s) (.tup hq r)⟩⟩
  ·exact z.elim
 |_=>cases e
def rh:D->Option D
 | .list ds=>some (.list ds)
 | .tuple ds=>some (.list ds)
 |_=>none
def zx:DS K (λx H Q=>∃p ys,[x]= [.ref p]/\(iF K H p ys\/fN K H p ys)/\∀l,H l=none->Q (.ref l) (upd H l (.lst ys))) rh .w:=by
 intro B G H x dx d Q s hB bx e k
 obtain⟨ds,e1,rfl⟩:∃ds,lV dx=some ds/\d=.list ds:=by
  cases dx <;> cases e <;> exact⟨_,rfl,rfl⟩
 obtain⟨a,xs,rfl,hq,r⟩:=bx.seq e1 s
 refine⟨a,xs,rfl,hq,λl hl=>?_⟩
 exact k _ _ _ (Ext.own s (o:=.lst xs) hl) ⟨l,rfl,hl,s.free hl,xs,aB,r⟩
def mr:List D->Option (List Bool)
 | []=>some []
 | .bool b :: ds=>(mr ds).map (b :: ·)
 |_=>none
theorem uq {G:Hp}:∀{ds:List D} {bs:List Bool} {xs:List V},mr ds=some bs->cz K G xs ds->xs=bs.map V.bl
 | [],bs,xs,e,r=>by cases e;cases r;rfl
 | .bool b :: ds,bs,xs,e,r=>by
  cases r with
  |cons r1 r2=>
   cases r1
   simp only[mr] at e
   cases q:mr ds with
   |none=>rw[q] at e;cases e
   |some cs=>rw[q] at e;cases e;rw[uq q r2];rfl
 | .none :: _,_,_,e,_=>by cases e
 | .int _ :: _,_,_,e,_=>by cases e
 | .str _ :: _,_,_,e,_=>by cases e
 | .list _ :: _,_,_,e,_=>by cases e
 | .tuple _ :: _,_,_,e,_=>by cases e
 | .dict _ :: _,_,_,e,_=>by cases e
def bK (f:List Bool->Bool):D->Option D
 | .list ds=>(mr ds).map λbs=>.bool (f bs)
 |_=>none
theorem gP {f:List Bool->Bool}:DS K (λx=>yu K f [x]) (bK f) .v:=by
 intro B G H x dx d Q s hB bx e k
 cases dx with
 |list ds=>
  simp only[bK] at e
  cases q:mr ds with
  |none=>rw[q] at e;cases e
  |some bs=>
   rw[q] at e
   cases e
   obtain⟨a,xs,rfl,hq,r⟩:=bx.list s
   obtain rfl:=uq q r
   exact⟨a,bs,rfl,.inl hq,k _ G H (Ext.refl s) (.bl _)⟩
 |_=>cases e
def HV:R2:=λx y H Q=>∃l b xs zs,x=.ref l/\y=.ref b/\Rd H l (.lst xs)/\Rd H b (.lst zs)/\xs.length + zs.length<=sizeLine/\∀p,H p=none->Q (.ref p) (upd H p (.lst (xs ++ zs)))
def jG:lP X (binaryOp .Add) HV:=by
 intro pins s σ H x y v u Q I rx ry h
 obtain⟨l,b,xs,zs,rfl,rfl,hH,hB,hz,q⟩:=h
 cases rx
 cases ry
 obtain⟨z,its,n,r,hl,e⟩:=I.lstR hH
 obtain⟨z2,its2,n2,r2,hl2,e2⟩:=I.lstR hB
 refine PySem.P.add_list e e2 ?_ (by rw[OX,OX];omega)
 have ea:its.toArray ++ its2.toArray=(its ++ its2).toArray:=by simp
 rw[ea]
 exact⟨.ref _,_,I.lnew (t':=s.toks) (r.append r2) (by rw[O9];omega),rfl,q _ I.fresh⟩
def jr:D->D->Option D
 | .list a,.list b=>if a.length + b.length<=sizeLine then some (.list (a ++ b)) else none
 |_,_=>none
def pA:oB K HV jr .w:=by
 intro B G H x y dx dy d Q s hB bx by' e k
 cases dx <;> cases dy <;> first | (cases e;done) |skip
 rename_i a b
 simp only[jr] at e
 split at e
 ·rename_i hz
  cases e
  obtain⟨p,xs,rfl,q1,r1⟩:=bx.list s
  obtain⟨p2,ys,rfl,q2,r2⟩:=by'.list s
  refine⟨p,p2,xs,ys,rfl,rfl,q1,q2,by rw[r1.len,r2.len];exact hz,λl hl=>?_⟩
  exact k _ _ _ (Ext.own s (o:=.lst (xs ++ ys)) hl) ⟨l,rfl,hl,s.free hl,_,aB,r1.append r2⟩
 ·cases e
def bV:D->D->Option D:=Fp λi j=>.int (i + j)
def dM:oB K (xF λi j=>.int (i + j)) bV .v:=rK λdx dy d h=>by obtain⟨i,j,rfl,rfl,rfl⟩:=nu h;exact⟨i,j,rfl,rfl,λ_=>.int _⟩
def dB:D->D->Option D:=gI (λi j=>(decide (-(2 ^ 64) < i) && decide (i < 2 ^ 64)) || (decide (-(2 ^ 64) < j) && decide (j < 2 ^ 64))) λi j=>.int (i * j)
def nq:oB K (rI Ds λi j=>.int (i * j)) dB .v:=AA λdx dy d h=>by obtain⟨i,j,rfl,rfl,c,rfl⟩:=zR h;exact⟨i,j,rfl,rfl,by simpa[Ds] using c,λ_=>.int _⟩
def pW:D->D->Option D
 | .list a,.int k=>if -(2 ^ 63)<=k/\k < 2 ^ 63/\a.length * k.toNat<=sizeLine then some (.list (List.replicate k.toNat a).flatten) else none
 |_,_=>none
def yN {a b:Expr}{fa fb:VF D}{La Lb:@IR}{mb:Md}{Γ:Fx}{E:XK}{pos:Pos}(ha:SE X Γ E a fa La .w)(hb:SE X Γ E b fb Lb mb):SE X Γ E (.BinOp a .Mult b pos) (f2 fa fb pW) (La ++ Lb) .w:=by
 refine PE.post' (um Ci ha hb) λσ H Q ⟨env,G,B,β,I,o⟩=>?_
 refine⟨env,G,B,β,I,o.bnd.imp λd1 β1 h x G1 H1 I1 s1 m1 vx=>⟨aW La env,G1,B,β1,I1,?_⟩⟩
 rw[dQ]
 refine h.bnd.imp λd2 β2 h y G2 H2 I2 s2 m2 vy=>?_
 obtain⟨d,e,k⟩:=h.of
 rw[<-cy] at I2
 obtain⟨p,rfl,p1,p2,p3⟩:=vx
 have by':=vy.brw I1.boxThere
 cases d1 <;> cases d2 <;> first | (cases e;done) |skip
 rename_i l j
 obtain rfl:=by'.int
 simp only[pW] at e
 split at e
 ·rename_i hz
  cases e
  obtain⟨xs,q,r⟩:=p3
  obtain⟨q1,q2,q3,q4⟩:=I.fresh p1
  have r2:=r.mono s2
  refine⟨p,j,xs,rfl,rfl,m2.1 _ _ q q3,hz.1,hz.2.1,by rw[r.len];exact hz.2.2,λl hl=>?_⟩
  have x:=Ext.own I2.sub (o:=.lst (List.replicate j.toNat xs).flatten) hl
  exact k _ _ _ (I2.ext x) ((s1.trans s2).trans x.gg) ((m1.trans m2).trans (x.hh.mov B)) ⟨l,rfl,fK (m1.trans m2) I2.boxThere hl,I2.sub.free hl,_,aB,r2.rep⟩
 ·cases e
def mZ:D->Option D
 | .int i=>some (.int (-i))
 |_=>none
theorem xf:DS K (rU λi=>.int (-i)) mZ .v:=by
 intro B G H x dx d Q s hB bx e k
 cases dx with
 |int i=>cases e;obtain rfl:=bx.int;exact⟨i,rfl,k _ G H (Ext.refl s) (.int _)⟩
 |_=>cases e
def Mm:D->String
 | .none=>"NoneType"
 | .bool _=>"bool"
 | .int _=>"int"
 | .str _=>"str"
 | .list _=>"list"
 | .tuple _=>"tuple"
 | .dict _=>"dict"
def Di (d:D)(T:String):Bool:=Mm d == T || (T == "int" && Mm d == "bool")
def eJ:D->Bool
 | .dict ((.none,_) :: _)=>true
 |_=>false
def j8 (T:String)(d:D):Option D:=if eJ d=true then none else some (.bool (Di d T))
def Og (K:Frag)(H:Hp)(x:V)(t:String):Prop:=Fi K H x t\/(t="dict"/\∃a kvs,x=.ref a/\H a=some (.dT kvs))
def Ls (K:Frag):List V->Hp->VK->Prop:=λxs H Q=>∃x T t b,xs= [x,.ty T]/\Og K H x t/\PySem.W.kitOne K (.type t) (.type T)=some b/\Q (.bl b) H
def DJ:gu X (.builtin "isinstance") (Ls X.K):=by
 intro pins s σ H xs us Q I r h
 obtain⟨x,T,t,b,rfl,ty,e,q⟩:=h
 rcases ty with ty | ⟨rfl,a,kvs,rfl,hk⟩
 ·exact DL pins s σ H _ us Q I r ⟨x,T,t,b,rfl,ty,e,q⟩
 ·obtain⟨u,c,rfl,rx,rc⟩:=vals2 r
  cases rc
  cases rx
  obtain⟨_,_,_,_,o,_,_,e2,ex,_⟩:=I.hok a _ hk
  exact PJ PySem.W.kitx_dict I.kIn ⟨o,e2,ex.1⟩ e (λz=>nomatch z) λtk=>⟨.bl b,H,I.tok tk,rfl,q⟩
theorem m6.ty {B:@Is}{G H:Hp}{v:V}{d:D}(h:m6 K B G H v d)(s:aw G H)(n:eJ d=false):Og K H v (Mm d):=by
 cases d with
 |none=>obtain rfl:=h.none;exact .inl .non
 |bool b=>obtain rfl:=h.bool;exact .inl (.bl b)
 |int b=>obtain rfl:=h.int;exact .inl (.int b)
 |str b=>obtain rfl:=h.str;exact .inl (.str b)
 |list b=>obtain⟨a,xs,rfl,q,_⟩:=h.list s;exact .inl (.lst (.inl q))
 |tuple b=>obtain⟨a,xs,rfl,q,_⟩:=h.tuple s;exact .inl (.tup q)
 |dict b=>
  rcases h with h | ⟨a,rfl,_,h⟩
  ·cases h with
   |scr _=>cases n
   |dK q _=>exact .inl (.dic (s _ _ q))
   |dT q _=>exact .inr ⟨rfl,_,_,rfl,s _ _ q⟩
  ·rcases h with⟨_,q,_⟩ | ⟨_,q,_⟩
   ·exact .inl (.dic q)
   ·exact .inr ⟨rfl,_,_,rfl,q⟩
theorem KI {d:D}{T:String}(hT:T∈ ["int","bool","str","list","tuple","dict"]):PySem.W.kitOne K (.type (Mm d)) (.type T)=some (Di d T):=by
 simp only[OK,Pw,Qm] at hT
 cases d with
 |dict l=>rcases hT with rfl |rfl |rfl |rfl |rfl |rfl <;> rfl
 |none=>rcases hT with rfl |rfl |rfl |rfl |rfl |rfl <;> rfl
 |bool _=>rcases hT with rfl |rfl |rfl |rfl |rfl |rfl <;> rfl
 |int _=>rcases hT with rfl |rfl |rfl |rfl |rfl |rfl <;> rfl
 |str _=>rcases hT with rfl |rfl |rfl |rfl |rfl |rfl <;> rfl
 |list _=>rcases hT with rfl |rfl |rfl |rfl |rfl |rfl <;> rfl
 |tuple _=>rcases hT with rfl |rfl |rfl |rfl |rfl |rfl <;> rfl
def nO {a:Expr}{fa:VF D}{La:@IR}{ma:Md}{Γ:Fx}{E:XK}{pos p p2:Pos}(T:String){y:Str}(hT:T∈ ["int","bool","str","list","tuple","dict"])(hK:X.K=Γ.K)(hg:Gl X "isinstance")(hm:X.mg "isinstance"=none)(hgT:Gl X y)(hmT:X.mg y=none)(hvT:bootBuiltins y=some (.type T))(ha:SE X Γ E a fa La ma)
  (hnT:y≠"__name__":=by decide) (hdT:(y == ("__debug__":Str))=false:=by decide)
  (he:starEach [a,.Name y p2] X.env=(false,eval a X.env) :: starEach [.Name y p2] X.env:=by rfl) (he2:starEach [.Name y p2] X.env=(false,eval (.Name y p2) X.env) :: starEach [] X.env:=by rfl) (hpl:(backTo pos (starEach [.Name y p2] X.env)).any (·.1)=false:=by rfl) :
  SE X Γ E (.Call (.Name "isinstance" p) [a,.Name y p2] [] pos) (f1 fa (j8 T)) La .v:=by
 refine PE.post' (oy DJ hg hm (@FM) (a9 ha (a9 (Fw hgT hmT hvT (show RelV (.ty T) _ from rfl) hnT hdT) b9 he2) he) @F_ @F_ he hpl) λσ H Q ⟨env,G,B,β,I,o⟩=>?_
 refine lB (r:=λx H1 Q=>Ls X.K [x,.ty T] H1 Q) ?_ I o
 intro B G H x dx d Q s hB bx e k
 unfold j8 at e
 split at e
 ·cases e
 ·rename_i hn
  cases e
  rw[hK]
  exact⟨x,T,Mm dx,Di dx T,rfl,bx.ty s (by simpa using hn),KI hT,k _ G H (Ext.refl s) (.bl _)⟩
def eh (fa fb fc:VF D)(g g':D->D->Option D):VF D:=λvs β=>(fa vs β).bnd λx β1=>(fb vs β1).bnd λy β2=>match g x y with
 |some (.bool true)=>(fc vs β2).bnd λz β3=>R.of (g' y z) β3
 |some (.bool false)=>.ok (.bool false) β2
 |_=>.bad
theorem wo {a b c:Expr}{fa fb fc:VF D}{ma mb mc:Md}{Γ:Fx}{E:XK}{pos:Pos}{op op':CmpOp}{r r':R2}{g g':D->D->Option D}(ho:lP X (compareOp op) r)(ho':lP X (compareOp op') r')(pr:oB Γ.K r g .v)(pr':oB Γ.K r' g' .v)(ha:SE X Γ E a fa [] ma)(hb:SE X Γ E b fb [] mb)(hc:SE X Γ E c fc [] mc)
  (hm:lastMarks [op,op'] [b,c]=false:=by with_unfolding_all rfl):SE X Γ E (.Compare a [op,op'] [b,c] pos) (eh fa fb fc g g') [] .v:=by
 refine PE.post' (Cm ho ho' ha hb hc hm) λσ H Q ⟨env,G,B,β,I,o⟩=>?_
 refine two (W:=λx y H2=>r x y H2 λz H3=>∃k,z=.bl k/\(if k=true then pT Γ E fc [] mc σ H3 λw' H4=>r' y w' H4 Q else Q (.bl false) H3)) I (o.bnd.imp λd1 β1 h=>h.bnd.imp λd2 β2 h x y G2 H2 I2 s2 m2 bx by'=>?_)
 obtain⟨cb,ec,h⟩:∃cb,g d1 d2=some (.bool cb)/\Out Γ E (if cb=true then (fc (vl env) β2).bnd λz β3=>R.of (g' d2 z) β3 else .ok (.bool false) β2) λd β'=>∀v G' H',SR Γ B G' H' σ (aW [] env) β'->aw G G'->iL B H H'->VO Γ.K B H G' H' .v d v->Q v H':=by
  split at h
  ·rename_i q;exact⟨true,q,by rw[OG rfl];exact h⟩
  ·rename_i q;exact⟨false,q,by rw[OP OZ];exact h⟩
  ·exact h.elim
 refine pr B G2 H2 x y d1 d2 _ _ I2.sub I2.boxThere bx by' ec λv G' H' x' vo=>?_
 cases vo
 refine⟨cb,rfl,?_⟩
 have I3:=I2.ext x'
 cases cb with
 |false=>rw[OP OZ] at h;exact pX (h _ G' H' I3 (s2.trans x'.gg) (m2.trans (x'.mov B)) (.bl false))
 |true=>
  rw[OG rfl] at h
  refine pS ⟨env,G',B,β2,I3,h.bnd.imp λd3 β3 h z G4 H4 I4 s4 m4 vz=>?_⟩
  obtain⟨d,e,k⟩:=h.of
  refine pr' B G4 H4 y z d2 d3 d Q I4.sub I4.boxThere (by'.mono (x'.gg.trans s4) ((x'.mov B).trans m4)) (vz.brw I3.boxThere) e λv G5 H5 x5 vo=>?_
  exact k v G5 H5 (I4.ext x5) (((s2.trans x'.gg).trans s4).trans x5.gg) (((m2.trans (x'.mov B)).trans m4).trans (x5.mov B)) vo
end
def eG.u1 {k:Nat}{A:Around}(r:eG k A):A.units + 100 < cLine:=by have:=r.un;omega
def Oj (N:@IN)(sc:Scope)(NB:@IN)(own:Nat)(ixs:@IR)(scope:Scope):Bool:=
 decide (scope.kind=.function) && (scope.names.all λy=>decide (scope.names.lookup y.1=some y.2)) &&
 (scope.names.all λy=>decide (y.2=.free->(sc.names.lookup y.1=some .cell\/sc.names.lookup y.1=some .free))) && decide NB.Nodup && decide (NB.length=own + ixs.length) &&
 ((List.range ixs.length).all λk=>decide (NB[own + k]? =N[ixs.getD k 0]?) && (match NB[own + k]? with |some x=>decide ((x,NameKind.free)∈scope.names) |none=>true))
def bG {X:Cx}{NB:@IN}{own:Nat}{ixs:@IR}{scope:Scope}(h:Oj X.N X.env.scope NB own ixs scope=true):cj X NB own ixs scope:=by
 unfold Oj at h
 simp only[O1,O4,OY,Pp] at h
 obtain⟨⟨⟨⟨⟨h1,h3⟩,h4⟩,h5⟩,h6⟩,h7⟩:=h
 refine⟨h1,h3,h4,h5,h6,λk hk=>⟨(h7 k hk).1,λx hx=>?_⟩⟩
 have:=(h7 k hk).2
 rw[hx] at this
 simpa using this
section
variable {X:Cx}{Γ:Fx}{E:XK}{e a b c:Expr}{f fa fb fc:VF D}{L La Lb:@IR}{md ma mb mc:Md}{pos:Pos}{K:Frag}
theorem EC {op op':CmpOp}{r r':R2}{g g':D->D->Option D}(ho:lP X (compareOp op) r)(ho':lP X (compareOp op') r')(pr:oB Γ.K r g .v)(pr':oB Γ.K r' g' .v)(ha:SE X Γ E a fa [] ma)(hb:SE X Γ E b fb [] mb)(hc:SE X Γ E c fc [] mc)
  (hm:lastMarks [op,op'] [b,c]=false:=by with_unfolding_all rfl):zw X Γ E (.Compare a [op,op'] [b,c] pos) (cM (eh fa fb fc g g')) []:=by
 refine PT.post (wD ho ho' ha hb hc hm) λσ H Q ⟨env,G,B,β,I,o⟩=>?_
 refine two (W:=λx y H2=>r x y H2 λz H3=>∃k,z=.bl k/\(if k=true then pT Γ E fc [] mc σ H3 λw' H4=>r' y w' H4 (λx H'=>∃k,x=.bl k/\Q k H') else ∃k,V.bl false=.bl k/\Q k H3)) I (o.bnd.bnd.imp λd1 β1 h=>h.bnd.imp λd2 β2 h x y G2 H2 I2 s2 m2 bx by'=>?_)
 obtain⟨cb,ec,h⟩:∃cb,g d1 d2=some (.bool cb)/\Out Γ E (if cb=true then (fc (vl env) β2).bnd λz β3=>R.of (g' d2 z) β3 else .ok (.bool false) β2) λd β'=>Out Γ E (match d with | .bool c=>R.ok c β' |_=>.bad) λc β'=>∀G' H',SR Γ B G' H' σ (aW [] env) β'->aw G G'->iL B H H'->Q c H':=by
  split at h
  ·rename_i q;exact⟨true,q,by rw[OG rfl];exact h⟩
  ·rename_i q;exact⟨false,q,by rw[OP OZ];exact h⟩
  ·exact h.elim
 refine pr B G2 H2 x y d1 d2 _ _ I2.sub I2.boxThere bx by' ec λv G' H' x' vo=>?_
 cases vo
 refine⟨cb,rfl,?_⟩
 have I3:=I2.ext x'
 cases cb with
 |false=>rw[OP OZ] at h;exact pX ⟨false,rfl,h G' H' I3 (s2.trans x'.gg) (m2.trans (x'.mov B))⟩
 |true=>
  rw[OG rfl] at h
  refine pS ⟨env,G',B,β2,I3,h.bnd.imp λd3 β3 h z G4 H4 I4 s4 m4 vz=>?_⟩
  obtain⟨d,e,k⟩:=h.of
  refine pr' B G4 H4 y z d2 d3 d _ I4.sub I4.boxThere (by'.mono (x'.gg.trans s4) ((x'.mov B).trans m4)) (vz.brw I3.boxThere) e λv G5 H5 x5 vo=>?_
  cases d with
  |bool c=>cases vo;exact⟨c,rfl,k G5 H5 (I4.ext x5) (((s2.trans x'.gg).trans s4).trans x5.gg) (((m2.trans (x'.mov B)).trans m4).trans (x5.mov B))⟩
  |_=>exact k.elim
def tN (fa:VF D)(neg:Bool):VF Bool:=λvs β=>(fa vs β).bnd λx β1=>.ok (if neg then !Gp x else Gp x) β1
def oT (Γ:Fx)(E:XK)(f:VF (Option Int))(L:@IR):TO:=λσ H Q=>∃env G B β,@H_/\
 Out Γ E (f (vl env) β) λd β'=>∀G' H',SR Γ B G' H' σ (aW L env) β'->aw G G'->iL B H H'->Q d H'
def MN (X:Cx)(Γ:Fx)(E:XK)(e:Option Expr)(f:VF (Option Int))(L:@IR):Prop:=PO X e (oT Γ E f L)
def zC:MN X Γ E none (λ_ β=>.ok none β) []:=λpins s σ H Q I ⟨env,G,B,β,J,o⟩=>EY pins s σ H Q I (o G H J (aw.refl _) (iL.refl _ _))
def GV (fa:VF D):VF (Option Int):=λvs β=>(fa vs β).bnd λx β1=>match x with
 | .int i=>.ok (some i) β1
 |_=>.bad
theorem Az (ha:SE X Γ E a fa La ma):MN X Γ E (some a) (GV fa) La:=λpins s σ H Q I ⟨env,G,B,β,J,o⟩=>by
 refine EW ha pins s σ H Q I ⟨env,G,B,β,J,o.bnd.imp λd1 β1 h x G1 H1 I1 s1 m1 vx=>?_⟩
 cases d1 with
 |int i=>exact⟨i,(vx.brw J.boxThere).int,h G1 H1 I1 s1 m1⟩
 |_=>exact h.elim
def cutD (xs:List D)(lo hi:Option Int):List D:=(xs.drop (HT.tS xs.length 0 lo)).take (HT.tS xs.length xs.length hi - HT.tS xs.length 0 lo)
def Gq {G:Hp}{xs:List V}{ds:List D}(r:cz K G xs ds)(lo hi:Option Int):cz K G (yI xs lo hi) (cutD ds lo hi):=by
 unfold yI cutD
 rw[r.len]
 exact (r.drop _).take _
def Hf (fa:VF D)(fl fh:VF (Option Int)):VF D:=λvs β=>(fa vs β).bnd λx β1=>(fl vs β1).bnd λl β2=>(fh vs β2).bnd λh β3=>match x with
 | .list ds=>.ok (.list (cutD ds l h)) β3
 |_=>.bad
theorem wL {lo hi:Option Expr}{fl fh:VF (Option Int)}{Ll Lh:@IR}{p2:Pos}(hK:X.K=Γ.K)(ha:SE X Γ E a fa La ma)(hl:MN X Γ E lo fl Ll)(hh:MN X Γ E hi fh Lh):SE X Γ E (.Subscript a (.Slice lo hi none p2) pos) (Hf fa fl fh) (La ++ Ll ++ Lh) .w:=by
 refine PE.post' (Dt Gm ha hl hh) λσ H Q ⟨env,G,B,β,I,o⟩=>?_
 refine⟨env,G,B,β,I,o.bnd.imp λd1 β1 h x G1 H1 I1 s1 m1 vx=>⟨aW La env,G1,B,β1,I1,?_⟩⟩
 rw[dQ]
 refine h.bnd.imp λl β2 h G2 H2 I2 s2 m2=>⟨aW Ll (aW La env),G2,B,β2,I2,?_⟩
 rw[dQ,dQ]
 refine h.bnd.imp λu β3 h G3 H3 I3 s3 m3=>?_
 rw[<-cy,<-cy,<-Qu] at I3
 have bx:=((vx.brw I.boxThere).mono s2 m2).mono s3 m3
 cases d1 with
 |list ds=>
  obtain⟨p,xs,rfl,hq,r⟩:=bx.list I3.sub
  rw[hK]
  refine⟨p,xs,rfl,.inl hq,λq hn=>?_⟩
  have x:=Ext.own I3.sub (o:=.lst (yI xs l u)) hn
  exact h _ _ _ (I3.ext x) ((s1.trans s2).trans s3) (((m1.trans m2).trans m3).trans (x.mov B)) ⟨q,rfl,fK ((m1.trans m2).trans m3) I3.boxThere hn,I3.sub.free hn,_,aB,Gq r l u⟩
 |_=>exact h.elim
end
structure gr (K:Frag)(mg:@FS)(x:Str)(st:Stmt)(ps:@IN)(f:Addr)(fd:FuncData):Prop where
 mg:mg x=some (.ref f)
 F:Ca K x x st f fd
 b:Binds K fd ps []
structure Exc (K:Frag)(mg:@FS)(ca:Str->Addr)(x:Str):Prop where
 mg:mg x=some (.ref (ca x))
 ex:PySem.W.excIn K (ca x) [.type "ValueError",.type "Exception",.type "BaseException",.type "object"] "ValueError.__new__"=true
def Exc.ca {K:Frag}{mg:@FS}{ca:Str->Addr}{x:Str}(h:Exc K mg ca x):ca x=ca x:=rfl
structure gR (mg:@FS):Prop where
 len:mg "len"=none
 range:mg "range"=none
 enumerate:mg "enumerate"=none
 zip:mg "zip"=none
 min:mg "min"=none
 max:mg "max"=none
 sum:mg "sum"=none
 abs:mg "abs"=none
 sorted:mg "sorted"=none
 reversed:mg "reversed"=none
 int:mg "int"=none
 str:mg "str"=none
 bool:mg "bool"=none
 list:mg "list"=none
 tuple:mg "tuple"=none
 dict:mg "dict"=none
 set:mg "set"=none
 isinstance:mg "isinstance"=none
 repr:mg "repr"=none
 any:mg "any"=none
 all:mg "all"=none
 divmod:mg "divmod"=none
inductive FB where
 |ok (d:D) (fresh:Bool) (β:Int)
 |bad
def xN (K:Frag)(n:Nat)(F:List D->Int->FB):Sp:=λvs H Q _=>∃b rest G ds β,vs=.ref b :: rest/\H b=some (.lst [.int β])/\G b=none/\aw G H/\ds.length=n/\cz K G rest ds/\match F ds β with
 | .ok d fr β'=>∀v G' H',iL (some b) H H'->H' b=some (.lst [.int β'])->aw G G'->aw G' H'->(∀c,Mx H c->G c=none->G' c=none)->FV K H G' H' fr d v->Q v H'
 | .bad=>False
structure pH (P:Program)(w:World)(K:Frag)(mg:@FS)(base:Heap)(x:Str)(ps:@IN)(k:Nat)(F:List D->Int->FB):Prop where
 ex:∃f fd,mg x=some (.ref f)/\PySem.W.keepIn K (.ref f)=true/\Binds K fd ps []/\fM P w K mg base (o6 P w) k f fd ps (xN K (ps.length - 1) F)
 len:∀ds β,F ds β≠.bad->ds.length=ps.length - 1
def y0 (vs:List Nv)(i:Nat):Bool:=match vs[i]? with
 |some .bx=>true
 |_=>false
def pN (i:Nat)(F:List D->Int->FB)(fr:VF (List D)):VF D:=λvs β=>if y0 vs i=true then (fr vs β).bnd λds β1=>match F ds β1 with
 | .ok d _ β2=>.ok d β2
 | .bad=>.bad else .bad
def Nz (i:Nat)(F:List D->Int->FB)(fr:VF (List D)):VF D:=λvs β=>if y0 vs i=true then (fr vs β).bnd λds β1=>match F ds β1 with
 | .ok d true β2=>.ok d β2
 |_=>.bad else .bad
section
variable {X:Cx}{Γ:Fx}{E:XK}{e a b c:Expr}{f fa fb fc:VF D}{L La Lb:@IR}{md ma mb mc:Md}{pos:Pos}{K:Frag}{es:List Expr}{fr:VF (List D)}
def Fe {env:En}{i:Nat}(h:y0 (vl env) i=true):env[i]? =some .bx:=by
 unfold y0 at h
 split at h
 ·exact Mi (by assumption)
 ·cases h
def Gx {env:En}{i j:Nat}{d:D}(h:(iA env i)[j]? =some (.br d)):env[j]? =some (.br d):=by
 unfold iA at h
 split at h
 ·rename_i d' e
  by_cases z:i=j
  ·subst z
   rw[O6 (OO.mp e).1] at h;cases h
  ·rw[O2 z] at h;exact h
 ·exact h
theorem JJ {L:@IR}{env:En}{j:Nat}{d:D}(h:(aW L env)[j]? =some (.br d)):env[j]? =some (.br d):=by
 unfold aW at h
 induction L generalizing env with
 |nil=>exact h
 |cons i L ih=>exact Gx (ih h)
def SR.calledB {p:Addr}{β β':Int}{G1 H1 G2 H2:Hp}{σ:St}{env:En}(I1:SR Γ (some p) G1 H1 σ env β)(h:iL (some p) H1 H2)(hp:H2 p=some (.lst [.int β']))(g:aw G1 G2)(s:aw G2 H2)(n:∀b,Mx H1 b->G1 b=none->G2 b=none):SR Γ (some p) G2 H2 σ env β':=by
 obtain⟨b1,b2,b3⟩:=I1.box p rfl
 refine⟨s,I1.old.trans g,λb n1 n2=>n b (I1.thereM n1) (I1.new b n1 n2),λb o e np=>y6 (I1.keep b o e np) h λz=>?_,λb hb=>?_,I1.fix,λb e=>?_,I1.len,λi t e=>?_,I1.sep⟩
 ·cases z
  rcases b3 with b3 |b3
  ·exact np b3
  ·rw[e] at b3;cases b3
 ·by_cases z:p=b
  ·subst z;exact Mx.lst hp
  ·exact (I1.pin b hb).same λo q=>h.1 b o q λy=>z (Option.some.inj y)
 ·cases e
  exact⟨hp,n p (Mx.lst b1) b2,b3⟩
 ·have q:=I1.slot i t e
  cases t with
  |no=>trivial
  |fz d=>obtain⟨v,h1,h2⟩:=q;exact⟨v,h1,h2.mono g⟩
  |ow d=>
   obtain⟨c,h1,h2,h3,h4,h5⟩:=q
   exact⟨c,h1,h2,n c h5.mx h3,h4,h5.mono g λo q=>h.1 c o q h4⟩
  |bx=>exact q
  |br d=>obtain⟨b1,c,h1,h4,hpp,h5⟩:=q;exact⟨b1,c,h1,h4,hpp,h5.mono g λo q=>h.1 c o q h4⟩
theorem Gr {F:List D->Int->FB}{ps:@IN}{Q:VK}{B:@Is}{G H:Hp}{σ:St}{env:En}{β:Int}{i:Nat}{p:Addr}(I:@H_)(hK:X.K=Γ.K)(hp:B=some p){wv:Bool}
  (h:Out Γ E (fr (vl env) β) λds β1=>Out Γ E (match F ds β1 with
   | .ok d true β2=>.ok d β2
   | .ok d false β2=>if wv=true then .bad else .ok d β2
   | .bad=>.bad) λd β'=>∀v G' H',SR Γ B G' H' σ (aW L env) β'->aw G G'->iL B H H'->VO Γ.K B H G' H' (if wv=true then .w else .v) d v->Q v H') (hl:∀ds β,F ds β≠.bad->ds.length=ps.length - 1) :
  aT Γ E fr L σ H λvs H1=>xN X.K (ps.length - 1) F (.ref p :: vs) H1 Q E:=by
 subst hp
 refine⟨env,G,_,β,I,h.imp λds β1 k vs G1 H1 I1 s1 m1 r=>?_⟩
 obtain⟨b1,b2,b3⟩:=I1.box p rfl
 refine⟨p,vs,G1,ds,β1,rfl,b1,b2,I1.sub,hl ds β1 λz=>by rw[z] at k;exact k,by rw[hK];exact r,?_⟩
 cases q:F ds β1 with
 |bad=>rw[q] at k;exact k
 |ok d fr' β2=>
  rw[q] at k
  intro v G' H' hh hb hg hs hn fv
  have I2:=I1.calledB hh hb hg hs hn
  cases fr' with
  |true=>
   obtain⟨c,rfl,p1,p2,p3⟩:∃a,v=.ref a/\H1 a=none/\G' a=none/\Own X.K G' H' a d:=fv
   rw[hK] at p3
   have hp:=fK m1 I1.boxThere p1
   cases wv with
   |true=>exact k _ G' H' I2 (s1.trans hg) (m1.trans hh) ⟨c,rfl,hp,p2,p3⟩
   |false=>
    obtain⟨q1,q2,q3,q4⟩:=I1.fresh p1
    obtain⟨G3,I3,s3,r3⟩:=I2.letIn q1 p2 q3 q4 p3
    exact k _ G3 H' I3 ((s1.trans hg).trans s3) (m1.trans hh) r3
  |false=>
   cases wv with
   |true=>exact k.elim
   |false=>
    have fv:Rp X.K G' v d:=fv
    rw[hK] at fv
    exact k _ G' H' I2 (s1.trans hg) (m1.trans hh) fv
theorem IA {F:List D->Int->FB}{ps:@IN}{Q:VK}{i:Nat}{σ:St}{H:Hp}(hK:X.K=Γ.K){wv:Bool}(hl:∀ds β,F ds β≠.bad->ds.length=ps.length - 1)(h:pT Γ E (if wv=true then Nz i F fr else pN i F fr) L (if wv=true then .w else .v) σ H Q) :
  Hl i σ H λx H1=>aT Γ E fr L σ H1 λvs H2=>xN X.K (ps.length - 1) F (x :: vs) H2 Q E:=by
 obtain⟨env,G,B,β,I,o⟩:=h
 have hi:y0 (vl env) i=true:=by
  by_cases hi:y0 (vl env) i=true
  ·exact hi
  ·exfalso
   cases wv with
   |true=>simp only[P9] at o;unfold Nz at o;rw[OP hi] at o;exact o
   |false=>simp only[PV,Ql] at o;unfold pN at o;rw[OP hi] at o;exact o
 obtain⟨p,e1,e2⟩:=I.slot i _ (Fe hi)
 refine⟨.ref p,e1,Gr (i:=i) (ps:=ps) I hK e2 (wv:=wv) ?_ hl⟩
 cases wv with
 |true=>
  simp only[P9] at o ⊢
  unfold Nz at o
  rw[OG hi] at o
  refine o.bnd.imp λds β1 h=>?_
  cases q:F ds β1 with
  |bad=>rw[q] at h;exact h
  |ok d b β2=>rw[q] at h;cases b <;> exact h
 |false=>
  simp only[PV,Ql] at o ⊢
  unfold pN at o
  rw[OG hi] at o
  refine o.bnd.imp λds β1 h=>?_
  cases q:F ds β1 with
  |bad=>rw[q] at h;exact h
  |ok d b β2=>rw[q] at h;cases b <;> exact h
def o9 {x y:Str}{ps:@IN}{k:Nat}{F:List D->Int->FB}{p np:Pos}(i:Nat)(hf:pH X.prog X.w X.K X.mg X.base x ps k F)(hr:eG k X.A)(hx:Passes (o6 X.prog X.w) X E)(hK:X.K=Γ.K)(hg:Gl X x)(ha:SA X Γ E es fr L)(hN:X.N[i]? =some y:=by rfl)(hv:An X.env.scope y:=by first |exact Or.inl rfl |exact Or.inr (Or.inl rfl) |exact Or.inr (Or.inr rfl))(hd:(y == ("__debug__":Str))=false:=by decide)
  (hcd:(y == ("__classdict__":Str))=false:=by decide) (hdb:@G_:=by decide)
  (he:starEach (.Name y np :: es) X.env=(false,eval (.Name y np) X.env) :: starEach es X.env:=by rfl) (hpl:(backTo pos (starEach es X.env)).any (·.1)=false:=by rfl):SE X Γ E (.Call (.Name x p) (.Name y np :: es) [] pos) (pN i F fr) L .v:=by
 obtain⟨f,fd,hm,hk,hb,hF⟩:=hf.ex
 refine PE.post' (nR (dvs:=[]) hF hr hg hm hk hb .nil hx (a9 (km hN hv hd hcd) ha he) hdb he hpl) λσ H Q h=>?_
 have:=IA (Q:=Q) (wv:=false) (ps:=ps) hK hf.len (by simpa using h)
 show Hl i σ H λx H1=>aT Γ E fr L σ H1 λvs H2=>xN X.K (ps.length - 1) F ((x :: vs) ++ []) H2 Q E
 simpa using this
def Em:D->Option Int
 | .list [.int z]=>some z
 |_=>none
def GW {d:D}{z:Int}(h:Em d=some z):d=.list [.int z]:=by
 unfold Em at h
 split at h
 ·cases h;rfl
 ·cases h
def OC (f0:VF D)(F:List D->Int->FB)(n:Int):VF D:=λvs β=>(f0 vs β).bnd λd0 β1=>match Em d0 with
 |some z=>(match F [.int n] z with
  | .ok d _ _=>.ok d β1
  | .bad=>.bad)
 |none=>.bad
def vO (env:En):En:=env.map λs=>match s with
 | .bx=>.no
 |s=>s
theorem DD {env:En}{i:Nat}{s:Sl}(h:(vO env)[i]? =some s)(n:s≠.no):env[i]? =some s/\s≠.bx:=by
 unfold vO at h
 rw[OU] at h
 cases e:env[i]? with
 |none=>rw[e] at h;cases h
 |some t=>
  rw[e] at h
  have h:=Option.some.inj h
  cases t with
  |bx=>exact absurd h.symm n
  |no=>exact absurd h.symm n
  |fz d=>subst h;exact⟨rfl,λz=>by cases z⟩
  |ow d=>subst h;exact⟨rfl,λz=>by cases z⟩
  |br d=>subst h;exact⟨rfl,λz=>by cases z⟩
def AG (i:Nat)(L:@IR)(f:VF D):SF:=λenv β=>toS (f (vl env) β) λd _=>match Em d with
 |some z=>.nx ((vO (aW L env)).set i .bx) z
 |none=>.bad
theorem Hb {i:Nat}{x:Str}{pos':Pos}(hbx:Γ.bx=none)(he:SE X Γ E e f L .w)(hN:X.N.Nodup)(hi:X.N[i]? =some x:=by rfl)(hx:Loc X.env.scope x:=by first |exact Or.inl rfl |exact Or.inr rfl)(hs:swapsWith e (some (.Name x pos')) pos.line X.env=pure false:=by rfl)(hf:X.fn x=true\/X.env.scope.names.lookup x=some .local:=by first |exact .inl rfl |exact .inr rfl |assumption) :
  SS X Γ E (.Assign [.Name x pos'] e pos) (AG i L f):=by
 refine PS.post (rN hN hi hx he hs hf) λN σ H ⟨env,G,B,β,I,o⟩=>?_
 refine⟨env,G,B,β,I,c7 o λd β' k v G' H' I' s' m' vo=>?_⟩
 cases q:Em d with
 |none=>rw[q] at k;exact k.elim
 |some z=>
  rw[q] at k
  obtain rfl:=GW q
  obtain⟨p,rfl,h1,h2,xs,h3,r⟩:=vo
  have hx2:H' p=some (.lst [.int z]):=by
   cases r with
   |cons r1 r2=>
    cases r1
    cases r2
    exact h3
  obtain⟨q1,q2,q3,q4⟩:=I.fresh h1
  refine k (some p) G' H' _ ⟨I'.sub,I'.old,I'.new,I'.keep,I'.pin,λb e=>(by rw[hbx] at e;cases e),λb e=>?_,?_,λj t e=>?_,λj j' c d1 d2 e1 e2 e3 e4=>?_⟩ s'
  ·cases e;exact⟨hx2,h2,.inr q1⟩
  ·rw[Qa,Qa];unfold vO;rw[OH];exact I'.len
  ·by_cases hj:j=i
   ·subst hj
    by_cases hl:j < (vO (aW L env)).length
    ·rw[O6 hl] at e
     cases e
     refine⟨p,?_,rfl⟩
     rw[O6]
     rw[I'.len];unfold vO at hl;simpa using hl
    ·rw[Qg (by rw[Qa];omega)] at e;cases e
   ·rw[O2 (Ne.symm hj)] at e ⊢
    by_cases hn:t=.no
    ·subst hn;trivial
    ·obtain⟨e1,nb⟩:=DD e hn
     have w:=I'.slot j t e1
     cases t with
     |no=>trivial
     |fz d=>exact w
     |bx=>exact absurd rfl nb
     |ow d=>
      obtain⟨a',g1,g2,g3,g4,g5⟩:=w
      exact⟨a',g1,g2,g3,λy=>q4 j d (qO e1) (by cases y;exact g1),g5⟩
     |br d=>
      obtain⟨b1,a',g1,g4,hpp,g5⟩:=w
      have e0:env[j]? =some (.br d):=JJ e1
      obtain⟨_,a2,f1,_,_,f5⟩:=I.slot j _ e0
      rw[g1] at f1;cases f1
      obtain⟨o,ho⟩:=f5.obj
      exact⟨b1,a',g1,λy=>(by cases y;rw[h1] at ho;cases ho),hpp,g5⟩
  ·have back:∀{j:Nat} {d1:D},((vO (aW L env)).set i Sl.bx)[j]? =some (.ow d1)->j≠i/\(aW L env)[j]? =some (.ow d1):=λ{j d1} e=>by
    by_cases hj:j=i
    ·subst hj
     by_cases hl:j < (vO (aW L env)).length
     ·rw[O6 hl] at e;cases e
     ·rw[Qg (by rw[Qa];omega)] at e;cases e
    ·rw[O2 (Ne.symm hj)] at e
     exact⟨hj,(DD e (λy=>by cases y)).1⟩
   obtain⟨n1,w1⟩:=back e1
   obtain⟨n2,w2⟩:=back e2
   rw[O2 (Ne.symm n1)] at e3
   rw[O2 (Ne.symm n2)] at e4
   exact I'.sep j j' c d1 d2 w1 w2 e3 e4
end
section
variable {P:Program}{w:World}{K:Frag}{mg:@FS}{base:Heap}{ca:Str->Addr}
def E9:SO->FB
 | .nx _ β=>.ok .none false β
 | .rt d fr β=>.ok d fr β
 |_=>.bad
def yR (n:Nat)(ds:List D):En:=.bx :: ds.map Sl.fz ++ List.replicate (n - 1 - ds.length) .no
def xc (n p:Nat)(m:SF):List D->Int->FB:=λds β=>if ds.length=p then E9 (m (yR n ds) β) else .bad
abbrev Fx.fb (K:Frag)(H G:Hp)(ca:Str->Addr)(b:Addr):Fx:=⟨K,H,G,[b],ca,λ_=>false,some b⟩
def SR.startB {H G:Hp}{N:@IN}{b:Addr}{vs:List V}{ds:List D}{β:Int}(s:aw G H)(hb:H b=some (.lst [.int β]))(gb:G b=none)(r:cz K G vs ds)(hn:ds.length + 1<=N.length):SR (Fx.fb K H G ca b) (some b) G H (L2.start N (.ref b :: vs)) (yR N.length ds) β:=by
 have hl:=r.len
 refine⟨s,aw.refl _,λc _ h=>h,λc o h _=>Kt.of h,λc h=>?_,λc h=>h,λc h=>?_,?_,λi t e=>?_,λi j a d e h=>?_⟩
 ·have:c=b:=by simpa using h
  subst this;exact Mx.lst hb
 ·cases h;exact⟨hb,gb,.inl (by simp)⟩
 ·unfold L2.start yR;simp;omega
 ·cases i with
  |zero=>
   unfold yR at e
   cases e
   exact⟨b,rfl,rfl⟩
  |succ i=>
   unfold yR at e
   have e:(ds.map Sl.fz ++ List.replicate (N.length - 1 - ds.length) Sl.no)[i]? =some t:=by simpa using e
   by_cases hi:i < ds.length
   ·rw[Pg (by simpa using hi),OU,OD hi] at e
    cases e
    obtain⟨x,hx,rx⟩:=r.at (OD hi)
    refine⟨x,?_,rx⟩
    unfold L2.start
    have hi':i < vs.length:=by rw[hl];exact hi
    rw[Pg (by simp;exact hi'),OU,List.getElem?_cons_succ,hx];rfl
   ·rw[Po (by simpa using hi),P0] at e
    split at e
    ·cases e;trivial
    ·cases e
 ·unfold yR at h
  have hm:=O0 h
  rcases OK.mp hm with z |hm
  ·cases z
  rcases OT.mp hm with z |z
  ·obtain⟨_,_,z⟩:=O3.mp z;cases z
  ·have:=Qi z;cases this
def xS {x qual:Str}{st:Stmt}{f:Addr}{fd:FuncData}{N:@IN}{ps:@IN}{k:Nat}{m:SF}(F:Ca K x qual st f fd)(S:aF N ps (ao st))(hp:1<=ps.length)
  (hbody:∀(cdv:Value) (A:Around) (outer:List Env) (s:Shared) (H G:Hp) (b:Addr) (E:XK),eG k (A.deeper (envOfC qual (ao st) s.heap.objs.size f cdv))->DV (pM (o6 P w) P w K mg base N qual (ao st) f cdv A outer s H E) (Fx.fb K H G ca b) E (c3 st) m) :
  fM P w K mg base (o6 P w) (k + 1) f fd ps (xN K (ps.length - 1) (xc N.length (ps.length - 1) m)):=by
 have hpn:ps.length<=N.length:=by have:=congrArg List.length S.pre;rw[PH] at this;omega
 refine F.Hr S (λvs H Q E h=>?_) (λcdv A outer s H vs Q E hr h=>?_)
 ·obtain⟨b,rest,G,ds,β,rfl,hb,gb,sG,hl,r,_⟩:=h
  rw[O8,r.len];omega
 ·obtain⟨b,rest,G,ds,β,rfl,hb,gb,sG,hl,r,h⟩:=h
  refine⟨_,hbody cdv A outer s H G b E hr,?_⟩
  have I:=SR.startB (ca:=ca) (N:=N) sG hb gb r (@AT)
  refine⟨_,G,some b,β,I,?_⟩
  unfold xc at h
  rw[OG hl] at h
  have fin':∀{B G' H' σ env β},SR (Fx.fb K H G ca b) B G' H' σ env β->iL (some b) H H'/\H' b=some (.lst [.int β]):=λJ=>by
   have e:=J.fix b rfl
   have k:∀c o,H c=some o->some b≠some c->Kt _ c o:=λc o ec n=>J.keep c o ec λz=>n (show some b=some c by rw[show c=b by simpa using z])
   exact⟨⟨k,λc o u ec=>k c _ ec λz=>by cases z;rw[hb] at ec;cases ec⟩,(J.box b e).1⟩
  cases q:m (yR N.length ds) β with
  |nx env β'=>rw[q] at h;exact λB G' H' σ J s'=>h .non G' H' (fin' J).1 (fin' J).2 s' J.sub (λc h1 h2=>J.new c h1 h2) Rp.non
  |bk env β'=>rw[q] at h;exact h.elim
  |ct env β'=>rw[q] at h;exact h.elim
  |rt d fr β'=>
   rw[q] at h
   refine λB G' H' σ env v J s' rv=>h v G' H' (fin' J).1 (fin' J).2 s' J.sub (λc h1 h2=>J.new c h1 h2) ?_
   cases fr with
   |true=>exact rv
   |false=>exact rv
  |exc c=>rw[q] at h;exact h.elim
  |bad=>rw[q] at h;exact h.elim
def xU {n p:Nat}{m:SF}(ds:List D)(β:Int)(h:xc n p m ds β≠.bad):ds.length=p:=by
 unfold xc at h
 by_cases hl:ds.length=p
 ·exact hl
 ·rw[OP hl] at h;exact absurd rfl h
def pH.imp {x:Str}{ps:@IN}{k:Nat}{F F':List D->Int->FB}(h:pH P w K mg base x ps k F)(i:∀ds β,F' ds β≠.bad->F ds β=F' ds β):pH P w K mg base x ps k F':=by
 obtain⟨f,fd,a,b,c,d⟩:=h.ex
 refine⟨⟨f,fd,a,b,c,d.imp λvs H Q E q=>?_⟩,λds β hn=>h.len ds β (by rw[i ds β hn];exact hn)⟩
 obtain⟨b,rest,G,ds,β,e,hb,gb,s,hl,r,q⟩:=q
 refine⟨b,rest,G,ds,β,e,hb,gb,s,hl,r,?_⟩
 by_cases hF:F' ds β=.bad
 ·rw[hF] at q;exact q.elim
 ·rw[i ds β hF];exact q
end
def ax (p:Pr):D:=.tuple [.int p.1,.int p.2]
def rV:D->Option Pr
 | .tuple [.int a,.int b]=>some (a,b)
 |_=>none
def xC {d:D}{p:Pr}(h:rV d=some p):d=ax p:=by
 unfold rV at h
 split at h
 ·cases h;rfl
 ·cases h
def AV (p:Pr):rV (ax p)=some p:=rfl
def jw:List D->Option (@A_)
 | []=>some []
 |d :: ds=>match rV d,jw ds with
  |some p,some ps=>some (p :: ps)
  |_,_=>none
theorem mV:∀{ds:List D} {ps:@A_},jw ds=some ps->ds=ps.map ax
 | [],ps,h=>by cases h;rfl
 |d :: ds,ps,h=>by
  unfold jw at h
  split at h
  ·rename_i p qs h1 h2;cases h;rw[xC h1,mV h2];rfl
  ·cases h
theorem gB:∀ps:@A_,jw (ps.map ax)=some ps
 | []=>rfl
 |p :: ps=>by
  show (match rV (ax p),jw (ps.map ax) with
   |some p,some ps=>some (p :: ps)
   |_,_=>none)=_
  rw[AV,gB ps]
section
variable {K:Frag}{X:Cx}{G H:Hp}
theorem cz.pairs:∀{ps:@A_} {xs:List V},cz K G xs (ps.map ax)->bw K G xs ps
 | [],_,.nil=>.nil
 |p :: ps,_,.cons r t=>by
  cases r with
  |tup hq r=>
   cases r with
   |cons r1 r=>
    cases r with
    |cons r2 r=>cases r;cases r1;cases r2;exact .cons ⟨_,rfl,hq⟩ (cz.pairs t)
theorem bw.rps:∀{ps:@A_} {xs:List V},bw K G xs ps->cz K G xs (ps.map ax)
 | [],_,.nil=>.nil
 |p :: ps,_,.cons r t=>by
  obtain⟨a,rfl,q⟩:=r
  exact .cons (.tup q (.cons (.int _) (.cons (.int _) .nil))) (bw.rps t)
def Ko (p:Pr):Bool:=decide (0<=p.1) && decide (p.1 < 8) && decide (0<=p.2) && decide (p.2 < 8)
def JS {p:Pr}(h:Ko p=true):Sm p:=by
 unfold Ko at h
 simp only[O1,OY] at h
 exact⟨⟨h.1.1.1,h.1.1.2⟩,h.1.2,h.2⟩
variable {Γ:Fx}{E:XK}{e a b c:Expr}{f fa fb fc:VF D}{L La Lb:@IR}{md ma mb mc:Md}{pos:Pos}
end
section
variable {K:Frag}{X:Cx}{G H:Hp}{Γ:Fx}{E:XK}{e a b c:Expr}{f fa fb fc:VF D}{L La Lb:@IR}{md ma mb mc:Md}{pos apos cpos np:Pos}
def iC:D->Option D
 | .int n=>if 0<=n/\n<=1000 then some (.list (gf 0 n.toNat)) else none
 |_=>none
def AS (n:Nat):cz K G ((List.range n).map λ(i:Nat)=>V.int (i:Int)) (gf 0 n):=by
 have key:∀l:@IR,cz K G (l.map λ(i:Nat)=>V.int (i:Int)) (l.map λ(k:Nat)=>int (0 + k)):=by
  intro l
  induction l with
  |nil=>exact .nil
  |cons x l ih=>exact .cons (by show Rp K G (.int (x:Int)) (.int (0 + (x:Int)));rw[Qp];exact .int _) ih
 exact key _
theorem rF {p1 p2 pos2:Pos}(hc:X.calm=true)(hg:Gl X "list")(hm:X.mg "list"=none)(hg2:Gl X "range")(hm2:X.mg "range"=none)(ha:SE X Γ E a fa La ma)
  (he:starEach [a] X.env=(false,eval a X.env) :: starEach [] X.env:=by rfl)
  (he2:starEach [.Call (.Name "range" p2) [a] [] pos2] X.env=(false,eval (.Call (.Name "range" p2) [a] [] pos2) X.env) :: starEach [] X.env:=by rfl) :
  SE X Γ E (.Call (.Name "list" p1) [.Call (.Name "range" p2) [a] [] pos2] [] pos) (f1 fa iC) La .w:=by
 refine PE.post' (kC (sZ hc) hg hm (@FM) (a9 (kC Eo hg2 hm2 (@FM) (a9 ha b9 he) @F_ @F_ he) b9 he2) @F_ @F_ he2) λσ H Q ⟨env,G,B,β,I,o⟩=>?_
 refine lB (r:=λx H1 Q=>∃n:Int,[x]= [.int n]/\∀p,H1 p=none->(λ(y:V) (H2:Hp)=>∃(p:Addr) (n:Int),[y]= [V.ref p]/\H2 p=some (.bN 0 n)/\0<=n/\n<=1000/\∀l,H2 l=none->Q (.ref l) (upd H2 l (.lst ((List.range n.toNat).map λ(i:Nat)=>V.int (i:Int))))) (V.ref p) (upd H1 p (.bN 0 n))) ?_ I o
 intro B G H x dx d Q s hB bx e k
 cases dx with
 |int n=>
  obtain rfl:=bx.int
  simp only[iC] at e
  split at e
  ·rename_i hh
   cases e
   refine⟨n,rfl,λp hp=>⟨p,n,rfl,aB,hh.1,hh.2,λl hl=>?_⟩⟩
   have hlp:l≠p:=λz=>by subst z;rw[aB] at hl;cases hl
   have hlH:H l=none:=by rw[ay hlp] at hl;exact hl
   have x1:=Ext.own s (o:=.bN 0 n) hp
   have x2:=Ext.own x1.gh (o:=.lst ((List.range n.toNat).map λ(i:Nat)=>V.int (i:Int))) hl
   exact k _ _ _ (x1.trans x2) ⟨l,rfl,hlH,s.free hlH,_,aB,AS _⟩
  ·cases e
 |_=>cases e
noncomputable def kZ (d:D):Option D:=match d with
 | .list ds=>(match jw ds with
  |some ps=>if ps.all Ko=true/\ps.Nodup/\ps.length < 64 then some (.list ((OM.c9 8 (OM.Mem ps)).map ax)) else none
  |none=>none)
 |_=>none
theorem AB:DS K (λx=>zM K [x]) kZ .w:=by
 intro B G H x dx d Q s hB bx e k
 cases dx with
 |list ds=>
  simp only[kZ] at e
  cases q2:jw ds with
  |none=>rw[q2] at e;cases e
  |some ps=>
   rw[q2] at e
   dsimp only at e
   split at e
   ·rename_i hh
    obtain⟨h1,h2,h3⟩:=hh
    cases e
    obtain⟨p,xs,rfl,hq,r⟩:=bx.list s
    rw[mV q2] at r
    have pv:=(r.mono s).pairs
    have sm:∀p,p∈ps->Sm p:=λp hp=>JS (O4.mp h1 p hp)
    refine⟨p,xs,ps,rfl,.inl hq,pv,sm,h2,h3,λl ws rs hl hpw hr hmem=>?_⟩
    have ers:rs=OM.c9 8 (OM.Mem ps):=OM.dR hr (OM.gc _ _) λx=>by
     rw[hmem x,OM.cG]
     constructor
     ·intro hx;have hs:=sm x hx;exact⟨⟨⟨hs.1.1,hs.1.2⟩,hs.2.1,hs.2.2⟩,hx⟩
     ·intro hx;exact hx.2
    subst ers
    have hh:aw H (upd H l (.lst ws)):=aw.new hl
    refine k _ _ _ (Ext.tups s hh) ⟨l,rfl,hl,?_,ws,aB,?_⟩
    ·unfold fP
     rw[s.free hl,aB]
     exact OP λy=>y
    ·refine bw.rps (Paired.mapP hpw λv p ⟨a,ea,qa⟩=>⟨a,ea,nV (s.trans hh) ?_⟩)
     exact qa.grow (jn.new hl)
   ·cases e
 |_=>cases e
def BI (ds:List D)(k:D):Option (D×List D):=match k with
 | .int i=>if -(2 ^ 63)<=i/\i < 2 ^ 63 then (match seqIndex? i ds.length with
  |some n=>(match ds[n]? with
   |some d=>some (d,ds.eraseIdx n)
   |none=>none)
  |none=>none) else none
 |_=>none
def lE (i j:Nat)(L:@IR)(f:VF D):SF:=λenv β=>if rq env[i]? =true/\rq env[j]? =true/\i≠j then toS (f (vl env) β) λk β'=>match (aW L env)[j]? with
 |some (.ow (.list es))=>(match BI es k with
  |some (d,es')=>HA i ((aW L env).set j (.ow (.list es'))) β' λds=>if ds.length < sizeLine then some (ds ++ [d]) else none
  |none=>.bad)
 |_=>.bad else .bad
theorem cz.eraseIdx:∀{xs:List V} {ds:List D} (i:Nat),cz K G xs ds->cz K G (xs.eraseIdx i) (ds.eraseIdx i)
 |_,_,_,.nil=>.nil
 |_,_,0,.cons _ t=>t
 |_,_,i + 1,.cons r t=>.cons r (cz.eraseIdx i t)
theorem A6 (i j:Nat){x y:Str}{np2 apos2 cpos2:Pos}(hb:∀j,Γ.br j=false)(he:SE X Γ E e f L md)(hN:X.N[i]? =some x:=by rfl)(hv:An X.env.scope x:=by first |exact Or.inl rfl |exact Or.inr (Or.inl rfl) |exact Or.inr (Or.inr rfl))(hd:@G_:=by decide)
  (hcd:(x == ("__classdict__":Str))=false:=by decide)
  (hN2:X.N[j]? =some y:=by rfl) (hv2:An X.env.scope y:=by first |exact Or.inl rfl |exact Or.inr (Or.inl rfl) |exact Or.inr (Or.inr rfl)) (hd2:(y == ("__debug__":Str))=false:=by decide)
  (hcd2:(y == ("__classdict__":Str))=false:=by decide)
  (hbase:attributeBase (.Name x np) "append" X.env (eval (.Name x np) X.env)=eval (.Name x np) X.env:=by rfl)
  (hfew:((backTo cpos (starEach [.Call (.Attribute (.Name y np2) "pop" apos2) [e] [] cpos2] X.env)).all (λx=> !x.1) && (backToKw cpos (keywordEach [] X.env)).all (λx=>x.1.isSome)
   && decide ([Expr.Call (.Attribute (.Name y np2) "pop" apos2) [e] [] cpos2].length + ([]:List Keyword).length + (if ([]:List Keyword).isEmpty then 0 else 1) < 30))=true:=by rfl)
  (hline:(apos.endLine == cpos.line)=true:=by rfl) (hs:starEach [.Call (.Attribute (.Name y np2) "pop" apos2) [e] [] cpos2] X.env=(false,eval (.Call (.Attribute (.Name y np2) "pop" apos2) [e] [] cpos2) X.env) :: starEach [] X.env:=by rfl)
  (hbase2:attributeBase (.Name y np2) "pop" X.env (eval (.Name y np2) X.env)=eval (.Name y np2) X.env:=by rfl)
  (hfew2:((backTo cpos2 (starEach [e] X.env)).all (λx=> !x.1) && (backToKw cpos2 (keywordEach [] X.env)).all (λx=>x.1.isSome)
   && decide ([e].length + ([]:List Keyword).length + (if ([]:List Keyword).isEmpty then 0 else 1) < 30))=true:=by rfl)
  (hline2:(apos2.endLine == cpos2.line)=true:=by rfl) (hs2:starEach [e] X.env=(false,eval e X.env) :: starEach [] X.env:=by rfl)
  (hsw:swapsWith (.Call (.Attribute (.Name x np) "append" apos) [.Call (.Attribute (.Name y np2) "pop" apos2) [e] [] cpos2] [] cpos) none pos.line X.env=pure false:=by rfl) :
  SS X Γ E (.Expr (.Call (.Attribute (.Name x np) "append" apos) [.Call (.Attribute (.Name y np2) "pop" apos2) [e] [] cpos2] [] cpos) pos) (lE i j L f):=by
 refine PS.post (ql (Ah QQ PySem.F.slot_list_append PySem.F.type_list_append o7 (km hN hv hd hcd)
  (a9 (Ah QQ PySem.F.slot_list_pop PySem.F.type_list_pop Cp (km hN2 hv2 hd2 hcd2) (a9 he b9 hs2) hbase2 hfew2 hline2 hs2 rfl) b9 hs) hbase hfew hline hs rfl) hsw) λN σ H ⟨env,G,B,β,I,o⟩=>?_
 unfold lE at o
 by_cases hO:rq env[i]? =true/\rq env[j]? =true/\i≠j
 case neg=>rw[OP hO] at o;exact o.elim
 rw[OG hO] at o
 obtain⟨hO1,hO2,hij⟩:=hO
 obtain⟨ds0,q0⟩:=nZ hO1
 obtain⟨es0,w0⟩:=nZ hO2
 obtain⟨p,h1,_,_,_,xs,h5,_⟩:=I.slot i _ q0
 obtain⟨q,k1,_,_,_,ys,k5,_⟩:=I.slot j _ w0
 refine⟨_,h1,.inl ⟨rfl,xs,.inl (.inl h5)⟩,?_⟩
 refine⟨_,k1,.inl ⟨rfl,ys,.inl (.inl k5)⟩,?_⟩
 refine⟨env,G,B,β,I,c7 o λkd β' k v G' H' I' s' m' vo=>?_⟩
 cases ej:(aW L env)[j]? with
 |none=>rw[ej] at k;exact k.elim
 |some sj=>
  rw[ej] at k
  cases sj with
  |ow dj=>
   cases dj with
   |list es=>
    dsimp only at k
    cases ep:BI es kd with
    |none=>rw[ep] at k;exact k.elim
    |some pr=>
     obtain⟨d,es'⟩:=pr
     rw[ep] at k
     dsimp only at k
     unfold BI at ep
     cases kd <;> first | (cases ep;done) |skip
     rename_i ii
     dsimp only at ep
     split at ep
     ·rename_i hr
      cases eI:seqIndex? ii es.length with
      |none=>rw[eI] at ep;cases ep
      |some n=>
       rw[eI] at ep
       dsimp only at ep
       cases eD:es[n]? with
       |none=>rw[eD] at ep;cases ep
       |some d0=>
        rw[eD] at ep
        cases ep
        obtain rfl:=(vo.brw I.boxThere).int
        obtain⟨q',g1,_,_,_,zs,g5,g6⟩:=I'.slot j _ ej
        rw[k1] at g1;cases g1
        obtain⟨xv,ex,rx⟩:=g6.at eD
        refine⟨q,zs,ii,n,xv,rfl,rfl,g5,hr.1,hr.2,by rw[g6.len];exact eI,ex,?_⟩
        have I2:=I'.write hb ej k1 (o:=.lst (zs.eraseIdx n)) (d':=.list (es.eraseIdx n)) λH2 e2 s2=>⟨_,e2,g6.eraseIdx n⟩
        obtain⟨ds,fs,eq,eg,k⟩:=qc k
        by_cases hz:ds.length < sizeLine
        case neg=>rw[OP hz] at eg;cases eg
        rw[OG hz] at eg
        cases eg
        obtain⟨p',f1,_,_,_,us,f5,f6⟩:=I2.slot i _ eq
        rw[h1] at f1;cases f1
        refine⟨p,us,xv,rfl,rfl,f5,by rw[f6.len];exact hz,?_⟩
        exact k B G' _ σ (I2.write hb eq h1 λH2 e2 s2=>⟨_,e2,f6.snoc rx⟩) s'
     ·cases ep
   |_=>exact k.elim
  |_=>exact k.elim
end
def fA:List D->Int->FB
 | [.int m],β=>if 0 < m/\m < 1073741824 then .ok (.int (β % m)) false (β / m) else .bad
 |_,_=>.bad
def Ar {ds:List D}{β:Int}(h:fA ds β≠.bad):∃m,ds= [.int m]/\0 < m/\m < 1073741824:=by
 unfold fA at h
 split at h
 ·rename_i m
  by_cases hh:0 < m/\m < 1073741824
  ·exact⟨m,rfl,hh.1,hh.2⟩
  ·rw[OP hh] at h;exact absurd rfl h
 ·exact absurd rfl h
def uH {m β:Int}(h0:0 < m)(h1:m < 1073741824):fA [.int m] β=.ok (.int (β % m)) false (β / m):=OG ⟨h0,h1⟩
section
variable {P:Program}{w:World}{K:Frag}{mg:@FS}{base:Heap}
def E1 {X:Cx}{i j:Nat}{x y:Str}{px py pos:Pos}{k:Nat}(hN:X.N.Nodup)(hi:X.N[i]? =some x)(hj:X.N[j]? =some y)(hx:X.env.scope.names.lookup x=some .local)(hy:X.env.scope.names.lookup y=some .local)(hc:X.calm=true) :
  PG X (.Tuple [.Name x px,.Name y py] k pos) (EO X.K 2 (rQ (m9 i) (rQ (m9 j) Fs))):=
 rZ hc (eQ (dE hN hi (Or.inl hx) (Or.inr hx)) (eQ (dE hN hj (Or.inl hy) (Or.inr hy)) nX))
def Ei {b:Addr}{β m:Int}{H:Hp}{Q:VK}{G:Hp}(hb:H b=some (.lst [.int β]))(s:aw G H){p:Addr}(hp:H p=none)
  (kk:∀v G' H',iL (some b) H H'->H' b=some (.lst [.int (β / m)])->aw G G'->aw G' H'->(∀c,Mx H c->G c=none->G' c=none)->FV K H G' H' false (.int (β % m)) v->Q v H') (gb:G b=none) :
  Q (.int (β % m)) (upd (upd H p (.tup [.int (β / m),.int (β % m)])) b (.lst [.int (β / m)])):=by
 have hbp:b≠p:=aN hb hp
 refine kk _ G _ ⟨λc o e n=>Kt.of (by rw[ay (λz=>n (by rw[z])),ay (aN e hp)];exact e),λc o u e=>by rw[ay (λz=>by rw[z,hb] at e;cases e),ay (aN e hp)];exact e⟩ aB (aw.refl _) (λc o e=>?_) (λc _ h=>h) (.int _)
 obtain⟨u,eu,_⟩:=(s c o e).some
 exact my (my (s c o e) (aN eu hp) λx y w=>by rw[hp] at w;cases w) (λz=>by rw[z,gb] at e;cases e) λx y w=>by rw[ay hbp,hb] at w;cases w
end
end L2
namespace L2
open PySem PySem.SeqAt PySem.Spec PyProof.Rows
def uD {M:Model}{A:Around}{E:@Ev}{s:Shared}{β:Type}{b:Nat}(f:Nat->β->Sem (ForInStep β))(I:@IR->β->Shared->Prop)(Q:β->Shared->Prop)
  (turn:∀x rest b s,I (x :: rest) b s->wpAny M A (f x b) (λr s'=>match r with | .yield b'=>I rest b' s' | .done b'=>Q b' s') E s)
  (fin:∀b s,I [] b s->Q b s) (c:β) (h:I (List.range' 0 b) c s):wpAny M A (forIn [0:b] c f) Q E s:=by
 rw[Std.Legacy.Range.forIn_eq_forIn_range']
 simp only[Std.Legacy.Range.size,Nat.sub_zero,Nat.add_sub_cancel,Nat.div_one]
 exact wpAny_forIn_list f I Q turn fin _ c h
def sX (l:Addr)(items:Array Value)(n:Nat)(dd:@Is)(sl:Array (Option Value))(x:Value)(e:Value->Bool)(j:Nat)(hj:j < items.size)
  (hit:e items[j]=true) (hno:∀m (hm:m < items.size),m < j->e items[m]=false) :
  Meets (Builtin.«tuple.index» ⟨[.ref l,x],[]⟩)
   (λA R s=>s.heap.get? l=some {cls:=.type "tuple",dict:=dd,data:=.seq items n,slots:=sl}/\(∀y,y∈items->EqAt A.in1 s y x (e y))/\R (.ok (.ret (.int j s.toks))) {s with toks:=s.toks + 1}):=
 .of_wp λprog w A R s h=>by
  obtain⟨hp,g,d,tk,os⟩:=s;obtain⟨hl,he,h⟩:=h
  wp_walk using wpAny_loadPart' hl,uD _ (λrest b s'=>b.1=none/\s'=⟨hp,g,d,tk,os⟩/\∃i,i<=j/\rest=List.range' i (items.size - i)) _
  case turn=>
   rintro y rest b s' ⟨hb,rfl,i,hi,hr⟩
   obtain⟨m,hm⟩:∃m,items.size - i=m + 1:=⟨items.size - i - 1,@AT ⟩
   rw[hm,List.range'_succ] at hr
   obtain⟨rfl,rfl⟩:=List.cons.inj hr
   have hlt:y < items.size:=@AT
   have e1:items[y]? =some items[y]:=by simp[hlt]
   simp only[e1]
   refine OL (he _ (Array.getElem_mem hlt) prog w _ _ ?_)
   by_cases z:y=j
   ·subst z
    rw[hit]
    wp_walk
    exact⟨_,rfl,h⟩
   ·rw[hno y hlt (@AT)]
    wp_walk
    exact⟨rfl,rfl,y + 1,@AT,by congr 1;omega⟩
  case fin=>
   rintro b s' ⟨hb,rfl,i,hi,hr⟩
   obtain⟨m,hm⟩:∃m,items.size - i=m + 1:=⟨items.size - i - 1,@AT ⟩
   rw[hm,List.range'_succ] at hr
   cases hr
  case h=>
   exact⟨rfl,rfl,0,Pz _,by rw[Nat.min_self];rfl⟩
section
variable {K:Frag}{X:Cx}{G H:Hp}{Γ:Fx}{E:XK}{e a b c:Expr}{f fa fb fc:VF D}{L La Lb:@IR}{md ma mb mc:Md}{pos apos cpos np:Pos}
def yv (k:Int):Value->Bool
 | .int i _=>i == k
 |_=>false
theorem nF {k:Int}:∀{ns:@D_} {us:@GT} (i:Nat) (h:i < us.length) (h2:i < ns.length),Vals (ns.map V.int) us->yv k us[i]=(ns[i] == k)
 | [],_,_,_,h2,_=>absurd h2 (QV _)
 |n :: ns,_,0,_,_,.cons r _=>by obtain⟨t,rfl⟩:=r;rfl
 |n :: ns,_,i + 1,h,h2,.cons _ rs=>nF i (Nat.lt_of_succ_lt_succ h) (Nat.lt_of_succ_lt_succ h2) rs
theorem xB {k:Int}{t:Tok}(A:Around)(s:Shared):∀{ns:@D_} {us:@GT},Vals (ns.map V.int) us->∀y∈us,EqAt A s y (.int k t) (yv k y)
 | [],_,.nil,y,hy=>by cases hy
 |n :: ns,_,.cons r rs,y,hy=>by
  rcases OK.mp hy with z |z
  ·subst z;obtain⟨t',rfl⟩:=r;exact EqAt.int_int n t' k t
  ·exact xB A s rs y z
def G6 (K:Frag):V->List V->Hp->VK->Prop:=λx vs H Q=>∃(a:Addr) (ns:@D_) (k:Int),x=.ref a/\vs= [.int k]/\fN K H a (ns.map V.int)/\k∈ns/\Q (.int (ns.idxOf k:Nat)) H
def AZ:KG X "tuple.index" (G6 X.K):=by
 intro pins s σ H x vs v us Q I rx rv h
 obtain⟨a,ns,k,rfl,rfl,hq,hk,q⟩:=h
 cases rx
 obtain⟨u,rfl,ru⟩:=vals1 rv
 obtain⟨t,rfl⟩:=ru
 obtain⟨its,rs,pl,hz⟩:=I.tuple hq
 obtain⟨⟨cls,dd,data,sl⟩,ho,hc,n,hd⟩:=id pl
 simp only at hc hd
 subst hc hd
 have hj:ns.idxOf k < ns.length:=PF.mpr hk
 have hlen:its.length=ns.length:=by rw[<-rs.length,OH]
 refine call_meets PySem.F.slot_tuple_index ⟨_,ho,rfl⟩ PySem.F.entry_tuple_index (PySem.F.args_tuple_index_2 _ _)
  (sX a its.toArray n dd sl (.int k t) (yv k) (ns.idxOf k) (by simpa[hlen] using hj) ?_ ?_) ⟨ho,λy hy=>xB _ _ rs y (by simpa using hy),?_⟩
 ·have:=nF (k:=k) (ns.idxOf k) (@AT) hj rs
  simpa[Qq hj] using this
 ·intro m hm hlt
  have hm':m < ns.length:=by simpa[hlen] using hm
  have hne:ns[m]≠k:=λz=>by
   have:=List.not_of_lt_findIdx (p:=(· == k)) hlt
   simp[z] at this
  have:=nF (k:=k) m (@AT) hm' rs
  rw[beq_eq_false_iff_ne.mpr hne] at this;simpa using this
 ·exact⟨.int (ns.idxOf k:Nat),H,I.tok _,⟨_,rfl⟩,q⟩
def Inv.tupleP {pins:@C_}{σ:St}{s:Shared}{p:Addr}{xs:List V}(I:@B_)(h:fN X.K H p xs):s.TypeIs (.ref p) "tuple"/\∀a,Value.ref p=.ref a->∃ob,s.heap.get? a=some ob/\ob.dict=none:=by
 rcases h with h | ⟨o,its,n,hk,hc,hs,hz,r,hd⟩
 ·obtain⟨_,_,_,o,e,c,n,d,hd⟩:=h.ok I.hok
  exact⟨⟨o,e,c⟩,λa z=>by cases z;exact⟨o,e,hd⟩⟩
 ·exact⟨⟨o,I.kIn p o hk,hc⟩,λa z=>by cases z;exact⟨o,I.kIn p o hk,hd⟩⟩
def NY (K:Frag)(r:V->List V->Hp->VK->Prop)(to:TE)(t:TA):TE:=λσ H Q=>to σ H λx H1=>(∃p xs,x=.ref p/\fN K H1 p xs)/\t σ H1 λxs H2=>r x xs H2 Q
def Kj {o e:Expr}{es:List Expr}{to:TE}{t:TA}{name:Str}{apos cpos:Pos}{id:String}{r:V->List V->Hp->VK->Prop}(slot:Slot "tuple" name id)(hty:typeOf (.builtin id)=pure (.type "method_descriptor"))(hm:KG X id r)(ho:PE X o to)(ha:PA X (e :: es) t)
  (hbase:attributeBase o name X.env (eval o X.env)=eval o X.env:=by rfl)
  (hfew:((backTo cpos (starEach (e :: es) X.env)).all (λx=> !x.1) && (backToKw cpos (keywordEach [] X.env)).all (λx=>x.1.isSome)
   && decide ((e :: es).length + ([]:List Keyword).length + (if ([]:List Keyword).isEmpty then 0 else 1) < 30))=true:=by rfl)
  (hline:(apos.endLine == cpos.line)=true:=by rfl) (hs:starEach (e :: es) X.env=(false,eval e X.env) :: starEach es X.env:=by rfl) (hplain:(backTo cpos (starEach es X.env)).any (·.1)=false:=by rfl) :
  PE X (.Call (.Attribute o name apos) (e :: es) [] cpos) (NY X.K r to t):=by
 intro pins s σ H Q I h
 refine wpAny_Call_method_late hbase hfew hline rfl (cI (ho pins s σ H _ I h) λv s1 ⟨x,H1,I1,r1,⟨p,ys,ex,hr⟩,q1⟩=>?_)
 subst ex
 cases r1
 obtain⟨h1,h2⟩:=I1.tupleP hr
 refine⟨"tuple",id,PySem.F.plainAttrs_tuple,slot,hty,h1,h2,?_⟩
 have hA:=ha cpos pins s1 σ H1 _ I1 q1
 rw[hs] at hA ⊢
 refine Calls.callWith_builtin (by show (false || (backTo cpos (starEach es X.env)).any (·.1))=false;rw[hplain] <;> rfl) (Calls.evalArgs_plain ?_)
 exact cI hA λus s2 ⟨vs,H2,I2,r2,q2⟩=>hm pins s2 σ H2 (.ref p) vs (.ref p) us Q I2 rfl r2 q2
def kn:List D->Option (@D_)
 | []=>some []
 | .int i :: ds=>(kn ds).map (i :: ·)
 |_=>none
theorem r6:∀{ds:List D} {ns:@D_},kn ds=some ns->ds=ns.map int
 | [],ns,h=>by cases h;rfl
 | .int i :: ds,ns,h=>by
  unfold kn at h
  cases q:kn ds with
  |none=>rw[q] at h;cases h
  |some ms=>rw[q] at h;cases h;rw[r6 q];rfl
 | .none :: _,_,h=>by cases h
 | .bool _ :: _,_,h=>by cases h
 | .str _ :: _,_,h=>by cases h
 | .list _ :: _,_,h=>by cases h
 | .tuple _ :: _,_,h=>by cases h
 | .dict _ :: _,_,h=>by cases h
theorem kI:∀ns:@D_,kn (ns.map int)=some ns
 | []=>rfl
 |n :: ns=>by show (kn (ns.map int)).map (n :: ·)=_;rw[kI ns];rfl
theorem sd:∀{ns:@D_} {xs:List V},cz K G xs (ns.map int)->xs=ns.map V.int
 | [],_,.nil=>rfl
 |n :: ns,_,.cons r t=>by cases r;rw[sd t];rfl
def FQ (d y:D):Option D:=match d,y with
 | .tuple ds,.int k=>(match kn ds with
  |some ns=>if k∈ns then some (.int (ns.idxOf k:Nat)) else none
  |none=>none)
 |_,_=>none
def zY:D->Bool
 | .tuple _=>true
 |_=>false
def oF (fa fb:VF D):VF D:=λvs β=>(fa vs β).bnd λx β1=>if zY x=true then (fb vs β1).bnd λy β2=>R.of (FQ x y) β2 else .bad
theorem xQ (hK:X.K=Γ.K)(ha:SE X Γ E a fa La ma)(hb:SE X Γ E b fb Lb mb)
  (hbase:attributeBase a "index" X.env (eval a X.env)=eval a X.env:=by rfl)
  (hfew:((backTo cpos (starEach [b] X.env)).all (λx=> !x.1) && (backToKw cpos (keywordEach [] X.env)).all (λx=>x.1.isSome)
   && decide ([b].length + ([]:List Keyword).length + (if ([]:List Keyword).isEmpty then 0 else 1) < 30))=true:=by rfl)
  (hline:(apos.endLine == cpos.line)=true:=by rfl) (hs:starEach [b] X.env=(false,eval b X.env) :: starEach [] X.env:=by rfl) :
  SE X Γ E (.Call (.Attribute a "index" apos) [b] [] cpos) (oF fa fb) (La ++ Lb) .v:=by
 refine PE.post' (Kj PySem.F.slot_tuple_index PySem.F.type_tuple_index AZ ha (a9 hb b9 hs) hbase hfew hline hs rfl) λσ H Q ⟨env,G,B,β,I,o⟩=>?_
 refine⟨env,G,B,β,I,o.bnd.imp λd1 β1 h x G1 H1 I1 s1 m1 vx=>?_⟩
 have vx:=vx.brw I.boxThere
 cases d1 with
 |tuple ds=>
  rw[OG (show zY (.tuple ds)=true from rfl)] at h
  obtain⟨p,xs,rfl,hq,r⟩:=vx.tuple I1.sub
  refine⟨⟨p,xs,rfl,by rw[hK];exact hq⟩,?_⟩
  refine⟨aW La env,G1,B,β1,I1,?_⟩
  rw[dQ]
  refine h.bnd.imp λd2 β2 h y G2 H2 I2 s2 m2 vy=>?_
  obtain⟨d,e,k⟩:=h.of
  have vy:=vy.brw I1.boxThere
  cases d2 with
  |int kk=>
   obtain rfl:=vy.int
   simp only[FQ] at e
   cases q:kn ds with
   |none=>rw[q] at e;cases e
   |some ns=>
    rw[q] at e
    dsimp only at e
    split at e
    ·rename_i hk
     cases e
     have eds:=r6 q
     subst eds
     have exs:=sd r
     subst exs
     have hq2:fN X.K H2 p (ns.map V.int):=by
      rw[hK]
      rcases hq with hq |hq
      ·rcases vx with vx | ⟨_,_,_,vx⟩
       ·cases vx with
        |tup g1 r9=>have z9:=sd r9;subst z9;exact (g1.grow (s2.trans I2.sub).grow)
       ·exact vx.elim
      ·exact .inr hq
     exact⟨p,ns,kk,rfl,rfl,hq2,hk,k _ G2 H2 (by rw[cy];exact I2) (s1.trans s2) (m1.trans m2) (.int _)⟩
    ·cases e
  |_=>simp only[FQ] at e;cases e
 |_=>exact h.elim
abbrev Fx.at (Γ:Fx)(H0:Hp):Fx:=⟨Γ.K,H0,Γ.G0,Γ.par,Γ.ca,Γ.br,Γ.bx⟩
end
end L2
namespace L2
open PySem
section
variable {α γ:Type}
@[simp] theorem oC (a:α)(β:Int)(k:α->Int->R γ):(R.ok a β).bnd k=k a β:=rfl
@[simp] theorem MO (c:Str)(k:α->Int->R γ):(R.exc c:R α).bnd k=.exc c:=rfl
@[simp] theorem MF (k:α->Int->R γ):(R.bad:R α).bnd k=.bad:=rfl
@[simp] theorem NC (a:α)(β:Int)(k:α->Int->R γ):(R.ok a β).okb k=k a β:=rfl
@[simp] theorem va (a:α)(β:Int):R.of (some a) β=.ok a β:=rfl
@[simp] theorem of_none (β:Int):(R.of none β:R α)=.bad:=rfl
@[simp] theorem Nq (a:α)(β:Int)(k:α->Int->SO):toS (.ok a β) k=k a β:=rfl
@[simp] theorem MG (c:Str)(k:α->Int->SO):toS (.exc c:R α) k=.exc c:=rfl
@[simp] theorem ML (k:α->Int->SO):toS (.bad:R α) k=.bad:=rfl
end
section
variable (f fa fb fc:VF D)(t u:VF Bool)(m m':SF)(vs:List Nv)(β:Int)(env:En)(i j:Nat)(L:@IR)
@[simp] theorem Hu:gv i vs β=R.of (dat vs[i]?) β:=rfl
@[simp] theorem yC (d:D):dat (some (.da d))=some d:=rfl
@[simp] theorem J4 (d:D):cst d vs β=.ok d β:=rfl
@[simp] theorem Oa (g:D->Option D):f1 fa g vs β=(fa vs β).bnd λx β1=>R.of (g x) β1:=rfl
@[simp] theorem N6 (g:D->D->Option D):f2 fa fb g vs β=(fa vs β).bnd λx β1=>(fb vs β1).bnd λy β2=>R.of (g x y) β2:=rfl
@[simp] theorem AI:ah vs β=.ok [] β:=rfl
@[simp] theorem bX (fr:VF (List D)):aa fa fr vs β=(fa vs β).bnd λx β1=>(fr vs β1).bnd λxs β2=>.ok (x :: xs) β2:=rfl
@[simp] theorem yk:iS fa vs β=(fa vs β).bnd λx β1=>R.of (Ir x) β1:=rfl
@[simp] theorem vk:oH t vs β=(t vs β).bnd λc β1=>.ok (!c) β1:=rfl
@[simp] theorem yH:Ac t u vs β=(t vs β).bnd λc β1=>if c=true then u vs β1 else .ok false β1:=rfl
@[simp] theorem qr:oR t u vs β=(t vs β).bnd λc β1=>if c=true then .ok true β1 else u vs β1:=rfl
@[simp] theorem N9 (n:Bool):tN fa n vs β=(fa vs β).bnd λx β1=>.ok (if n then !Gp x else Gp x) β1:=rfl
@[simp] theorem Cj:Mc t fa fb vs β=(t vs β).bnd λc β1=>if c=true then fa vs β1 else fb vs β1:=rfl
@[simp] theorem dZ (c:Bool){β1:Int}(h:fa vs β=.ok (.bool c) β1):cM fa vs β=.ok c β1:=by unfold cM;rw[h];rfl
@[simp] theorem yg:vl []= []:=rfl
@[simp] theorem vI (s:Sl):vl (s :: env)=s.val :: vl env:=rfl
@[simp] theorem yy (d:D):(Sl.fz d).val=.da d:=rfl
@[simp] theorem MV (d:D):(Sl.ow d).val=.da d:=rfl
@[simp] theorem Nx:Sl.no.val=.no:=rfl
@[simp] theorem Nk:Sl.bx.val=.bx:=rfl
@[simp] theorem Mt:aW [] env=env:=rfl
@[simp] theorem LW:aW (i :: L) env=aW L (iA env i):=rfl
@[simp] theorem Mu:aL m m' env β=(match m env β with
 | .nx env' β'=>m' env' β'
 |r=>r):=rfl
@[simp] theorem NP:kO L t m m' env β=toS (t (vl env) β) λc β'=>if c=true then m (aW L env) β' else m' (aW L env) β':=rfl
@[simp] theorem cD:bL f env β=toS (f (vl env) β) λd β'=>.rt d false β':=rfl
@[simp] theorem ra:oj f env β=toS (f (vl env) β) λd β'=>.rt d true β':=rfl
@[simp] theorem NW:mh env β=.nx env β:=rfl
@[simp] theorem b8:bR i L f env β=toS (f (vl env) β) λd β'=>.nx ((aW L env).set i (.fz d)) β':=rfl
@[simp] theorem kz:jX i L f env β=toS (f (vl env) β) λd β'=>.nx ((aW L env).set i (.ow d)) β':=rfl
@[simp] theorem ip:jo L f env β=toS (f (vl env) β) λ_ β'=>.nx (aW L env) β':=rfl
end
def aC {m m':SF}{env env':En}{β β':Int}(h:m env β=.nx env' β'):aL m m' env β=m' env' β':=by unfold aL;rw[h]
def iV {m m':SF}{env:En}{β β':Int}{d:D}{b:Bool}(h:m env β=.rt d b β'):aL m m' env β=.rt d b β':=by unfold aL;rw[h]
def lO {L:@IR}{t:VF Bool}{m m':SF}{env:En}{β β':Int}(h:t (vl env) β=.ok true β'):kO L t m m' env β=m (aW L env) β':=by unfold kO;rw[h];rfl
def iw {L:@IR}{t:VF Bool}{m m':SF}{env:En}{β β':Int}(h:t (vl env) β=.ok false β'):kO L t m m' env β=m' (aW L env) β':=by unfold kO;rw[h];rfl
def aq {F:@Cl}{fr:VF (List D)}{vs:List Nv}{β β1:Int}{ds:List D}{d:D}{b:Bool}(h:fr vs β=.ok ds β1)(e:F ds=.ok d b):av F fr vs β=.ok d β1:=by unfold av;rw[h];dsimp only[R.bnd];rw[e]
def C5 {F:@Cl}{fr:VF (List D)}{vs:List Nv}{β β1:Int}{ds:List D}{d:D}(h:fr vs β=.ok ds β1)(e:F ds=.ok d true):tM F fr vs β=.ok d β1:=by unfold tM;rw[h];dsimp only[R.bnd];rw[e]
def cU {fa:VF D}{g:D->Option D}{vs:List Nv}{β β1:Int}{x d:D}(h:fa vs β=.ok x β1)(e:g x=some d):f1 fa g vs β=.ok d β1:=by unfold f1;rw[h];dsimp only[R.bnd];rw[e];rfl
def aE {fa fb:VF D}{g:D->D->Option D}{vs:List Nv}{β β1 β2:Int}{x y d:D}(h:fa vs β=.ok x β1)(h':fb vs β1=.ok y β2)(e:g x y=some d):f2 fa fb g vs β=.ok d β2:=by unfold f2;rw[h];dsimp only[R.bnd];rw[h'];dsimp only[R.bnd];rw[e];rfl
def mq {i:Nat}{F:List D->Int->FB}{fr:VF (List D)}{vs:List Nv}{β β1 β2:Int}{ds:List D}{d:D}{b:Bool}(hi:y0 vs i=true)(h:fr vs β=.ok ds β1)(e:F ds β1=.ok d b β2):pN i F fr vs β=.ok d β2:=by unfold pN;rw[OG hi,h];dsimp only[R.bnd];rw[e]
def sz (n:Nat)(h:n<=1000):n<=sizeLine:=by rw[Pq];omega
def KN (n:Nat)(h:n<=1000):n < sizeLine:=by rw[Pq];omega
def gn {fr:VF (List D)}{vs:List Nv}{β β1:Int}{ds:List D}(h:fr vs β=.ok ds β1)(hz:ds.length<=1000):bD fr vs β=.ok (.tuple ds) β1:=by unfold bD;rw[h];exact OG (sz _ hz)
def lJ {fr:VF (List D)}{vs:List Nv}{β β1:Int}{ds:List D}(h:fr vs β=.ok ds β1)(hz:ds.length<=1000):dI fr vs β=.ok (.list ds) β1:=by unfold dI;rw[h];exact OG (sz _ hz)
def uA {i:Nat}{env:En}{β:Int}{g:List D->Option (List D)}{ds es:List D}(h:env[i]? =some (.ow (.list ds)))(e:g ds=some es):HA i env β g=.nx (env.set i (.ow (.list es))) β:=by unfold HA;rw[h];dsimp only;rw[e]
def qb {i:Nat}{L:@IR}{f:VF D}{env:En}{β β':Int}{ds:List D}{d:D}(hi:env[i]? =some (.ow (.list ds)))(hf:f (vl env) β=.ok d β')(hL:(aW L env)[i]? =some (.ow (.list ds)))(hz:ds.length<=1000):nC i L f env β=.nx ((aW L env).set i (.ow (.list (ds ++ [d])))) β':=by
 unfold nC
 rw[OG (by rw[hi];rfl),hf]
 exact uA hL (OG (KN _ hz))
def yx {i j:Nat}{L:@IR}{f:VF D}{env:En}{β β':Int}{ds es es':List D}{k d:D}(hi:env[i]? =some (.ow (.list ds)))(hj:env[j]? =some (.ow (.list es)))(hij:i≠j)(hf:f (vl env) β=.ok k β')(hL:aW L env=env)(hp:BI es k=some (d,es'))(hz:ds.length<=1000):lE i j L f env β=.nx ((env.set j (.ow (.list es'))).set i (.ow (.list (ds ++ [d])))) β':=by
 unfold lE
 rw[OG ⟨by rw[hi];rfl,by rw[hj];rfl,hij⟩,hf,hL]
 dsimp only[toS]
 rw[hj]
 dsimp only
 rw[hp]
 exact uA (by rw[O2 (Ne.symm hij)];exact hi) (OG (KN _ hz))
def wF {i:Nat}{Le Li:@IR}{fe fi:VF D}{env:En}{β β1 β2:Int}{ds:List D}{d:D}{k:Int}{n:Nat}(he:fe (vl env) β=.ok d β1)(h1:(aW Le env)[i]? =some (.ow (.list ds)))(hi:fi (vl env) β1=.ok (.int k) β2)(h2:(aW (Le ++ Li) env)[i]? =some (.ow (.list ds)))(hk:uF ds.length k=some n):rb i Le Li fe fi env β=.nx ((aW (Le ++ Li) env).set i (.ow (.list (ds.set n d)))) β2:=by
 unfold rb
 rw[he]
 dsimp only[toS]
 rw[OG (by rw[h1];rfl),hi]
 exact uA h2 (by dsimp only;rw[hk];rfl)
theorem rX {t:Tg}{ft:VF Bool}{fe:VF D}{vs:List Nv}(g:D->Bool)(h:D->D):∀{ds:List D} {β:Int},(∀d,d∈ds->∃vs1,nY t d vs=some vs1/\ft vs1 β=.ok (g d) β/\(g d=true->fe vs1 β=.ok (h d) β))->iq t ft fe vs ds β=.ok ((ds.filter g).map h) β
 | [],β,_=>rfl
 |d :: ds,β,hh=>by
  obtain⟨vs1,e1,e2,e3⟩:=hh d (ON ..)
  have ih:=rX (t:=t) (ft:=ft) (fe:=fe) (vs:=vs) g h (ds:=ds) (β:=β) λd' hd=>hh d' (OQ _ hd)
  unfold iq
  rw[e1]
  dsimp only
  rw[e2]
  dsimp only[R.okb]
  cases q:g d with
  |true=>
   rw[OG rfl,e3 q]
   dsimp only
   rw[ih,QR q];rfl
  |false=>
   rw[OP OZ,ih,QS (by rw[q];exact OZ)]
def yZ {own:Nat}{ixs:@IR}{t:Tg}{fi:VF (List D)}{ft:VF Bool}{fe:VF D}{vs:List Nv}{β β1:Int}{ds:List D}(g:D->Bool)(h:D->D)(hi:fi vs β=.ok ds β1)(hz:ds.length<=1000)
  (hh:∀d,d∈ds->∃vs1,nY t d (iy own ixs vs)=some vs1/\ft vs1 β1=.ok (g d) β1/\(g d=true->fe vs1 β1=.ok (h d) β1)):aM own ixs t fi ft fe vs β=.ok (.list ((ds.filter g).map h)) β1:=by
 unfold aM
 rw[hi]
 dsimp only[R.bnd]
 rw[OG (sz _ hz),rX g h hh];rfl
def tP {own:Nat}{ixs:@IR}{t:Tg}{fi:VF (List D)}{fe:VF D}{vs:List Nv}{β β1:Int}{ds:List D}(h:D->D)(hi:fi vs β=.ok ds β1)(hz:ds.length<=1000)
  (hh:∀d,d∈ds->∃vs1,nY t d (iy own ixs vs)=some vs1/\fe vs1 β1=.ok (h d) β1):aM own ixs t fi j0 fe vs β=.ok (.list (ds.map h)) β1:=by
 rw[yZ (ft:=j0) (λ_=>true) h hi hz λd hd=>let ⟨vs1,e1,e2⟩:=hh d hd;⟨vs1,e1,rfl,λ_=>e2⟩]
 rw[List.filter_eq_self.mpr @Ch]
def bY {α:Type}{own:Nat}{ixs:@IR}{t:Tg}{fi:VF (List D)}{fe:VF D}{vs:List Nv}{β β1:Int}{l:List α}{e:α->D}(h:α->D)(hi:fi vs β=.ok (l.map e) β1)(hz:l.length<=1000)
  (hh:∀x,x∈l->∃vs1,nY t (e x) (iy own ixs vs)=some vs1/\fe vs1 β1=.ok (h x) β1):aM own ixs t fi j0 fe vs β=.ok (.list (l.map h)) β1:=by
 unfold aM
 rw[hi]
 dsimp only[R.bnd]
 rw[OG (sz _ (by rw[OH];exact hz))]
 have key:∀m:List α,(∀x,x∈m->x∈l)->iq t j0 fe (iy own ixs vs) (m.map e) β1=.ok (m.map h) β1:=by
  intro m
  induction m with
  |nil=>intro _;rfl
  |cons x m ih=>
   intro hm
   obtain⟨vs1,e1,e2⟩:=hh x (hm x (ON ..))
   rw[P8]
   unfold iq
   rw[e1]
   dsimp only
   show (R.ok true β1).okb _=_
   dsimp only[R.okb]
   rw[OG rfl,e2]
   dsimp only
   rw[ih λy hy=>hm y (OQ _ hy)];rfl
 rw[key l λ_ h=>h];rfl
def bQ {α:Type}{own:Nat}{ixs:@IR}{t:Tg}{fi:VF (List D)}{ft:VF Bool}{fe:VF D}{vs:List Nv}{β β1:Int}{l:List α}{e:α->D}(g:α->Bool)(h:α->D)(hi:fi vs β=.ok (l.map e) β1)(hz:l.length<=1000)
  (hh:∀x,x∈l->∃vs1,nY t (e x) (iy own ixs vs)=some vs1/\ft vs1 β1=.ok (g x) β1/\(g x=true->fe vs1 β1=.ok (h x) β1)):aM own ixs t fi ft fe vs β=.ok (.list ((l.filter g).map h)) β1:=by
 unfold aM
 rw[hi]
 dsimp only[R.bnd]
 rw[OG (sz _ (by rw[OH];exact hz))]
 have key:∀m:List α,(∀x,x∈m->x∈l)->iq t ft fe (iy own ixs vs) (m.map e) β1=.ok ((m.filter g).map h) β1:=by
  intro m
  induction m with
  |nil=>intro _;rfl
  |cons x m ih=>
   intro hm
   obtain⟨vs1,e1,e2,e3⟩:=hh x (hm x (ON ..))
   have ih:=ih λy hy=>hm y (OQ _ hy)
   rw[P8]
   unfold iq
   rw[e1]
   dsimp only
   rw[e2]
   dsimp only[R.okb]
   cases q:g x with
   |true=>
    rw[OG rfl,e3 q]
    dsimp only
    rw[ih,QR q];rfl
   |false=>
    rw[OP OZ,ih,QS (by rw[q];exact OZ)]
 rw[key l λ_ h=>h];rfl
theorem ic {t:Tg}{m:SF}(Pv:Nat->En->Int->Prop):∀{ds:List D} {k:Nat} {env:En} {β:Int},Pv k env β->
  (∀i d env β,ds[i]? =some d->Pv (k + i) env β->∃env1,ij t d env=some env1/\∃env2 β2,m env1 β=.nx env2 β2/\Pv (k + i + 1) env2 β2)->∃env' β',lU t m ds env β=.nx env' β'/\Pv (k + ds.length) env' β'
 | [],k,env,β,h0,_=>⟨env,β,rfl,h0⟩
 |d :: ds,k,env,β,h0,hs=>by
  obtain⟨env1,e1,env2,β2,e2,h1⟩:=hs 0 d env β rfl h0
  obtain⟨env',β',e3,h2⟩:=ic Pv (t:=t) (m:=m) (ds:=ds) (k:=k + 1) h1 λi d' en be hi hp=>by
   have:=hs (i + 1) d' en be (by simpa using hi) (by rw[show k + (i + 1)=k + 1 + i by omega];exact hp)
   rw[show k + (i + 1) + 1=k + 1 + i + 1 by omega] at this
   exact this
  refine⟨env',β',?_,by rw[O8,show k + (ds.length + 1)=k + 1 + ds.length by omega];exact h2⟩
  unfold lU
  rw[e1]
  dsimp only
  rw[e2]
  exact e3
theorem jc {L:@IR}{t:VF Bool}{m:SF}(Pv:Nat->En->Int->Prop)(Dn:En->Int->Prop):∀{n k:Nat} {env:En} {β:Int},k < n->Pv k env β->
  (∀k env β,Pv k env β->∃c β1,t (vl env) β=.ok c β1/\((c=false/\Dn (aW L env) β1)\/(c=true/\∃env2 β2 k',m (aW L env) β1=.nx env2 β2/\k' < k/\Pv k' env2 β2)))->∃env' β',iG L t m n env β=.nx env' β'/\Dn env' β'
 | 0,k,env,β,hk,_,_=>@AT
 |n + 1,k,env,β,hk,h0,hs=>by
  obtain⟨c,β1,e1,hc⟩:=hs k env β h0
  unfold iG
  rw[e1]
  dsimp only[toS]
  rcases hc with⟨rfl,hd⟩ | ⟨rfl,env2,β2,k',e2,hl,h1⟩
  ·exact⟨_,_,rfl,hd⟩
  ·rw[OG rfl,e2]
   exact jc Pv Dn (n:=n) (k:=k') (@AT) h1 hs
end L2
namespace RM
open PySem L2
def qD:SF:=(bL (fX (f1 (gv 0) (j8 "int")) (f1 (f1 (gv 0) (j8 "bool")) Cu)))
def qL (cx:@Cl):SF:=(bL (fX (av cx (aa (gv 0) ah)) (eh @E_ (gv 0) (gv 1) xG qd)))
def tZ (cx:@Cl):SF:=(bL (fX (av cx (aa (gv 0) ah)) (eh @Do (gv 0) (cst (.int 8)) xG xG)))
def ug (bB:@Cl):SF:=(aL (kO ([] ++ @GM) (oR (oH (iS (f1 (gv 0) (j8 "tuple")))) (cM (f2 (f1 (gv 0) dP) (cst (.int 2)) (cY true))))
 (bL (cst (.bool false)))
 mh)
 (bL (fX (av bB (aa (f2 (gv 0) @E_ bh) (aa (gv 1) ah))) (av bB (aa (f2 (gv 0) @Do bh) (aa (gv 1) ah))))))
def iY:SF:=(oj (aM 1 [0] (.nm 0) (gm (f2 (gv 0) (gv 0) dB)) j0 (bD (aa (f2 (gv 0) (gv 1) Ic) (aa (f2 (gv 0) (gv 1) lT) ah)))))
def qV:SF:=(bL (f1 (aM 2 [] (.two 0 1) (bc (gv 0)) j0 (f2 (gv 0) (gv 1) (cY false))) (bK λbs=>bs.any id)))
def je (i9 i8 kE gJ:@Cl):SF:=(aL (kO ([] ++ @GM) (oR (oH (iS (f1 (gv 0) (j8 "tuple")))) (cM (f2 (f1 (gv 0) dP) (cst (.int 2)) (cY true))))
 (bL (cst (.bool false)))
 mh)
 (aL (bR 1 @GM (f2 (gv 0) @E_ bh))
 (aL (bR 2 @GM (f2 (gv 0) @Do bh))
 (aL (kO (([1] ++ []) ++ []) (oR (oH (iS (av i9 (aa (gv 1) ah)))) (oH (iS (f1 (gv 2) (j8 "tuple")))))
 (bL (cst (.bool false)))
 mh)
 (aL (kO ([] ++ [1]) (oH (iS (f1 (aM 1 [1] (.nm 0) (bc (gv 2)) j0 (av i8 @Fa)) (bK λbs=>bs.all id))))
 (bL (cst (.bool false)))
 mh)
 (bL (fX (f2 (gv 2) (av kE (aa (gv 1) (aa (gv 2) ah))) (cY false)) (f1 (av gJ (aa (gv 2) ah)) Cu))))))))
def pw:SF:=(bL (fX (f2 (gv 1) (gv 2) (cY true)) (fX (f2 (bD (aa (gv 1) (aa (gv 2) ah))) (f2 (gv 0) @Do bh) (mX true)) (f2 (bD (aa (gv 2) (aa (gv 1) ah))) (f2 (gv 0) @Do bh) (mX true)))))
def qi (aI aV fC:@Cl):SF:=(aL (jo ([0] ++ []) (av aI (aa (gv 0) ah)))
 (oj (aM 2 [0] (.two 0 1) (bc (av aV (aa (f2 (gv 0) @E_ bh) ah))) (iS (av fC (aa (gv 2) @Fa))) (bD @Fa))))
def lx:SF:=(aL (bR 3 @GM (f2 (gv 0) @Do bh))
 (aL (kO ([] ++ [2]) (oH (iS (f1 (aM 2 [1,2,3] (.two 0 1) (bc (gv 3)) (cM (f2 (gv 1) (gv 2) (cY false))) (f2 (bD (aa (gv 0) (aa (gv 3) ah))) (gv 4) (mX false))) (bK λbs=>bs.all id))))
 (bL (cst (.bool false)))
 mh)
 (bL (f1 (aM 2 [2,1,3] (.two 0 1) (bc (gv 3)) (cM (f2 (gv 0) (gv 2) (cY false))) (f2 (bD (aa (gv 3) (aa (gv 1) ah))) (gv 4) (mX false))) (bK λbs=>bs.all id)))))
def m8 (mU gA:@Cl):SF:=(oj (aM 2 [0] (.two 0 1) (bc (av mU (aa (gv 0) ah))) (iS (av gA (aa (gv 2) @Fa))) (bD @Fa)))
def Lr:D->Bool
 | .int _=>true
 |_=>false
def l4:@Cl
 | [d]=>if eJ d=true then .bad else .ok (.bool (Lr d)) false
 |_=>.bad
def uv {d:D}(h:eJ d=false):l4 [d]=.ok (.bool (Lr d)) false:=OP (by rw[h];exact OZ)
def Gn (ds:List D)(h:l4 ds≠.bad):aS 1 1 qD ds=l4 ds:=by
 unfold l4 at h
 split at h
 ·rename_i d
  cases q:eJ d with
  |true=>rw[q] at h;exact absurd rfl h
  |false=>
   rw[uv q]
   have e1:j8 "int" d=some (.bool (Di d "int")):=by unfold j8;rw[q];rfl
   have e2:j8 "bool" d=some (.bool (Di d "bool")):=by unfold j8;rw[q];rfl
   show fin (bL (fX (f1 (gv 0) (j8 "int")) (f1 (f1 (gv 0) (j8 "bool")) Cu)) [.fz d] 0)=_
   unfold bL fX f1 gv
   simp only[vI,yg,yy,List.getElem?_cons_zero,yC,va,oC,e1,e2]
   cases d <;> rfl
 ·exact absurd rfl h
def j3 (d:D)(n:Int):Bool:=match d with
 | .int i=>decide (0<=i/\i < n)
 |_=>false
def fg:@Cl
 | [d,.int n]=>if eJ d=true then .bad else .ok (.bool (j3 d n)) false
 |_=>.bad
def uT {d:D}{n:Int}(h:eJ d=false):fg [d,.int n]=.ok (.bool (j3 d n)) false:=OP (by rw[h];exact OZ)
def rO {i lo n:Int}{vs:List Nv}{β:Int}{fa fb fc:VF D}{g':D->D->Option D}{q:Bool}(ha:fa vs β=.ok (.int lo) β)(hb:fb vs β=.ok (.int i) β)(hc:fc vs β=.ok (.int n) β)(hq:g' (.int i) (.int n)=some (.bool q)):eh fa fb fc xG g' vs β=.ok (.bool (decide (lo<=i) && q)) β:=by
 unfold eh
 rw[ha];dsimp only[R.bnd];rw[hb];dsimp only[R.bnd]
 show (match (some (PyData.bool (decide (lo<=i))):Option D) with
  |some (.bool true)=>_
  |some (.bool false)=>_
  |_=>_)=_
 by_cases h:lo<=i
 ·rw[OE h]
  dsimp only
  rw[hc]
  dsimp only[R.bnd]
  rw[hq];rfl
 ·rw[OR h];rfl
def Hn (ds:List D)(h:fg ds≠.bad):aS 2 2 (qL l4) ds=fg ds:=by
 unfold fg at h
 split at h
 ·rename_i d n
  cases q:eJ d with
  |true=>rw[q] at h;exact absurd rfl h
  |false=>
   rw[uT q]
   show fin (bL (fX (av l4 (aa (gv 0) ah)) (eh @E_ (gv 0) (gv 1) xG qd)) [.fz d,.fz (.int n)] 0)=_
   unfold bL fX av
   simp only[vI,yg,yy,bX,AI,Hu,List.getElem?_cons_zero,yC,va,oC,uv q]
   cases d with
   |int i=>
    show fin (toS (eh @E_ (gv 0) (gv 1) xG qd [.da (.int i),.da (.int n)] 0) _)=_
    rw[rO (lo:=0) (i:=i) (n:=n) rfl rfl rfl rfl]
    show FR.ok (.bool (decide (0<=i) && decide (i < n))) false=.ok (.bool (decide (0<=i/\i < n))) false
    rw[Bool.decide_and]
   |_=>rfl
 ·exact absurd rfl h
def HR (d:D):Bool:=match d with
 | .int i=>decide (1<=i/\i<=8)
 |_=>false
def ni:@Cl
 | [d]=>if eJ d=true then .bad else .ok (.bool (HR d)) false
 |_=>.bad
def Dy {d:D}(h:eJ d=false):ni [d]=.ok (.bool (HR d)) false:=OP (by rw[h];exact OZ)
def Jk (ds:List D)(h:ni ds≠.bad):aS 1 1 (tZ l4) ds=ni ds:=by
 unfold ni at h
 split at h
 ·rename_i d
  cases q:eJ d with
  |true=>rw[q] at h;exact absurd rfl h
  |false=>
   rw[Dy q]
   show fin (bL (fX (av l4 (aa (gv 0) ah)) (eh @Do (gv 0) (cst (.int 8)) xG xG)) [.fz d] 0)=_
   unfold bL fX av
   simp only[vI,yg,yy,bX,AI,Hu,List.getElem?_cons_zero,yC,va,oC,uv q]
   cases d with
   |int i=>
    show fin (toS (eh @Do (gv 0) (cst (.int 8)) xG xG [.da (.int i)] 0) _)=_
    rw[rO (lo:=1) (i:=i) (n:=8) rfl rfl rfl rfl]
    show FR.ok (.bool (decide (1<=i) && decide (i<=8))) false=.ok (.bool (decide (1<=i/\i<=8))) false
    rw[Bool.decide_and]
   |_=>rfl
 ·exact absurd rfl h
def pairF:@Cl
 | [d,.int n]=>(match rV d with
  |some p=>.ok (.bool (decide ((0<=p.1/\p.1 < n)/\(0<=p.2/\p.2 < n)))) false
  |none=>.bad)
 |_=>.bad
def DY (p:Pr)(n:Int):pairF [ax p,.int n]=.ok (.bool (decide ((0<=p.1/\p.1 < n)/\(0<=p.2/\p.2 < n)))) false:=rfl
def JQ (ds:List D)(h:pairF ds≠.bad):aS 2 2 (ug fg) ds=pairF ds:=by
 unfold pairF at h
 split at h
 ·rename_i d n
  cases q:rV d with
  |none=>rw[q] at h;exact absurd rfl h
  |some p=>
   obtain rfl:=xC q
   rw[DY]
   obtain⟨a,b⟩:=p
   show fin (toS (fX (av fg (aa (f2 (gv 0) @E_ bh) (aa (gv 1) ah))) (av fg (aa (f2 (gv 0) @Do bh) (aa (gv 1) ah))) [.da (.tuple [.int a,.int b]),.da (.int n)] 0) λd β'=>.rt d false β')=_
   have e1:av fg (aa (f2 (gv 0) @E_ bh) (aa (gv 1) ah)) [.da (.tuple [.int a,.int b]),.da (.int n)] 0=.ok (.bool (decide (0<=a/\a < n))) 0:=rfl
   have e2:av fg (aa (f2 (gv 0) @Do bh) (aa (gv 1) ah)) [.da (.tuple [.int a,.int b]),.da (.int n)] 0=.ok (.bool (decide (0<=b/\b < n))) 0:=rfl
   unfold fX
   rw[e1]
   dsimp only[R.bnd]
   by_cases c:0<=a/\a < n
   ·rw[OE c,e2]
    show FR.ok (.bool (decide (0<=b/\b < n))) false=.ok (.bool (decide ((0<=a/\a < n)/\(0<=b/\b < n)))) false
    simp[c]
   ·rw[OR c]
    show FR.ok (.bool false) false=.ok (.bool (decide ((0<=a/\a < n)/\(0<=b/\b < n)))) false
    simp[c]
 ·exact absurd rfl h
def ag (n:Nat)(l:@A_):D:=.tuple [.int n,.tuple (l.map ax)]
open Classical in
noncomputable def tK (f:Nat->@A_->FR):D->FR:=λd=>if h:∃nl:Nat×@A_,d=ag nl.1 nl.2/\OM.Ord nl.1 nl.2 then f (Classical.choose h).1 (Classical.choose h).2 else .bad
def FF {p q:Pr}(h:ax p=ax q):p=q:=by
 obtain⟨a,b⟩:=p
 obtain⟨c,d⟩:=q
 unfold ax at h
 simp at h
 rw[h.1,h.2]
theorem pB:∀{l m:@A_},l.map ax=m.map ax->l=m
 | [],[],_=>rfl
 | [],_ :: _,h=>by cases h
 |_ :: _,[],h=>by cases h
 |p :: l,q :: m,h=>by
  simp only[P8,List.cons.injEq] at h
  rw[FF h.1,pB h.2]
def CJ {n m:Nat}{l k:@A_}(h:ag n l=ag m k):n=m/\l=k:=by
 unfold ag at h
 simp only[PyData.tuple.injEq,List.cons.injEq,int.injEq,and_true] at h
 exact⟨@AT,pB h.2⟩
def wt {f:Nat->@A_->FR}{n:Nat}{l:@A_}(O:OM.Ord n l):tK f (ag n l)=f n l:=by
 unfold tK
 have h:∃nl:Nat×@A_,ag n l=ag nl.1 nl.2/\OM.Ord nl.1 nl.2:=⟨(n,l),rfl,O⟩
 rw[dif_pos h]
 obtain⟨e,_⟩:=Q0 h
 obtain⟨e1,e2⟩:=CJ e
 rw[<-e1,<-e2]
def v8 {f:Nat->@A_->FR}{d:D}(h:tK f d≠.bad):∃n l,d=ag n l/\OM.Ord n l:=by
 unfold tK at h
 by_cases q:∃nl:Nat×@A_,d=ag nl.1 nl.2/\OM.Ord nl.1 nl.2
 ·obtain⟨nl,e,O⟩:=q;exact⟨nl.1,nl.2,e,O⟩
 ·rw[dif_neg q] at h;exact absurd rfl h
noncomputable def dW:@Cl
 | [.int n,d]=>(match lV d with
  |some ds=>(match jw ds with
   |some ps=>(open Classical in if 1<=n/\n<=8/\OM.Wn n.toNat ps then .ok (.tuple ((OM.c9 n.toNat (OM.Tr (OM.Mem ps))).map ax)) false else .bad)
   |none=>.bad)
  |none=>.bad)
 |_=>.bad
def CI {n:Nat}{ps:@A_}(h1:1<=n)(h8:n<=8)(w:OM.Wn n ps):dW [.int n,.tuple (ps.map ax)]=.ok (.tuple ((OM.c9 n (OM.Tr (OM.Mem ps))).map ax)) false:=by
 unfold dW
 simp only[lV,gB]
 rw[OG ⟨@AT,@AT,by rw[Pk];exact w⟩,Pk]
def lN:@Cl
 | [.tuple ds]=>(match jw ds with
  |some ps=>if ps.length<=1000 then .ok (.bool (ps.any λp=>decide (p.1=p.2))) false else .bad
  |none=>.bad)
 |_=>.bad
theorem fB {α:Type}(f:α->Bool):∀l:List α,mr (l.map λx=>PyData.bool (f x))=some (l.map f)
 | []=>rfl
 |x :: l=>by
  show (mr (l.map λx=>PyData.bool (f x))).map (f x :: ·)=_
  rw[fB f l];rfl
def Il (ds:List D)(h:lN ds≠.bad):aS 1 1 qV ds=lN ds:=by
 unfold lN at h
 split at h
 ·rename_i ds
  cases q:jw ds with
  |none=>rw[q] at h;exact absurd rfl h
  |some ps=>
   rw[q] at h
   dsimp only at h
   by_cases hz:ps.length<=1000
   case neg=>rw[OP hz] at h;exact absurd rfl h
   obtain rfl:=mV q
   have e:lN [.tuple (ps.map ax)]=.ok (.bool (ps.any λp=>decide (p.1=p.2))) false:=by
    unfold lN;simp only[gB];rw[OG hz]
   rw[e]
   have ec:aM 2 [] (.two 0 1) (bc (gv 0)) j0 (f2 (gv 0) (gv 1) (cY false)) [.da (.tuple (ps.map ax))] 0=.ok (.list (ps.map λp=>PyData.bool (decide (p.1=p.2)))) 0:=by
    exact bY (l:=ps) (e:=ax) (λp=>PyData.bool (decide (p.1=p.2))) rfl hz λp hp=>⟨_,rfl,rfl⟩
   show fin (toS ((aM 2 [] (.two 0 1) (bc (gv 0)) j0 (f2 (gv 0) (gv 1) (cY false)) [.da (.tuple (ps.map ax))] 0).bnd λx β1=>R.of (bK (λbs=>bs.any id) x) β1) λd β'=>.rt d false β')=_
   rw[ec]
   simp only[oC,bK]
   rw[fB]
   simp[fin,List.any_map]
 ·exact absurd rfl h
def oE (p:Pr):SeqAt.shaped (ax p)=true:=rfl
theorem vF:∀l:@A_,PyData.canLayAll0 (l.map ax)=true
 | []=>rfl
 |p :: l=>by
  show ((ax p).canLay0 && PyData.canLayAll0 (l.map ax))=true
  rw[vF l];rfl
theorem uG:∀l:@A_,PyData.depthAll (l.map ax)<=1
 | []=>by show (0:Nat)<=1;omega
 |p :: l=>by
  show max (ax p).depth (PyData.depthAll (l.map ax))<=1
  have h1:(ax p).depth=1:=by simp[ax,PyData.depth,PyData.depthAll]
  have h2:=uG l
  omega
def qU (l:@A_):SeqAt.shaped (.tuple (l.map ax))=true:=by
 unfold SeqAt.shaped
 have h1:(PyData.tuple (l.map ax)).canLay0=true:=by simp only[PyData.canLay0];exact vF l
 have h2:(PyData.tuple (l.map ax)).depth<=64:=by simp only[PyData.depth];have:=uG l;omega
 rw[h1,OE h2];rfl
def C4 (p q:Pr):PyData.eqv (ax p) (ax q)=decide (p=q):=by
 obtain⟨a,b⟩:=p
 obtain⟨c,d⟩:=q
 simp only[ax,PyData.eqv,PyData.eqvAll,Bool.and_true]
 rw[PM]
 simp
theorem vV:∀l m:@A_,PyData.eqvAll (l.map ax) (m.map ax)=decide (l=m)
 | [],[]=>rfl
 | [],_ :: _=>rfl
 |_ :: _,[]=>rfl
 |p :: l,q :: m=>by
  show (PyData.eqv (ax p) (ax q) && PyData.eqvAll (l.map ax) (m.map ax))=_
  rw[C4,vV l m,PM]
  simp
def iZ {n:Nat}{l:@A_}(O:OM.Ord n l):l.length < 64:=by
 have h8:=O.hi
 have e:=O.closed
 by_cases h:l.length < 64
 ·exact h
 ·exfalso
  have h1:l.length<=n * n:=by rw[<-e];exact OM.DN _ _
  have h2:n * n<=64:=P4 h8 h8
  have hn:n=8:=by
   by_cases h7:n<=7
   ·have:n * n<=7 * 7:=P4 h7 h7
    omega
   ·omega
  have hlen:l.length=n * n:=by subst hn;omega
  have hg:l=OM.bP n:=by
   refine OM.sub_eq O.ris (OM.cQ n) (λx hx=>OM.aZ.mpr (O.wn x hx)) ?_
   rw[hlen];unfold OM.bP;simp
  have:((0:Int),(0:Int))∈l:=by rw[hg];exact OM.aZ.mpr ⟨⟨@AT,@AT ⟩,@AT,@AT ⟩
  exact O.irr 0 this
def Cz {n:Nat}(h1:1<=n)(h8:n<=8):ni [.int n]=.ok (.bool true) false:=by
 rw[Dy rfl]
 show FR.ok (.bool (decide (1<=(n:Int)/\(n:Int)<=8))) false=_
 rw[OE (@AT)]
def wQ (neg:Bool)(l m:@A_):cY neg (.tuple (l.map ax)) (.tuple (m.map ax))=some (.bool (if neg then !decide (l=m) else decide (l=m))):=by
 unfold cY
 rw[qU,qU]
 simp only[Bool.and_self,P9,PyData.eqv,vV]
def Gy {n:Nat}{l:@A_}(O:OM.Ord n l):lN [.tuple (l.map ax)]=.ok (.bool false) false:=by
 have hl:=iZ O
 unfold lN
 simp only[gB]
 rw[OG (@AT)]
 have:(l.any λp=>decide (p.1=p.2))=false:=by
  rw[List.any_eq_false]
  intro p hp
  simp only[OY]
  intro e
  obtain⟨a,b⟩:=p
  simp only at e
  subst e
  exact O.irr a hp
 rw[this]
def Bh {n:Nat}{l:@A_}(O:OM.Ord n l):aS 3 1 (je ni pairF dW lN) [ag n l]=.ok (.bool true) false:=by
 have hl:=iZ O
 show fin (je ni pairF dW lN [@Db,.no,.no] 0)=_
 unfold je
 rw[aC (env':=[@Db,.no,.no]) (β':=0) (by rfl)]
 rw[aC (env':=[@Db,.fz (.int n),.no]) (β':=0) (by rfl)]
 rw[aC (env':=[@Db,.fz (.int n),.fz (.tuple (l.map ax))]) (β':=0) (by rfl)]
 have e4:av ni (aa (gv 1) ah) [.da (ag n l),.da (.int n),.da (.tuple (l.map ax))] 0=.ok (.bool true) 0:=aq rfl (Cz O.lo O.hi)
 rw[aC (env':=[@Db,.fz (.int n),.fz (.tuple (l.map ax))]) (β':=0) ?h4]
 case h4=>
  refine iw ?_
  show oR (oH (iS (av ni (aa (gv 1) ah)))) _ [.da (ag n l),.da (.int n),.da (.tuple (l.map ax))] 0=_
  rw[qr,vk,yk,e4]
  rfl
 have e5:aM 1 [1] (.nm 0) (bc (gv 2)) j0 (av pairF @Fa) [.da (ag n l),.da (.int n),.da (.tuple (l.map ax))] 0=.ok (.list (l.map λ_=>PyData.bool true)) 0:=by
  refine bY (l:=l) (e:=ax) (λ_=>PyData.bool true) rfl (@AT) λp hp=>⟨_,rfl,?_⟩
  refine aq (b:=false) (ds:=[ax p,.int n]) rfl ?_
  rw[DY,OE (by have:=O.wn p hp;exact this)]
 rw[aC (env':=[@Db,.fz (.int n),.fz (.tuple (l.map ax))]) (β':=0) ?h5]
 case h5=>
  refine iw ?_
  show oH (iS (f1 (aM 1 [1] (.nm 0) (bc (gv 2)) j0 (av pairF @Fa)) (bK λbs=>bs.all id))) [.da (ag n l),.da (.int n),.da (.tuple (l.map ax))] 0=_
  rw[vk,yk,cU (d:=.bool true) e5 (by simp only[bK];rw[fB];simp)]
  rfl
 have e6:av dW (aa (gv 1) (aa (gv 2) ah)) [.da (ag n l),.da (.int n),.da (.tuple (l.map ax))] 0=.ok (.tuple (l.map ax)) 0:=aq rfl (by rw[CI O.lo O.hi O.wn,O.closed])
 have e7:av lN (aa (gv 2) ah) [.da (ag n l),.da (.int n),.da (.tuple (l.map ax))] 0=.ok (.bool false) 0:=aq rfl (Gy O)
 show fin (toS (fX (f2 (gv 2) (av dW (aa (gv 1) (aa (gv 2) ah))) (cY false)) (f1 (av lN (aa (gv 2) ah)) Cu) [.da (ag n l),.da (.int n),.da (.tuple (l.map ax))] 0) _)=_
 unfold fX
 rw[aE (d:=.bool true) (x:=.tuple (l.map ax)) rfl e6 (by rw[wQ];simp)]
 dsimp only[R.bnd]
 rw[cU (d:=.bool true) e7 rfl]
 rfl
noncomputable def jf:@Cl
 | [d]=>tK (λ_ _=>.ok (.bool true) false) d
 |_=>.bad
def t7 {n:Nat}{l:@A_}(O:OM.Ord n l):jf [ag n l]=.ok (.bool true) false:=by simp only[jf];exact wt O
def yc (ds:List D)(h:jf ds≠.bad):aS 3 1 (je ni pairF dW lN) ds=jf ds:=by
 unfold jf at h
 split at h
 ·obtain⟨n,l,rfl,O⟩:=v8 h
  rw[Bh O,t7 O]
 ·exact absurd rfl h
noncomputable def iD:@Cl
 | [d]=>tK (λ_ _=>.ok .none false) d
 |_=>.bad
def nI {n:Nat}{l:@A_}(O:OM.Ord n l):iD [ag n l]=.ok .none false:=by simp only[iD];exact wt O
abbrev eN (ns:@D_):D:=.dict [(.none,.list (ns.map int))]
def qM {i j:Int}(h: -(2 ^ 64) < i/\i < 2 ^ 64):dB (.int i) (.int j)=some (.int (i * j)):=OG (by dsimp only;rw[OE h.1,OE h.2];rfl)
def D0 {i j:Int}(h: -(2 ^ 64) < j/\j < 2 ^ 64):dB (.int i) (.int j)=some (.int (i * j)):=OG (by dsimp only;rw[OE h.1,OE h.2,Bool.and_self,Bool.or_true])
def oY {i j:Int}(h:0 < j):lT (.int i) (.int j)=some (.int (i % j)):=OG (OE h)
def HB {i j:Int}(h:0 < j)(h2:j < 1073741824):Ic (.int i) (.int j)=some (.int (i / j)):=OG (by dsimp only;rw[OE h,OE h2];rfl)
theorem n9 {α β:Type}(f:α->β)(l:List α)(i:Int):l8 (l.map f) i=(l8 l i).map f:=by
 unfold l8
 rw[OH]
 cases uF l.length i with
 |none=>rfl
 |some j=>simp
def zt {α:Type}{l:List α}{k:Nat}(h:k < l.length):l8 l (k:Int)=some l[k]:=mS (OD h)
def Jg {fa fb:VF D}{vs:List Nv}{β β1 β2:Int}{i j:Int}(h:fa vs β=.ok (.int i) β1)(h':fb vs β1=.ok (.int j) β2):cM (f2 fa fb qd) vs β=.ok (decide (i < j)) β2:=dZ _ _ _ _ (aE h h' rfl)
def dD {neg:Bool}{fa fb:VF D}{vs:List Nv}{β β1 β2:Int}{i j:Int}(h:fa vs β=.ok (.int i) β1)(h':fb vs β1=.ok (.int j) β2):cM (f2 fa fb (cY neg)) vs β=.ok (if neg then !decide (i=j) else decide (i=j)) β2:=by
 refine dZ _ _ _ _ (aE h h' ?_)
 cases neg <;> rfl
theorem lay_ints:∀ns:@D_,PyData.canLayAll0 (ns.map int)=true
 | []=>rfl
 |n :: ns=>by
  show ((int n).canLay0 && PyData.canLayAll0 (ns.map int))=true
  rw[lay_ints ns];rfl
theorem xq:∀ns:@D_,PyData.depthAll (ns.map int)=0
 | []=>rfl
 |n :: ns=>by
  show max (int n).depth (PyData.depthAll (ns.map int))=0
  rw[xq ns];rfl
def shaped_ints (ns:@D_):SeqAt.shaped (.list (ns.map int))=true:=by
 unfold SeqAt.shaped
 have h1:(PyData.list (ns.map int)).canLay0=true:=by simp only[PyData.canLay0];exact lay_ints ns
 have h2:(PyData.list (ns.map int)).depth<=64:=by simp only[PyData.depth];rw[xq];omega
 rw[h1,OE h2];rfl
theorem xj:∀l m:@D_,PyData.eqvAll (l.map int) (m.map int)=decide (l=m)
 | [],[]=>rfl
 | [],_ :: _=>rfl
 |_ :: _,[]=>rfl
 |p :: l,q :: m=>by
  show ((p == q) && PyData.eqvAll (l.map int) (m.map int))=_
  rw[xj l m,PM]
  simp
def DA (neg:Bool)(l m:@D_):cY neg (.list (l.map int)) (.list (m.map int))=some (.bool (if neg then !decide (l=m) else decide (l=m))):=by
 unfold cY
 rw[shaped_ints,shaped_ints]
 simp only[Bool.and_self,P9,PyData.eqv,xj]
theorem rE {α:Type}:∀{l:List α} {k:Nat} {x:α},l[k]? =some x->(x :: l.eraseIdx k).Perm l
 | [],_,_,h=>by simp at h
 |y :: l,0,x,h=>by simp at h;subst h;exact List.Perm.refl _
 |y :: l,k + 1,x,h=>by
  have h:l[k]? =some x:=by simpa using h
  have ih:=rE h
  show (x :: y :: l.eraseIdx k).Perm (y :: l)
  exact (List.Perm.swap y x _).trans (ih.cons y)
theorem ub {α β:Type}(f:α->β):∀(l:List α) (k:Nat),(l.map f).eraseIdx k=(l.eraseIdx k).map f
 | [],_=>rfl
 |_ :: _,0=>rfl
 |x :: l,k + 1=>by simp[ub f l k]
def Ky {n:Nat}{l:@A_}(h8:n<=8)(w:OM.Wn n l):OM.c9 8 (OM.Mem l)=OM.c9 n (OM.Mem l):=by
 refine OM.dR (OM.gc _ _) (OM.gc _ _) λx=>?_
 rw[OM.cG,OM.cG]
 constructor
 ·rintro⟨_,h⟩;exact⟨w x h,h⟩
 ·rintro⟨h1,h⟩;exact⟨⟨⟨h1.1.1,@AT ⟩,h1.2.1,@AT ⟩,h⟩
def zG {n:Nat}{l:@A_}(h1:1<=n)(h8:n<=8)(w:OM.Wn n l)(nd:l.Nodup)(irr:∀a,(a,a)∉l):l.length < 64:=by
 have:=OM.yW (l:=(0,0) :: l) (m:=OM.bP n) (Pl.mpr ⟨irr 0,nd⟩) (λx hx=>by
  rcases OK.mp hx with e |e
  ·subst e;exact OM.aZ.mpr ⟨⟨by simp,by simp;omega⟩,by simp,by simp;omega⟩
  ·exact OM.aZ.mpr (w x e))
 have hg:(OM.bP n).length=n * n:=by unfold OM.bP;simp
 have hn:n * n<=64:=P4 h8 h8
 rw[hg,O8] at this
 omega
def DT {n:Nat}{l:@A_}(h8:n<=8)(w:OM.Wn n l):l.all Ko=true:=by
 rw[O4]
 intro p hp
 have:=w p hp
 unfold Ko
 rw[OE this.1.1,OE (@AT:p.1 < 8),OE this.2.1,OE (@AT:p.2 < 8)];rfl
def kU {a b:List D}(h:a.length + b.length<=10000):jr (.list a) (.list b)=some (.list (a ++ b)):=OG (by rw[Pq];omega)
theorem l7 {α:Type}:∀{l:List α} {i j:Nat} {x:α},l.Nodup->l[i]? =some x->l[j]? =some x->i=j
 | [],_,_,_,_,h,_=>by simp at h
 |y :: l,0,0,_,_,_,_=>rfl
 |y :: l,0,j + 1,x,nd,h1,h2=>by
  simp at h1
  subst h1
  exact absurd (O0 (by simpa using h2)) (Pl.mp nd).1
 |y :: l,i + 1,0,x,nd,h1,h2=>by
  simp at h2
  subst h2
  exact absurd (O0 (by simpa using h1)) (Pl.mp nd).1
 |y :: l,i + 1,j + 1,x,nd,h1,h2=>by
  rw[l7 (l:=l) (i:=i) (j:=j) (Pl.mp nd).2 (by simpa using h1) (by simpa using h2)]
def bN (n:Nat):@D_:=(List.range n).map λ(k:Nat)=>(k:Int)
def cO (n:Nat):(bN n).length=n:=by unfold bN;simp
def aJ {n:Nat}{x:Int}:x∈bN n↔0<=x/\x < n:=by
 unfold bN
 rw[O3]
 constructor
 ·rintro⟨k,hk,rfl⟩
  have:=Pp.mp hk
  omega
 ·intro h
  exact⟨x.toNat,Pp.mpr (@AT),@AT ⟩
def gK (n:Nat):(bN n).Nodup:=by
 unfold bN
 rw[Qb,Qv]
 exact (Qb.mp nodup_range).imp λ{a b} h e=>h (@AT)
def tI (n:Nat):gf 0 n=(bN n).map int:=by
 unfold gf bN
 rw[QE]
 refine Qe λk _=>?_
 show int (0 + (k:Int))=_
 rw[Qp];rfl
theorem l6 {lo:Int}{n i:Nat}{d:D}(h:(gf lo n)[i]? =some d):i < n/\d=.int (lo + i):=by
 unfold gf at h
 rw[OU] at h
 cases q:(List.range n)[i]? with
 |none=>rw[q] at h;cases h
 |some j=>
  rw[q] at h
  cases h
  obtain⟨hi,ej⟩:=OO.mp q
  rw[P7] at hi
  rw[List.getElem_range] at ej
  subst ej
  exact⟨hi,rfl⟩
def pz {n:Nat}(h:n<=1000):iC (.int n)=some (.list ((bN n).map int)):=by
 unfold iC
 dsimp only
 rw[OG ⟨@AT,@AT ⟩,Pk,tI]
def iE {fa:VF D}{vs:List Nv}{β β1:Int}{n:Nat}(h:fa vs β=.ok (.int n) β1)(hn:n<=1000):gm fa vs β=.ok (gf 0 n) β1:=by
 unfold gm
 rw[h]
 simp only[oC]
 rw[OG (Bw (@AT) (@AT)),Pk]
def fR {t:Tg}{L:@IR}{fi:VF (List D)}{m:SF}{env:En}{β β1:Int}{ds:List D}(h:fi (vl env) β=.ok ds β1):iO t L fi m env β=lU t m ds (aW L env) β1:=by unfold iO;rw[h];rfl
def n5 {m:Nat}(h:1<=m)(h2:m<=1000)(β:Int):∃j:Nat,j < m/\fA [.int m] β=.ok (.int (j:Int)) false (β / m):=by
 refine⟨(β % m).toNat,?_,?_⟩
 ·have h0:=QG β (b:=(m:Int)) (@AT)
  have h3:=QC β (b:=(m:Int)) (@AT)
  omega
 ·rw[uH (@AT) (@AT)]
  have h0:=QG β (b:=(m:Int)) (@AT)
  rw[show ((β % m).toNat:Int)=β % m by omega]
theorem uV (p:Pr):∀l:@A_,((l.map ax).any λe=>PyData.eqv e (ax p))=decide (p∈l)
 | []=>rfl
 |q :: l=>by
  rw[P8,Qj,uV p l,C4,PM]
  simp only[Qf,OY,OK]
  exact⟨λh=>h.imp Eq.symm id,λh=>h.imp Eq.symm id⟩
def Af (l:@A_):(l.map ax).all SeqAt.shaped=true:=by
 rw[O4]
 intro d hd
 obtain⟨p,_,rfl⟩:=O3.mp hd
 exact oE p
def oo (neg:Bool)(p:Pr)(l:@A_):mX neg (ax p) (.tuple (l.map ax))=some (.bool (if neg then !decide (p∈l) else decide (p∈l))):=by
 unfold mX
 simp only[lV,oE,Af,Bool.and_self,P9,uV]
def Gg (neg:Bool)(p:Pr)(l:@A_):mX neg (ax p) (.list (l.map ax))=some (.bool (if neg then !decide (p∈l) else decide (p∈l))):=by
 unfold mX
 simp only[lV,oE,Af,Bool.and_self,P9,uV]
def mN (neg:Bool)(i j:Int):cY neg (.int i) (.int j)=some (.bool (if neg then !decide (i=j) else decide (i=j))):=rfl
theorem zE {fa fb:VF D}{vs:List Nv}{β:Int}{a b:Bool}(h:fa vs β=.ok (.bool a) β)(h':fb vs β=.ok (.bool b) β):fX fa fb vs β=.ok (.bool (a && b)) β:=by
 unfold fX
 rw[h]
 dsimp only[R.bnd]
 cases a with
 |true=>exact h'
 |false=>rfl
def cC {fa fb:VF D}{vs:List Nv}{β:Int}{a b:Int}(h:fa vs β=.ok (.int a) β)(h':fb vs β=.ok (.int b) β):bD (aa fa (aa fb ah)) vs β=.ok (ax (a,b)) β:=by
 refine gn (ds:=[.int a,.int b]) ?_ (by simp)
 rw[bX,h]
 dsimp only[R.bnd]
 rw[bX,h'];rfl
def EI (l:@A_)(p:Pr):Bool:= !decide (p.1=p.2) && (!decide ((p.1,p.2)∈l) && !decide ((p.2,p.1)∈l))
def L4 {n:Nat}{l:@A_}{fa:VF D}{vs:List Nv}{β:Int}(h:fa vs β=.ok (ag n l) β):f2 fa @Do bh vs β=.ok (.tuple (l.map ax)) β:=aE h rfl rfl
def Kq {n:Nat}{l:@A_}{fa:VF D}{vs:List Nv}{β:Int}(h:fa vs β=.ok (ag n l) β):f2 fa @E_ bh vs β=.ok (.int n) β:=aE h rfl rfl
def K0:@Cl:=aS 3 3 pw
def Ng (n:Nat)(l:@A_)(a b:Int):K0 [ag n l,.int a,.int b]=.ok (.bool (EI l (a,b))) false:=by
 show fin (toS (fX (f2 (gv 1) (gv 2) (cY true)) (fX (f2 (bD (aa (gv 1) (aa (gv 2) ah))) (f2 (gv 0) @Do bh) (mX true)) (f2 (bD (aa (gv 2) (aa (gv 1) ah))) (f2 (gv 0) @Do bh) (mX true))) [.da (ag n l),.da (.int a),.da (.int b)] 0) _)=_
 rw[zE (aE (x:=.int a) (y:=.int b) rfl rfl (mN true a b)) (zE (aE (cC (a:=a) (b:=b) rfl rfl) (L4 (n:=n) (l:=l) rfl) (oo true (a,b) l)) (aE (cC (a:=b) (b:=a) rfl rfl) (L4 (n:=n) (l:=l) rfl) (oo true (b,a) l)))]
 rfl
def gL:@Cl:=aS 1 1 iY
def uY {n:Nat}(h1:1<=n)(h8:n<=8):gL [.int n]=.ok (.list ((OM.bP n).map ax)) true:=by
 have hm:n * n<=64:=P4 h8 h8
 have e:aM 1 [0] (.nm 0) (gm (f2 (gv 0) (gv 0) dB)) j0 (bD (aa (f2 (gv 0) (gv 1) Ic) (aa (f2 (gv 0) (gv 1) lT) ah))) [.da (.int n)] 0=.ok (.list ((OM.bP n).map ax)) 0:=by
  have hi:gm (f2 (gv 0) (gv 0) dB) [.da (.int n)] 0=.ok ((List.range (n * n)).map λ(k:Nat)=>int (0 + (k:Int))) 0:=by
   refine iE (n:=n * n) (aE (x:=.int n) (y:=.int n) rfl rfl ?_) (@AT)
   rw[qM ⟨@AT,@AT ⟩];rfl
  rw[bY (l:=List.range (n * n)) (e:=λ(k:Nat)=>int (0 + (k:Int))) (λk=>ax (((k / n:Nat):Int),((k % n:Nat):Int))) hi (by rw[P7];omega) λk hk=>⟨_,rfl,?_⟩]
  ·unfold OM.bP;rw[QE];rfl
  ·refine cC (aE (x:=.int (0 + (k:Int))) (y:=.int n) rfl rfl ?_) (aE (x:=.int (0 + (k:Int))) (y:=.int n) rfl rfl ?_)
   ·rw[HB (@AT) (@AT),Qp];rfl
   ·rw[oY (@AT),Qp];rfl
 show fin (iY [.fz (.int n)] 0)=_
 unfold iY
 rw[ra,show vl [Sl.fz (.int n)]= [.da (.int n)] from rfl,e];rfl
def mB (n:Nat)(l:@A_):@A_:=(OM.bP n).filter (EI l)
def dF (n:Nat):(OM.bP n).length=n * n:=by unfold OM.bP;simp
def ET {n:Nat}{l:@A_}(h8:n<=8):(mB n l).length<=64:=by
 have h1:(mB n l).length<=(OM.bP n).length:=Pu _ _
 rw[dF] at h1
 have:n * n<=64:=P4 h8 h8
 omega
def cg {n:Nat}{l:@A_}{p:Pr}:p∈mB n l↔((0<=p.1/\p.1 < n)/\(0<=p.2/\p.2 < n))/\EI l p=true:=by
 unfold mB;rw[OJ,OM.aZ]
noncomputable def rH:@Cl:=aS 1 1 (qi iD gL K0)
def fq {fa:VF D}{vs:List Nv}{β:Int}{c:Bool}(h:fa vs β=.ok (.bool c) β):iS fa vs β=.ok c β:=by rw[yk,h];rfl
def GZ {n:Nat}{l:@A_}(O:OM.Ord n l):rH [ag n l]=.ok (.list ((mB n l).map ax)) true:=by
 have hm:n * n<=64:=P4 O.hi O.hi
 show fin (qi iD gL K0 [@Db] 0)=_
 unfold qi
 rw[aC (env':=[@Db]) (β':=0) ?g1]
 case g1=>
  show toS (av iD (aa (gv 0) ah) [.da (ag n l)] 0) _=_
  rw[aq (ds:=[ag n l]) rfl (nI O)];rfl
 have e:aM 2 [0] (.two 0 1) (bc (av gL (aa (f2 (gv 0) @E_ bh) ah))) (iS (av K0 (aa (gv 2) @Fa))) (bD @Fa) [.da (ag n l)] 0=.ok (.list ((mB n l).map ax)) 0:=by
  have hi:bc (av gL (aa (f2 (gv 0) @E_ bh) ah)) [.da (ag n l)] 0=.ok ((OM.bP n).map ax) 0:=by
   unfold bc
   rw[aq (ds:=[.int n]) rfl (uY O.lo O.hi)];rfl
  exact bQ (l:=OM.bP n) (e:=ax) (EI l) ax hi (by rw[dF];omega) λp hp=>⟨_,rfl,fq (aq (ds:=[ag n l,.int p.1,.int p.2]) rfl (Ng n l p.1 p.2)),λ_=>cC rfl rfl⟩
 show fin (toS (aM 2 [0] (.two 0 1) (bc (av gL (aa (f2 (gv 0) @E_ bh) ah))) (iS (av K0 (aa (gv 2) @Fa))) (bD @Fa) [.da (ag n l)] 0) _)=_
 rw[e];rfl
end RM
namespace L2
open PySem PySem.Spec PyProof.Rows
section
variable {X:Cx}{pins:@C_}{σ:St}{H:Hp}{s:Shared}
def Inv.turnedL {t':Nat}{ch:List Addr}{h':Heap}(I:@B_)(k:∀b o,b∉ch->s.heap.get? b=some o->h'.get? b=some o)(hf:∀b∈ch,kl X pins H b):Inv X pins σ H {s with heap:=h',toks:=t'}:=by
 have nit:∀b u,H b=some u->b∉ch:=λb u e z=>by rw[(hf b z).1] at e;cases e
 have nL:X.env.locals∉ch:=λz=>(hf _ z).2.1 rfl
 refine I.step (g':=s.gens) (d':=s.drawn) (ch:=ch) (λb hb=>?_) (λb o _ _ hc e _=>k b o hc e) (λb o _ _ hc e _=>⟨o.slots,k b o hc e⟩) (λ_ _ _ _ n=>n)
  (λb o hc e=>⟨o,k b o hc e⟩) (λ_ _ e=>e) (λ_ _ _ e=>e) (λb ps e=>⟨#[],by rw[e];simp⟩) (λm hm=>?_) (λb u e=>?_) I.bare
 ·obtain⟨f0,f1,f2,f3,f4,f5⟩:=hf b hb
  exact⟨f3,f1,f4,f5⟩
 ·obtain⟨o,es,ep,ho,r⟩:=hm
  exact⟨o,es,ep,k _ o nL ho,r⟩
 ·refine (I.hok b u e).stay (λc v hc q=>k c v ?_ q) (λ_ q=>q) λ_ _ q=>q
  rcases hc with z |z
  ·rw[z];exact nit b u e
  ·exact nit c _ z
end
def Kn {n:Nat}(i j:Nat)(h:(i == j)=false):(n + i:Nat)≠n + j:=by
 have:i≠j:=by simpa using h
 omega
section
variable {X:Cx}{Γ:Fx}{E:XK}{e a b c:Expr}{f fa fb:VF D}{L La Lb:@IR}{md ma mb:Md}{pos:Pos}
def I0:D->Option D
 | .int i=>some (.int i)
 | .bool k=>some (.int (if k then 1 else 0))
 |_=>none
theorem Jv {K:Frag}:DS K (λx H Q=>(∃i,[x]= [.int i]/\Q (.int i) H)\/∃k,[x]= [.bl k]/\Q (.int (if k then 1 else 0)) H) I0 .v:=by
 intro B G H x dx d Q s hB bx e k
 cases dx with
 |int i=>cases e;obtain rfl:=bx.int;exact .inl ⟨i,rfl,k _ G H (Ext.refl s) (.int _)⟩
 |bool b=>cases e;obtain rfl:=bx.bool;exact .inr ⟨b,rfl,k _ G H (Ext.refl s) (.int _)⟩
 |_=>cases e
end
end L2
namespace RM
open PySem L2
def jZ (aI:@Cl):SF:=(aL (jo ([0] ++ []) (av aI (aa (gv 0) ah)))
 (jo ([1] ++ []) (av aI (aa (gv 1) ah))))
def fV:SF:=(oj (aM 2 [1] (.two 0 1) (bc (f2 (gv 0) @Do bh)) j0 (bD (aa (f2 (gv 0) (gv 2) bV) (aa (f2 (gv 1) (gv 2) bV) ah)))))
def i6:SF:=(aL (bR 2 (@GM ++ []) (f2 (f2 (cst (.int 7919)) (gv 1) dB) (cst (.int 13)) bV))
 (aL (kO @GM (cM (f2 (gv 1) (f1 (gv 0) dP) qd))
 (bR 2 @GM (f2 (gv 0) (gv 1) bh))
 mh)
 (aL (kO (@GM ++ []) (cM (f2 (f2 (gv 2) (cst (.int 2)) lT) @E_ (cY false)))
 (oj (dI (aa (f2 (gv 2) (cst (.int 2)) Ic) ah)))
 mh)
 (aL (bR 3 [] @E_)
 (aL (iO (.nm 4) [] (gm (cst (.int 16)))
 (aL (bR 5 ((((@GM ++ []) ++ @GM) ++ []) ++ []) (f2 (f2 (f2 (f2 (f2 (gv 2) (cst (.int 2147483647)) lT) (cst (.int 48271)) dB) (f2 (cst (.int 7919)) (gv 4) dB) bV) @Do bV) (cst (.int 2147483647)) lT))
 (aL (bR 5 (@GM ++ []) (f2 (f2 (gv 5) (gv 5) dB) (cst (.int 2147483629)) lT))
 (bR 3 (@GM ++ (([] ++ @GM) ++ [])) (f2 (f2 (gv 3) (cst (.int 2147483647)) dB) (f2 (f2 (gv 5) (f2 (gv 5) (cst (.int 13)) bV) dB) (cst (.int 2147483647)) lT) bV)))))
 (oj (dI (aa (gv 3) ah))))))))
def eV (aX:List D->Int->FB):SF:=(aL (jX 2 [] (f1 (gv 1) rh))
 (aL (jX 3 [] (dI ah))
 (aL (iG @GM (cM (f2 (gv 2) (dI ah) (cY true)))
 (lE 3 2 @GM (pN 0 aX (aa (f1 (gv 2) dP) ah))) 1000)
 (bL (f1 (gv 3) fT)))))
def jB:SF:=(aL (jX 2 [] (dI ah))
 (aL (iO (.nm 3) [] (gm (gv 0))
 (iO (.nm 4) [] (gm (gv 0))
 (kO (@GM ++ @GM) (Ac (cM (f2 (gv 3) (gv 4) (cY true))) (iS (f1 (aM 1 [3,4] (.nm 0) (bc (gv 1)) j0 (f2 (oF (gv 0) (gv 1)) (oF (gv 0) (gv 2)) qd)) (bK λbs=>bs.all id))))
 (nC 2 ([3] ++ ([4] ++ [])) (bD (aa (gv 3) (aa (gv 4) ah))))
 mh)))
 (bL (f1 (gv 2) fT))))
end RM
namespace L2
open PySem PySem.Spec PyProof.Rows
section
variable {κ:Type}[DecidableEq κ]
def E2 (kvs:List (κ×V))(k:κ):Option V:=(kvs.find? λkv=>decide (kv.1=k)).map (·.2)
def putK (kvs:List (κ×V))(k:κ)(v:V):List (κ×V):=
 if (kvs.any λkv=>decide (kv.1=k))=true then kvs.map (λkv=>if kv.1=k then (kv.1,v) else kv) else kvs ++ [(k,v)]
theorem DO.getD {o:Option V}{u:Option Value}{d:V}{d':Value}(r:DO o u)(rd:RelV d d'):RelV (o.getD d) (u.getD d'):=by
 cases o with
 |none=>cases u with
  |none=>exact rd
  |some _=>exact (show False from r).elim
 |some _=>cases u with
  |none=>exact (show False from r).elim
  |some _=>exact r
theorem KV.any {kvs:List (κ×V)}{vs:List (κ×Value)}(r:KV kvs vs)(k:κ):(kvs.any λkv=>decide (kv.1=k))=vs.any λkv=>decide (kv.1=k):=by
 unfold KV at r
 induction r with
 |nil=>rfl
 |cons h t ih=>rw[Qj,Qj,ih,h.1]
end
def FO (H:Hp)(a:Addr)(y:V)(r:Option V):Prop:=
 (∃kvs k,Rd H a (.dK kvs)/\y=kV k/\r=E2 kvs k)\/∃kvs k b,Rd H a (.dT kvs)/\y=.ref b/\Rd H b (.tup (k.map kV))/\r=E2 kvs k
def E8 (H:Hp)(a:Addr)(y v:V)(H':Hp):Prop:=
 (∃kvs k,H a=some (.dK kvs)/\y=kV k/\kvs.length < sizeLine/\H'=upd H a (.dK (putK kvs k v)))\/
 ∃kvs k b,H a=some (.dT kvs)/\y=.ref b/\Rd H b (.tup (k.map kV))/\kvs.length < sizeLine/\H'=upd H a (.dT (putK kvs k v))
def FO.k {H:Hp}{a:Addr}{kvs:List (Key×V)}{k:Key}(e:H a=some (.dK kvs)):FO H a (kV k) (E2 kvs k):=.inl ⟨kvs,k,.inl e,rfl,rfl⟩
def FO.t {H:Hp}{a b:Addr}{kvs:List (List Key×V)}{k:List Key}(e:H a=some (.dT kvs))(eb:Rd H b (.tup (k.map kV))):FO H a (.ref b) (E2 kvs k):=.inr ⟨kvs,k,b,.inl e,rfl,eb,rfl⟩
def E8.k {H:Hp}{a:Addr}{kvs:List (Key×V)}{k:Key}{v:V}(e:H a=some (.dK kvs))(hl:kvs.length < sizeLine):E8 H a (kV k) v (upd H a (.dK (putK kvs k v))):=.inl ⟨kvs,k,e,rfl,hl,rfl⟩
def E8.t {H:Hp}{a b:Addr}{kvs:List (List Key×V)}{k:List Key}{v:V}(e:H a=some (.dT kvs))(eb:Rd H b (.tup (k.map kV)))(hl:kvs.length < sizeLine) :
  E8 H a (.ref b) v (upd H a (.dT (putK kvs k v))):=.inr ⟨kvs,k,b,e,rfl,eb,hl,rfl⟩
section
variable {X:Cx}{pos:Pos}
end
mutual
def Ks:D->Bool
 | .list ds=>EA ds
 | .tuple ds=>EA ds
 | .dict kvs=> !kvs.isEmpty && kvs.all λkv=>match kv.1,kv.2 with
  | .str _,.int _=>true
  |_,_=>false
 |_=>true
def EA:List D->Bool
 | []=>true
 |d :: ds=>Ks d && EA ds
end
section
variable {prog:Program}{w:World}{A:Around}{E:@Ev}{s:Shared}{it t:Addr}{i:Nat}{xs:Array Value}{Q:@Ev}
theorem Np (hi:s.heap.IsTupleIter it t i)(ht:s.heap.IsTuple t xs)
  (k1:∀x,xs[i]? =some x->∀h',h'.IsTupleIter it t (i + 1)->Heap.SameBut it s.heap h'->Q x {s with heap:=h'})
  (k2:xs[i]? =none->A.handled=none/\∀h' e,Heap.ExtBut it s.heap h'->(∃o,h'.get? e=some o/\o.cls=.type "StopIteration")->E (.ref e) {s with heap:=h'}) :
  wpAny (model prog w) A (Builtin.SmallTypes.nextOf (.ref it)) Q E s:=by
 obtain⟨o,ho,hc,hd⟩:=id hi
 obtain⟨ol,hol, -,nl,hdl⟩:=ht
 refine OL (wpAny_callSpecial?_slot (name:=Str.ofString "__next__") hi.typeIs F.slot_tuple_iterator_next (wpAny_call_entry F.slot_tuple_iterator_next hi.typeIs F.entry_tuple_iterator_next ?_ (F.args_tuple_iterator_next_1 _)))
 refine (show wpAny _ _ (field (.ref it) 0 >>= _) _ _ s from OL (wpAny_field ho hd (x:=.ref t) rfl ?_))
 refine (show wpAny _ _ (if (Value.ref t == Value.none)=true then _ else _) _ _ s from ?_)
 rw[OP (by exact OZ)]
 refine (show wpAny _ _ (field (.ref it) 1 >>= _) _ _ s from OL (wpAny_field ho hd (x:=.int i 0) rfl ?_))
 refine (show wpAny _ _ (seqItems? (.ref t) >>= _) _ _ s from OL (wpAny_seqItems hol hdl ?_))
 cases hx:xs[i]? with
 |some x=>
  simp only[Pk,hx]
  refine OL (Rn ho hd (by simp) (Pa ⟨x,rfl,Pa (k1 x hx _ ?_ (Heap.SameBut.update ..))⟩))
  refine⟨_,QZ _ ho (Obj.isFreed_of_fields (Rl hd _)),(Obj.cls_mapFields ..).trans hc,?_⟩
  rw[Rl hd]
  simp[rawInt]
 |none=>
  obtain⟨hh,hE⟩:=k2 hx
  simp only[Pk,hx]
  refine OL (wpAny_rule (OL (Rn ho hd (by simp) (show wpAny _ _ (newExc (.type "StopIteration") [] >>= _) _ _ _ from OL ?_))))
  simp only[newExc,newTuple]
  refine OL (wpAny_newObj_type (OL (m:=firstArgMember _ _) (wpAny_of_eq (a:=Value.none) (by first |rfl | (simp only[firstArgMember];rfl)) (wpAny_newObj_type ?_ (by size_fits)))) (by size_fits))
  simp only[raiseNew]
  refine OL (wpAny_handled ?_)
  have hh':A.in1.handled=none:=hh
  first |rw[hh'] |rw[hh]
  exact OL (Pa (wpAny_throw (hE _ _ (((Heap.SameBut.update ..).extBut.push _).push _) ⟨_,OV _ rfl,rfl⟩)))
def Ih (hh:A.handled=none)(hne:t≠it)(xs:Array Value):Draws prog w A it [it,t] xs.size (λi v=>xs[i]? =some v) (λi h=>h.IsTupleIter it t i/\h.IsTuple t xs) where
 live:=λ_ _ st=>let ⟨o,ho,_⟩:=st.1;⟨o,ho⟩
 frame:=λ_ _ _ st hk=>⟨st.1.at λo e=>hk it (by simp) o e,st.2.at λo e=>hk t (by simp) o e⟩
 item:=λi s Q E hi st k=>Np st.1 st.2 (λx hx h' q1 q2=>k x h' s.toks hx ⟨q1,st.2.extBut q2.extBut hne⟩ q2) λz=>by simp at z;omega
 done:=λs Q E st k=>Np st.1 st.2 (λx hx=>by simp at hx) λ_=>⟨hh,k⟩
end
abbrev IB (t:Addr):Obj:={cls:=.type "tuple_iterator",data:=.fields #[.ref t,.int 0 0]}
abbrev MB (it:Addr):Obj:={cls:=.type "enumerate",data:=.fields #[.none,.bool false,.ref it,rawInt 0,.none,.none]}
def C7 (t:Addr)(xs:Array Value)(n:Nat)(dc:@Is)(sl:Array (Option Value)) :
  Meets (Builtin.«enumerate.__new__» ⟨[.type "enumerate",.ref t],[]⟩) (λ_ R s=>s.heap.get? t=some ⟨.type "tuple",dc,.seq xs n,sl⟩/\
   R (.ok (.ret (.ref (s.heap.push (IB t)).objs.size))) {s with heap:=(s.heap.push (IB t)).push (MB s.heap.objs.size)}):=by
 refine .of_wp λprog w A R s h=>?_
 obtain⟨hp,g,d,tk,os⟩:=s
 obtain⟨hl,h⟩:=h
 have sb:=sub_enumerate
 have hT:Heap.IsTuple (Shared.heap ⟨hp,g,d,tk,os⟩) t xs:=⟨_,hl,rfl,n,rfl⟩
 wp_walk using Rm hl
 refine wpAny_stack_any λst=>Pa ?_
 split
 ·rename_i c _ _ _ _ _
  cases (c == Value.type "enumerate") <;> (wp_walk using Rm hl,QU hT;exact⟨_,rfl,h⟩)
 ·wp_walk using Rm hl,QU hT
  exact⟨_,rfl,h⟩
section
variable {prog:Program}{w:World}{A:Around}{E:@Ev}{s:Shared}
def yM {t:Addr}{xs:Array Value}{Q:@Ev}(hT:s.heap.IsTuple t xs)
  (k:∀h',IsEnum h' (s.heap.objs.size + 1) s.heap.objs.size 0 .none->h'.IsTupleIter s.heap.objs.size t 0->(∀b o,s.heap.get? b=some o->h'.get? b=some o)->Q (.ref (s.heap.objs.size + 1)) {s with heap:=h'}) :
  wpAny (model prog w) A (call (.type "enumerate") [.ref t]) Q E s:=by
 obtain⟨⟨c,dc,dt,sl⟩,hl,hc,n,hd⟩:=hT
 have hc:c=.type "tuple":=hc
 have hd:dt=.seq xs n:=hd
 subst hc hd
 refine callType_new F.called_enumerate @F_ (F.typeCall_enumerate_1 _) (F.newCall_enumerate_1 _) (λob=>F.args_object_init_2 ob _) F.entry_enumerate_new (C7 t xs n dc sl) ⟨hl,?_⟩
 have hz:(s.heap.push (IB t)).objs.size=s.heap.objs.size + 1:=Qk ..
 have g2:((s.heap.push (IB t)).push (MB s.heap.objs.size)).get? (s.heap.push (IB t)).objs.size=some (MB s.heap.objs.size):=OV _ rfl
 have g1:((s.heap.push (IB t)).push (MB s.heap.objs.size)).get? s.heap.objs.size=some (IB t):=OI _ (OV _ rfl)
 rw[hz] at g2
 show _/\_
 rw[hz]
 exact⟨⟨_,g2,rfl⟩,k _ g2 ⟨_,g1,rfl,rfl⟩ λb o e=>OI _ (OI _ e)⟩
end
def IX {prog:Program}{w:World}{A:Around}{it t:Addr}{xs:Array Value}(hh:A.handled=none)(i:Nat)(hx:xs[i]? =none):Draws prog w A it [it,t] i (λ_ _=>False) (λj h=>j=i/\h.IsTupleIter it t i/\h.IsTuple t xs) where
 live:=λ_ _ st=>let ⟨o,ho,_⟩:=st.2.1;⟨o,ho⟩
 frame:=λ_ _ _ st hk=>⟨st.1,st.2.1.at λo e=>hk it (by simp) o e,st.2.2.at λo e=>hk t (by simp) o e⟩
 item:=λj s Q E hi st k=>absurd st.1 (@AT)
 done:=λs Q E st k=>Np st.2.1 st.2.2 (λx h=>by rw[hx] at h;cases h) λ_=>⟨hh,k⟩
def Nh (K:Frag)(a:Addr):It:=
 ⟨λi H=>∃xs x,fN K H a xs/\xs[i]? =some x,
  λi H v H'=>∃x t,H t=none/\(∀xs,fN K H a xs->xs[i]? =some x)/\v=.ref t/\H'=upd H t (.tup [.int i,x]),
  λi H=>∃xs,fN K H a xs/\xs.length<=i⟩
abbrev si (n:Nat):@IR:=[n + 1,n]
def Bp {h:Heap}{a n:Addr}{i:Nat}{its:Array Value}{b:Addr}(p:h.IsTuple a its)(q:h.IsTupleIter n b i):a≠n:=λz=>by
 subst z
 obtain⟨o,e,c,_⟩:=p
 obtain⟨o',e',c',_⟩:=q
 rw[e] at e';cases e'
 rw[c] at c'
 simp at c'
def Be {h:Heap}{a n it:Addr}{i:Int}{its:Array Value}{old:Value}(p:h.IsTuple a its)(q:IsEnum h n it i old):n≠a:=λz=>by
 subst z
 obtain⟨o,e,c,_⟩:=p
 rw[q] at e;cases e
 simp at c
def yL {P:Program}{w:World}{K:Frag}{elts:List Expr}{x1}{pos:Pos}(a:Addr)(n:Nat):Turn P w K (.Tuple elts x1 pos) (Nh K a) (si n) (n + 1)
  (λi h=>(∃old,IsEnum h (n + 1) n i old)/\h.IsTupleIter n a i) where
 mem:=by simp
 obj:=λi h st c hc=>by
  obtain⟨⟨old,z1⟩,⟨o2,z2,_,d2⟩⟩:=st
  simp only[si,OK,Pw,Qm] at hc
  rcases hc with rfl |rfl
  ·exact⟨_,z1,λv z=>by
    have z':Data.fields _=Data.cell v:=z
    cases z'⟩
  ·exact⟨o2,z2,λv z=>by rw[d2] at z;cases z⟩
 keep:=λi h h' st k=>by
  obtain⟨⟨old,z1⟩,z2⟩:=st
  exact⟨⟨old,k _ (by simp) _ z1⟩,z2.at λo e=>k _ (by simp) o e⟩
 item:=by
  intro X hP hw hK hc i pins s σ H E I hf st hg
  subst hP hw hK
  obtain⟨xs,x,ha,hx⟩:=hg
  obtain⟨its,rv,p,hz⟩:=I.tuple ha
  have p:s.heap.IsTuple a its.toArray:=p
  obtain⟨u0,hu0,ru0⟩:=rv.get hx
  obtain⟨⟨old,z1⟩,z2⟩:=st
  have hh:X.A.in1.handled=none:=I.ok.hd hc
  have hlt:i < its.toArray.size:=by
   have:=OO.mp hu0
   simpa using this.1
  refine wpAny_pyNext_enum_itemD (Ih hh (Bp p z2) its.toArray) z1 ⟨z2,p⟩ hlt (Kn 1 0 rfl) (by
   simp only[OK,Pw,Qm,not_or]
   exact⟨Kn 1 0 rfl,Be p z1⟩) λu h' tk hu q1 q2 q3 q4 q5=>?_
  have eu:u0=u:=by
   have hu:its.toArray[i]? =some u:=hu
   rw[List.getElem?_toArray,hu0] at hu
   exact Option.some.inj hu
  subst eu
  refine⟨_,rfl,wpAny_letOwnedTupleGo_enum (s:={s with heap:=h',toks:=tk + 1}) q1 λh2 r1 r2=>?_⟩
  have r2:∀c,c≠n + 1->h2.get? c=h'.get? c:=r2.2
  have lz:n + 1 < s.heap.objs.size:=OS z1
  have hT:H s.heap.objs.size=none:=I.hok.fresh (OF _)
  have I1:Inv X pins σ (upd H s.heap.objs.size (.tup [.int i,x])) {s with heap:=s.heap.push {cls:=.type "tuple",data:=.seq #[.int i tk,u0]},toks:=s.toks}:=
   I.laid (λb o e=>OI _ e) (OF _) ⟨by show 2<=sizeLine;rw[Pq];omega,[.int i tk,u0],.cons ⟨tk,rfl⟩ (.cons ru0 .nil),sx.new _ _⟩
  have hf':∀c∈si n,kl X pins (upd H s.heap.objs.size (.tup [.int i,x])) c:=λc hc=>⟨by
   rw[ay (λz=>?_)]
   ·exact (hf c hc).1
   ·subst z
    simp only[si,OK,Pw,Qm] at hc
    omega,(hf c hc).2⟩
  have I2:Inv X pins σ (upd H s.heap.objs.size (.tup [.int i,x])) {s with heap:=h2,toks:=tk + 1}:=by
   refine I1.turnedL (ch:=si n) (λc o hc e=>?_) hf'
   have e:(s.heap.push {cls:=.type "tuple",data:=.seq #[.int i tk,u0]}).get? c=some o:=e
   simp only[si,OK,Pw,Qm,not_or] at hc
   rw[r2 c hc.1]
   by_cases z:c=s.heap.objs.size
   ·subst z
    rw[OV _ rfl] at e
    rw[<-e];exact q3
   ·refine q5 c o hc.1 hc.2 ?_
    rw[Heap.get?_push_ne _ _ _ z] at e
    exact e
  refine⟨.ref s.heap.objs.size,_,I2,rfl,⟨x,_,hT,λxs' h'=>?_,rfl,rfl⟩,⟨⟨u0,r1⟩,q2.1.at λo e=>(r2 _ (Kn 0 1 rfl)).trans e⟩,λc hc=>(hf' c hc).1⟩
  rw[I.tuple_inj h' ha];exact hx
 done:=by
  intro X hP hw hK hc i pins s σ H E I hf st hg
  subst hP hw hK
  obtain⟨xs,ha,hl⟩:=hg
  obtain⟨its,rv,p,hz⟩:=I.tuple ha
  obtain⟨⟨old,z1⟩,z2⟩:=st
  have hh:X.A.in1.handled=none:=I.ok.hd hc
  have l1:=rv.length
  refine wpAny_pyNext_enum_endD (IX hh i (xs:=its.toArray) (by simp;omega)) z1 ⟨rfl,z2,p⟩ λh' q=>⟨rfl,?_⟩
  refine I.turnedL (t':=s.toks) (ch:=si n) (λc o hc e=>?_) hf
  simp only[si,OK,Pw,Qm,not_or] at hc
  exact q c o hc.2 e
 self:=λ_ _ _ _ _ st h=>by
  obtain⟨⟨old,z1⟩,_⟩:=st
  exact QW z1 h
def uh:bootBuiltins "enumerate"=some (.type "enumerate"):=@FM
section
variable {X:Cx}{Γ:Fx}{E:XK}{e a b c:Expr}{f fa fb:VF D}{L La Lb:@IR}{md ma mb:Md}{pos:Pos}
def dC (ds:List D):List D:=ds.mapIdx λi d=>.tuple [.int i,d]
def Du {K:Frag}{B:@Is}{G H1:Hp}{p:Addr}{xs:List V}{ds:List D}(hp:fN K G p xs)(r:cz K G xs ds):Walk K B G H1 (dC ds) (Nh K p):=λGc H i s1 s2 m=>by
 have hp':=hp.grow (s1.trans s2).grow
 have l1:=r.len
 have lz:(dC ds).length=ds.length:=by unfold dC;rw[List.length_mapIdx]
 refine⟨λhi=>⟨?_,λx H' y=>?_⟩,λhi=>⟨xs,hp',@AT ⟩⟩
 ·have h1:i < xs.length:=@AT
  exact⟨xs,xs[i],hp',by simp[h1]⟩
 ·obtain⟨x,t,ht,hx,rfl,rfl⟩:=y
  obtain⟨d,ed,rd⟩:=r.at' (hx xs hp')
  have xn:=Ext.new s2 (o:=.tup [.int i,x]) ht
  refine⟨upd Gc t (.tup [.int i,x]),.tuple [.int i,d],xn,?_,.tup (.inl (.inl aB)) (.cons (.int i) (.cons (rd.mono (s1.trans xn.gg)) .nil))⟩
  unfold dC
  rw[Q6,ed];rfl
end
end L2
namespace L2
open PySem PySem.Spec PyProof.Rows PySem.MeetsSeq PySem.MeetsSeq2 PySem.MeetsSeq3
def HI (K:Frag):R2:=λx y H Q=>∃a b xs ys,x=.ref a/\y=.ref b/\fN K H a xs/\fN K H b ys/\xs.length + ys.length<=sizeLine/\
 (xs= []->Q (.ref b) H)/\(xs≠ []->ys= []->Q (.ref a) H)/\(xs≠ []->ys≠ []->∀p,H p=none->Q (.ref p) (upd H p (.tup (xs ++ ys))))
section
variable {X:Cx}
def EB:lP X (binaryOp .Add) (HI X.K):=by
 intro pins s σ H x y v u Q I rx ry h
 obtain⟨a,b,xs,ys,rfl,rfl,ha,hb,hz,q0,q1,q2⟩:=h
 by_cases hx:xs= []
 ·cases rx
  cases ry
  obtain⟨its,r1,p1,_⟩:=I.tuple ha
  obtain⟨its2,r2,p2,_⟩:=I.tuple hb
  obtain⟨⟨cls,dd,data,sl⟩,ho,hc,n,hd⟩:=id p1
  obtain⟨⟨cls2,dd2,data2,sl2⟩,ho2,hc2,n2,hd2⟩:=id p2
  simp only at hc hd hc2 hd2
  subst hc hd hc2 hd2
  have he:its= []:=r1.nil_iff.mpr hx
  exact concat_meets ⟨_,ho,rfl⟩ ⟨_,ho2,rfl⟩ noFill_tuple_add seq_tuple_add PySem.F.slot_tuple_add PySem.F.entry_tuple_add (Ri _ _)
   (tuple_addW0 a b its.toArray its2.toArray n n2 dd dd2 sl sl2 (by simp[he])) ⟨ho,ho2,.ref b,H,I,rfl,q0 hx⟩
 ·exact ER pins s σ H _ _ v u Q I rx ry ⟨a,b,xs,ys,rfl,rfl,ha,hb,hx,hz,q1 hx,q2 hx⟩
end
def se:D->D->Option D
 | .tuple a,.tuple b=>if a.length + b.length<=sizeLine then some (.tuple (a ++ b)) else none
 |_,_=>none
def JB {K:Frag}:oB K (HI K) se .v:=by
 intro B G H x y dx dy d Q s hB bx by' e k
 cases dx <;> cases dy <;> first | (cases e;done) |skip
 rename_i a b
 simp only[se] at e
 split at e
 ·rename_i hz
  cases e
  rcases bx with bx | ⟨_,_,_,q⟩
  case inr=>exact q.elim
  rcases by' with by' | ⟨_,_,_,q⟩
  case inr=>exact q.elim
  cases bx with
  | @tup p xs _ hp r1=>
   cases by' with
   | @tup q ys _ hq r2=>
    refine⟨p,q,xs,ys,rfl,rfl,hp.grow s.grow,hq.grow s.grow,by rw[r1.len,r2.len];exact hz,λz=>?_,λz z'=>?_,λ_ _ l hl=>?_⟩
    ·subst z
     cases r1
     exact k _ G H (Ext.refl s) (.tup hq r2)
    ·subst z'
     cases r2
     rw[Qs] at k
     exact k _ G H (Ext.refl s) (.tup hp r1)
    ·have xn:=Ext.new s (o:=.tup (xs ++ ys)) hl
     exact k _ _ _ xn (.tup (.inl (.inl aB)) ((r1.append r2).mono xn.gg))
 ·cases e
end L2
namespace L2.ST
open PySem PySem.SetTable
section
variable {prog:Program}{w:World}{A:Around}{E:@Ev}{s:Shared}
set_option maxHeartbeats 3200000 in
theorem sM {l:Addr}{vs:@GT}{ns:@D_}{T:String}{itO:Obj}{St:Addr->Nat->Heap->Prop}{Q:@Ev}(X:Src prog w s.heap l vs T itO St)(hh:A.handled=none)(hi:PyProof.Rows.IntsAre vs ns)(hb:vs.length + 1 < scanBound)
  (h:∀(h':Heap) (tk:Nat),h'.SetOf (intKind prog w) s.heap.objs.size (λk'=>(PyProof.Rows.firstMet (λi=>ns.getD i 0) vs.length).any (· == k')) (PyProof.Rows.firstMet (λi=>ns.getD i 0) vs.length).length->(∀b o,s.heap.get? b=some o->h'.get? b=some o)->Q (.ref s.heap.objs.size) {s with heap:=h',toks:=tk}) :
  wpAny (model prog w) A (call (.type "set") [.ref l]) Q E s:=by
 obtain⟨c0,tl0,hmro0⟩:=QO.mro
 have hmade0:=QO.made
 have hsub0:=QO.sub
 refine wpAny_call (codeAny_of_tree ?_)
 show wpAny _ _ (callAny (.type "set") ⟨[.ref l],[]⟩) _ _ _
 refine Pa ⟨Code.quiet_builtin _ (@FM),Ra F.entry_type_call ?_⟩
 (rw[Around.under_plain (weight_type_call_type "set" [.ref l] []) rfl])
 have g1:=QO.notType
 have g2:=QO.canCreate
 have g3:=F.typeCall_set_1 (.ref l)
 repeat (any_goals (first |assumption |wp_step))
 refine Rg (xK (.ref l) (E:=E) (Q1:=λobj s1=>obj=.ref s.heap.objs.size/\s1={s with heap:=s.heap.push {cls:=.type "set",dict:=none,data:=.set #[] 0 (.fresh 0 0 (wq w))}}) ⟨rfl,rfl⟩) λr s1 hr=>?_
 cases r with
 |error e=>exact hr
 |ok fl=>
  cases fl with
  |ret obj=>
   obtain⟨rfl,rfl⟩:=hr
   generalize hO:({cls:=.type "set",dict:=none,data:=.set #[] 0 (.fresh 0 0 (wq w))}:Obj)=O
   have hS0:(s.heap.push O).get? s.heap.objs.size=some O:=OV _ (by rw[<-hO];rfl)
   have hT0:Shared.TypeIs {s with heap:=s.heap.push O} (.ref s.heap.objs.size) "set":=⟨_,hS0,by rw[<-hO]⟩
   have g4:=QO.init.lookup
   have g5:=QO.init.bind (.ref s.heap.objs.size)
   repeat (any_goals (first |assumption |wp_step))
   refine Rg (codeAny_call_builtin (R:=wants (λr s2=>r=.none/\∃h' tk,s2={s with heap:=h',toks:=tk}/\h'.SetOf (intKind prog w) s.heap.objs.size (λk'=>(PyProof.Rows.firstMet (λi=>ns.getD i 0) vs.length).any (· == k')) (PyProof.Rows.firstMet (λi=>ns.getD i 0) vs.length).length/\(∀b o,s.heap.get? b=some o->h'.get? b=some o)) E)
    QO.init.plain F.entry_set_init (check_set_init_1 hT0 ?_)) λr2 s2 hr2=>?_
   ·obtain⟨ol,hol,hcl⟩:=X.ty
    have hol':(s.heap.push O).get? l=some ol:=OI _ hol
    have e1:=X.ns
    have e2:=X.nf
    have e3:=X.nd
    have hTl:Shared.TypeIs {s with heap:=s.heap.push O} (.ref l) T:=⟨ol,hol',hcl⟩
    have hdat:O.data=.set #[] 0 (.fresh 0 0 (wq w)):=by rw[<-hO]
    (unfold Builtin.«set.__init__» noKeywords Builtin.Frozenset.updateFrom)
    subst hO
    obtain⟨oc,od,odt,osl⟩:=ol
    simp only at hcl
    subst hcl
    (generalize hPI0:pyIter=PI0)
    wp_walk
    subst hPI0
    have kp:∀b o,s.heap.get? b=some o->(s.heap.push {cls:=.type "set",dict:=none,data:=.set #[] 0 (.fresh 0 0 (wq w))}).get? b=some o:=λb o e=>OI _ e
    refine X.it _ _ _ _ kp ?_
    refine OL (wpAny_runValue ?_)
    have hlS:l < s.heap.objs.size:=OS hol
    have hh3:A.in1.in1.in1.handled=none:=by simp[hh]
    have hneI:l≠(s.heap.push {cls:=.type "set",dict:=none,data:=.set #[] 0 (.fresh 0 0 (wq w))}).objs.size:=by
     rw[Qk];exact Py (Nat.lt_succ_of_lt hlS)
    have hSf:s.heap.objs.size∉ [(s.heap.push {cls:=.type "set",dict:=none,data:=.set #[] 0 (.fresh 0 0 (wq w))}).objs.size,l]:=by
     rw[Qk]
     intro z
     rcases OK.mp z with e |z
     ·exact absurd e (Py (Nat.lt_succ_self _))
     ·exact absurd (O7.mp z) (Nat.ne_of_gt hlS)
    refine PyProof.Rows.codeAny_set_update_loopS ((X.wk _ _ hh3 hneI).toS) s.heap.objs.size hSf (λi=>ns.getD i 0) (λi v e=>PyProof.Rows.IntsAre.int_at hi i v e) hb (vs.length - 0) 0 _ (@AT) (Pz _) (X.st _ kp) ?_ ?_
    ·exact PyProof.Rows.SetOf_congr ((PyProof.Rows.setObjOf_fresh (knd:=intKind prog w) (wq w)).setOf (OI _ hS0) (by unfold scanBound;omega)) (λ_=>rfl) rfl
    ·intro s' hm F'
     obtain⟨h',g',d',tk,os'⟩:=s'
     have eg:g'=s.gens:=hm.gens
     have ed:d'=s.drawn:=hm.drawn
     have eo:os'=s.os:=hm.os
     subst eg;subst ed;subst eo
     show wpAny _ _ _ _ _ _
     refine Pa ?_
     show wpAny _ _ (ret Value.none) _ _ _
     refine Pa ⟨rfl,h',tk,rfl,F',λb o e=>hm.heap b o (λz=>?_) (OI _ (kp b o e))⟩
     have hlt:=OS e
     rw[Qk] at z
     rcases OK.mp z with z |z
     ·exact absurd hlt (by rw[z];exact Pf _)
     ·rw[O7.mp z] at hlt
      exact absurd hlt (Nat.not_lt.mpr (Nat.le_succ _))
   ·cases r2 with
    |error e=>exact hr2
    |ok fl2=>
     cases fl2 with
     |ret r=>
      obtain⟨rfl,h',tk,rfl,hF,hk⟩:=hr2
      repeat (any_goals (first |assumption |wp_step))
      exact h _ _ hF hk
     |_=>exact hr2.elim
  |_=>exact hr.elim
end
end L2.ST
namespace L2
open PySem PyProof.Rows
section
variable {X:Cx}{K:Frag}{pins:List V}{σ:St}{H:Hp}{s:Shared}{E:XK}
def L8 (ns:@D_)(k:Int):Bool:=(firstMet (λi=>ns.getD i 0) ns.length).any (· == k)
def tu (ns:@D_):Nat:=(firstMet (λi=>ns.getD i 0) ns.length).length
def HF (K:Frag):List V->Hp->VK->Prop:=λxs H Q=>∃a ns,xs= [.ref a]/\(iF K H a (ns.map V.int)\/fN K H a (ns.map V.int))/\ns.length<=1000/\∀S,H S=none->Q (.ref S) (upd H S (.set (L8 ns) (tu ns)))
def BL (hc:X.calm=true):gu X (.type "set") (HF X.K):=by
 intro pins s σ H xs us Q I r h
 obtain⟨a,ns,rfl,hq,hz,q⟩:=h
 obtain⟨u,rfl,rx⟩:=vals1 r
 cases rx
 have hh:=I.ok.hd hc
 have core:∀{its:@GT} {T:String} {itO:Obj} {St:Addr->Nat->Heap->Prop},Vals (ns.map V.int) its->L2.ST.Src X.prog X.w s.heap a its T itO St->wpAny @EQ X.A (call (.type "set") [.ref a]) (EP X pins σ Q) X.xe s:=λ{its T itO St} rv src=>by
  have hl:its.length=ns.length:=by rw[<-rv.length,OH]
  refine L2.ST.sM src hh (intsAre_of rv) (by unfold scanBound;omega) λh' tk F k=>?_
  rw[hl] at F
  exact⟨.ref _,_,I.laid (t':=tk) (o:=.set (L8 ns) (tu ns)) k (OF _) F,rfl,q _ (I.hok.fresh (OF _))⟩
 rcases hq with hq |hq
 ·obtain⟨its,rv,pl,hz⟩:=I.list hq
  exact core rv (L2.ST.Src.list pl.isList)
 ·obtain⟨its,rv,pl,hz⟩:=I.tuple hq
  exact core rv (L2.ST.Src.tuple pl)
def A0:gu X (.builtin "len") (λxs H Q=>∃S f n,xs= [.ref S]/\H S=some (.set f n)/\Q (.int n) H):=by
 intro pins s σ H xs us Q I r h
 obtain⟨S,f,n,rfl,hS,q⟩:=h
 obtain⟨u,rfl,rx⟩:=vals1 r
 cases rx
 obtain⟨o,es,ep,t,ho,hex,hd,_,_,hb,hf,e⟩:s.heap.SetOf (intKind X.prog X.w) S f n:=I.hok _ _ hS
 refine call_len_set ho hex hd hf (by unfold scanBound at hb;omega) ⟨.int n,H,I.tok _,⟨_,by rw[e]⟩,q⟩
def p8 (d:D):Option D:=match lV d with
 |some ds=>(match kn ds with
  |some ns=>if ns.length<=1000 then some (.int (tu ns)) else none
  |none=>none)
 |none=>none
theorem cz.intsB {G:Hp}:∀{ns:@D_} {xs:List V},cz K G xs (ns.map int)->xs=ns.map V.int
 | [],_,.nil=>rfl
 |n :: ns,_,.cons r t=>by cases r;rw[cz.intsB t];rfl
variable {Γ:Fx}{e a b c:Expr}{f fa fb fc:VF D}{L La Lb:@IR}{md ma mb mc:Md}{pos:Pos}
theorem BJ {p1 p2 pos2:Pos}(hc:X.calm=true)(hK:X.K=Γ.K)(hg:Gl X "len")(hm:X.mg "len"=none)(hg2:Gl X "set")(hm2:X.mg "set"=none)(ha:SE X Γ E a fa La ma)
  (he:starEach [a] X.env=(false,eval a X.env) :: starEach [] X.env:=by rfl)
  (he2:starEach [.Call (.Name "set" p2) [a] [] pos2] X.env=(false,eval (.Call (.Name "set" p2) [a] [] pos2) X.env) :: starEach [] X.env:=by rfl) :
  SE X Γ E (.Call (.Name "len" p1) [.Call (.Name "set" p2) [a] [] pos2] [] pos) (f1 fa p8) La .v:=by
 refine PE.post' (oy A0 hg hm (@FM) (a9 (kC (BL hc) hg2 hm2 (@FM) (a9 ha b9 he) @F_ @F_ he) b9 he2) @F_ @F_ he2) λσ H Q ⟨env,G,B,β,I,o⟩=>?_
 refine lB (r:=λx H1 Q=>HF X.K [x] H1 λy H2=>∃S f n,[y]= [V.ref S]/\H2 S=some (.set f n)/\Q (.int n) H2) ?_ I o
 intro B G H x dx d Q s hB bx e k
 rw[hK]
 unfold p8 at e
 cases q:lV dx with
 |none=>rw[q] at e;cases e
 |some ds=>
  rw[q] at e
  dsimp only at e
  cases q2:kn ds with
  |none=>rw[q2] at e;cases e
  |some ns=>
   rw[q2] at e
   dsimp only at e
   split at e
   ·rename_i hz
    cases e
    obtain⟨p,xs,rfl,hq,r⟩:=bx.seq q s
    rw[r6 q2] at r
    have r:=r.intsB
    subst r
    exact⟨p,ns,rfl,hq,hz,λS hS=>⟨S,_,_,rfl,aB,k _ _ _ (Ext.own s hS) (.int _)⟩⟩
   ·cases e
end
end L2
namespace L2
open PySem
mutual
def qR:D->Bool
 | .none=>true
 | .bool _=>true
 | .int _=>true
 | .str _=>true
 | .tuple ds=>cP ds
 | .list _=>false
 | .dict _=>false
def cP:List D->Bool
 | []=>true
 |d :: ds=>qR d && cP ds
end
section
variable {P:Program}{w:World}{K:Frag}{mg:@FS}{base:Heap}{ca:Str->Addr}{G G' H H':Hp}
mutual
theorem Rp.flat (s:aw G H)(s':aw G' H):∀{x:V} {d:D},Rp K G' x d->qR d=true->Rp K (fP G H) x d
 |_,_,.non,_=>.non
 |_,_,.bl b,_=>.bl b
 |_,_,.int i,_=>.int i
 |_,_,.str x,_=>.str x
 |_,_,.tup h hs,e=>.tup (nV s (h.grow s'.grow)) (cz.flat s s' hs (by simpa[qR] using e))
 |_,_,.lst h hs,e=>by simp[qR] at e
 |_,_,.scr h,e=>by simp[qR] at e
 |_,_,.dK h hs,e=>by simp[qR] at e
 |_,_,.dT h hs,e=>by simp[qR] at e
theorem cz.flat (s:aw G H)(s':aw G' H):∀{xs:List V} {ds:List D},cz K G' xs ds->cP ds=true->cz K (fP G H) xs ds
 |_,_,.nil,_=>.nil
 |_,_,.cons h hs,e=>by
  simp only[cP,O1] at e
  exact .cons (Rp.flat s s' h e.1) (cz.flat s s' hs e.2)
end
def pY (F:@Cl):@Cl:=λds=>match F ds with
 | .ok (.list es) false=>.ok (.list es) (cP ds && cP es)
 |r=>r
def z8 {F:@Cl}{ds es:List D}(e:F ds=.ok (.list es) false)(h1:cP ds=true)(h2:cP es=true):pY F ds=.ok (.list es) true:=by
 unfold pY;rw[e];dsimp only;rw[h1,h2];rfl
def Cc:Hp:=λ_=>none
def kM:aw Cc H:=λb o e=>by cases e
theorem uU {b:Addr}{o:HO}(h:fP Cc H b=some o):Fz o:=by
 unfold fP at h
 have e:Cc b=none:=rfl
 rw[e] at h
 cases q:H b with
 |none=>rw[q] at h;cases h
 |some u=>
  rw[q] at h
  dsimp only at h
  split at h
  ·rename_i f;cases h;exact f
  ·cases h
def GB {n:Nat}{F:@Cl}{vs:List V}{Q:VK}{E:XK}(q:Gh K ca n (pY F) vs H Q E):Gh K ca n F vs H Q E:=by
 obtain⟨G,ds,sG,hl,r,q⟩:=q
 by_cases z:∃es,F ds=.ok (.list es) false/\cP ds=true/\cP es=true
 ·obtain⟨es,e,h1,h2⟩:=z
  rw[z8 e h1 h2] at q
  have sn:aw (fP Cc G) H:=(jt kM).trans sG
  refine⟨fP Cc G,ds,sn,hl,r.flat kM (aw.refl _) h1,?_⟩
  rw[e]
  intro v G' H' hh g1 g2 hn fv
  have fv:Rp K G' v (.list es):=fv
  cases fv with
  | @lst a xs _ ha hs=>
   have hH':H' a=some (.lst xs):=g2 _ _ ha
   have hHa:H a=none:=by
    cases z:H a with
    |none=>rfl
    |some o=>
     have z':=uL (hh _ _ z) hH'
     subst z'
     have hm:Mx H a:=Mx.lst z
     have:fP Cc G a=none:=by
      cases y:fP Cc G a with
      |none=>rfl
      |some o=>
       have y':=uL (sn _ _ y) z
       subst y'
       exact (uU y).elim
     rw[hn a hm this] at ha
     cases ha
   have sG':aw G H':=sG.trans hh
   refine q (.ref a) (fP G H') H' hh mT (jt sG') (λb m e=>by rw[qe hh m];exact e) ?_
   refine⟨a,rfl,hHa,?_,xs,hH',hs.flat sG' g2 h2⟩
   unfold fP
   rw[sG.free hHa,hH']
   exact OP λf=>f
 ·have:pY F ds=F ds:=by
   unfold pY
   split
   ·rename_i es e
    have hf:(cP ds && cP es)=false:=by
     cases y:(cP ds && cP es) with
     |false=>rfl
     |true=>rw[O1] at y;exact absurd ⟨es,e,y.1,y.2⟩ z
    rw[hf,e]
   ·rfl
  rw[this] at q
  exact⟨G,ds,sG,hl,r,q⟩
def bZ.new {x:Str}{ps:@IN}{k:Nat}{F:@Cl}(h:bZ P w K mg base ca x ps k F):bZ P w K mg base ca x ps k (pY F):=by
 obtain⟨f,fd,a,b,c,d⟩:=h.ex
 refine⟨⟨f,fd,a,b,c,d.imp λvs H Q E q=>GB q⟩,λds hn=>h.len ds λz=>hn ?_⟩
 unfold pY;rw[z]
end
section
variable {K:Frag}{h:Heap}{mg:@FS}
theorem Ax {α:Type}{P:List α->Prop}(q:∀a,P [a]):∀us:List α,us.length=1->P us
 | [a],_=>q a
theorem ln2 {α:Type}{P:List α->Prop}(q:∀a b,P [a,b]):∀us:List α,us.length=2->P us
 | [a,b],_=>q a b
theorem HQ {α:Type}{P:List α->Prop}(q:∀a b c,P [a,b,c]):∀us:List α,us.length=3->P us
 | [a,b,c],_=>q a b c
theorem Oy {α:Type}{P:List α->Prop}(q:∀a b c d e,P [a,b,c,d,e]):∀us:List α,us.length=5->P us
 | [a,b,c,d,e],_=>q a b c d e
def aQ (x:Str)(st:Stmt)(ps:@IN):Prop:=∀(kV doc pm:Value) (an:@Is) (cdv ct:Value) (us:@GT),us.length=ps.length->bindArgs (PySem.W.fnOf x x (i5 st) (c3 st) (ao st) .none kV doc pm an cdv ct) ⟨us,[]⟩=pure (ps.zip us)
structure Fo (K:Frag)(mg:@FS)(x:Str)(st:Stmt)(ps:@IN):Prop where
 ex:∃f fd,gr K mg x st ps f fd
def bu {x:Str}{st:Stmt}{ps:@IN}{f:Addr}{oc:Value}{od an:@Is}{sl:Array (Option Value)}{kV doc pm cdv ct:Value}(X:K.In h)(G:h.Ns mainGlobals mg)(b:aQ x st ps)(a:PySem.W.nsIn K mainGlobals x=some (some (.ref f)))
  (l:K.lookup f=some ⟨oc,od,.func (PySem.W.fnOf x x (i5 st) (c3 st) (ao st) .none kV doc pm an cdv ct),sl⟩) (c:PySem.W.codeIn K cdv x=true) (k:PySem.W.keepIn K (.ref f)=true):Fo K mg x st ps:=
 ⟨⟨f,_,PySem.W.mg_of X G a,qQ l c k,(qQ l c k).binds b⟩⟩
def NN:@IN:=["len","range","enumerate","zip","min","max","sum","abs","sorted","reversed","int","str","bool","list","tuple","dict","set","isinstance","repr","any","all","divmod"]
def NU (K:Frag):Bool:=NN.all λx=>match PySem.W.nsIn K mainGlobals x with
 |some none=>true
 |_=>false
def Ip (q:NU K=true){x:Str}(hx:x∈NN):PySem.W.nsIn K mainGlobals x=some none:=by
 have:=O4.mp q x hx
 split at this
 ·assumption
 ·cases this
def KY (X:K.In h)(G:h.Ns mainGlobals mg)(q:NU K=true):gR mg:=by
 have key:∀{x:Str},x∈NN->mg x=none:=λhx=>PySem.W.mg_none_of X G (Ip q hx)
 constructor <;> exact key @F_
end
section
variable {X:Cx}{P:Program}{w:World}{K:Frag}{mg:@FS}{base:Heap}{ca:Str->Addr}
def rj (step:(@Cl)->@Cl):Nat->@Cl
 | 0=>λ_=>.bad
 |n + 1=>step (rj step n)
end
end L2
namespace L2
open PySem PySem.Spec PyProof.Rows
def FY {prog:Program}{w:World}{A:Around}{it t:Addr}{xs:Array Value}(hh:A.handled=none)(i:Nat)(hx:xs[i]? =none):Draws prog w A it [it,t] i (λ_ _=>False) (λj h=>j=i/\h.IsListIter it t i/\h.IsList t xs) where
 live:=λ_ _ st=>let ⟨o,ho,_⟩:=st.2.1;⟨o,ho⟩
 frame:=λ_ _ _ st hk=>⟨st.1,st.2.1.at λo e=>hk it (by simp) o e,st.2.2.at λo e=>hk t (by simp) o e⟩
 item:=λj s Q E hi st k=>absurd st.1 (@AT)
 done:=λs Q E st k=>wpAny_nextOf_list_end hh st.2.1 st.2.2 hx k
def FC (K:Frag)(a:Addr):It:=
 ⟨λi H=>∃xs x,iF K H a xs/\xs[i]? =some x,
  λi H v H'=>∃x t,H t=none/\(∀xs,iF K H a xs->xs[i]? =some x)/\v=.ref t/\H'=upd H t (.tup [.int i,x]),
  λi H=>∃xs,iF K H a xs/\xs.length<=i⟩
def BO {h:Heap}{a n:Addr}{i:Nat}{its:Array Value}{b:Addr}(p:h.IsList a its)(q:h.IsListIter n b i):a≠n:=λz=>by
 subst z
 obtain⟨o,e,c,_⟩:=p
 obtain⟨o',e',c',_⟩:=q
 rw[e] at e';cases e'
 rw[c] at c'
 simp at c'
def B8 {h:Heap}{a n it:Addr}{i:Int}{its:Array Value}{old:Value}(p:h.IsList a its)(q:IsEnum h n it i old):n≠a:=λz=>by
 subst z
 obtain⟨o,e,c,_⟩:=p
 rw[q] at e;cases e
 simp at c
def rY {P:Program}{w:World}{K:Frag}{elts:List Expr}{x1}{pos:Pos}(a:Addr)(n:Nat):Turn P w K (.Tuple elts x1 pos) (FC K a) (si n) (n + 1)
  (λi h=>(∃old,IsEnum h (n + 1) n i old)/\h.IsListIter n a i) where
 mem:=by simp
 obj:=λi h st c hc=>by
  obtain⟨⟨old,z1⟩,⟨o2,z2,_,d2⟩⟩:=st
  simp only[si,OK,Pw,Qm] at hc
  rcases hc with rfl |rfl
  ·exact⟨_,z1,λv z=>by
    have z':Data.fields _=Data.cell v:=z
    cases z'⟩
  ·exact⟨o2,z2,λv z=>by rw[d2] at z;cases z⟩
 keep:=λi h h' st k=>by
  obtain⟨⟨old,z1⟩,z2⟩:=st
  exact⟨⟨old,k _ (by simp) _ z1⟩,z2.at λo e=>k _ (by simp) o e⟩
 item:=by
  intro X hP hw hK hc i pins s σ H E I hf st hg
  subst hP hw hK
  obtain⟨xs,x,ha,hx⟩:=hg
  obtain⟨its,rv,p,hz⟩:=I.list ha
  have p:s.heap.IsList a its.toArray:=p.isList
  obtain⟨u0,hu0,ru0⟩:=rv.get hx
  obtain⟨⟨old,z1⟩,z2⟩:=st
  have hh:X.A.in1.handled=none:=I.ok.hd hc
  have hlt:i < its.toArray.size:=by
   have:=OO.mp hu0
   simpa using this.1
  refine wpAny_pyNext_enum_itemD (Draws.list hh n a (BO p z2) its.toArray) z1 ⟨z2,p⟩ hlt (Kn 1 0 rfl) (by
   simp only[OK,Pw,Qm,not_or]
   exact⟨Kn 1 0 rfl,B8 p z1⟩) λu h' tk hu q1 q2 q3 q4 q5=>?_
  have eu:u0=u:=by
   have hu:its.toArray[i]? =some u:=hu
   rw[List.getElem?_toArray,hu0] at hu
   exact Option.some.inj hu
  subst eu
  refine⟨_,rfl,wpAny_letOwnedTupleGo_enum (s:={s with heap:=h',toks:=tk + 1}) q1 λh2 r1 r2=>?_⟩
  have r2:∀c,c≠n + 1->h2.get? c=h'.get? c:=r2.2
  have lz:n + 1 < s.heap.objs.size:=OS z1
  have hT:H s.heap.objs.size=none:=I.hok.fresh (OF _)
  have I1:Inv X pins σ (upd H s.heap.objs.size (.tup [.int i,x])) {s with heap:=s.heap.push {cls:=.type "tuple",data:=.seq #[.int i tk,u0]},toks:=s.toks}:=
   I.laid (λb o e=>OI _ e) (OF _) ⟨by show 2<=sizeLine;rw[Pq];omega,[.int i tk,u0],.cons ⟨tk,rfl⟩ (.cons ru0 .nil),sx.new _ _⟩
  have hf':∀c∈si n,kl X pins (upd H s.heap.objs.size (.tup [.int i,x])) c:=λc hc=>⟨by
   rw[ay (λz=>?_)]
   ·exact (hf c hc).1
   ·subst z
    simp only[si,OK,Pw,Qm] at hc
    omega,(hf c hc).2⟩
  have I2:Inv X pins σ (upd H s.heap.objs.size (.tup [.int i,x])) {s with heap:=h2,toks:=tk + 1}:=by
   refine I1.turnedL (ch:=si n) (λc o hc e=>?_) hf'
   have e:(s.heap.push {cls:=.type "tuple",data:=.seq #[.int i tk,u0]}).get? c=some o:=e
   simp only[si,OK,Pw,Qm,not_or] at hc
   rw[r2 c hc.1]
   by_cases z:c=s.heap.objs.size
   ·subst z
    rw[OV _ rfl] at e
    rw[<-e];exact q3
   ·refine q5 c o hc.1 hc.2 ?_
    rw[Heap.get?_push_ne _ _ _ z] at e
    exact e
  refine⟨.ref s.heap.objs.size,_,I2,rfl,⟨x,_,hT,λxs' h'=>?_,rfl,rfl⟩,⟨⟨u0,r1⟩,q2.1.at λo e=>(r2 _ (Kn 0 1 rfl)).trans e⟩,λc hc=>(hf' c hc).1⟩
  rw[I.list_inj h' ha];exact hx
 done:=by
  intro X hP hw hK hc i pins s σ H E I hf st hg
  subst hP hw hK
  obtain⟨xs,ha,hl⟩:=hg
  obtain⟨its,rv,p,hz⟩:=I.list ha
  obtain⟨⟨old,z1⟩,z2⟩:=st
  have hh:X.A.in1.handled=none:=I.ok.hd hc
  have l1:=rv.length
  refine wpAny_pyNext_enum_endD (FY hh i (xs:=its.toArray) (by simp;omega)) z1 ⟨rfl,z2,p.isList⟩ λh' q=>⟨rfl,?_⟩
  refine I.turnedL (t':=s.toks) (ch:=si n) (λc o hc e=>?_) hf
  simp only[si,OK,Pw,Qm,not_or] at hc
  exact q c o hc.2 e
 self:=λ_ _ _ _ _ st h=>by
  obtain⟨⟨old,z1⟩,_⟩:=st
  exact QW z1 h
def MT (K:Frag)(ta:TA):TI:=λσ H R=>ta σ H λvs H2=>∃a xs,vs= [.ref a]/\iF K H2 a xs/\R (FC K a) H2
section
variable {X:Cx}
theorem Iu {a:Expr}{ta:TA}{p pos pt:Pos}{elts:List Expr}{x1}(hg:Gl X "enumerate")(hm:X.mg "enumerate"=none)(ha:PA X [a] ta)(hs:starEach [a] X.env= [(false,eval a X.env)]:=by rfl) :
  PI X (.Tuple elts x1 pt) (.Call (.Name "enumerate" p) [a] [] pos) (MT X.K ta):=by
 intro pins s σ H R I h
 refine Call_ (nN I hg hm uh (QB (cI (ha pos pins s σ H _ I h) λus s1 ⟨vs,H1,I1,r1,q1⟩=>?_) hs rfl))
 obtain⟨a,xs,e,h1,q⟩:=q1
 subst e
 cases r1 with
 |cons r rr=>
  cases rr
  cases r
  obtain⟨its,rv,p1,hz⟩:=I1.list h1
  refine call_enumerate_list p1.isList λh' z1 z2 _ z3=>?_
  refine QW z1 ⟨_,si s1.heap.objs.size,_,_,H1,rfl,I1.kept (t':=s1.toks) z3,rY a s1.heap.objs.size,⟨⟨_,z1⟩,z2⟩,λc hc=>?_,q⟩
  have:s1.heap.objs.size<=c:=by
   simp only[si,OK,Pw,Qm] at hc
   rcases hc with rfl |rfl <;> first |exact OF _ |exact Nat.le_add_right _ _
  exact I1.fpOk this (I1.hok.fresh this)
end
section
variable {X:Cx}{Γ:Fx}{E:XK}{e a b c:Expr}{f fa fb:VF D}{L La Lb:@IR}{md ma mb:Md}{pos:Pos}
def GR (fa:VF D):VF (List D):=λvs β=>(fa vs β).bnd λx β1=>match x with
 | .list ds=>.ok (dC ds) β1
 |_=>.bad
def wA {K:Frag}{B:@Is}{G H1:Hp}{p:Addr}{xs:List V}{ds:List D}(hp:∀Gc H,aw G Gc->aw Gc H->iL B H1 H->iF K H p xs)(r:cz K G xs ds):Walk K B G H1 (dC ds) (FC K p):=λGc H i s1 s2 m=>by
 have hp':=hp Gc H s1 s2 m
 have l1:=r.len
 have lz:(dC ds).length=ds.length:=by unfold dC;rw[List.length_mapIdx]
 refine⟨λhi=>⟨?_,λx H' y=>?_⟩,λhi=>⟨xs,hp',@AT ⟩⟩
 ·have h1:i < xs.length:=@AT
  exact⟨xs,xs[i],hp',by simp[h1]⟩
 ·obtain⟨x,t,ht,hx,rfl,rfl⟩:=y
  obtain⟨d,ed,rd⟩:=r.at' (hx xs hp')
  have xn:=Ext.new s2 (o:=.tup [.int i,x]) ht
  refine⟨upd Gc t (.tup [.int i,x]),.tuple [.int i,d],xn,?_,.tup (.inl (.inl aB)) (.cons (.int i) (.cons (rd.mono (s1.trans xn.gg)) .nil))⟩
  unfold dC
  rw[Q6,ed];rfl
theorem wd {p pt:Pos}{elts:List Expr}{x1}(hK:X.K=Γ.K)(hg:Gl X "enumerate")(hm:X.mg "enumerate"=none)(ha:SE X Γ E a fa La .v)(hs:starEach [a] X.env= [(false,eval a X.env)]:=by rfl)(hs':starEach [a] X.env=(false,eval a X.env) :: starEach [] X.env:=by rfl) :
  SI X Γ E (.Tuple elts x1 pt) (.Call (.Name "enumerate" p) [a] [] pos) (GR fa) La .v:=by
 refine PI.post (Iu hg hm (a9 ha b9 hs') hs) ?_
 rintro σ H Q ⟨env,G,B,β,I,o⟩
 refine⟨env,G,B,β,I,o.bnd.imp λd1 β1 h x G1 H1 I1 s1 m1 vx=>?_⟩
 have vx:Rp Γ.K G1 x d1:=vx
 rw[hK]
 cases d1 with
 |list ds=>
  cases vx with
  | @lst p xs _ hq r=>exact⟨p,xs,rfl,.inl (Rd.mono (.inl hq) I1.sub),h _ G1 H1 I1 s1 m1 (wA (λGc H t1 t2 _=>.inl (Rd.mono (.inl hq) (t1.trans t2))) r)⟩
 |_=>exact h.elim
end
def Ny (K:Frag)(ta:TA):TI:=λσ H R=>ta σ H λvs H2=>(∃a xs,vs= [.ref a]/\fN K H2 a xs/\R (Nh K a) H2)\/∃a xs,vs= [.ref a]/\iF K H2 a xs/\R (FC K a) H2
section
variable {X:Cx}
def IC {a:Expr}{ta:TA}{p pos pt:Pos}{elts:List Expr}{x1}(hg:Gl X "enumerate")(hm:X.mg "enumerate"=none)(ha:PA X [a] ta)(hs:starEach [a] X.env= [(false,eval a X.env)]:=by rfl) :
  PI X (.Tuple elts x1 pt) (.Call (.Name "enumerate" p) [a] [] pos) (Ny X.K ta):=by
 intro pins s σ H R I h
 refine Call_ (nN I hg hm uh (QB (cI (ha pos pins s σ H _ I h) λus s1 ⟨vs,H1,I1,r1,q1⟩=>?_) hs rfl))
 have fp:∀c∈si s1.heap.objs.size,kl X pins H1 c:=λc hc=>by
  have:s1.heap.objs.size<=c:=by
   simp only[si,OK,Pw,Qm] at hc
   rcases hc with rfl |rfl <;> first |exact OF _ |exact Nat.le_add_right _ _
  exact I1.fpOk this (I1.hok.fresh this)
 rcases q1 with⟨a,xs,e,h1,q⟩ | ⟨a,xs,e,h1,q⟩
 ·subst e
  cases r1 with
  |cons r rr=>
   cases rr
   cases r
   obtain⟨its,rv,p1,hz⟩:=I1.tuple h1
   exact yM (show s1.heap.IsTuple a its.toArray from p1) λh' z1 z2 z3=>QW z1 ⟨_,si s1.heap.objs.size,_,_,H1,rfl,I1.kept (t':=s1.toks) z3,yL a s1.heap.objs.size,⟨⟨_,z1⟩,z2⟩,fp,q⟩
 ·subst e
  cases r1 with
  |cons r rr=>
   cases rr
   cases r
   obtain⟨its,rv,p1,hz⟩:=I1.list h1
   exact call_enumerate_list p1.isList λh' z1 z2 _ z3=>QW z1 ⟨_,si s1.heap.objs.size,_,_,H1,rfl,I1.kept (t':=s1.toks) z3,rY a s1.heap.objs.size,⟨⟨_,z1⟩,z2⟩,fp,q⟩
end
section
variable {X:Cx}{Γ:Fx}{E:XK}{e a b c:Expr}{f fa fb:VF D}{L La Lb:@IR}{md ma mb:Md}{pos:Pos}
def Ij (fa:VF D):VF (List D):=λvs β=>(fa vs β).bnd λx β1=>match lV x with
 |some ds=>.ok (dC ds) β1
 |none=>.bad
theorem Iq {p pt:Pos}{elts:List Expr}{x1}(hK:X.K=Γ.K)(hg:Gl X "enumerate")(hm:X.mg "enumerate"=none)(ha:SE X Γ E a fa La .v)(hs:starEach [a] X.env= [(false,eval a X.env)]:=by rfl)(hs':starEach [a] X.env=(false,eval a X.env) :: starEach [] X.env:=by rfl) :
  SI X Γ E (.Tuple elts x1 pt) (.Call (.Name "enumerate" p) [a] [] pos) (Ij fa) La .v:=by
 refine PI.post (IC hg hm (a9 ha b9 hs') hs) ?_
 rintro σ H Q ⟨env,G,B,β,I,o⟩
 refine⟨env,G,B,β,I,o.bnd.imp λd1 β1 h x G1 H1 I1 s1 m1 vx=>?_⟩
 have vx:Rp Γ.K G1 x d1:=vx
 rw[hK]
 cases d1 with
 |list ds=>
  cases vx with
  | @lst p xs _ hq r=>exact .inr ⟨p,xs,rfl,.inl (Rd.mono (.inl hq) I1.sub),h _ G1 H1 I1 s1 m1 (wA (λGc H t1 t2 _=>.inl (Rd.mono (.inl hq) (t1.trans t2))) r)⟩
 |tuple ds=>
  cases vx with
  | @tup p xs _ hq r=>exact .inl ⟨p,xs,rfl,hq.grow I1.sub.grow,h _ G1 H1 I1 s1 m1 (Du hq r)⟩
 |_=>exact h.elim
end
end L2
namespace RM
open PySem L2
def mP (bB:@Cl):SF:=(aL (kO ([] ++ @GM) (oR (oH (iS (f1 (gv 0) (j8 "tuple")))) (cM (f2 (f1 (gv 0) dP) (gv 1) (cY true))))
 (bL (cst (.bool false)))
 mh)
 (bL (fX (f1 (aM 1 [1] (.nm 0) (bc (gv 0)) j0 (av bB @Fa)) (bK λbs=>bs.all id)) (f2 (f1 (gv 0) p8) (gv 1) (cY false)))))
def oi:SF:=(aL (jX 1 (@GM ++ []) (f2 (dI (aa @E_ ah)) (f1 (gv 0) dP) pW))
 (aL (iO (.two 2 3) [0] (Ij (gv 0))
 (rb 1 [2] [] (gv 2) (gv 3)))
 (uo 1)))
def hW (i7 dH:@Cl):SF:=(aL (kO ([0] ++ (@GM ++ [])) (oH (iS (av i7 (aa (gv 0) (aa (f2 (gv 1) @E_ bh) ah)))))
 (bL (cst (.bool false)))
 mh)
 (aL (bR 2 ([0] ++ []) (av dH (aa (gv 0) ah)))
 (bL (f1 (aM 2 [2] (.two 0 1) (bc (f2 (gv 1) @Do bh)) j0 (f2 (f2 (gv 2) (gv 0) bh) (f2 (gv 2) (gv 1) bh) qd)) (bK λbs=>bs.all id)))))
def gi:SF:=(bL (f1 (aM 1 [1,2] (.nm 0) (bc (gv 0)) j0 (f2 (f2 (gv 0) (gv 1) bh) (f2 (gv 0) (gv 2) bh) qd)) (bK λbs=>bs.all id)))
def fZ (dH aV cR:@Cl):SF:=(aL (bR 2 @GM (aM 1 [] (.nm 0) (bc (gv 1)) j0 (av dH (aa (gv 0) ah))))
 (bL (f1 (aM 2 [2] (.two 0 1) (bc (av aV (aa (gv 0) ah))) (iS (av cR (aa (gv 2) @Fa))) (bD @Fa)) fT)))
def lF (de:@Cl):SF:=(aL (kO ([] ++ @GM) (oR (oH (iS (f1 (gv 0) (j8 "list")))) (cM (f2 (f1 (gv 0) dP) @E_ (cY false))))
 (bL (cst (.bool false)))
 mh)
 (bL (f1 (aM 1 [1] (.nm 0) (bc (gv 0)) j0 (av de @Fa)) (bK λbs=>bs.all id))))
def yF (aI gy cT:@Cl):SF:=(aL (jo ([1] ++ []) (av aI (aa (gv 1) ah)))
 (bL (fX (av gy @Fa) (f2 (av cT (aa (f2 (gv 1) @E_ bh) (aa (gv 0) ah))) (f2 (gv 1) @Do bh) (cY false)))))
def iU:SF:=(bL (f2 (gv 0) (f2 @Do (gv 1) Iz) MJ))
def gN (aK:@Cl):SF:=(aL (jX 1 (@GM ++ @GM) (f2 (dI (aa @E_ ah)) (f2 (gv 0) @E_ bh) pW))
 (aL (iO (.two 2 3) @GM (bc (f2 (gv 0) @Do bh))
 (rb 1 (@GM ++ ([2] ++ [])) [] (av aK (aa (f2 (gv 1) (gv 3) bh) (aa (gv 2) ah))) (gv 3)))
 (uo 1)))
def g7 (aK:@Cl):SF:=(aL (jX 2 [] (dI ah))
 (aL (iO (.two 3 4) [0] (GR (gv 0))
 (kO ((([1] ++ ([3] ++ [])) ++ []) ++ (@GM ++ [])) (Ac (cM (f2 (av aK (aa (gv 1) (aa (gv 3) ah))) (gv 1) (cY true))) (cM (f2 (f2 (gv 1) (gv 4) Dd) (gv 4) (cY false))))
 (nC 2 [3] (gv 3))
 mh))
 (uo 2)))
def jJ (df aK:@Cl):SF:=(aL (jX 2 [] (dI ah))
 (aL (bR 3 [] @E_)
 (aL (iG @GM (cM (f2 (f1 (gv 2) dP) (f1 (gv 0) dP) qd))
 (aL (bR 4 ([0] ++ ([3] ++ [])) (av df (aa (gv 0) (aa (gv 3) ah))))
 (aL (bR 5 @GM (aM 1 [1] (.nm 0) (bc (gv 4)) (cM (f2 (gv 0) (gv 1) (mX true))) (gv 0)))
 (aL (nC 2 (@GM ++ []) (f2 (f2 (gv 5) (gv 4) jr) @E_ bh))
 (bR 3 ([3] ++ (@GM ++ [])) (av aK (aa (gv 3) (aa (f2 (gv 2) (f1 @Do mZ) bh) ah))))))) 1000)
 (bL (f1 (gv 2) fT)))))
end RM
namespace L2
open PySem PyProof.Rows
section
variable {X:Cx}{K:Frag}{E:XK}
variable {Γ:Fx}{e a b c:Expr}{f fa fb fc:VF D}{L La Lb:@IR}{md ma mb mc:Md}{pos:Pos}
def SI.vb {tg:Expr}{fi:VF (List D)}(h:SI X Γ E tg e fi L .v):SI X Γ E tg e fi L .b:=PI.post h λσ H Q ⟨env,G,B,β,I,o⟩=>⟨env,G,B,β,I,o.imp λds β' k J G' H' a b c w=>k J G' H' a b c w.any⟩
end
section
variable {X:Cx}{K:Frag}{σ:St}{G H:Hp}{s:Shared}{E:XK}
def kP (p:Int×Int):List Key:=[.inl p.1,.inl p.2]
def Jf {p q:Int×Int}:kP p=kP q↔p=q:=by
 unfold kP
 constructor
 ·intro h
  simp at h
  exact Prod.ext h.1 h.2
 ·intro h;rw[h]
abbrev KP (K:Frag)(G:Hp):List (List Key×V)->List ((Int×Int)×D)->Prop:=Paired λa b=>a.1=kP b.1/\Rp K G a.2 b.2
theorem KP.any {kvs:List (List Key×V)}{acc:List ((Int×Int)×D)}(h:KP K G kvs acc)(p:Int×Int):(kvs.any λkv=>decide (kv.1=kP p))=acc.any λkv=>decide (kv.1=p):=by
 induction h with
 |nil=>rfl
 |cons h _ ih=>
  rw[Qj,Qj,ih,h.1]
  congr 1
  rw[P6];exact Jf
end
end L2
section
namespace L2.ST
open PySem PySem.W PyProof.Rows
end L2.ST
namespace L2
open PySem PyProof.Rows
section
variable {X:Cx}{K:Frag}{σ:St}{G H:Hp}{s:Shared}{E:XK}
def Ag (K:Frag)(H:Hp):List V->List (@D_)->Prop:=Paired λv r=>∃b,v=.ref b/\fN K H b (r.map V.int)
theorem Ag.grow {G H:Hp}(s:aw G H):∀{vs:List V} {rs:List (@D_)},Ag K G vs rs->Ag K H vs rs
 |_,_,.nil=>.nil
 |_,_,.cons ⟨b,e,q⟩ t=>.cons ⟨b,e,q.grow s.grow⟩ (Ag.grow s t)
end
end L2
end
namespace L2
open PySem PyProof.Rows
section
variable {X:Cx}{K:Frag}{σ:St}{G H:Hp}{s:Shared}{E:XK}
theorem t9 {α β:Type}{F:α->β->Prop}:∀{l₁:List α} {l₂:List β},Paired F l₁ l₂->∀{i:Nat} {a:α} {b:β},l₁[i]? =some a->l₂[i]? =some b->F a b
 |_,_,.nil,_,_,_,e,_=>by simp at e
 |_,_,.cons h t,0,_,_,e,e'=>by simp at e e';subst e e';exact h
 |_,_,.cons h t,i + 1,_,_,e,e'=>t9 t (i:=i) (by simpa using e) (by simpa using e')
theorem nG (bt:Nat->Nat->Bool):∀k,argBest bt k<=k
 | 0=>OF _
 |k + 1=>by
  unfold argBest
  split
  ·exact OF _
  ·exact Nat.le_succ_of_le (nG bt k)
end
end L2
namespace L2
open PySem PySem.Spec PyProof.Rows
def DP:SF:=λ_ _=>.bad
section
variable {X:Cx}{Γ:Fx}{E:XK}
def uw {st:Stmt}:SS X Γ E st DP:=λpins s σ H D I ⟨env,G,B,β,J,o⟩=>o.elim
end
end L2
namespace L2.ST
open PySem PySem.SetTable
def Oo (k:Int):Prop:=0<=k/\k < 8
structure KO (f:Int->Int)(led:Bool)(h:Heap)(S:Addr)(es:List (Int×Value)):Prop where
 ex:∃o ep t,h.get? S=some o/\o.ExactSet/\o.data=.set es.toArray ep t/\Tab t (es.map (·.1))/\t.led=led
 el:∀e,e∈es->∃k tk,e=(f k,.int k tk)/\Oo k
 nd:(es.map (·.1)).Nodup
def KO.len {f:Int->Int}{led:Bool}{h:Heap}{S:Addr}{es:List (Int×Value)}(P:KO f led h S es):es.length<=8:=by
 have:=fL (m:=(List.range 8).map λ(k:Nat)=>f (k:Int)) P.nd λx hx=>by
  obtain⟨e,he,rfl⟩:=O3.mp hx
  obtain⟨k,tk,rfl,h0,h8⟩:=P.el e he
  exact O3.mpr ⟨k.toNat,Pp.mpr (@AT),by show f ((k.toNat:Nat):Int)=f k;rw[Int.toNat_of_nonneg h0]⟩
 simpa using this
end L2.ST
namespace L2
open PySem PySem.Spec PyProof.Rows
section
variable {Γ:Fx}{B:@Is}{G H G3 H3:Hp}{σ σ3:St}{env env' env3:En}{β β3:Int}
def SR.shape (I:@H_)(J:SR Γ B G3 H3 σ3 env3 β3)(hbr:∀j,Γ.br j=false)(s:aw G G3)(m:iL B H H3)(hl:σ3.length=env'.length)(he:∀(j:Nat) (t:Sl),env'[j]? =some t->t=Sl.no\/(env[j]? =some t/\σ3[j]? =σ[j]?)):SR Γ B G H3 σ3 env' β3:=by
 refine⟨s.trans J.sub,I.old,I.new,J.keep,J.pin,I.fix,λb e=>⟨(J.box b e).1,(I.box b e).2⟩,hl,λj t q=>?_,λj k c d1 d2 q1 q2 q3 q4=>?_⟩
 ·rcases he j t q with rfl | ⟨e,es⟩
  ·trivial
  ·have w:=I.slot j t e
   rw[es]
   cases t with
   |no=>trivial
   |fz d=>exact w
   |ow d=>
    obtain⟨c,w1,w2,w3,w4,w5⟩:=w
    exact⟨c,w1,w2,w3,w4,w5.mono (aw.refl _) λo q=>m.1 c o q w4⟩
   |bx=>exact w
   |br d=>obtain⟨b1,_⟩:=w;rw[hbr j] at b1;cases b1
 ·rcases he j _ q1 with z | ⟨e1,s1⟩
  ·cases z
  ·rcases he k _ q2 with z | ⟨e2,s2⟩
   ·cases z
   ·rw[s1] at q3;rw[s2] at q4
    exact I.sep j k c d1 d2 e1 e2 q3 q4
structure DI (Γ:Fx)(d0:D)(σ:St)(H:Hp)(β:Int)(cs:List (@D_))(B:@Is)(G:Hp)(a:Addr)(bs:List Addr):Prop where
 sr:SR Γ B G H σ [.bx,.fz d0,.no,.no,.no] β
 fa:σ[2]? =some (some (.ref a))
 ha:H a=some (.lst (bs.map V.ref))
 len:bs.length=cs.length
 hb:∀(k:Nat) (b:Addr),bs[k]? =some b->H b=some (.lst ((cs.getD k []).map V.int))
 h0:∀b,b∈a :: bs->Γ.H0 b=none/\G b=none/\B≠some b
 nd:(a :: bs).Nodup
end
section
variable {Γ:Fx}{B:@Is}{G H G2 H2:Hp}{σ:St}{β:Int}{d0:D}{cs:List (@D_)}{a:Addr}{bs:List Addr}
def DI.ext (I:DI Γ d0 σ H β cs B G a bs)(hbr:∀j,Γ.br j=false)(x:Ext G H G2 H2):DI Γ d0 σ H2 β cs B G a bs:=by
 refine⟨I.sr.shape (I.sr.ext x) hbr x.gg (x.hh.mov B) I.sr.len λj t e=>.inr ⟨e,rfl⟩,I.fa,x.hh _ _ I.ha,I.len,λk b e=>x.hh _ _ (I.hb k b e),I.h0,I.nd⟩
end
end L2
namespace L2.HM
open PySem PySem.W PySem.Spec PyProof.Rows
structure KV (V:@C_->Shared->Prop)(l:Addr)(n:Nat)(Pv:Nat->Value->Prop):Prop where
 get:∀own z,V own z->∀p,p∈own->z.heap.get? p.1=some p.2
 put:∀own own' z h' tk,V own z->(∀b o,b∉own.map (·.1)->z.heap.get? b=some o->h'.get? b=some o)->own'.map (·.1)=own.map (·.1)->(∀p,p∈own'->h'.get? p.1=some p.2/\∀v,p.2.data≠.cell v)->V own' {z with heap:=h',toks:=tk}
 drop:∀own z h' tk,V own z->(∀b o,b∉own.map (·.1)->z.heap.get? b=some o->h'.get? b=some o)->V [] {z with heap:=h',toks:=tk}
 lst:∀own z,V own z->∃its:@GT,z.heap.IsList l its.toArray/\its.length=n/\∀i v,its[i]? =some v->Pv i v
 add:∀z oI oS,oI.isFreed=false->oS.isFreed=false->(∀v,oI.data≠.cell v)->(∀v,oS.data≠.cell v)->V [] z->V [((z.heap.push oI).objs.size,oS),(z.heap.objs.size,oI)] {z with heap:=(z.heap.push oI).push oS}
section
variable {prog:Program}{w:World}{A:Around}{E:@Ev}{l q I S:Addr}{n:Nat}{Pv:Nat->Value->Prop}{R:Result->Shared->Prop}{V:@C_->Shared->Prop}
theorem BD (k:KV V l n Pv)(kf:Nat->Int)(hh:A.handled=none)(hlI:l≠I)(hSI:S≠I)
  (turn:∀(i:Nat) (v:Value) own z,Pv i v->V own z->wpAny (model prog w) A.in1 (call (.ref q) [v]) (λx z'=>∃t,x=.int (kf i) t/\V own z') (λ_ _=>False) z)
  (hR:∀i v z',Pv i v->(∀j,j < n->kf i<=kf j/\(j < i->kf i < kf j))->V [] z'->R (.ok (.ret v)) z') :
  ∀(r j i:Nat) (z:Shared) (vb:Value) (tb:Tok) (c:Nat) (oI:Obj),n - (j + 1)=r->j + 1<=n->
   V [(S,seqObj "list" #[vb,.int (kf i) tb] c),(I,oI)] z->z.heap.IsListIter I l (j + 1)->Pv i vb->i<=j->(∀j',j'<=j->kf i<=kf j'/\(j' < i->kf i < kf j'))->
   codeAny (model prog w) A (.builtin "min.loop" ⟨[.ref I,.ref q,.ref S],[]⟩) R z:=by
 have hname:(toString "min" ++ toString ".loop":String)="min.loop":=by decide
 intro r
 induction r with
 |zero=>
  intro j i z vb tb c oI hr hj hV hit hvb hij hbest
  have hin:j + 1=n:=@AT
  obtain⟨its,hls,hln,hpv⟩:=k.lst _ _ hV
  have W:=Walks.list (prog:=prog) (w:=w) (A:=A.in1) hh I l hlI its.toArray
  have hsz:its.toArray.size=n:=by rw[OX];exact hln
  have nS:=k.get _ _ hV (S,seqObj "list" #[vb,.int (kf i) tb] c) (.head _)
  refine Ra PySem.F.entry_min_loop ?_
  rw[Q5 Qc _]
  show wpAny _ A.in1 (seqItems? (.ref S) >>= _) _ _ _
  refine OL (wpAny_seqItems nS rfl ?_)
  show wpAny _ A.in1 (tryCatch (pyNext (.ref I)) _ >>= _) _ _ _
  refine OL (Q3 (W.done _ _ _ ⟨by rw[hsz,<-hin];exact hit,hls⟩ λh' tk' hk'=>?_))
  have hS':=hk' S _ (by simpa using hSI) nS
  show wpAny _ A.in1 (updateSeq S (λ_=>#[]) >>= _) _ _ _
  refine OL ?_
  refine wpAny_updateSeq hS' rfl (OL (wpAny_letGo (Pa ?_)))
  refine hR i vb _ hvb (λj' hj'=>hbest j' (@AT)) (k.drop _ z (h'.update S (Obj.mapSeq λ_=>(#[]:Array Value))) tk' hV λb o hb e=>?_)
  have hb1:b≠S:=λz=>hb (by rw[z];exact .head _)
  have hb2:b≠I:=λz=>hb (by rw[z];exact .tail _ (.head _))
  exact (PU _ _ (Ne.symm hb1)).trans (hk' b o (by simpa using hb2) e)
 |succ r ih=>
  intro j i z vb tb c oI hr hj hV hit hvb hij hbest
  have hlt:j + 1 < n:=@AT
  obtain⟨its,hls,hln,hpv⟩:=k.lst _ _ hV
  have W:=Walks.list (prog:=prog) (w:=w) (A:=A.in1) hh I l hlI its.toArray
  have hsz:its.toArray.size=n:=by rw[OX];exact hln
  have nS:=k.get _ _ hV (S,seqObj "list" #[vb,.int (kf i) tb] c) (.head _)
  refine Ra PySem.F.entry_min_loop ?_
  rw[Q5 Qc _]
  show wpAny _ A.in1 (seqItems? (.ref S) >>= _) _ _ _
  refine OL (wpAny_seqItems nS rfl ?_)
  show wpAny _ A.in1 (tryCatch (pyNext (.ref I)) _ >>= _) _ _ _
  refine OL (Q3 (W.item (j + 1) _ _ _ (by rw[hsz];exact hlt) ⟨hit,hls⟩ λv h' tk' hP hst' hk'=>?_))
  have hv:Pv (j + 1) v:=hpv _ _ (by simpa using hP)
  obtain⟨oI',hoI',hoc,hod⟩:=id hst'.1
  have V1:V [(S,seqObj "list" #[vb,.int (kf i) tb] c),(I,oI')] {z with heap:=h',toks:=tk'}:=k.put _ _ _ _ tk' hV (λb o hb e=>hk' b o (by simpa using λz=>hb (by rw[z];exact .tail _ (.head _))) e) rfl λp hp=>by
   rcases OK.mp hp with rfl |hp
   ·exact⟨hk' S _ (by simpa using hSI) nS,λv z=>by cases z⟩
   ·rw[O7.mp hp];exact⟨hoI',λv z=>by rw[hod] at z;cases z⟩
  show wpAny _ A.in1 (tryCatch (holding [v] (call (.ref q) [v])) _ >>= _) _ _ _
  refine OL (Q3 (Qw (P5 (turn (j + 1) v _ _ hv V1) (λx s'' he=>?_) λ_ _ hF=>hF.elim)))
  obtain⟨t2,rfl,V2⟩:=he
  have nS2:=k.get _ _ V2 (S,seqObj "list" #[vb,.int (kf i) tb] c) (.head _)
  have nI2:=k.get _ _ V2 (I,oI') (.tail _ (.head _))
  have hit2:s''.heap.IsListIter I l (j + 1 + 1):=⟨oI',nI2,hoc,hod⟩
  show wpAny _ A.in1 (tryCatch (holding [v,.int (kf (j + 1)) t2] (richCompare .Lt (.int (kf (j + 1)) t2) (.int (kf i) tb) >>= _)) _ >>= _) _ _ _
  refine OL (Q3 (Qw (OL (CmpOf.ints_lt (prog:=prog) (w:=w) (A:=A.in1) (P:=λi v=>∃t,v=.int (kf i) t) kf (λi v h=>h) (j + 1) i _ _ _ _ _ ⟨t2,rfl⟩ ⟨tb,rfl⟩ ?_))))
  refine OL (Qw (PQ ?_))
  refine OL (wpAny_letGo (Pa ?_))
  by_cases hb':kf (j + 1) < kf i
  ·have s1:=Heap.SameBut.update s''.heap S (Obj.mapSeq λ_=>#[v,.int (kf (j + 1)) t2])
   obtain⟨c2,hc2⟩:∃c2,(s''.heap.update S (Obj.mapSeq λ_=>#[v,.int (kf (j + 1)) t2])).get? S=some (seqObj "list" #[v,.int (kf (j + 1)) t2] c2):=⟨_,get?_update_seq nS2 λ_=>#[v,.int (kf (j + 1)) t2]⟩
   simp only[hb',decide_true,P9]
   refine OL ?_
   refine wpAny_updateSeq nS2 rfl (OL (wpAny_letGo ?_))
   rw[hname]
   refine Pa ⟨plainId_quiet Qc _,ih (j + 1) (j + 1) _ v t2 c2 oI' (@AT) hlt (k.put _ _ _ _ s''.toks V2 (λb o hb e=>?_) rfl λp hp=>?_) ⟨oI',(s1.2 I hSI.symm).trans nI2,hoc,hod⟩ hv (OF _) λj' hj'=>?_⟩
   ·exact (s1.2 b λz=>hb (by rw[z];exact .head _)).trans e
   ·rcases OK.mp hp with rfl |hp
    ·exact⟨hc2,λv z=>by cases z⟩
    ·rw[O7.mp hp]
     exact⟨(s1.2 I hSI.symm).trans nI2,λv z=>by rw[hod] at z;cases z⟩
   ·by_cases e:j'=j + 1
    ·subst e
     exact⟨@AT,λ_=>@AT ⟩
    ·have hb1:=hbest j' (@AT)
     have hb2:=hb1.1
     exact⟨@AT,λ_=>@AT ⟩
  ·simp only[hb',decide_false,PV,Ql]
   refine OL (wpAny_letGo ?_)
   rw[hname]
   refine Pa ⟨plainId_quiet Qc _,ih (j + 1) i _ vb tb c oI' (@AT) hlt V2 hit2 hvb (@AT) λj' hj'=>?_⟩
   by_cases e:j'=j + 1
   ·subst e
    exact⟨@AT,λ_=>@AT ⟩
   ·exact hbest j' (@AT)
def MY {s:Shared}{Q:@Ev}(k:KV V l n Pv)(kf:Nat->Int)(hh:A.handled=none)(hV:V [] s)(hne:0 < n)
  (turn:∀(i:Nat) (v:Value) own z,Pv i v->V own z->wpAny (model prog w) A.in1 (call (.ref q) [v]) (λx z'=>∃t,x=.int (kf i) t/\V own z') (λ_ _=>False) z)
  (hQ:∀i v z',Pv i v->(∀j,j < n->kf i<=kf j/\(j < i->kf i < kf j))->V [] z'->Q v z') :
  wpAny (model prog w) A (call (.builtin "min") [.ref l] [(Str.ofString "key",.ref q)]) Q E s:=by
 have hname:(toString "min" ++ toString ".loop":String)="min.loop":=by decide
 obtain⟨its0,hls,_,_⟩:=k.lst _ _ hV
 obtain⟨ol,hol,_⟩:=id hls
 have hll:l < s.heap.objs.size:=OS hol
 refine kmk_tree PySem.F.kind_min PySem.F.plain_min PySem.F.entry_min (kmk_min_key _ _) ?_
 show wpAny _ A.in1 (Builtin.Builtins.bindParams "min" ["key","default"] 0 ⟨[],[(Str.ofString "key",.ref q)]⟩ >>= _) _ _ s
 refine OL (wpAny_of_eq (show Builtin.Builtins.bindParams "min" ["key","default"] 0 ⟨[],[(Str.ofString "key",.ref q)]⟩=pure [some (.ref q),none] from rfl) ?_)
 refine OL (Pa ?_)
 refine OL (QI hls ?_)
 refine OL (wpAny_newList ?_ (Pz _))
 rw[hname]
 have hS:(s.heap.push {cls:=.type "list_iterator",data:=.fields #[.ref l,.int 0 0]}).objs.size=s.heap.objs.size + 1:=Qk ..
 have hlI:l≠s.heap.objs.size:=Py hll
 have hSI:(s.heap.push {cls:=.type "list_iterator",data:=.fields #[.ref l,.int 0 0]}).objs.size≠s.heap.objs.size:=by rw[hS];exact Nat.ne_of_gt (Nat.lt_succ_self _)
 have V0:=k.add s {cls:=.type "list_iterator",data:=.fields #[.ref l,.int 0 0]} (seqObj "list" #[] 0) rfl rfl (λv z=>by cases z) (λv z=>by cases z) hV
 generalize hSd:(s.heap.push {cls:=.type "list_iterator",data:=.fields #[.ref l,.int 0 0]}).objs.size=S at hSI V0
 refine Pa ⟨plainId_quiet Qc _,?_⟩
 have gS:=k.get _ _ V0 (S,seqObj "list" #[] 0) (.head _)
 have gI:=k.get _ _ V0 (s.heap.objs.size,_) (.tail _ (.head _))
 obtain⟨its,hls0,hln,hpv⟩:=k.lst _ _ V0
 have W:=Walks.list (prog:=prog) (w:=w) (A:=A.in1) hh s.heap.objs.size l hlI its.toArray
 have hsz:its.toArray.size=n:=by rw[OX];exact hln
 refine Ra PySem.F.entry_min_loop ?_
 rw[Q5 Qc _]
 show wpAny _ A.in1 (seqItems? (.ref _) >>= _) _ _ _
 refine OL (wpAny_seqItems gS rfl ?_)
 show wpAny _ A.in1 (tryCatch (pyNext (.ref s.heap.objs.size)) _ >>= _) _ _ _
 refine OL (Q3 (W.item 0 _ _ _ (by rw[hsz];exact hne) ⟨⟨_,gI,rfl,rfl⟩,hls0⟩ λv h' tk' hP hst' hk'=>?_))
 have hv:Pv 0 v:=hpv _ _ (by simpa using hP)
 obtain⟨oI',hoI',hoc,hod⟩:=id hst'.1
 have V1:=k.put _ [(S,seqObj "list" #[] 0),(s.heap.objs.size,oI')] _ h' tk' V0 (λb o hb e=>hk' b o (by simpa using λz=>hb (by rw[z];exact .tail _ (.head _))) e) rfl λp hp=>by
  rcases OK.mp hp with rfl |hp
  ·exact⟨hk' S _ (by simpa using hSI) gS,λv z=>by cases z⟩
  ·rw[O7.mp hp];exact⟨hoI',λv z=>by rw[hod] at z;cases z⟩
 show wpAny _ A.in1 (tryCatch (holding [v] (call (.ref q) [v])) _ >>= _) _ _ _
 refine OL (Q3 (Qw (P5 (turn 0 v _ _ hv V1) (λx s'' he=>?_) λ_ _ hF=>hF.elim)))
 obtain⟨t2,rfl,V2⟩:=he
 have nS2:=k.get _ _ V2 (S,seqObj "list" #[] 0) (.head _)
 have nI2:=k.get _ _ V2 (s.heap.objs.size,oI') (.tail _ (.head _))
 have s1:=Heap.SameBut.update s''.heap S (Obj.mapSeq λ_=>#[v,.int (kf 0) t2])
 obtain⟨c2,hc2⟩:∃c2,(s''.heap.update S (Obj.mapSeq λ_=>#[v,.int (kf 0) t2])).get? S=some (seqObj "list" #[v,.int (kf 0) t2] c2):=⟨_,get?_update_seq nS2 λ_=>#[v,.int (kf 0) t2]⟩
 show wpAny _ A.in1 (updateSeq S (λ_=>#[v,.int (kf 0) t2]) >>= _) _ _ _
 refine OL ?_
 refine wpAny_updateSeq nS2 rfl ?_
 rw[hname]
 refine Pa ⟨plainId_quiet Qc _,BD k kf hh hlI hSI turn hQ _ 0 0 _ v t2 c2 oI' rfl hne (k.put _ _ _ _ s''.toks V2 (λb o hb e=>(s1.2 b λz=>hb (by rw[z];exact .head _)).trans e) rfl λp hp=>?_) ⟨oI',(s1.2 _ hSI.symm).trans nI2,hoc,hod⟩ hv (OF _) λj' hj'=>?_⟩
 ·rcases OK.mp hp with rfl |hp
  ·exact⟨hc2,λv z=>by cases z⟩
  ·rw[O7.mp hp]
   exact⟨(s1.2 _ hSI.symm).trans nI2,λv z=>by rw[hod] at z;cases z⟩
 ·have e:j'=0:=@AT
  subst e
  exact⟨@AT,λh=>absurd h (Pf _)⟩
end
end L2.HM
namespace L2
open PySem PySem.Spec PyProof.Rows
section
variable {X:Cx}{pins:@C_}{σ:St}{H:Hp}{l:Addr}{xs:List V}
def M1 (X:Cx)(pins:@C_)(σ:St)(H:Hp)(own:@C_)(z:Shared):Prop:=∃H',Inv X (pins ++ own) σ H' z/\aw H H'/\∀p,p∈own->kl X pins H' p.1
def Jn (hl:H l=some (.lst xs)):HM.KV (M1 X pins σ H) l xs.length (λi v=>∃x,xs[i]? =some x/\RelV x v):=by
 refine⟨λown z ⟨H',I,s,f⟩ p hp=>(I.pin p (Pe _ (Pe _ hp))).1,?_,?_,?_,?_⟩
 ·rintro own own' z h' tk ⟨H',I,s,f⟩ kk eo hg
  have hf:∀b,b∈own.map (·.1)->kl X pins H' b:=λb hb=>by
   obtain⟨p,hp,rfl⟩:=O3.mp hb
   exact f p hp
  have It:=I.unpinned.turnedL (t':=tk) (ch:=own.map (·.1)) kk hf
  have hf':∀p,p∈own'->kl X pins H' p.1:=λp hp=>hf p.1 (by rw[<-eo];exact O3.mpr ⟨p,hp,rfl⟩)
  refine⟨H',It.pins_of λp hp=>?_,s,hf'⟩
  rcases OT.mp hp with hp |hp
  ·exact It.pin p (Pe _ hp)
  ·obtain⟨a1,a2,a3,_⟩:=hf' p hp
   exact⟨(hg p hp).1,a1,a2,a3,(hg p hp).2⟩
 ·rintro own z h' tk ⟨H',I,s,f⟩ kk
  have hf:∀b,b∈own.map (·.1)->kl X pins H' b:=λb hb=>by
   obtain⟨p,hp,rfl⟩:=O3.mp hb
   exact f p hp
  exact⟨H',by rw[Qs];exact I.unpinned.turnedL (t':=tk) (ch:=own.map (·.1)) kk hf,s,λp hp=>by cases hp⟩
 ·rintro own z ⟨H',I,s,f⟩
  obtain⟨its,rv,pl,hz⟩:=I.list (.inl (.inl (s _ _ hl)))
  refine⟨its,pl.isList,rv.length.symm,λi v e=>?_⟩
  have hi:i < xs.length:=by rw[rv.length];exact (OO.mp e).1
  exact⟨xs[i],OD hi,t9 rv (OD hi) e⟩
 ·rintro z oI oS n1 n2 h1 h2 ⟨H',I,s,f⟩
  rw[Qs] at I
  have kp:∀b u,z.heap.get? b=some u->((z.heap.push oI).push oS).get? b=some u:=λb u e=>OI _ (OI _ e)
  have I2:Inv X pins σ H' {z with heap:=(z.heap.push oI).push oS}:=I.kept (t':=z.toks) kp
  have sz:(z.heap.push oI).objs.size=z.heap.objs.size + 1:=Qk ..
  have fI:kl X pins H' z.heap.objs.size:=I.fpOk (OF _) (I.hok.fresh (OF _))
  have fS:kl X pins H' (z.heap.push oI).objs.size:=I.fpOk (by rw[sz];exact Nat.le_succ _) (I.hok.fresh (by rw[sz];exact Nat.le_succ _))
  have hf:∀p,p∈ [((z.heap.push oI).objs.size,oS),(z.heap.objs.size,oI)]->kl X pins H' p.1:=λp hp=>by
   rcases OK.mp hp with rfl |hp
   ·exact fS
   ·rw[O7.mp hp];exact fI
  refine⟨H',I2.pins_of λp hp=>?_,s,hf⟩
  rcases OT.mp hp with hp |hp
  ·exact I2.pin p (Pe _ hp)
  ·obtain⟨a1,a2,a3,_⟩:=hf p hp
   rcases OK.mp hp with rfl |hp
   ·exact⟨OV _ n2,a1,a2,a3,h2⟩
   ·rw[O7.mp hp] at a1 a2 a3 ⊢
    exact⟨OI _ (OV _ n1),a1,a2,a3,h1⟩
def C0 {s:Shared}{q:Addr}{Q:VK}{E:@Ev}(I:@B_)(hh:X.A.handled=none)(hl:H l=some (.lst xs))(hne:0 < xs.length)(kf:Nat->Int)
  (turn:∀(i:Nat) (x:V) (v:Value) own z H',xs[i]? =some x->RelV x v->Inv X (pins ++ own) σ H' z->aw H H'->
   wpAny @EQ X.A.in1 (call (.ref q) [v]) (λu z'=>∃t H'',u=.int (kf i) t/\Inv X (pins ++ own) σ H'' z'/\aw H' H'') (λ_ _=>False) z)
  (hQ:∀i x H',xs[i]? =some x->(∀j,j < xs.length->kf i<=kf j/\(j < i->kf i < kf j))->aw H H'->Q x H') :
  wpAny @EQ X.A (call (.builtin "min") [.ref l] [(Str.ofString "key",.ref q)]) (EP X pins σ Q) E s:=by
 refine HM.MY (Jn (X:=X) (pins:=pins) (σ:=σ) hl) kf hh ⟨H,by rw[Qs];exact I,aw.refl _,λp hp=>by cases hp⟩ hne ?_ ?_
 ·rintro i v own z ⟨x,ex,rx⟩ ⟨H',I',s',f'⟩
  refine P5 (turn i x v own z H' ex rx I' s') (λu z' ⟨t,H'',e,I'',s''⟩=>⟨t,e,H'',I'',s'.trans s'',λp hp=>?_⟩) λ_ _ h=>h
  obtain⟨a1,a2⟩:=f' p hp
  exact⟨(I''.pin p (Pe _ (Pe _ hp))).2.1,a2⟩
 ·rintro i v z' ⟨x,ex,rx⟩ hb ⟨H',I',s',_⟩
  rw[Qs] at I'
  exact⟨x,H',I',rx,hQ i x H' ex hb s'⟩
end
abbrev E4 (X:Cx)(qual:Str)(scope:Scope)(C q:Addr)(cdv:Value):Env:=PySem.W.envX qual scope C q cdv (iK X.env.cells scope.names [])
def xZ (X:Cx)(A:Around)(NB:@IN)(qual:Str)(scope:Scope)(q:Addr)(cdv:Value)(s3:Shared)(H3:Hp)(pn:@C_):Cx:=
 {X with A:=A.deeper (E4 X qual scope s3.heap.objs.size q cdv),N:=NB,s₀:=s3,H₀:=H3,env:=E4 X qual scope s3.heap.objs.size q cdv,outer:=X.stack,stack:=E4 X qual scope s3.heap.objs.size q cdv :: X.stack,ex:=[],fn:=λ_=>false,pn:=pn,xe:=λ_ _=>False}
section
variable {X:Cx}{NB:@IN}{ixs:@IR}{scope:Scope}{pins:@C_}{σ:St}{H:Hp}{s:Shared}
def AX {A:Around}{qual:Str}{q:Addr}{cdv:Value}{y:Str}{v:V}{u:Value}(S:cj X NB 1 ixs scope)(nc:∀y∈scope.names,y.2≠.cell)(I:@B_)(hA:A.frames=some X.stack)(hh:A.handled=none)(hy:NB[0]? =some y)(hloc:scope.names.lookup y=some .local)(rv:RelV v u){h1:Heap}{tk:Nat}
  (hn:h1.Ns s.heap.objs.size (λx=>[(y,u)].reverse.lookup x)) (hk:∀b o,s.heap.get? b=some o->h1.get? b=some o) :
  Inv (xZ X A NB qual scope q cdv s H (X.pn ++ pins)) [] (some v :: ixs.map λi=>(σ[i]?).join) H {s with heap:=h1,toks:=tk}:=by
 have stk:=I.stack
 have frees:∀{x:Str},(x,NameKind.free)∈scope.names->∃c,X.env.cells.lookup x=some c:=λ{x} hx=>I.ok.has x (S.frees _ hx rfl)
 have clE:∀{x:Str} {c:Addr},(iK X.env.cells scope.names []).lookup x=some c->(x,NameKind.free)∈scope.names/\X.env.cells.lookup x=some c:=λ{x c} h=>by
  rcases mR h with⟨a,b⟩ |a
  ·obtain⟨c',e⟩:=frees a
   rw[e] at b
   exact⟨a,by rw[e,b];rfl⟩
  ·simp at a
 have isFree:∀{x:Str},(scope.names.lookup x=some .cell\/scope.names.lookup x=some .free)->(x,NameKind.free)∈scope.names:=λ{x} h=>by
  rcases h with h |h
  ·exact absurd rfl (nc _ (PN h))
  ·exact PN h
 have neN:∀b o,s.heap.get? b=some o->b≠s.heap.objs.size:=λb o e=>Py (OS e)
 have noA:∀b:Addr,b∉(xZ X A NB qual scope q cdv s H (X.pn ++ pins)).ex:=λb z=>absurd (show b∈([]:List Addr) from z) (by simp)
 have ok:(xZ X A NB qual scope q cdv s H (X.pn ++ pins)).Ok:=
  ⟨I.ok.mod,S.kind,rfl,rfl,OF _,λx y c h1 h2=>I.ok.inj x y c (clE h1).2 (clE h2).2,λx hx=>⟨_,mK (.inl (isFree hx))⟩,λx c h=>(by cases h),λ_=>hh,Around.frames_deeper hA,.inr ⟨rfl,rfl⟩,λb hb=>absurd hb (noA b),I.bs,PB I.ok.bsz I.sz,λb _ _=>noA b,λb hb=>absurd hb (noA b),stk,I.stkFree⟩
 refine⟨ok,rfl,I.bare,Un.kept hk,⟨_,hn,λi x v' h1' h2' h3'=>?_⟩,λx c h=>?_,I.hok.fresh (OF _),λx c h=>I.freeC x c (clE h).2,λp hp=>?_,I.hok.kept hk,?_⟩
 ·have h1':NB[i]? =some x:=h1'
  cases i with
  |zero=>
   rw[hy] at h1'
   cases h1'
   have h2':some v=some v':=by simpa using h2'
   cases h2'
   exact⟨u,rv,.inl ⟨hloc,by simp⟩⟩
  |succ k=>
   have hk':k < ixs.length:=by
    have:=(OO.mp h1').1
    rw[S.len] at this;omega
   obtain⟨e1,e2⟩:=S.at' k hk'
   rw[Nat.add_comm 1 k] at e1 e2
   have hm:=e2 x h1'
   rw[List.getElem?_cons_succ,OU,OD hk'] at h2'
   simp only[Option.map_some,Option.some.injEq] at h2'
   have hix:ixs.getD k 0=ixs[k]:=by simp[hk']
   have hσ:σ[ixs[k]]? =some (some v'):=by
    cases e:σ[ixs[k]]? with
    |none=>rw[e] at h2';cases h2'
    |some o=>rw[e] at h2';simp at h2';rw[h2']
   rw[e1,hix] at h1'
   have hkind:=S.frees _ hm rfl
   have hvis:An X.env.scope x:=hkind.elim (λz=>.inr (.inl z)) (λz=>.inr (.inr z))
   obtain⟨m,hm',hl⟩:=I.loc
   obtain⟨u',r,look⟩:=hl _ x v' h1' hσ hvis
   refine⟨u',r,.inr ⟨.inr (S.names _ hm),?_⟩⟩
   rcases look with⟨z,_⟩ | ⟨_,c,hc,hcell⟩
   ·rcases hkind with q |q
    ·rw[q] at z;cases z
    ·rw[q] at z;cases z
   ·refine⟨c,?_,?_⟩
    ·have:=mK (cells:=X.env.cells) (cs:=[]) (.inl hm)
     rw[hc] at this
     exact this
    ·obtain⟨o,ho,hd⟩:=hcell
     exact⟨o,hk _ _ ho,hd⟩
 ·obtain⟨v,o,ho,hd⟩:=I.cell x c (clE h).2
  exact⟨v,o,hk _ _ ho,hd⟩
 ·have hp':p∈X.pn ++ pins:=by
   rcases OT.mp hp with z |z
   ·exact z
   ·cases z
  obtain⟨e,n,ne,nf,d⟩:=I.pin p hp'
  refine⟨hk _ _ e,n,neN _ _ e,λz=>?_,d⟩
  rcases OK.mp (I.stkSub _ z) with q |q
  ·exact ne q
  ·exact nf q
 ·show (some v :: ixs.map λi=>(σ[i]?).join).length=NB.length
  rw[S.len];simp;omega
end
def A4 {prog:Program}{w:World}{A:Around}{R:Result->Shared->Prop}{s:Shared}{a:Addr}{args:Args}{o:Obj}{fd:FuncData}{body:Expr}{qn:Str}(hroom:A.depth < recursionLimit)
  (ho:s.heap.get? a=some o)
  (hd':o.data=.func fd) (hco:fd.scope.isCoroutine=false) (hgen:fd.scope.isGenerator=false) (hbody:fd.body=.expr body) (hcd:s.heap.CodeRec fd.code qn)
  (h:wpAny (model prog w) A.in1 (bindArgs fd args) (λbinds s₁=>
   wpAny (model prog w) A.in1 (newFunctionEnv fd.scope fd.globals fd.closure binds (qn ++ ".<locals>.") (some a) fd.code none fd.builtins)
    (λenv s₂=>s₂.heap.NoLimit/\codeAny (model prog w) A (.expr body env) R s₂) (λe s'=>R (.error e) s') s₁) (λe s'=>R (.error e) s') s) :
  codeAny (model prog w) A (.call (.ref a) args) R s:=by
 refine codeAny_of_tree ?_
 show wpAny _ A.in1 (callAny (.ref a) args) _ _ s
 simp only[callAny]
 refine OL (wpAny_load ho ?_)
 obtain⟨c,oc,vs,tq,hc,hoc,hdc,hq⟩:=hcd
 simp only[hd',callFunction,hco,hgen,hbody,hc]
 rw[hc] at h
 refine OL (m:=field (.ref c) 1) (wpAny_field hoc hdc hq (OL (Pa ?_)))
 exact OL (P5 h (λbinds s₁ h₁=>OL (P5 h₁ (λenv s₂ h₂=>OL (wpAny_enterFrame h₂.1 hroom
  (Pa (And.intro rfl h₂.2)))) λ_ _ h'=>h')) λ_ _ h'=>h')
section
variable {X:Cx}{NB:@IN}{ixs:@IR}{scope:Scope}{pins:@C_}{σ:St}{H:Hp}{s:Shared}
def CC {A:Around}{name qual:Str}{params:Arguments}{body:Expr}{pm ctv:Value}{q c':Addr}{y:Str}{v:V}{u:Value}{te:TE}{Q:VK}{qn:Str}
  (S:cj X NB 1 ixs scope) (nc:∀y∈scope.names,y.2≠.cell) (hco:scope.isCoroutine=false) (hgen:scope.isGenerator=false) (I:@B_) (hA:A.frames=some X.stack) (hh:A.handled=none) (hd:A.depth < recursionLimit) (hy:NB[0]? =some y) (hloc:scope.names.lookup y=some .local) (rv:RelV v u)
  (ho:s.heap.get? q=some (PySem.W.kla_obj name qual params body scope (iK X.env.cells scope.names []) pm c' ctv)) (hcd:s.heap.CodeRec (.ref c') qn)
  (hb:bindArgs (PySem.W.kla_fn name qual params body scope (iK X.env.cells scope.names []) pm (.ref c') ctv) ⟨[u],[]⟩=pure [(y,u)])
  (he:PE (xZ X A NB qn scope q (.ref c') s H (X.pn ++ pins)) body te) (h:te (some v :: ixs.map λi=>(σ[i]?).join) H Q) :
  wpAny @EQ A (call (.ref q) [u]) (EP X pins σ Q) (λ_ _=>False) s:=by
 refine wpAny_call ?_
 refine A4 hd ho rfl hco hgen rfl hcd ?_
 rw[hb]
 refine Pa (wpAny_newFunctionEnv nc (λx hx=>by rw[O7] at hx;rw[hx];exact hloc) (λh1 hn hsb=>?_) S.kind)
 have hk:∀b o,s.heap.get? b=some o->h1.get? b=some o:=λb o e=>hsb.extBut b o (Py (OS e)) (OI _ e)
 have lim:s.heap.NoLimit:=I.ok.mod.nolimit.keeps λb o e=>I.bk b o e
 refine⟨lim.keeps hk,?_⟩
 show codeAny _ _ (.expr body (E4 X qn scope s.heap.objs.size q (.ref c'))) _ _
 refine PySem.W.kla_codeExpr ?_
 have I':=AX (qual:=qn) (q:=q) (cdv:=.ref c') (tk:=s.toks + [(y,u)].length) S nc I hA hh hy hloc rv hn hk
 refine P5 (he [] _ _ H Q I' h) (λu' s' ⟨x,H',I2,rx,qx⟩=>?_) λe s' hx=>hx.elim
 exact I.after ⟨x,H',I2.os,I2.bare,I2.base,I2.hok,rx,qx⟩
end
def Lj (X:Cx)(kr:St->V->V->Hp->VK->Prop):Prop:=∀(pins:@C_) (s:Shared) (σ:St) (H:Hp) (q:Addr) (x:V) (u:Value) (Q:VK),@B_->RelV x u->kr σ (.ref q) x H Q->wpAny @EQ X.A.in1 (call (.ref q) [u]) (EP X pins σ Q) (λ_ _=>False) s
def Lp (kr:St->V->V->Hp->VK->Prop)(ta tl:TE):TE:=λσ H Q=>ta σ H λx H1=>tl σ H1 λf H2=>∃(l q:Addr) (xs:List V) (kf:Nat->Int),x=.ref l/\f=.ref q/\H2 l=some (.lst xs)/\0 < xs.length/\
 (∀(i:Nat) (y:V) (H':Hp),xs[i]? =some y->aw H2 H'->kr σ (.ref q) y H' λw H''=>w=.int (kf i)/\aw H' H'')/\
 ∀(i:Nat) (y:V) (H':Hp),xs[i]? =some y->(∀j,j < xs.length->kf i<=kf j/\(j < i->kf i < kf j))->aw H2 H'->Q y H'
section
variable {X:Cx}{a lam:Expr}{ta tl:TE}{p pos kp:Pos}{kr:St->V->V->Hp->VK->Prop}
theorem Bz (hc:X.calm=true)(hg:Gl X "min")(hm:X.mg "min"=none)(hkr:Lj X kr)(ha:PE X a ta)(hl:PE X lam tl)(hv:bootBuiltins "min"=some (.builtin "min"):=by decide +kernel)
  (he:starEach [a] X.env=(false,eval a X.env) :: starEach [] X.env:=by rfl):PE X (.Call (.Name "min" p) [a] [⟨some "key",lam,kp⟩] pos) (Lp kr ta tl):=by
 intro pins s σ H Q I h
 refine Rh (nN I hg hm hv ?_ @F_)
 let K2:V->V->Hp->Prop:=λx f H2=>∃(l q:Addr) (xs:List V) (kf:Nat->Int),x=.ref l/\f=.ref q/\H2 l=some (.lst xs)/\0 < xs.length/\
  (∀(i:Nat) (y:V) (H':Hp),xs[i]? =some y->aw H2 H'->kr σ (.ref q) y H' λw H''=>w=.int (kf i)/\aw H' H'')/\
  ∀(i:Nat) (y:V) (H':Hp),xs[i]? =some y->(∀j,j < xs.length->kf i<=kf j/\(j < i->kf i < kf j))->aw H2 H'->Q y H'
 let QK:V->List V->Hp->Prop:=λx fs H2=>match fs with
  | [f]=>K2 x f H2
  |_=>False
 let QA:List V->Hp->Prop:=λvs H1=>match vs with
  | [x]=>Am tl G9 σ H1 (QK x)
  |_=>False
 have h':Am ta G9 σ H QA:=h
 refine callWith_kw (cI (a9 ha b9 he pos pins s σ H QA I h') λus s1 ⟨vs,H1,I1,r1,q1⟩=>?_) (by rw[he];rfl) (by rw[he];rfl) rfl rfl
 match vs,r1,q1 with
 | [],_,q1=>exact q1.elim
 |_ :: _ :: _,_,q1=>exact q1.elim
 | [x],r1,q1=>
  refine cI (EU hl JT pos pins s1 σ H1 (QK x) I1 q1) λws s2 ⟨zs,H2,I2,rz,q2⟩=>?_
  match zs,rz,q2 with
  | [],_,q2=>exact q2.elim
  |_ :: _ :: _,_,q2=>exact q2.elim
  | [f],rz,q2=>
   obtain⟨l,q,xs,kf,rfl,rfl,hL,hne,hk,hQ⟩:=q2
   obtain⟨u,rfl,ru⟩:=vals1 r1
   obtain⟨uf,rfl,rf⟩:=vals1 rz
   cases ru
   cases rf
   show wpAny @EQ X.A (call (.builtin "min") [.ref l] [(Str.ofString "key",.ref q)]) (EP X pins σ Q) _ s2
   refine C0 I2 (I2.ok.hd hc) hL hne kf (λi x v own z H' ex rx I' s'=>?_) λi x H' ex hb s'=>hQ i x H' ex hb s'
   refine P5 (hkr (pins ++ own) z σ H' q x v _ I' rx (hk i x H' ex s')) (λu' z' ⟨w,H'',I'',rw',e,s''⟩=>?_) λ_ _ hF=>hF
   subst e
   obtain⟨t,rfl⟩:=rw'
   exact⟨t,H'',rfl,I'',s''⟩
end
section
variable {X:Cx}{NB:@IN}{ixs:@IR}{scope:Scope}
def wU (X:Cx)(params:Arguments)(body:Expr)(scope:Scope)(q:Addr)(H:Hp):Prop:=∃(name qual:Str) (pm ctv:Value) (c':Addr) (oc:Obj),
 H q=some (.aW (PySem.W.kla_obj name qual params body scope (iK X.env.cells scope.names []) pm c' ctv) (.own 0))/\H c'=some (.aW oc (.own 0))/\FG oc
def wU.step {params:Arguments}{body:Expr}{q:Addr}{H H':Hp}(h:wU X params body scope q H)(s:aw H H'):wU X params body scope q H':=by
 obtain⟨name,qual,pm,ctv,c',oc,h1,h2,h3⟩:=h
 exact⟨name,qual,pm,ctv,c',oc,s _ _ h1,s _ _ h2,h3⟩
def Oq (X:Cx)(params:Arguments)(body:Expr)(scope:Scope)(ixs:@IR)(te:TE):St->V->V->Hp->VK->Prop:=λσ f x H Q=>∃q,f=.ref q/\wU X params body scope q H/\te (some x :: ixs.map λi=>(σ[i]?).join) H Q
def Fh {params:Arguments}{body:Expr}{y:Str}{te:TE}(S:cj X NB 1 ixs scope)(nc:∀y∈scope.names,y.2≠.cell)(hco:scope.isCoroutine=false)(hgen:scope.isGenerator=false)(hc:X.calm=true)(hd:X.A.in1.depth < recursionLimit)(hy:NB[0]? =some y)(hloc:scope.names.lookup y=some .local)
  (hb:∀(name qual:Str) (pm ctv:Value) (c':Addr) (u:Value),bindArgs (PySem.W.kla_fn name qual params body scope (iK X.env.cells scope.names []) pm (.ref c') ctv) ⟨[u],[]⟩=pure [(y,u)])
  (he:∀qn q c' s H pn,PE (xZ X X.A.in1 NB qn scope q (.ref c') s H pn) body te):Lj X (Oq X params body scope ixs te):=by
 rintro pins s σ H q x u Q I rx ⟨q',e,⟨name,qual,pm,ctv,c',oc,h1,h2,vs,qn,t,d1,d2⟩,h⟩
 cases e
 have g1:=(I.hok _ _ h1).1
 have g2:=(I.hok _ _ h2).1
 exact CC S nc hco hgen I I.env0.in1.frames (I.ok.hd hc) hd hy hloc rx g1 ⟨c',oc,vs,t,rfl,g2,d1,d2⟩ (hb name qual pm ctv c' u) (he qn q c' s H _) h
end
def L3 (X:Cx)(Tb:Hp->Prop)(params:Arguments)(body:Expr)(scope:Scope):TE:=λσ H Q=>Tb H/\∀q H',aw H H'->wU X params body scope q H'->Q (.ref q) H'
def lZ (fb:VF D)(dr:D)(β:Int)(d:D):Option Int:=match fb [.da d,.da dr] β with
 | .ok (.int k) _=>some k
 |_=>none
def wZ (ks:@D_):Nat:=argBest (λi j=>decide (ks.getD i 0 < ks.getD j 0)) (ks.length - 1)
def Ae (ir:Nat)(fa fb:VF D):VF D:=λvs β=>(fa vs β).bnd λx β1=>match x,dat vs[ir]? with
 | .list ds,some dr=>if 0 < ds.length/\ds.all (λd=>(lZ fb dr β1 d).isSome)=true then R.of ds[wZ (ds.map λd=>(lZ fb dr β1 d).getD 0)]? β1 else .bad
 |_,_=>.bad
def rP {ks:@D_}(h:0 < ks.length):wZ ks < ks.length/\∀i,i < ks.length->(∀j,j < ks.length->ks.getD i 0<=ks.getD j 0/\(j < i->ks.getD i 0 < ks.getD j 0))->i=wZ ks:=by
 have h1:=nG (λi j=>decide (ks.getD i 0 < ks.getD j 0)) (ks.length - 1)
 refine⟨by unfold wZ;omega,λi hi hb=>?_⟩
 have first:∀n:Nat,n < ks.length->∀j,j<=n->ks.getD (argBest (λi j=>decide (ks.getD i 0 < ks.getD j 0)) n) 0<=ks.getD j 0/\(j < argBest (λi j=>decide (ks.getD i 0 < ks.getD j 0)) n->ks.getD (argBest (λi j=>decide (ks.getD i 0 < ks.getD j 0)) n) 0 < ks.getD j 0):=by
  intro n
  induction n with
  |zero=>
   intro _ j hj
   have:j=0:=@AT
   subst this
   exact⟨Int.le_refl _,λz=>absurd z (Pf _)⟩
  |succ n ih=>
   intro hn j hj
   have ihn:=ih (@AT)
   have le:=nG (λi j=>decide (ks.getD i 0 < ks.getD j 0)) n
   unfold argBest
   by_cases c:ks.getD (n + 1) 0 < ks.getD (argBest (λi j=>decide (ks.getD i 0 < ks.getD j 0)) n) 0
   ·rw[OG (OE c)]
    by_cases e:j=n + 1
    ·subst e;exact⟨Int.le_refl _,λz=>absurd z (Pf _)⟩
    ·have:=(ihn j (@AT)).1
     exact⟨@AT,λ_=>@AT ⟩
   ·rw[OP (by rw[OY];exact c)]
    by_cases e:j=n + 1
    ·subst e;exact⟨@AT,λz=>@AT ⟩
    ·exact ihn j (@AT)
 have hB:=first (ks.length - 1) (@AT)
 show i=argBest _ (ks.length - 1)
 generalize argBest (λi j=>decide (ks.getD i 0 < ks.getD j 0)) (ks.length - 1)=b at hB h1
 have a1:=hB i (@AT)
 have a2:=hb b (@AT)
 rcases Nat.lt_trichotomy i b with z |z |z
 ·have:=a1.2 z;omega
 ·exact z
 ·have:=a2.2 z;omega
section
variable {X:Cx}{Γ:Fx}{E:XK}{a lam:Expr}{fa fb:VF D}{La Lb:@IR}{ma mb:Md}{p pos kp:Pos}{NB:@IN}{scope:Scope}{params:Arguments}{body:Expr}{y:Str}{ir:Nat}{Tb:Hp->Prop}
theorem AY (hc:X.calm=true)(hK:X.K=Γ.K)(hg:Gl X "min")(hm:X.mg "min"=none)(ha:SE X Γ E a fa La .v)(hl:PE X lam (L3 X Tb params body scope))(hT:∀(B:@Is) (G H:Hp) σ env β,@H_->Tb H)
  (S:cj X NB 1 [ir] scope) (nc:∀y∈scope.names,y.2≠.cell) (hco:scope.isCoroutine=false) (hgen:scope.isGenerator=false) (hd:X.A.in1.depth < recursionLimit) (hy:NB[0]? =some y) (hloc:scope.names.lookup y=some .local)
  (hb:∀(name qual:Str) (pm ctv:Value) (c':Addr) (u:Value),bindArgs (PySem.W.kla_fn name qual params body scope (iK X.env.cells scope.names []) pm (.ref c') ctv) ⟨[u],[]⟩=pure [(y,u)])
  (he:∀H0 G0 qn q c' s H pn,SE (xZ X X.A.in1 NB qn scope q (.ref c') s H pn) (Γ.jx H0 G0 [] (λ_=>false) none) E0 body fb Lb .v)
  (hst:starEach [a] X.env=(false,eval a X.env) :: starEach [] X.env:=by rfl):SE X Γ E (.Call (.Name "min" p) [a] [⟨some "key",lam,kp⟩] pos) (Ae ir fa fb) La .v:=by
 let te:TE:=λσ H Q=>∃H0 G0,pT (Γ.jx H0 G0 [] (λ_=>false) none) E0 fb Lb .v σ H Q
 have hkr:=Fh (te:=te) S nc hco hgen hc hd hy hloc hb λqn q c' s H pn pins s' σ' H' Q I ⟨H0,G0,h⟩=>he H0 G0 qn q c' s H pn pins s' σ' H' Q I h
 refine PE.post' (Bz hc hg hm hkr ha hl (he:=hst)) λσ H Q ⟨env,G,B,β,I,o⟩=>?_
 refine⟨env,G,B,β,I,o.bnd.imp λd1 β1 h x G1 H1 I1 s1 m1 vx=>?_⟩
 refine⟨hT B G1 H1 σ _ β1 I1,λq H2 s2 hlam=>?_⟩
 cases d1 with
 |list ds=>
  cases edr:dat (vl env)[ir]? with
  |none=>rw[edr] at h;exact h.elim
  |some dr=>
  rw[edr] at h
  dsimp only at h
  by_cases hz:0 < ds.length/\ds.all (λd=>(lZ fb dr β1 d).isSome)=true
  case neg=>rw[OP hz] at h;exact h.elim
  rw[OG hz] at h
  obtain⟨d,ed,k⟩:=h.of
  have vx:Rp Γ.K G1 x (.list ds):=vx
  cases vx with
  | @lst l xs _ hq r=>
  have hl2:H2 l=some (.lst xs):=s2 _ _ (I1.sub _ _ hq)
  have hlen:=r.len
  refine⟨l,q,xs,λi=>(ds.map λd=>(lZ fb dr β1 d).getD 0).getD i 0,rfl,rfl,hl2,@AT,λi y H' ey s'=>?_,λi y H' ey hbest s'=>?_⟩
  ·refine⟨q,rfl,hlam.step s',H',H',?_⟩
   obtain⟨di,edi,rdi⟩:=r.at' ey
   have sH:aw H1 H':=s2.trans s'
   have ry:Rp Γ.K H' y di:=rdi.mono (I1.sub.trans sH)
   have e1:(vl (aW La env))[ir]? =some (.da dr):=by rw[dQ];exact join_some edr
   obtain⟨v,hv,rv⟩:∃v,σ[ir]? =some (some v)/\Rp Γ.K H' v dr:=by
    rcases Eb e1 with z |z |z
    ·obtain⟨v,w1,w2⟩:=I1.slot ir _ z
     exact⟨v,w1,w2.mono (I1.sub.trans sH)⟩
    ·obtain⟨c,w1,w2,w3,w4,w5⟩:=I1.slot ir _ z
     exact⟨_,w1,(m6.rpH (B:=B) (.inr ⟨c,rfl,w4,w5⟩) I1.sub).mono sH⟩
    ·obtain⟨_,c,w1,w4,_,w5⟩:=I1.slot ir _ z
     exact⟨_,w1,(m6.rpH (B:=B) (.inr ⟨c,rfl,w4,w5⟩) I1.sub).mono sH⟩
   have J:SR (Γ.jx H' H' [] (λ_=>false) none) none H' H' (some y :: [ir].map λi=>(σ[i]?).join) [.fz di,.fz dr] β1:=by
    refine⟨aw.refl _,aw.refl _,λb _ h=>h,λb o e _=>Kt.of e,(λb hb=>by cases hb),λb e=>e,(λb e=>by cases e),rfl,λi t e=>?_,λi j c d1 d2 e=>?_⟩
    ·match i,e with
     | 0,e=>cases e;exact⟨y,rfl,ry⟩
     | 1,e=>cases e;exact⟨v,by simp[hv],rv⟩
     |i + 2,e=>simp at e
    ·match i,e with
     | 0,e=>cases e
     | 1,e=>cases e
     |i + 2,e=>simp at e
   refine⟨_,H',none,β1,J,?_⟩
   show Out _ _ (fb [.da di,.da dr] β1) _
   have hs:=O4.mp hz.2 di (O0 edi)
   have ek:(ds.map λd=>(lZ fb dr β1 d).getD 0).getD i 0=(lZ fb dr β1 di).getD 0:=by
    rw[O5,OU,edi];rfl
   cases ef:fb [.da di,.da dr] β1 with
   |exc c=>unfold lZ at hs;rw[ef] at hs;cases hs
   |bad=>unfold lZ at hs;rw[ef] at hs;cases hs
   |ok dk β'=>
    unfold lZ at hs
    rw[ef] at hs
    cases dk with
    |int kk=>
     intro w G'' H'' J2 _ _ vo
     have vo:Rp Γ.K G'' w (.int kk):=vo
     cases vo
     have e2:lZ fb dr β1 di=some kk:=by unfold lZ;rw[ef]
     exact⟨by dsimp only;rw[ek,e2];rfl,λb o e=>J2.keep b o e (by intro z;cases z)⟩
    |_=>cases hs
  ·have hks:(ds.map λd=>(lZ fb dr β1 d).getD 0).length=ds.length:=OH ..
   have hi:i < xs.length:=(OO.mp ey).1
   have ei:=(rP (ks:=ds.map λd=>(lZ fb dr β1 d).getD 0) (@AT)).2 i (@AT) λj hj=>hbest j (@AT)
   rw[<-ei] at ed
   obtain⟨y',ey',ry⟩:=r.at ed
   rw[ey] at ey'
   cases ey'
   have sH:aw H1 H':=s2.trans s'
   exact k y G1 H' (I1.ext ⟨sH,aw.refl _,I1.sub.trans sH,λ_ _=>rfl⟩) s1 (m1.trans (sH.mov B)) ry
 |_=>exact h.elim
end
section
variable {X:Cx}{pins:@C_}{σ:St}{H:Hp}{s:Shared}
def Inv.grow {P c':Addr}{ps more:Array Value}{oc:Obj}{h':Heap}{tk:Nat}(I:@B_)(hP:H P=some (.tbl ps))(hx:Heap.ExtBut P s.heap h')(htb:h'.get? P=some (PySem.W.tabObj (ps ++ more)))(hge:s.heap.objs.size<=c')(hoc:h'.get? c'=some oc) :
  Inv X pins σ (upd (upd H P (.tbl (ps ++ more))) c' (.aW oc (.own 0))) {s with heap:=h',toks:=tk}:=by
 have lt:∀{b:Addr} {o:HO},H b=some o->b≠c':=λ{b o} e z=>by
  have:=I.hok.lt e
  rw[z] at this
  exact Pf _ (Pj this hge)
 have lts:∀{b:Addr} {o:Obj},s.heap.get? b=some o->b≠c':=λ{b o} e z=>by
  have:=OS e
  rw[z] at this
  exact Pf _ (Pj this hge)
 have nP:∀{b:Addr},H b=none->b≠P:=λ{b} e z=>by rw[z,hP] at e;cases e
 have up:∀{b:Addr} {o:HO},H b=some o->b≠P->upd (upd H P (.tbl (ps ++ more))) c' (.aW oc (.own 0)) b=some o:=λ{b o} e n=>by rw[ay (lt e),ay n];exact e
 refine I.step (g':=s.gens) (d':=s.drawn) (t':=tk) (ch:=[]) (λ_ z=>nomatch z) (λb o _ _ _ e n=>hx b o (nP n) e) (λb o _ _ _ e n=>⟨o.slots,hx b o (nP n) e⟩) (λb o _ e n=>by rw[ay (lts e),ay (nP n)];exact n) (λb o _ e=>?_)
  (λb xs e=>up e λz=>by rw[z,hP] at e;cases e) (λb o u e=>up e λz=>by rw[z,hP] at e;cases e) (λb ps' e=>?_) (λm hn=>hn.extBut hx (nP I.free)) (λb u e=>?_) I.bare
 ·by_cases z:b=P
  ·rw[z];exact⟨_,htb⟩
  ·exact⟨o,hx b o z e⟩
 ·by_cases z:b=P
  ·subst z
   rw[hP] at e
   cases e
   exact⟨more,by rw[ay (lt hP),aB]⟩
  ·exact⟨#[],by rw[up e z];simp⟩
 ·by_cases zc:b=c'
  ·subst zc
   rw[aB] at e
   cases e
   exact⟨hoc,oc,hoc⟩
  ·rw[ay zc] at e
   by_cases z:b=P
   ·subst z
    rw[aB] at e
    cases e
    exact htb
   ·rw[ay z] at e
    refine (I.hok b u e).stay (λb' u' hb' q=>hx b' u' (λzz=>?_) q) (λb' q=>up q λzz=>by rw[zz,hP] at q;cases q) λb' xs q=>?_
    ·rcases hb' with rfl |hb'
     ·exact z zz
     ·rw[zz,hP] at hb';cases hb'
    ·rcases q with q | ⟨o,q⟩
     ·exact .inl (up q λzz=>by rw[zz,hP] at q;cases q)
     ·exact .inr ⟨o,up q λzz=>by rw[zz,hP] at q;cases q⟩
def aw.grow_tbl {P c':Addr}{ps:Array Value}{oc:Obj}{l k:Value}(hP:H P=some (.tbl ps))(hc:H c'=none)(hi:FG oc)(hl:∃i t,l=.int i t)(hk:∃i t,k=.int i t):aw H (upd (upd H P (.tbl (ps ++ #[l,k,.ref c']))) c' (.aW oc (.own 0))):=by
 obtain⟨il,tl,rfl⟩:=hl
 obtain⟨ik,tk,rfl⟩:=hk
 intro b o e
 have nc:b≠c':=λz=>by rw[z,hc] at e;cases e
 have Pc:P≠c':=λz=>by rw[z,hc] at hP;cases hP
 by_cases z:b=P
 ·subst z
  rw[hP] at e
  cases e
  refine⟨#[.int il tl,.int ik tk,.ref c'],by rw[ay nc,aB],trivial,λc hcm=>?_⟩
  have:c=c':=by
   simp only[OK,Pw,Qm] at hcm
   rcases hcm with z |z |z
   ·cases z
   ·cases z
   ·cases z;rfl
  subst this
  exact⟨oc,aB,hi⟩
 ·exact Kt.of (by rw[ay nc,ay z];exact e)
end
theorem C6:∀{l:@GT},EK l->TriplesOk l
 | [],_=>trivial
 | .int _ _ :: .int _ _ :: .ref _ :: r,h=>C6 (l:=r) h
theorem Ad {pos:Pos}{cv:Value}:∀{l:@GT},EK l->codeAmong pos l=some cv->∃c,cv=.ref c/\Value.ref c∈l
 | [],_,h=>by cases h
 | .int a b :: .int c d :: .ref e :: r,h,hc=>by
  unfold codeAmong at hc
  split at hc
  ·cases hc;exact⟨e,rfl,by simp⟩
  ·obtain⟨c,e1,e2⟩:=Ad (l:=r) h hc
   exact⟨c,e1,by simp[e2]⟩
def EJ (P:Addr)(H:Hp):Prop:=∃ps,H P=some (.tbl ps)/\EK ps.toList/\∀c,Value.ref c∈ps.toList->∃o,H c=some (.aW o (.own 0))/\FG o
section
variable {X:Cx}{NB:@IN}{own:Nat}{ixs:@IR}{scope:Scope}{params:Arguments}{body:Expr}{pos:Pos}{c P:Addr}
theorem Ju (S:cj X NB own ixs scope)(hdef:defaultsOf params X.env=([],[]))(hcode:X.env.code=.ref c)(C:PySem.W.CodeHd X.base c P)(hb:X.base.BuiltinsAt X.mg P)(hgP:mainGlobals≠P):PE X (.Lambda params body scope pos) (L3 X (EJ P) params body scope):=by
 rintro pins s σ H Q I ⟨⟨ps,hP,htr,hrefs⟩,h⟩
 refine PySem.W.kla_eval hdef ?_
 have hcl:closureFor scope X.env=pure (iK X.env.cells scope.names []):=nt λy hy e=>I.ok.has _ (S.frees y hy e)
 have hb':s.heap.BuiltinsAt X.mg P:=by
  obtain⟨bm,o,b1,b2,b3,b4,b5,b6⟩:=hb
  exact⟨bm,o,b1,b2,b3,b4,I.bk _ _ b5,b6⟩
 cases hca:codeAmong pos ps.toList with
 |none=>
  refine PySem.W.kla_makeFunction hcl I.ok.glob (I.mod.glob.keeps I.bk) hcode (C.keeps I.bk) (I.hok P _ hP) (C6 htr) hca hgP hb' λc' ctv h' tk hx hge hlt hrec htb=>?_
  obtain⟨c2,oc,vs,t,e2,hoc,hd,hv⟩:=hrec
  cases e2
  have I1:=I.grow (tk:=tk) hP hx htb hge hoc
  have hc0:H c'=none:=I.hok.fresh hge
  have sm:=aw.grow_tbl (l:=rawInt pos.line) (k:=rawInt pos.col) hP hc0 (oc:=oc) ⟨vs,_,t,hd,hv⟩ ⟨_,_,rfl⟩ ⟨_,_,rfl⟩
  generalize hH1:upd (upd H P (.tbl (ps ++ #[rawInt pos.line,rawInt pos.col,.ref c']))) c' (.aW oc (.own 0))=H1 at I1 sm
  have ec:H1 c'=some (.aW oc (.own 0)):=by rw[<-hH1,aB]
  have ff:H1 h'.objs.size=none:=I1.hok.fresh (OF _)
  have I2:=I1.laid (a:=h'.objs.size) (o:=.aW (PySem.W.kla_obj "<lambda>" (X.env.qual ++ "<lambda>") params body scope (iK X.env.cells scope.names []) ((X.mg "__name__").getD .none) c' ctv) (.own 0)) (t':=tk) (h':=h'.push (PySem.W.kla_obj "<lambda>" (X.env.qual ++ "<lambda>") params body scope (iK X.env.cells scope.names []) ((X.mg "__name__").getD .none) c' ctv)) (λb u e=>OI _ e) (OF _) ⟨OV _ rfl,_,OV _ rfl⟩
  exact⟨.ref h'.objs.size,_,I2,rfl,h _ _ (sm.trans (aw.new ff)) ⟨_,_,_,_,c',oc,aB,by rw[ay (aN ec ff)];exact ec,vs,_,t,hd,hv⟩⟩
 |some cv=>
  obtain⟨c',rfl,hm⟩:=Ad htr hca
  obtain⟨oc,ec,hi⟩:=hrefs c' hm
  refine PySem.W.kla_makeFunctionHit hcl I.ok.glob (I.mod.glob.keeps I.bk) hcode (C.keeps I.bk) (I.hok P _ hP) (C6 htr) hca hb' λctv h' tk hk hsz=>?_
  have I1:Inv X pins σ H {s with heap:=h',toks:=tk}:=I.kept (t':=tk) hk
  have ff:H h'.objs.size=none:=I1.hok.fresh (OF _)
  have I2:=I1.laid (a:=h'.objs.size) (o:=.aW (PySem.W.kla_obj "<lambda>" (X.env.qual ++ "<lambda>") params body scope (iK X.env.cells scope.names []) ((X.mg "__name__").getD .none) c' ctv) (.own 0)) (t':=tk) (h':=h'.push (PySem.W.kla_obj "<lambda>" (X.env.qual ++ "<lambda>") params body scope (iK X.env.cells scope.names []) ((X.mg "__name__").getD .none) c' ctv)) (λb u e=>OI _ e) (OF _) ⟨OV _ rfl,_,OV _ rfl⟩
  exact⟨.ref h'.objs.size,_,I2,rfl,h _ _ (aw.new ff) ⟨_,_,_,_,c',oc,aB,by rw[ay (aN ec ff)];exact ec,hi⟩⟩
end
def EJ.mono {P:Addr}{G G':Hp}(h:EJ P G)(s:aw G G'):EJ P G':=by
 obtain⟨ps,e,t,k⟩:=h
 obtain⟨m,e2,t2,k2⟩:=s P _ e
 refine⟨ps ++ m,e2,by rw[Qx];exact t.app t2,λc hc=>?_⟩
 rw[Qx,OT] at hc
 rcases hc with hc |hc
 ·obtain⟨o,eo,io⟩:=k c hc;exact⟨o,s c _ eo,io⟩
 ·exact k2 c hc
def spT (T:Addr)(K:Frag)(ca:Str->Addr)(n:Nat)(F:@Cl):Sp:=λvs H Q E=>∃G ds,EJ T G/\aw G H/\ds.length=n/\cz K G vs ds/\match F ds with
 | .ok d fr=>∀v G' H',aw H H'->aw G G'->aw G' H'->(∀b,Mx H b->G b=none->G' b=none)->FV K H G' H' fr d v->Q v H'
 | .exc c=>∀H',aw H H'->E (.ref (ca c)) none H'
 | .bad=>False
structure jy (T:Addr)(P:Program)(w:World)(K:Frag)(mg:@FS)(base:Heap)(ca:Str->Addr)(x:Str)(ps:@IN)(k:Nat)(F:@Cl):Prop where
 ex:∃f fd,mg x=some (.ref f)/\PySem.W.keepIn K (.ref f)=true/\Binds K fd ps []/\fM P w K mg base (o6 P w) k f fd ps (spT T K ca ps.length F)
 len:∀ds,F ds≠.bad->ds.length=ps.length
section
variable {P:Program}{w:World}{K:Frag}{mg:@FS}{base:Heap}{ca:Str->Addr}{T:Addr}
def M5 {x qual:Str}{st:Stmt}{f:Addr}{fd:FuncData}{N ps:@IN}{k:Nat}{sp:Sp}(F:Ca K x qual st f fd)(S:aF N ps (ao st))(len:∀vs H Q E,sp vs H Q E->vs.length=ps.length)
  (hbody:∀(cdv:Value) (A:Around) (outer:List Env) (s:Shared) (H:Hp) (vs:List V) (Q:VK) (E:XK),fd.code=cdv->eG k (A.deeper (envOfC qual (ao st) s.heap.objs.size f cdv))->sp vs H Q E->
   ∃t,sL (pM (o6 P w) P w K mg base N qual (ao st) f cdv A outer s H E) (c3 st) t/\t {nx:=λ_ H'=>Q .non H',rt:=Q} (start N vs) H):fM P w K mg base (o6 P w) (k + 1) f fd ps sp:=by
 obtain⟨oc,od,kV,doc,pm,an,cdv,ct,osl,rfl,lk,hcd⟩:=F.ex
 exact Ck lk hcd S len λA outer s H vs Q E hr hsp=>hbody cdv A outer s H vs Q E rfl hr hsp
def kJ {x qual:Str}{st:Stmt}{f:Addr}{fd:FuncData}{N ps:@IN}{k:Nat}{m:SF}(F:Ca K x qual st f fd)(S:aF N ps (ao st))
  (hbody:∀(cdv:Value) (A:Around) (outer:List Env) (s:Shared) (H G:Hp) (E:XK),fd.code=cdv->EJ T G->eG k (A.deeper (envOfC qual (ao st) s.heap.objs.size f cdv))->DV (pM (o6 P w) P w K mg base N qual (ao st) f cdv A outer s H E) (Fx.fn K H G ca) E (c3 st) m) :
  fM P w K mg base (o6 P w) (k + 1) f fd ps (spT T K ca ps.length (aS N.length ps.length m)):=by
 have hpn:ps.length<=N.length:=by have:=congrArg List.length S.pre;rw[PH] at this;omega
 refine M5 F S (λvs H Q E h=>?_) (λcdv A outer s H vs Q E hcd hr h=>?_)
 ·obtain⟨G,ds,_,sG,hl,r,_⟩:=h
  rw[r.len];exact hl
 ·obtain⟨G,ds,tG,sG,hl,r,h⟩:=h
  refine⟨_,hbody cdv A outer s H G E hcd tG hr,?_⟩
  have I:=SR.start (ca:=ca) (N:=N) sG r (@AT)
  refine⟨_,G,none,0,I,?_⟩
  unfold aS at h
  rw[OG hl] at h
  have fin':∀{B G' H' σ env β},SR (Fx.fn K H G ca) B G' H' σ env β->aw H H':=λJ b o e=>J.keep b o e (λz=>by cases z)
  cases q:m (yA N.length ds) 0 with
  |nx env β=>rw[q] at h;exact λB G' H' σ J s'=>h .non G' H' (fin' J) s' J.sub (λb h1 h2=>J.new b h1 h2) Rp.non
  |bk env β=>rw[q] at h;exact h.elim
  |ct env β=>rw[q] at h;exact h.elim
  |rt d fr β=>
   rw[q] at h
   refine λB G' H' σ env v J s' rv=>h v G' H' (fin' J) s' J.sub (λb h1 h2=>J.new b h1 h2) ?_
   cases fr with
   |true=>exact rv
   |false=>exact rv
  |exc c=>rw[q] at h;exact λH' kp=>h H' λb o e=>kp b o e (λz=>by cases z)
  |bad=>rw[q] at h;exact h.elim
def BZ {f:Addr}{fd:FuncData}{ps:@IN}{k:Nat}:fM P w K mg base (o6 P w) k f fd ps (spT T K ca ps.length λ_=>.bad):=
 ⟨λvs H Q E h=>by obtain⟨_,_,_,_,_,_,h⟩:=h;exact h.elim,λA outer s H args us vs Q E _ _ _ _ h=>by obtain⟨_,_,_,_,_,_,h⟩:=h;exact h.elim⟩
def jy.imp {x:Str}{ps:@IN}{k:Nat}{F F':@Cl}(h:jy T P w K mg base ca x ps k F)(i:∀ds,F' ds≠.bad->F ds=F' ds):jy T P w K mg base ca x ps k F':=by
 obtain⟨f,fd,a,b,c,d⟩:=h.ex
 refine⟨⟨f,fd,a,b,c,d.imp λvs H Q E q=>?_⟩,λds hn=>h.len ds (by rw[i ds hn];exact hn)⟩
 obtain⟨G,ds,t,s,hl,r,q⟩:=q
 refine⟨G,ds,t,s,hl,r,?_⟩
 by_cases hb:F' ds=.bad
 ·rw[hb] at q;exact q.elim
 ·rw[i ds hb];exact q
theorem wg {x:Str}{st:Stmt}{ps:@IN}{f:Addr}{fd:FuncData}{j:Nat}{step:(@Cl)->@Cl}(F:gr K mg x st ps f fd)
  (h:∀(k:Nat) (F':@Cl),j<=k->jy T P w K mg base ca x ps k F'->jy T P w K mg base ca x ps (k + 2) (step F')):∀n,jy T P w K mg base ca x ps (j + 2 * n) (rj step n)
 | 0=>⟨⟨f,fd,F.mg,F.F.kp,F.b,BZ⟩,λds hn=>(hn rfl).elim⟩
 |n + 1=>h (j + 2 * n) _ (Nat.le_add_right _ _) (wg F h n)
end
section
variable {X:Cx}{Γ:Fx}{E:XK}{a:Expr}{es:List Expr}{fr:VF (List D)}{L:@IR}{pos:Pos}{T:Addr}
theorem yo {F:@Cl}{ps:@IN}{Q:VK}{B:@Is}{G H:Hp}{σ:St}{env:En}{β:Int}(hT:EJ T Γ.G0)(I:@H_)(hK:X.K=Γ.K){wv:Bool}
  (h:Out Γ E (if wv=true then tM F fr (vl env) β else av F fr (vl env) β) λd β'=>∀v G' H',SR Γ B G' H' σ (aW L env) β'->aw G G'->iL B H H'->VO Γ.K B H G' H' (if wv=true then .w else .v) d v->Q v H') (hl:∀ds,F ds≠.bad->ds.length=ps.length) :
  aT Γ E fr L σ H λvs H1=>spT T X.K Γ.ca ps.length F vs H1 Q E:=by
 refine⟨env,G,B,β,I,?_⟩
 have h:Out Γ E (fr (vl env) β) λds β1=>Out Γ E (match F ds with
   | .ok d true=>.ok d β1
   | .ok d false=>if wv=true then .bad else .ok d β1
   | .exc c=>.exc c
   | .bad=>.bad) λd β'=>∀v G' H',SR Γ B G' H' σ (aW L env) β'->aw G G'->iL B H H'->VO Γ.K B H G' H' (if wv=true then .w else .v) d v->Q v H':=by
  cases wv with
  |true=>
   simp only[P9] at h ⊢
   refine h.bnd.imp λds β1 h=>?_
   cases q:F ds with
   |ok d b=>rw[q] at h;cases b <;> exact h
   |exc c=>rw[q] at h;exact h
   |bad=>rw[q] at h;exact h
  |false=>
   simp only[PV,Ql] at h ⊢
   refine h.bnd.imp λds β1 h=>?_
   cases q:F ds with
   |ok d b=>rw[q] at h;cases b <;> exact h
   |exc c=>rw[q] at h;exact h
   |bad=>rw[q] at h;exact h
 refine h.imp λds β1 k vs G1 H1 I1 s1 m1 r=>?_
 refine⟨G1,ds,hT.mono I1.old,I1.sub,?_,by rw[hK];exact r,?_⟩
 ·exact hl ds λz=>by rw[z] at k;exact k
 cases q:F ds with
 |bad=>rw[q] at k;exact k
 |exc c=>rw[q] at k;exact λH' s=>k H' (I1.kp s)
 |ok d b=>
  rw[q] at k
  intro v G' H' hh hg hs hn fv
  obtain⟨I2,m2⟩:=I1.called hh hg hs hn
  cases b with
  |true=>
   obtain⟨p,rfl,p1,p2,p3⟩:∃a,v=.ref a/\H1 a=none/\G' a=none/\Own X.K G' H' a d:=fv
   rw[hK] at p3
   have hp:=fK m1 I1.boxThere p1
   cases wv with
   |true=>exact k _ G' H' I2 (s1.trans hg) (m1.trans m2) ⟨p,rfl,hp,p2,p3⟩
   |false=>
    obtain⟨q1,q2,q3,q4⟩:=I1.fresh p1
    obtain⟨G3,I3,s3,r3⟩:=I2.letIn q1 p2 q3 q4 p3
    exact k _ G3 H' I3 ((s1.trans hg).trans s3) (m1.trans m2) r3
  |false=>
   cases wv with
   |true=>exact k.elim
   |false=>
    have fv:Rp X.K G' v d:=fv
    rw[hK] at fv
    exact k _ G' H' I2 (s1.trans hg) (m1.trans m2) fv
def gq {x:Str}{ps:@IN}{k:Nat}{F:@Cl}{p:Pos}(hT:EJ T Γ.G0)(hf:jy T X.prog X.w X.K X.mg X.base Γ.ca x ps k F)(hr:eG k X.A)(hx:Passes (o6 X.prog X.w) X E)(hK:X.K=Γ.K)(hg:Gl X x)(ha:SA X Γ E (a :: es) fr L)(hdb:@G_:=by decide)
  (he:starEach (a :: es) X.env=(false,eval a X.env) :: starEach es X.env:=by rfl) (hpl:(backTo pos (starEach es X.env)).any (·.1)=false:=by rfl):SE X Γ E (.Call (.Name x p) (a :: es) [] pos) (av F fr) L .v:=by
 obtain⟨f,fd,hm,hk,hb,hF⟩:=hf.ex
 refine PE.post' (nR (dvs:=[]) hF hr hg hm hk hb .nil hx ha hdb he hpl) λσ H Q ⟨env,G,B,β,I,o⟩=>?_
 show aT Γ E fr L σ H λvs H1=>spT T X.K Γ.ca ps.length F (vs ++ []) H1 Q E
 have:=yo (Q:=Q) (wv:=false) (ps:=ps) hT I hK o hf.len
 simpa using this
end
structure A5 (mg:@FS)(base:Heap)(c T:Addr):Prop where
 hd:PySem.W.CodeHd base c T
 bt:base.BuiltinsAt mg T
 ne:mainGlobals≠T
def Lv {X:Cx}{A:Around}{NB:@IN}{qual:Str}{scope:Scope}{q:Addr}{cdv:Value}{s3:Shared}{H3:Hp}{pn:@C_}{P:Program}{w:World}:Passes (o6 P w) (xZ X A NB qual scope q cdv s3 H3 pn) E0:=λpins σ H s e s' I h=>by
 obtain⟨_,_,_,_,_,_,_,_,_,q⟩:=h
 exact q.elim
theorem Bu {P:Program}{w:World}{K:Frag}{mg mb:@FS}{CX:Bl}{k:Nat}{fa a T c:Addr}{fd:FuncData}{x:Str}{sp:Sp}{s₁:Shared}{vs:@GT}{ns:@D_}
  (KX:K.In s₁.heap) (hns:s₁.heap.Ns mainGlobals mg) (hb:s₁.heap.Ns builtinsNs mb) (hbb:∀x:Str,x≠"__name__"->mb x=bootBuiltins x) (hlim:s₁.heap.NoLimit) (hsys:∃mm,s₁.heap.Ns sysModules mm) (hg:s₁.gens=#[])
  (hbm:∃bm ob,mg "__builtins__"=some (.ref bm)/\bm≠builtinsNs/\s₁.heap.get? bm=some ob/\ob.cls=.type "module"/\ob.dict=some builtinsNs/\ob.data=.plain)
  (hT:s₁.heap.get? T=some (PySem.W.tabObj #[])) (hKT:K.lookup T=none) (hcd:PySem.W.codeHdIn K c T=true)
  (ha:s₁.heap.get? a=some {cls:=.type "list",data:=.seq vs.toArray}) (hi:IntsAre vs ns) (hl:ns.length<=sizeLine) (hr:eG k callerA)
  (F:∀base:Heap,K.In base->base.Ns mainGlobals mg->A5 mg base c T->fM P w K mg base CX k fa fd [x] sp) (hbind:∀(s:Shared) (u:Value),BindsTo s fd ⟨[u],[]⟩ [(x,u)])
  (hsp:∀H:Hp,H T=some (.tbl #[])->iF K H a (ns.map V.int)->sp [.ref a] H (λv _=>v=.bl true) λ_ _ _=>False)
  (hCX:∀H e s',CX [] H s₁ (λ_ _ _=>False) e s'->False) :
  codeAny (model P w) callerA (.call (.ref fa) ⟨[.ref a],[]⟩) (λr s'=>r=.ok (.ret (.bool true))/\OldK s₁.heap s'.heap/\s'.os=s₁.os/\AllBare s'.gens) s₁:=by
 have rv:=uj hi
 have lenV:=hi.length
 have aT:a≠T:=λz=>by rw[z,hT] at ha;cases ha
 have tabs:s₁.heap.TableAt c T #[]:=(PySem.W.codeHd_of_K KX hcd).tab hT
 have core:∀H:Hp,(∀b,b≠T->H b=none\/∃o xs,H b=some (.aW o (.lst xs)))->H T=some (.tbl #[])->iF K H a (ns.map V.int)->og P w H s₁.heap->(∀b,H b≠none->b=a\/b=T)->(H a≠none->K.lookup a=none)->
   codeAny (model P w) callerA (.call (.ref fa) ⟨[.ref a],[]⟩) (λr s'=>r=.ok (.ret (.bool true))/\OldK s₁.heap s'.heap/\s'.os=s₁.os/\AllBare s'.gens) s₁:=by
  intro H hO hHT hS hok hA hK
  have base_of:∀{b:Addr} {o:Obj},s₁.heap.get? b=some o->H b=none->(sE s₁.heap H).get? b=some o:=λe n=>Ek e n
  have noO:∀{b:Addr} {o:Obj},s₁.heap.get? b=some o->(∀xs n,o.data≠.seq xs n)->(∀ps,o.data≠.fields ps)->H b=none:=λ{b o} e d1 d2=>by
   cases q:H b with
   |none=>rfl
   |some u=>
    rcases hA b (by rw[q];simp) with e' |e'
    ·subst e'
     rw[ha] at e;cases e
     exact absurd rfl (d1 _ _)
    ·subst e'
     rw[hT] at e;cases e
     exact absurd rfl (d2 _)
  have nsK:∀{b:Addr} {m:@FS},s₁.heap.Ns b m->(sE s₁.heap H).Ns b m:=λ{b m} ⟨o,es,ep,e,d,r⟩=>⟨o,es,ep,base_of e (noO e (λxs n z=>by rw[d] at z;cases z) λps z=>by rw[d] at z;cases z),d,r⟩
  have hKb:K.In (sE s₁.heap H):=λb o e=>base_of (KX b o e) (by
   cases q:H b with
   |none=>rfl
   |some u=>
    rcases hA b (by rw[q];simp) with e' |e'
    ·subst e'
     rw[hK (by rw[q];simp)] at e;cases e
    ·subst e'
     rw[hKT] at e;cases e)
  have hM:Mod K mg (sE s₁.heap H):=⟨hKb,nsK hns,⟨mb,nsK hb,hbb⟩,let ⟨mc,h1,h2⟩:=hlim;⟨mc,nsK h1,h2⟩,let ⟨mm,h1⟩:=hsys;⟨mm,nsK h1⟩⟩
  have neM:mainGlobals≠T:=λz=>by
   obtain⟨o,es,ep,e,d,_⟩:=hns
   rw[z,hT] at e
   cases e
   have d':Data.fields #[]=Data.dict es ep:=d
   cases d'
  have hL:A5 mg (sE s₁.heap H) c T:=by
   refine⟨PySem.W.codeHd_of_K hKb hcd,?_,neM⟩
   obtain⟨bm,ob,b1,b2,b3,b4,b5,b6⟩:=hbm
   refine⟨bm,ob,b1,b2,λz=>?_,λz=>?_,base_of b3 (noO b3 (λxs n z=>by rw[b6] at z;cases z) λps z=>by rw[b6] at z;cases z),b4,b5,b6⟩
   ·obtain⟨o,es,ep,e,d,_⟩:=hns
    rw[<-z,b3] at e
    cases e
    rw[b6] at d
    cases d
   ·rw[z,hT] at b3
    cases b3
    cases b4
  have e0:yK P w K mg (sE s₁.heap H) callerA [] s₁ H:=⟨rfl,hM,λb o e=>Fb e,Nat.le_of_eq (Bj _ _),trivial,λb hb=>absurd (show b∈([]:List Addr) from hb) (by simp),hok,.of_eq hg⟩
  refine Rg ((F _ hKb (nsK hns) hL).run callerA [] s₁ H ⟨[.ref a],[]⟩ [.ref a] [.ref a] _ _ hr e0 (hbind s₁ (.ref a)) (.cons rfl .nil) (hsp H hHT hS)) λr s' h=>?_
  cases r with
  |error e=>exact (hCX H e s' h).elim
  |ok fl=>
   cases fl with
   |next=>exact False.elim h
   |brk=>exact False.elim h
   |cont=>exact False.elim h
   |ret u=>
    obtain⟨v,H',os,bare,un,hok',r',q⟩:=h
    have q':v=.bl true:=q
    subst q'
    obtain rfl:u=Value.bool true:=r'
    refine⟨rfl,⟨λb o e=>?_,λb o e=>?_⟩,os,bare⟩
    ·by_cases bT:b=T
     ·subst bT
      rw[hT] at e
      cases e
      obtain⟨more,e2⟩:=un.tbls b _ hHT
      exact .inr (.inl ⟨tabs.isCodeTable,rfl,#[],more,rfl,hok' b _ e2⟩)
     ·refine .inl ?_
      cases q:H b with
      |none=>exact un.keep b o e q (by intro z;exact absurd (show b∈([]:List Addr) from z) (by simp)) (by simp)
      |some u=>
       rcases hO b bT with z | ⟨ob,xs,z⟩
       ·rw[q] at z;cases z
       ·have z2:=un.frzs b ob _ z
        obtain⟨e1,_⟩:=hok b _ z
        obtain⟨e2,_⟩:=hok' b _ z2
        rw[e] at e1;cases e1
        exact e2
    ·by_cases bT:b=T
     ·subst bT
      obtain⟨more,e2⟩:=un.tbls b _ hHT
      exact⟨_,hok' b _ e2⟩
     ·cases q:H b with
      |none=>exact⟨o,un.keep b o e q (by intro z;exact absurd (show b∈([]:List Addr) from z) (by simp)) (by simp)⟩
      |some u=>
       rcases hO b bT with z | ⟨ob,xs,z⟩
       ·rw[q] at z;cases z
       ·exact⟨_,(hok' b _ (un.frzs b ob _ z)).1⟩
 cases hk:K.lookup a with
 |some o=>
  have e:=KX a o hk
  rw[ha] at e
  cases e
  refine core (λb=>if b=T then some (.tbl #[]) else none) (λb n=>.inl (OP n)) (OG rfl) (.inr ⟨_,vs.toArray,_,hk,rfl,rfl,rfl,by rw[OX,lenV];exact hl,by simpa using rv⟩) (λb u z=>?_) (λb z=>?_) λz=>absurd (OP aT) z
  ·by_cases hb:b=T
   ·have z':=(OG hb).symm.trans z
    cases z'
    subst hb
    exact hT
   ·have z':=(OP hb).symm.trans z
    cases z'
  ·by_cases hb:b=T
   ·exact .inr hb
   ·exact absurd (OP hb) z
 |none=>
  refine core (λb=>if b=T then some (.tbl #[]) else if b=a then some (.aW {cls:=.type "list",data:=.seq vs.toArray} (.lst (ns.map V.int))) else none) (λb n=>?_) (OG rfl) (.inl (.inr ⟨{cls:=.type "list",data:=.seq vs.toArray},(OP aT).trans (OG rfl)⟩)) (λb u z=>?_) (λb z=>?_) λ_=>hk
  ·by_cases hb:b=a
   ·exact .inr ⟨_,_,(OP n).trans (OG hb)⟩
   ·exact .inl ((OP n).trans (OP hb))
  ·by_cases hbT:b=T
   ·have z':=(OG hbT).symm.trans z
    cases z'
    subst hbT
    exact hT
   ·have z:=(OP hbT).symm.trans z
    by_cases hb:b=a
    ·have z':=(OG hb).symm.trans z
     cases z'
     subst hb
     exact⟨ha,by rw[OH];exact hl,vs,_,rv,ha⟩
    ·have z':=(OP hb).symm.trans z
     cases z'
  ·by_cases hbT:b=T
   ·exact .inr hbT
   ·by_cases hb:b=a
    ·exact .inl hb
    ·exact absurd ((OP hbT).trans (OP hb)) z
def vt (T:Addr)(K:Frag):Sp:=λvs H Q _=>∃(a:Addr) (ns:@D_),vs= [.ref a]/\H T=some (.tbl #[])/\iF K H a (ns.map V.int)/\∀H',aw H H'->Q (.bl true) H'
def D4 {l:PySem.W.OpenLaw}{n k:Nat}{q:Program}{loose:@IN}{XP:(@FS)->Heap->Prop}{YP:World->Heap->Prop}{d:DefRec}{K:Params->Frag}{T c:Addr}
  (hn:l.most=some n) (hn2:n<=sizeLine) (hdf:d.params.defaults= []) (hi:PyProof.Rows.importsNone q=true) (hr:eG k callerA)
  (hY:∀(w:World) (h:Heap),YP w h->(K w.params).In h) (hYT:∀(w:World) (h:Heap),YP w h->h.get? T=some (PySem.W.tabObj #[])) (hKT:∀p,(K p).lookup T=none) (hcd:∀p,PySem.W.codeHdIn (K p) c T=true)
  (F:∀(w:World) (mg:@FS) (fa:Addr) (h:Heap),(K w.params).In h->h.Ns mainGlobals mg->mg d.name=some (.ref fa)->
   ∃fd:FuncData,(∀(s:Shared) (u:Value),BindsTo s fd ⟨[u],[]⟩ [("script",u)])/\
    ∀base:Heap,(K w.params).In base->base.Ns mainGlobals mg->A5 mg base c T->fM l.prog w (K w.params) mg base (o6 l.prog w) k fa fd ["script"] (vt T (K w.params))) :
  PySem.W.WalkO q loose XP YP l.row.toRowW d [] (λf vs=>PySem.call f vs):=by
 refine Att.xO hn hdf λw s₀ s₁ mg mb fa o pm cd doc a vs ns G Y ho hd hcd' hmg hobj hints hlen hg=>?_
 have KX:=hY w _ Y
 obtain⟨fd,hb,hF⟩:=F w mg fa _ KX G.T.g hmg
 exact Bu KX G.T.g G.T.b G.T.builtins G.T.nolimit (let ⟨mm,h1,_⟩:=(G.T.seer hi).mods;⟨mm,h1⟩) hg G.T.bmain (hYT w _ Y) (hKT _) (hcd _) hobj hints (PB hlen hn2) hr hF hb (λH hO hS=>⟨a,ns,rfl,hO,hS,λ_ _=>rfl⟩) λH e s' z=>by
  obtain⟨_,_,_,_,_,_,_,_,_,z⟩:=z
  exact z
structure Oc (K:Frag)(mg:@FS)(x:Str)(st:Stmt)(ps:@IN)(c:Addr):Prop where
 ex:∃f fd,gr K mg x st ps f fd/\fd.code=.ref c
def IW {K:Frag}{mg:@FS}{h:Heap}{x:Str}{st:Stmt}{ps:@IN}{f c:Addr}{oc:Value}{od an:@Is}{sl:Array (Option Value)}{kV doc pm ct:Value}(X:K.In h)(G:h.Ns mainGlobals mg)(b:aQ x st ps)(a:PySem.W.nsIn K mainGlobals x=some (some (.ref f)))
  (l:K.lookup f=some ⟨oc,od,.func (PySem.W.fnOf x x (i5 st) (c3 st) (ao st) .none kV doc pm an (.ref c) ct),sl⟩) (hc:PySem.W.codeIn K (.ref c) x=true) (k:PySem.W.keepIn K (.ref f)=true):Oc K mg x st ps c:=
 ⟨⟨f,_,⟨PySem.W.mg_of X G a,qQ l hc k,(qQ l hc k).binds b⟩,rfl⟩⟩
def NX {T:Addr}{H:Hp}(h:H T=some (.tbl #[])):EJ T H:=⟨#[],h,trivial,λc hc=>by simp at hc⟩
end L2
namespace RM
open PySem L2
def k8:SF:=(bL (Ku (f2 (f2 (gv 1) @E_ bh) (f2 (gv 2) @Do bh) (cY false)) (f2 (bD (aa (f2 (gv 1) @E_ bh) (aa (f2 (gv 2) @Do bh) ah))) (f2 (gv 0) @Do bh) (mX false))))
def lK (aK:@Cl):SF:=(bL (f2 (av aK (aa (f2 (gv 0) (gv 2) bh) (aa (gv 1) ah))) (f2 (gv 0) (gv 2) bh) (cY false)))
def jV (bH:@Cl):SF:=(bL (av bH (aa (gv 0) (aa (f2 (gv 1) @Do bh) (aa (f2 (gv 1) @E_ bh) ah)))))
def jW (bH:@Cl):SF:=(bL (av bH (aa (gv 0) (aa (f2 (gv 1) @E_ bh) (aa (f2 (gv 1) @Do bh) ah)))))
def lq (bH aK:@Cl):SF:=(aL (bR 2 ([] ++ [0]) (aM 1 [1,0] (.nm 0) (gm (f1 (gv 0) dP)) (oR (cM (f2 (gv 0) (f2 (gv 1) @E_ bh) (cY false))) (iS (av bH (aa (gv 2) (aa (f2 (gv 1) @E_ bh) (aa (gv 0) ah)))))) (gv 0)))
 (aL (bR 3 (([] ++ @GM) ++ (@GM ++ [])) (av aK (aa (f2 (gv 0) (f2 (gv 1) @Do bh) bh) (aa (f2 (gv 1) @Do bh) ah))))
 (oj (aM 2 [2,3] (.two 0 1) (GR (gv 0)) j0 (Mc (cM (f2 (gv 0) (gv 2) (mX false))) (f2 (gv 1) (gv 3) MJ) (gv 1))))))
def jP (fj:@Cl):SF:=(aL (jX 3 (([2] ++ []) ++ []) (dI (aa (dI (aa (gv 2) ah)) ah)))
 (aL (bR 4 [1] (gv 1))
 (aL (bR 5 [] @E_)
 (aL (iG ([0] ++ ((@GM ++ []) ++ ([2] ++ []))) (oH (iS (av fj (aa (gv 0) (aa (f2 (f2 (gv 3) (gv 5) bh) (f1 @Do mZ) bh) (aa (gv 2) ah))))))
 (aL (bR 6 ([] ++ [0]) (aM 1 [0,3,5] (.nm 0) (bc (gv 4)) (iS (av fj (aa (gv 1) (aa (f2 (f2 (gv 2) (gv 3) bh) (f1 @Do mZ) bh) (aa (gv 0) ah))))) (gv 0)))
 (aL (bR 4 @GM (aM 1 [6] (.nm 0) (bc (gv 4)) (cM (f2 (gv 0) (gv 1) (mX true))) (gv 0)))
 (aL (BQ 3 @GM (aM 1 [3,5] (.nm 0) (bc (gv 6)) j0 (f2 (f2 (gv 1) (gv 2) bh) (dI (aa (gv 0) ah)) jr)))
 (bR 5 @GM (f2 (gv 5) @Do bV))))) 1000)
 (bL (f2 (gv 3) (gv 5) bh))))))
def jb (cm cc fD gC:@Cl):SF:=(aL (bR 5 (@GM ++ []) (f2 (f2 (gv 2) (gv 3) bh) @E_ bh))
 (aL (bR 6 (@GM ++ []) (f2 (f2 (gv 2) (gv 3) bh) @Do bh))
 (aL (kO ([5] ++ ([4] ++ [])) (iS (av cc (aa (gv 5) (aa (gv 4) ah))))
 (bL (bD (aa (cst (.str "ring")) (aa (gv 3) (aa (av fD (aa (gv 0) (aa (gv 6) (aa (gv 4) ah)))) ah)))))
 mh)
 (bL (av cm (aa (gv 0) (aa (gv 1) (aa (f2 (f2 (Hf (gv 2) (λ_ β=>.ok none β) (GV (gv 3))) (dI (aa (bD (aa (av gC (aa (gv 5) (aa (gv 4) ah))) (aa (f2 (gv 6) (bD (aa (gv 4) ah)) se) ah))) ah)) jr) (Hf (gv 2) (GV (f2 (gv 3) @Do bV)) (λ_ β=>.ok none β)) jr) ah))))))))
def jH (cc:@Cl):SF:=(bL (f1 (aM 2 [1] (.two 0 1) (bc (gv 0)) (oH (iS (av cc (aa (gv 0) (aa (gv 2) ah))))) (gv 0)) dP))
def e8 (ja fF fH fJ:@Cl):SF:=(aL (bR 3 @GM (aM 1 [2] (.nm 0) (bc (gv 1)) (oH (iS (f1 (aM 2 [0] (.two 0 1) (bc (gv 1)) j0 (av fF (aa (gv 0) (aa (gv 2) ah)))) (bK λbs=>bs.any id)))) (gv 0)))
 (aL (kO @GM (cM (f2 (f1 (gv 3) dP) @E_ (cY false)))
 (bL (bD (aa (cst (.str "rows")) (aa (aM 2 [] (.two 0 1) (bc (gv 2)) j0 (av fH (aa (gv 0) (aa (dI ah) ah)))) ah))))
 mh)
 (aL (bR 4 [3] (Ae 2 (gv 3) (av fJ (aa (gv 1) (aa (gv 0) ah)))))
 (aL (jX 5 [] (dI ah))
 (aL (iO (.nm 6) [] (gm (f1 (gv 2) dP))
 (aL (bR 7 ([0] ++ ([3] ++ ([2] ++ ([6] ++ ([4] ++ []))))) (av ja (aa (gv 0) (aa (gv 3) (aa (gv 2) (aa (gv 6) (aa (gv 4) ah)))))))
 (aL (kO (@GM ++ []) (cM (f2 (f2 (gv 7) @E_ bh) (cst (.str "rows")) (cY false)))
 (uo 7)
 mh)
 (nC 5 [7] (gv 7)))))
 (bL (bD (aa (cst (.str "turn")) (aa (gv 4) (aa (f1 (gv 5) fT) ah))))))))))
def p7 (dq cm du:@Cl):SF:=(aL (bR 2 (([0] ++ []) ++ @GM) (bD (aa (av dq (aa (gv 0) ah)) (aa (bD ah) ah))))
 (bL (av cm (aa (gv 0) (aa (av du (aa (gv 0) ah)) (aa (f2 (dI (aa (gv 2) ah)) (gv 1) pW) ah))))))
def eO (aI k6:@Cl):SF:=(aL (jo ([0] ++ []) (av aI (aa (gv 0) ah)))
 (aL (bR 1 [] @Do)
 (aL (bR 2 ([0] ++ ([1] ++ [])) (av k6 @Fa))
 (aL (iG (@GM ++ []) (cM (f2 (f2 (gv 2) @E_ bh) (cst (.str "rows")) (cY true)))
 (aL (bR 1 @GM (f2 (gv 1) @Do bV))
 (bR 2 ([0] ++ ([1] ++ [])) (av k6 @Fa))) 1000)
 (bL (f2 (gv 2) @Do bh))))))
def nW (bM:@Cl):SF:=(bL (f1 (av bM (aa (gv 0) ah)) dP))
end RM
namespace L2
open PySem PySem.Spec PyProof.Rows
section
variable {P:Program}{w:World}{K:Frag}{mg:@FS}{base:Heap}{ca:Str->Addr}{T:Addr}{H:Hp}
def GO {n:Nat}{F:@Cl}{vs:List V}{Q:VK}{E:XK}(q:spT T K ca n (pY F) vs H Q E):spT T K ca n F vs H Q E:=by
 obtain⟨G,ds,tG,sG,hl,r,q⟩:=q
 by_cases z:∃es,F ds=.ok (.list es) false/\cP ds=true/\cP es=true
 ·obtain⟨es,e,h1,h2⟩:=z
  rw[z8 e h1 h2] at q
  obtain⟨ps,eT,tr,hc⟩:=tG
  have nT:fP Cc G T=none:=by
   cases y:fP Cc G T with
   |none=>rfl
   |some o=>
    have f:=uU y
    obtain⟨u,eu,k1,k2⟩:=(jt (G:=Cc) (H:=G) kM T o y).some
    rw[eT] at eu
    cases eu
    by_cases c:∃ps,o=.tbl ps
    ·obtain⟨ps,rfl⟩:=c;exact f.elim
    ·have:=k1 λps z=>c ⟨ps,z⟩
     rw[<-this] at f;exact f.elim
  generalize hG2:upd (fP Cc G) T (.tbl ps)=G2
  have s1:aw (fP Cc G) G2:=by rw[<-hG2];exact aw.new nT
  have s2:aw G2 G:=by
   rw[<-hG2]
   intro b o eb
   by_cases z:b=T
   ·subst z;rw[aB] at eb;cases eb;exact Kt.of eT
   ·rw[ay z] at eb;exact jt kM b o eb
  have sn:aw G2 H:=s2.trans sG
  have e2:G2 T=some (.tbl ps):=by rw[<-hG2];exact aB
  have tb:EJ T G2:=⟨ps,e2,tr,λc hm=>by
   obtain⟨o,eo,io⟩:=hc c hm
   exact⟨o,s1 _ _ (ve kM eo trivial),io⟩⟩
  refine⟨G2,ds,tb,sn,hl,(r.flat kM (aw.refl _) h1).mono s1,?_⟩
  rw[e]
  intro v G' H' hh g1 g2 hn fv
  have fv:Rp K G' v (.list es):=fv
  cases fv with
  | @lst a xs _ ha hs=>
   have hH':H' a=some (.lst xs):=g2 _ _ ha
   have hHa:H a=none:=by
    cases z:H a with
    |none=>rfl
    |some o=>
     have z':=uL (hh _ _ z) hH'
     subst z'
     have hm:Mx H a:=Mx.lst z
     have:G2 a=none:=by
      cases y:G2 a with
      |none=>rfl
      |some o=>
       have y':=uL (sn _ _ y) z
       subst y'
       by_cases c:a=T
       ·subst c;rw[e2] at y;cases y
       ·rw[<-hG2,ay c] at y;exact (uU y).elim
     rw[hn a hm this] at ha
     cases ha
   have sG':aw G H':=sG.trans hh
   refine q (.ref a) (fP G H') H' hh mT (jt sG') (λb m e=>by rw[qe hh m];exact e) ?_
   refine⟨a,rfl,hHa,?_,xs,hH',hs.flat sG' g2 h2⟩
   unfold fP
   rw[sG.free hHa,hH']
   exact OP λf=>f
 ·have:pY F ds=F ds:=by
   unfold pY
   split
   ·rename_i es e
    have hf:(cP ds && cP es)=false:=by
     cases y:(cP ds && cP es) with
     |false=>rfl
     |true=>rw[O1] at y;exact absurd ⟨es,e,y.1,y.2⟩ z
    rw[hf,e]
   ·rfl
  rw[this] at q
  exact⟨G,ds,tG,sG,hl,r,q⟩
def jy.new {x:Str}{ps:@IN}{k:Nat}{F:@Cl}(h:jy T P w K mg base ca x ps k F):jy T P w K mg base ca x ps k (pY F):=by
 obtain⟨f,fd,a,b,c,d⟩:=h.ex
 refine⟨⟨f,fd,a,b,c,d.imp λvs H Q E q=>GO q⟩,λds hn=>h.len ds λz=>hn ?_⟩
 unfold pY;rw[z]
end
section
variable {X:Cx}{Γ:Fx}{E:XK}{e a b c:Expr}{f fa fb fc:VF D}{L La Lb:@IR}{md ma mb mc:Md}{pos:Pos}{K:Frag}
theorem Ba {op op':CmpOp}{r r':R2}{g g':D->D->Option D}(ho:lP X (compareOp op) r)(ho':lP X (compareOp op') r')(pr:oB Γ.K r g .v)(pr':oB Γ.K r' g' .v)(ha:SE X Γ E a fa La ma)(hb:SE X Γ E b fb Lb mb)(hc:SE X Γ E c fc [] mc)
  (hm:lastMarks [op,op'] [b,c]=false:=by with_unfolding_all rfl):zw X Γ E (.Compare a [op,op'] [b,c] pos) (cM (eh fa fb fc g g')) (La ++ Lb):=by
 refine PT.post (wD ho ho' ha hb hc hm) λσ H Q ⟨env,G,B,β,I,o⟩=>?_
 refine two (W:=λx y H2=>r x y H2 λz H3=>∃k,z=.bl k/\(if k=true then pT Γ E fc [] mc σ H3 λw' H4=>r' y w' H4 (λx H'=>∃k,x=.bl k/\Q k H') else ∃k,V.bl false=.bl k/\Q k H3)) I (o.bnd.bnd.imp λd1 β1 h=>h.bnd.imp λd2 β2 h x y G2 H2 I2 s2 m2 bx by'=>?_)
 obtain⟨cb,ec,h⟩:∃cb,g d1 d2=some (.bool cb)/\Out Γ E (if cb=true then (fc (vl env) β2).bnd λz β3=>R.of (g' d2 z) β3 else .ok (.bool false) β2) λd β'=>Out Γ E (match d with | .bool c=>R.ok c β' |_=>.bad) λc β'=>∀G' H',SR Γ B G' H' σ (aW (La ++ Lb) env) β'->aw G G'->iL B H H'->Q c H':=by
  split at h
  ·rename_i q;exact⟨true,q,by rw[OG rfl];exact h⟩
  ·rename_i q;exact⟨false,q,by rw[OP OZ];exact h⟩
  ·exact h.elim
 refine pr B G2 H2 x y d1 d2 _ _ I2.sub I2.boxThere bx by' ec λv G' H' x' vo=>?_
 cases vo
 refine⟨cb,rfl,?_⟩
 have I3:=I2.ext x'
 cases cb with
 |false=>rw[OP OZ] at h;exact pX ⟨false,rfl,h G' H' I3 (s2.trans x'.gg) (m2.trans (x'.mov B))⟩
 |true=>
  rw[OG rfl,<-dQ (La ++ Lb) env] at h
  refine pS ⟨_,G',B,β2,I3,h.bnd.imp λd3 β3 h z G4 H4 I4 s4 m4 vz=>?_⟩
  obtain⟨d,e,k⟩:=h.of
  refine pr' B G4 H4 y z d2 d3 d _ I4.sub I4.boxThere (by'.mono (x'.gg.trans s4) ((x'.mov B).trans m4)) (vz.brw I3.boxThere) e λv G5 H5 x5 vo=>?_
  cases d with
  |bool c=>cases vo;exact⟨c,rfl,k G5 H5 (I4.ext x5) (((s2.trans x'.gg).trans s4).trans x5.gg) (((m2.trans (x'.mov B)).trans m4).trans (x5.mov B))⟩
  |_=>exact k.elim
end
end L2
namespace RM
open PySem L2
def iI (gG:@Cl):SF:=(kO ([0] ++ []) (oH (iS (av gG (aa (gv 0) ah))))
 DP
 mh)
def bW (aI bB:@Cl):SF:=(aL (jo ([0] ++ []) (av aI (aa (gv 0) ah)))
 (kO ([1] ++ (@GM ++ [])) (oH (iS (av bB (aa (gv 1) (aa (f2 (gv 0) @E_ bh) ah)))))
 DP
 mh))
def gj:SF:=(kO @GM (cM (f2 (gv 0) (cst (.int 8)) Ke))
 DP
 mh)
def gX (fG fE:@Cl):SF:=(aL (jo ([0] ++ ([1] ++ [])) (av fG @Fa))
 (jo ((@GM ++ @GM) ++ []) (av fE (aa (f2 (f2 (gv 0) @E_ bh) (f2 (gv 1) @E_ bh) bV) ah))))
noncomputable def jI (bI aV bC:@Cl):SF:=(aL (jo ([0] ++ ([1] ++ [])) (av bI @Fa))
 (aL (bR 2 (@GM ++ @GM) (f2 (f2 (gv 0) @E_ bh) (f2 (gv 1) @E_ bh) bV))
 (aL (bR 3 (([2] ++ []) ++ []) (aM 2 [0] (.two 0 1) (bc (av aV (aa (gv 2) ah))) (cM (eh (gv 0) (f2 (gv 2) @E_ bh) (gv 1) qd xG)) (bD @Fa)))
 (bL (bD (aa (gv 2) (aa (f1 (f1 (f2 (f2 (f1 (f2 (gv 0) @Do bh) rh) (av bC (aa (gv 1) (aa (f2 (gv 0) @E_ bh) ah))) jr) (gv 3) jr) kZ) fT) ah)))))))
def jK (bI bC:@Cl):SF:=(aL (jo ([0] ++ ([1] ++ [])) (av bI @Fa))
 (bL (bD (aa (f2 (f2 (gv 0) @E_ bh) (f2 (gv 1) @E_ bh) bV) (aa (f1 (f2 (f1 (f2 (gv 0) @Do bh) rh) (av bC (aa (gv 1) (aa (f2 (gv 0) @E_ bh) ah))) jr) fT) ah)))))
def qk:SF:=(bL (Mc (cM (f2 (gv 0) (gv 1) Ke)) (f2 (gv 0) (gv 2) bV) (gv 0)))
def mF (bE lh:@Cl):SF:=(aL (jo ([0] ++ ([1] ++ [])) (av bE @Fa))
 (aL (kO (@GM ++ []) (cM (f2 (f2 (gv 0) @E_ bh) @Do (cY false)))
 DP
 mh)
 (aL (bR 2 (@GM ++ []) (aM 1 [1] (.nm 0) (bc (f2 (gv 0) @Do bh)) (cM (f2 (gv 1) (gv 0) (mX true))) (gv 0)))
 (bL (bD (aa (f2 (f2 (gv 0) @E_ bh) @Do qX) (aa (f1 (aM 2 [1] (.two 0 1) (bc (gv 2)) j0 (bD (aa (av lh (aa (gv 0) (aa (gv 2) (aa (f1 @Do mZ) ah)))) (aa (av lh (aa (gv 1) (aa (gv 2) (aa (f1 @Do mZ) ah)))) ah)))) fT) ah)))))))
noncomputable def eZ (fy:@Cl)(aX cn:List D->Int->FB):SF:=(aL (bR 2 ([] ++ ([1] ++ [])) (f2 @Do (pN 0 aX (aa (gv 1) ah)) bV))
 (aL (bR 3 (([] ++ @GM) ++ []) (aM 1 [0,2] (.nm 0) (gm (f2 @Do (pN 0 aX (aa (cst (.int 3)) ah)) bV)) j0 (pN 1 cn (aa (f1 (gv 2) iC) ah))))
 (aL (kO (@GM ++ (@GM ++ [])) (Ac (cM (f2 (gv 2) (cst (.int 6)) (cY false))) (cM (f2 (pN 0 aX (aa (cst (.int 3)) ah)) (cst (.int 2)) (cY false))))
 (aL (bR 4 @GM (pN 0 cn (aa (f1 (cst (.int 6)) iC) ah)))
 (aL (bR 5 [] (dI ah))
 (aL (iO (.nm 6) [] (gm (cst (.int 3)))
 (bR 5 ([] ++ @GM) (f2 (gv 5) (aM 1 [6,4] (.nm 0) (gm (cst (.int 3))) (cM (f2 (gv 0) (gv 1) (cY true))) (bD (aa (f2 (gv 2) (gv 1) bh) (aa (f2 (gv 2) (f2 (cst (.int 3)) (gv 0) bV) bh) ah)))) jr)))
 (bL (bD (aa (cst (.int 6)) (aa (f1 (f1 (gv 5) kZ) fT) ah)))))))
 mh)
 (bL (bD (aa (gv 2) (aa (av fy (aa (gv 2) (aa (gv 3) ah))) ah)))))))
def zW (gF cV dG fo jd bM o4:@Cl)(dX aX:List D->Int->FB):SF:=(aL (AG 1 ([0] ++ @GM) (tM gF (aa (gv 0) (aa @E_ ah))))
 (aL (bR 2 @GM (pN 1 dX (aa (cst (.int 6)) ah)))
 (aL (kO (@GM ++ []) (cM (f2 (f2 (gv 2) @E_ bh) @Do (cY false)))
 (bL (fX (f2 (av cV (aa (gv 2) (aa (gv 2) ah))) (bD (aa (cst (.int 2)) (aa (bD (aa (bD (aa @E_ (aa @Do ah))) ah)) ah))) (cY false)) (f2 (av dG (aa (gv 2) (aa (gv 2) ah))) (bD (aa (cst (.int 2)) (aa (bD ah) ah))) (cY false))))
 mh)
 (aL (bR 3 (@GM ++ []) (pN 1 aX (aa (f2 (gv 2) @E_ bh) ah)))
 (aL (bR 4 ([2] ++ ([3] ++ [])) (av fo (aa (gv 2) (aa (gv 3) ah))))
 (aL (bR 5 ([2] ++ []) (av jd (aa (gv 2) ah)))
 (aL (kO (@GM ++ ([4] ++ [])) (oH (cM (eh (f2 (gv 5) @Do qX) (av jd (aa (gv 4) ah)) (gv 5) xG xG)))
 (bL (cst (.bool false)))
 mh)
 (aL (jX 6 [] (dI ah))
 (aL (iO (.nm 7) ([2] ++ []) (bc (av bM (aa (gv 2) ah)))
 (nC 6 @GM (f1 (aM 1 [3] (.nm 0) (bc (gv 7)) (cM (f2 (gv 0) (gv 1) (cY true))) (f2 (gv 0) (f1 (f2 (gv 0) (gv 1) Ke) I0) qX)) fT)))
 (aL (kO ([6] ++ ([4] ++ [])) (oH (iS (av o4 (aa (gv 6) (aa (gv 4) ah)))))
 (bL (cst (.bool false)))
 mh)
 (aL (iO (.nm 8) (([2] ++ (([] ++ @GM) ++ [])) ++ (([2] ++ (([] ++ @GM) ++ [])) ++ [])) (bc (dI (aa (av cV (aa (gv 2) (aa (bD (aa @Do (aa (bD ah) ah))) ah))) (aa (av dG (aa (gv 2) (aa (bD (aa @Do (aa (bD ah) ah))) ah))) ah))))
 (kO (([8] ++ (@GM ++ [])) ++ []) (cM (f2 (av fo (aa (gv 8) (aa (f2 (gv 2) @E_ bh) ah))) (gv 2) (cY true)))
 (bL (cst (.bool false)))
 mh))
 (bL (f2 (av fo (aa (av cV (aa (bD (aa @Do (aa (bD ah) ah))) (aa (gv 2) ah))) (aa @E_ ah))) (gv 2) (cY false))))))))))))))
end RM
namespace RQ
open PySem L2 RM
def top (i:Nat):Stmt:=PySem.Challenge.pw_rowsorder_k66_whole_without_a_thing.main.body.getD i (.Pass ⟨0,0,0,0⟩)
section
variable {P:Program}{w:World}{K:Frag}{mg:@FS}{base:Heap}{ca:Str->Addr}
abbrev lM:Stmt:=top 2
def vZ:aF ["thing"] ["thing"] (ao lM):=@AC
def uQ {f:Addr}{fd:FuncData}(F:gr K mg "is_whole" lM ["thing"] f fd)(B:gR mg):bZ P w K mg base ca "is_whole" ["thing"] 1 (aS 1 1 (qD)):=
 ⟨⟨f,fd,F.mg,F.F.kp,F.b,aR (N:=["thing"]) (k:=0) F.F vZ λcdv A outer s H G E hr=>
  (az (aU (kc (nO "int" @F_ rfl rfl B.isinstance rfl B.int (@FM) (ae 0)) (kg (Ep (nO "bool" @F_ rfl rfl B.isinstance rfl B.bool (@FM) (ae 0)))) @Ch)))⟩,λds h=>aH ds h⟩
abbrev kY:Stmt:=top 3
def wN:aF ["thing","bound"] ["thing","bound"] (ao kY):=@AC
def vS {f:Addr}{fd:FuncData}{cx:@Cl}(F:gr K mg "is_below" kY ["thing","bound"] f fd)(B:gR mg)(gH:bZ P w K mg base ca "is_whole" ["thing"] 1 cx):bZ P w K mg base ca "is_below" ["thing","bound"] 2 (aS 2 2 (qL cx)):=
 ⟨⟨f,fd,F.mg,F.F.kp,F.b,aR (N:=["thing","bound"]) (k:=1) F.F wN λcdv A outer s H G E hr=>
  (az (aU (kc (aA gH @At aP rfl rfl (ab (ak 0 rfl) af)) (kg (wo tX rn BH xY au (ae 0) (ae 1))) @Ch)))⟩,λds h=>aH ds h⟩
abbrev mJ:Stmt:=top 4
def yn:aF ["thing"] ["thing"] (ao mJ):=@AC
def xD {f:Addr}{fd:FuncData}{cx:@Cl}(F:gr K mg "is_many" mJ ["thing"] f fd)(B:gR mg)(gH:bZ P w K mg base ca "is_whole" ["thing"] 1 cx){ki:Tok}(dv:mg "MOST_THINGS"=some (.int 8 ki)):bZ P w K mg base ca "is_many" ["thing"] 2 (aS 1 1 (tZ cx)):=
 ⟨⟨f,fd,F.mg,F.F.kp,F.b,aR (N:=["thing"]) (k:=1) F.F yn λcdv A outer s H G E hr=>
  (az (aU (kc (aA gH @At aP rfl rfl (ab (ak 0 rfl) af)) (kg (wo tX tX BH BH au (ae 0) (Ay (by rfl) dv))) @Ch)))⟩,λds h=>aH ds h⟩
abbrev mQ:Stmt:=top 5
def yX:aF ["thing","many"] ["thing","many"] (ao mQ):=@AC
def wG {f:Addr}{fd:FuncData}{bB:@Cl}(F:gr K mg "is_pair" mQ ["thing","many"] f fd)(B:gR mg)(cL:bZ P w K mg base ca "is_below" ["thing","bound"] 2 bB):bZ P w K mg base ca "is_pair" ["thing","many"] 3 (aS 2 2 (ug bB)):=
 ⟨⟨f,fd,F.mg,F.F.kp,F.b,aR (N:=["thing","many"]) (k:=2) F.F yX λcdv A outer s H G E hr=>
  (ar (dw (xr.t (ur (eB (cA rfl (nO "tuple" @F_ rfl rfl B.isinstance rfl B.tuple (@FM) (ae 0)))) (oN (bS (ji hr.units) eM (a8 cB jC rfl B.len PX (ae 0)) au (a7 _))) @Ch))
  (az (aU me))
  cu)
  (az (aU (kc (aA cL @At aP rfl rfl (ab (aO aG bA (ae 0) au @Ch) (ab (ak 1 rfl) af))) (kg (aA cL @At aP rfl rfl (ab (aO aG bA (ae 0) au @Ch) (ab (ak 1 rfl) af)))) @Ch))))⟩,λds h=>aH ds h⟩
abbrev mG:Stmt:=top 6
def y9:aF ["thing","many"] ["thing","many"] (ao mG):=@AC
def xM {f:Addr}{fd:FuncData}{bB:@Cl}(F:gr K mg "is_line" mG ["thing","many"] f fd)(B:gR mg)(cL:bZ P w K mg base ca "is_below" ["thing","bound"] 2 bB):bZ P w K mg base ca "is_line" ["thing","many"] 3 (aS 2 2 (mP bB)):=
 ⟨⟨f,fd,F.mg,F.F.kp,F.b,aR (N:=["thing","many"]) (k:=2) F.F y9 λcdv A outer s H G E hr=>
  (ar (dw (xr.t (ur (eB (cA rfl (nO "tuple" @F_ rfl rfl B.isinstance rfl B.tuple (@FM) (ae 0)))) (oN (bS (ji hr.units) eM (a8 cB jC rfl B.len PX (ae 0)) (ae 1) (a7 _))) @Ch))
  (az (aU me))
  cu)
  (az (aU (kc (a8 (hZ rfl) gP rfl B.all (@FM) (bO (NB:=["one","many"]) (own:=1) (ixs:=[1]) [1] rfl @Id @Ch (iz rfl (ae 0)) (λH0 G0 par br bx C ex s3 H3 pn=>(dz (i:=0) (show (["one","many"]:@IN).Nodup by decide +kernel))) (λH0 G0 par br bx C ex s3 H3 pn hB1=>cN) (λH0 G0 par br bx C ex s3 H3 pn hB1=>(aA cL @At jq rfl rfl (ab (ak 0 (hB1 0 @F_)) (ab (ak 1 (hB1 1 @F_)) af)))))) (kg (c4 (cJ hr.units) eM (BJ rfl rfl rfl B.len rfl B.set (ae 0)) (ae 1) (a7 _))) @Ch))))⟩,λds h=>aH ds h⟩
abbrev fU:Stmt:=top 7
def sW:aF ["many"] ["many"] (ao fU):=@AC
def sf {f:Addr}{fd:FuncData}(F:gr K mg "every_pair" fU ["many"] f fd)(B:gR mg):bZ P w K mg base ca "every_pair" ["many"] 1 (aS 1 1 (iY)):=
 ⟨⟨f,fd,F.mg,F.F.kp,F.b,aR (N:=["many"]) (k:=0) F.F sW λcdv A outer s H G E hr=>
  (az (kX (bO (NB:=["number","many"]) (own:=1) (ixs:=[0]) [] rfl @Id @Ch (ou rfl B.range (bz l9 nq (ae 0) (ae 0))) (λH0 G0 par br bx C ex s3 H3 pn=>(dz (i:=0) (show (["number","many"]:@IN).Nodup by decide +kernel))) (λH0 G0 par br bx C ex s3 H3 pn hB1=>cN) (λH0 G0 par br bx C ex s3 H3 pn hB1=>(bo (ab (bz vH LL (ae 0) (ae 1)) (ab (bz nM t6 (ae 0) (ae 1)) af)))))))⟩,λds h=>aH ds h⟩
abbrev lr:Stmt:=top 17
def xy:aF ["pairs"] ["pairs"] (ao lr):=@AC
def vm {f:Addr}{fd:FuncData}(F:gr K mg "has_ring" lr ["pairs"] f fd)(B:gR mg):bZ P w K mg base ca "has_ring" ["pairs"] 1 (aS 1 1 (qV)):=
 ⟨⟨f,fd,F.mg,F.F.kp,F.b,aR (N:=["pairs"]) (k:=0) F.F xy λcdv A outer s H G E hr=>
  (az (aU (a8 (wI rfl) gP rfl B.any (@FM) (bO (NB:=["a","b"]) (own:=2) (ixs:=[]) [] rfl @Id @Ch (iz rfl (ae 0)) (λH0 G0 par br bx C ex s3 H3 pn=>(dO (i:=0) (j:=1) (show (["a","b"]:@IN).Nodup by decide +kernel))) (λH0 G0 par br bx C ex s3 H3 pn hB1=>cN) (λH0 G0 par br bx C ex s3 H3 pn hB1=>(c4 (cJ hr.units) eM (ae 0) (ae 1) (a7 _)))))))⟩,λds h=>aH ds h⟩
abbrev lC:Stmt:=top 15
def mj:aF ["thing","many","pairs"] ["thing"] (ao lC):=@AC
def vT {f:Addr}{fd:FuncData}{i9 i8 kE gJ:@Cl}(F:gr K mg "is_order" lC ["thing"] f fd)(B:gR mg)(oZ:bZ P w K mg base ca "is_many" ["thing"] 2 i9)(o5:bZ P w K mg base ca "is_pair" ["thing","many"] 3 i8)(qy:bZ P w K mg base ca "closed" ["many","pairs"] 3 kE)(nJ:bZ P w K mg base ca "has_ring" ["pairs"] 1 gJ):bZ P w K mg base ca "is_order" ["thing"] 4 (aS 3 1 (je i9 i8 kE gJ)):=
 ⟨⟨f,fd,F.mg,F.F.kp,F.b,aR (N:=["thing","many","pairs"]) (k:=3) F.F mj λcdv A outer s H G E hr=>
  (ar (dw (xr.t (ur (eB (cA rfl (nO "tuple" @F_ rfl rfl B.isinstance rfl B.tuple (@FM) (ae 0)))) (oN (bS (ji hr.units) eM (a8 cB jC rfl B.len PX (ae 0)) au (a7 _))) @Ch))
  (az (aU me))
  cu)
  (ar (bg (i:=1) (aO aG bA (ae 0) au @Ch) mj.nd)
  (ar (bg (i:=2) (aO aG bA (ae 0) au @Ch) mj.nd)
  (ar (dw (xr.t (ur (eB (cA rfl (aA oZ @At aP rfl rfl (ab (ak 1 rfl) af)))) (oN (eB (cA rfl (nO "tuple" @F_ rfl rfl B.isinstance rfl B.tuple (@FM) (ae 2))))) @Ch))
  (az (aU me))
  cu)
  (ar (dw (eB (cA rfl (a8 (hZ rfl) gP rfl B.all (@FM) (bO (NB:=["pair","many"]) (own:=1) (ixs:=[1]) [1] rfl @Id @Ch (iz rfl (ae 2)) (λH0 G0 par br bx C ex s3 H3 pn=>(dz (i:=0) (show (["pair","many"]:@IN).Nodup by decide +kernel))) (λH0 G0 par br bx C ex s3 H3 pn hB1=>cN) (λH0 G0 par br bx C ex s3 H3 pn hB1=>(aA o5 @At jq rfl rfl (ab (ak 0 (hB1 0 @F_)) (ab (ak 1 (hB1 1 @F_)) af))))))))
  (az (aU me))
  cu)
  (az (aU (kc (c4 (cJ hr.units) eM (ae 2) (aA qy @At aP rfl rfl (ab (ak 1 rfl) (ab (ak 2 rfl) af))) (a7 _)) (kg (Ep (aA nJ @At aP rfl rfl (ab (ak 2 rfl) af)))) @Ch))))))))⟩,λds h=>aH ds h⟩
abbrev i4:Stmt:=top 18
def tm:aF ["thing"] ["thing"] (ao i4):=@AC
def qA {f:Addr}{fd:FuncData}{gG:@Cl}(F:gr K mg "need_order" i4 ["thing"] f fd)(B:gR mg)(nv:bZ P w K mg base ca "is_order" ["thing"] 4 gG):bZ P w K mg base ca "need_order" ["thing"] 5 (aS 1 1 (iI gG)):=
 ⟨⟨f,fd,F.mg,F.F.kp,F.b,aR (N:=["thing"]) (k:=4) F.F tm λcdv A outer s H G E hr=>
  (az (dw (eB (cA rfl (aA nv @At aP rfl rfl (ab (ak 0 rfl) af))))
  (az uw)
  cu))⟩,λds h=>aH ds h⟩
abbrev cw:Stmt:=top 19
def kA:aF ["order","thing"] ["order","thing"] (ao cw):=@AC
def kb {f:Addr}{fd:FuncData}{aI bB:@Cl}(F:gr K mg "need_order_and_thing" cw ["order","thing"] f fd)(B:gR mg)(aY:bZ P w K mg base ca "need_order" ["thing"] 5 aI)(cL:bZ P w K mg base ca "is_below" ["thing","bound"] 2 bB):bZ P w K mg base ca "need_order_and_thing" ["order","thing"] 6 (aS 2 2 (bW aI bB)):=
 ⟨⟨f,fd,F.mg,F.F.kp,F.b,aR (N:=["order","thing"]) (k:=5) F.F kA λcdv A outer s H G E hr=>
  (ar (fY (aA aY @At aP rfl rfl (ab (ak 0 rfl) af)))
  (az (dw (eB (cA rfl (aA cL @At aP rfl rfl (ab (ak 1 rfl) (ab (aO aG bA (ae 0) au @Ch) af)))))
  (az uw)
  cu)))⟩,λds h=>aH ds h⟩
abbrev jN:Stmt:=top 20
def uM:aF ["order","a","b"] ["order","a","b"] (ao jN):=@AC
def td {f:Addr}{fd:FuncData}(F:gr K mg "are_apart" jN ["order","a","b"] f fd)(B:gR mg):bZ P w K mg base ca "are_apart" ["order","a","b"] 1 (aS 3 3 (pw)):=
 ⟨⟨f,fd,F.mg,F.F.kp,F.b,aR (N:=["order","a","b"]) (k:=0) F.F uM λcdv A outer s H G E hr=>
  (az (aU (kc (c4 (ji hr.units) eM (ae 1) (ae 2) (a7 _)) (kc (c4 (ko hr.u1) uy (bo (ab (ak 1 rfl) (ab (ak 2 rfl) af))) (aO aG bA (ae 0) au @Ch) (by with_unfolding_all rfl)) (kg (c4 (ko hr.u1) uy (bo (ab (ak 2 rfl) (ab (ak 1 rfl) af))) (aO aG bA (ae 0) au @Ch) (by with_unfolding_all rfl))) @Ch) @Ch)))⟩,λds h=>aH ds h⟩
abbrev n8:Stmt:=top 23
def oV:aF ["row","found","place","thing"] ["row"] (ao n8):=@AC
def yq {f:Addr}{fd:FuncData}(F:gr K mg "places" n8 ["row"] f fd)(B:gR mg):bZ P w K mg base ca "places" ["row"] 1 (aS 4 1 (oi)):=
 ⟨⟨f,fd,F.mg,F.F.kp,F.b,aR (N:=["row","found","place","thing"]) (k:=0) F.F oV λcdv A outer s H G E hr=>
  (ar (gY (i:=1) (yN (cZ (ab au af)) (a8 cB jC rfl B.len PX (ae 0))) oV.nd)
  (ar (ke PassesOwn.leaving rfl (Iq rfl rfl B.enumerate (ak 0 rfl)) (dO (i:=2) (j:=3) oV.nd)
  (az (zZ 1 (λ_=>rfl) (ak 2 rfl) (ae 3))))
  (az (p5 1))))⟩,λds h=>aH ds h⟩
abbrev gZ:Stmt:=top 22
def mn:aF ["thing","order","place"] ["thing","order"] (ao gZ):=@AC
def pR {f:Addr}{fd:FuncData}{i7 dH:@Cl}(F:gr K mg "keeps_order" gZ ["thing","order"] f fd)(B:gR mg)(oQ:bZ P w K mg base ca "is_line" ["thing","many"] 3 i7)(kB:bZ P w K mg base ca "places" ["row"] 1 dH):bZ P w K mg base ca "keeps_order" ["thing","order"] 4 (aS 3 2 (hW i7 dH)):=
 ⟨⟨f,fd,F.mg,F.F.kp,F.b,aR (N:=["thing","order","place"]) (k:=3) F.F mn λcdv A outer s H G E hr=>
  (ar (dw (eB (cA rfl (aA oQ @At aP rfl rfl (ab (ak 0 rfl) (ab (aO aG bA (ae 1) au @Ch) af)))))
  (az (aU me))
  cu)
  (ar (bg (i:=2) (aA kB @At aP rfl rfl (ab (ak 0 rfl) af)) mn.nd)
  (az (aU (a8 (hZ rfl) gP rfl B.all (@FM) (bO (NB:=["a","b","place"]) (own:=2) (ixs:=[2]) [] rfl @Id @Ch (iz rfl (aO aG bA (ae 1) au @Ch)) (λH0 G0 par br bx C ex s3 H3 pn=>(dO (i:=0) (j:=1) (show (["a","b","place"]:@IN).Nodup by decide +kernel))) (λH0 G0 par br bx C ex s3 H3 pn hB1=>cN) (λH0 G0 par br bx C ex s3 H3 pn hB1=>(c4 rn xY (aO aG bA (ae 2) (ae 0) @Ch) (aO aG bA (ae 2) (ae 1) @Ch) (a7 _)))))))))⟩,λds h=>aH ds h⟩
abbrev iX:Stmt:=top 24
def so:aF ["placed","thing"] ["placed","thing"] (ao iX):=@AC
def qS {f:Addr}{fd:FuncData}(F:gr K mg "with_thing" iX ["placed","thing"] f fd)(B:gR mg):bZ P w K mg base ca "with_thing" ["placed","thing"] 1 (aS 2 2 (iU)):=
 ⟨⟨f,fd,F.mg,F.F.kp,F.b,aR (N:=["placed","thing"]) (k:=0) F.F so λcdv A outer s H G E hr=>
  (az (aU (bz Hs K4 (ae 0) (bz JY Kv au (ae 1)))))⟩,λds h=>aH ds h⟩
abbrev g8:Stmt:=top 25
def jv:aF ["order","masks","a","b"] ["order"] (ao g8):=@AC
def pP {f:Addr}{fd:FuncData}{aK:@Cl}(F:gr K mg "masks_ahead" g8 ["order"] f fd)(B:gR mg)(ba:bZ P w K mg base ca "with_thing" ["placed","thing"] 1 aK):bZ P w K mg base ca "masks_ahead" ["order"] 2 (aS 4 1 (gN aK)):=
 ⟨⟨f,fd,F.mg,F.F.kp,F.b,aR (N:=["order","masks","a","b"]) (k:=1) F.F jv λcdv A outer s H G E hr=>
  (ar (gY (i:=1) (yN (cZ (ab au af)) (aO aG bA (ae 0) au @Ch)) jv.nd)
  (ar (ke PassesOwn.leaving rfl (Jm rfl (aO aG bA (ae 0) au @Ch)) (dO (i:=2) (j:=3) jv.nd)
  (az (zZ 1 (λ_=>rfl) (aA ba @At aP rfl rfl (ab (aO aG bA (ae 1) (ae 3) @Ch) (ab (ak 2 rfl) af))) (ae 3))))
  (az (p5 1))))⟩,λds h=>aH ds h⟩
abbrev gM:Stmt:=top 26
def jk:aF ["masks","placed","free","thing","mask"] ["masks","placed"] (ao gM):=@AC
def pQ {f:Addr}{fd:FuncData}{aK:@Cl}(F:gr K mg "free_things" gM ["masks","placed"] f fd)(B:gR mg)(ba:bZ P w K mg base ca "with_thing" ["placed","thing"] 1 aK):bZ P w K mg base ca "free_things" ["masks","placed"] 2 (aS 5 2 (g7 aK)):=
 ⟨⟨f,fd,F.mg,F.F.kp,F.b,aR (N:=["masks","placed","free","thing","mask"]) (k:=1) F.F jk λcdv A outer s H G E hr=>
  (ar (gY (i:=2) (cZ af) jk.nd)
  (ar (ke PassesOwn.leaving rfl (wd rfl rfl B.enumerate (ak 0 rfl)) (dO (i:=3) (j:=4) jk.nd)
  (az (dw (xr.t (xX (bS (ji hr.units) eM (aA ba @At aP rfl rfl (ab (ak 1 rfl) (ab (ak 3 rfl) af))) (ae 1) (a7 _)) (vd (bS (cJ hr.units) eM (bz Kc KZ (ae 1) (ae 4)) (ae 4) (a7 _))) @Ch))
  (az (kF 2 (λ_=>rfl) (ak 3 rfl)))
  cu)))
  (az (p5 2))))⟩,λds h=>aH ds h⟩
abbrev jz:Stmt:=top 27
def dY:aF ["masks","late","row","placed","free","early"] ["masks","late"] (ao jz):=@AC
def sS {f:Addr}{fd:FuncData}{df aK:@Cl}(F:gr K mg "row_along" jz ["masks","late"] f fd)(B:gR mg)(kj:bZ P w K mg base ca "free_things" ["masks","placed"] 2 df)(ba:bZ P w K mg base ca "with_thing" ["placed","thing"] 1 aK):bZ P w K mg base ca "row_along" ["masks","late"] 3 (aS 6 2 (jJ df aK)):=
 ⟨⟨f,fd,F.mg,F.F.kp,F.b,aR (N:=["masks","late","row","placed","free","early"]) (k:=2) F.F dY λcdv A outer s H G E hr=>
  (ar (gY (i:=2) (cZ af) dY.nd)
  (ar (bg (i:=3) au dY.nd)
  (ar (oA 1000 PassesOwn.leaving (bS rn xY (a8 cB jC rfl B.len PX (ae 2)) (a8 cB jC rfl B.len PX (ae 0)) (a7 _))
  (ar (bg (i:=4) (aA kj @At aP rfl rfl (ab (ak 0 rfl) (ab (ak 3 rfl) af))) dY.nd)
  (ar (mE (i:=5) (NB:=["thing","late"]) (own:=1) (ixs:=[1]) [] rfl @Id @Ch (iz rfl (ae 4)) (λH0 G0 par br bx C ex s3 H3 pn=>(dz (i:=0) (show (["thing","late"]:@IN).Nodup by decide +kernel))) (λH0 G0 par br bx C ex s3 H3 pn hB1=>(c5 (bS (ko hr.u1) uy (ae 0) (ae 1) (by with_unfolding_all rfl)))) (λH0 G0 par br bx C ex s3 H3 pn hB1=>(ak 0 (hB1 0 @F_))) dY.nd)
  (ar (kF 2 (λ_=>rfl) (aO aG bA (bz jG pA (ae 5) (ae 4)) au @Ch))
  (az (bg (i:=3) (aA ba @At aP rfl rfl (ab (ak 3 rfl) (ab (aO aG bA (ae 2) (xW rT xf au) @Ch) af))) dY.nd))))))
  (az (aU (cH bJ gW rfl B.tuple (@FM) (ae 2)))))))⟩,λds h=>aH ds h⟩
abbrev fO:Stmt:=top 29
def pI:aF ["tables","a","b"] ["tables","a","b"] (ao fO):=@AC
def oM {f:Addr}{fd:FuncData}(F:gr K mg "stands_ahead" fO ["tables","a","b"] f fd)(B:gR mg):bZ P w K mg base ca "stands_ahead" ["tables","a","b"] 1 (aS 3 3 (gi)):=
 ⟨⟨f,fd,F.mg,F.F.kp,F.b,aR (N:=["tables","a","b"]) (k:=0) F.F pI λcdv A outer s H G E hr=>
  (az (aU (a8 (hZ rfl) gP rfl B.all (@FM) (bO (NB:=["place","a","b"]) (own:=1) (ixs:=[1,2]) [] rfl @Id @Ch (iz rfl (ae 0)) (λH0 G0 par br bx C ex s3 H3 pn=>(dz (i:=0) (show (["place","a","b"]:@IN).Nodup by decide +kernel))) (λH0 G0 par br bx C ex s3 H3 pn hB1=>cN) (λH0 G0 par br bx C ex s3 H3 pn hB1=>(c4 rn xY (aO aG bA (ae 0) (ae 1) @Ch) (aO aG bA (ae 0) (ae 2) @Ch) (a7 _)))))))⟩,λds h=>aH ds h⟩
abbrev gk:Stmt:=top 28
def lQ:aF ["many","rows","tables"] ["many","rows"] (ao gk):=@AC
def oO {f:Addr}{fd:FuncData}{dH aV cR:@Cl}(F:gr K mg "shared_pairs" gk ["many","rows"] f fd)(B:gR mg)(kB:bZ P w K mg base ca "places" ["row"] 1 dH)(cq:bZ P w K mg base ca "every_pair" ["many"] 1 aV)(jh:bZ P w K mg base ca "stands_ahead" ["tables","a","b"] 1 cR):bZ P w K mg base ca "shared_pairs" ["many","rows"] 2 (aS 3 2 (fZ dH aV cR)):=
 ⟨⟨f,fd,F.mg,F.F.kp,F.b,aR (N:=["many","rows","tables"]) (k:=1) F.F lQ λcdv A outer s H G E hr=>
  (ar (bg (i:=2) (SE.wv (bO (NB:=["row"]) (own:=1) (ixs:=[]) [] rfl @Id @Ch (iz rfl (ae 1)) (λH0 G0 par br bx C ex s3 H3 pn=>(dz (i:=0) (show (["row"]:@IN).Nodup by decide +kernel))) (λH0 G0 par br bx C ex s3 H3 pn hB1=>cN) (λH0 G0 par br bx C ex s3 H3 pn hB1=>(aA kB @At jq rfl rfl (ab (ak 0 (hB1 0 @F_)) af))))) lQ.nd)
  (az (aU (cH bJ gW rfl B.tuple (@FM) (bO (NB:=["a","b","tables"]) (own:=2) (ixs:=[2]) [2] rfl @Id @Ch (iz rfl (aA cq @At aP rfl rfl (ab (ak 0 rfl) af))) (λH0 G0 par br bx C ex s3 H3 pn=>(dO (i:=0) (j:=1) (show (["a","b","tables"]:@IN).Nodup by decide +kernel))) (λH0 G0 par br bx C ex s3 H3 pn hB2=>(c5 (cA rfl (aA jh @At jq rfl rfl (ab (ak 2 (hB2 2 @F_)) (ab (ak 0 (hB2 0 @F_)) (ab (ak 1 (hB2 1 @F_)) af))))))) (λH0 G0 par br bx C ex s3 H3 pn hB2=>(bo (ab (ak 0 (hB2 0 @F_)) (ab (ak 1 (hB2 1 @F_)) af)))))))))⟩,λds h=>aH ds h⟩
abbrev lD:Stmt:=top 30
def xE:aF ["thing","order"] ["thing","order"] (ao lD):=@AC
def vC {f:Addr}{fd:FuncData}{de:@Cl}(F:gr K mg "are_rows" lD ["thing","order"] f fd)(B:gR mg)(j4:bZ P w K mg base ca "keeps_order" ["thing","order"] 4 de):bZ P w K mg base ca "are_rows" ["thing","order"] 5 (aS 2 2 (lF de)):=
 ⟨⟨f,fd,F.mg,F.F.kp,F.b,aR (N:=["thing","order"]) (k:=4) F.F xE λcdv A outer s H G E hr=>
  (ar (dw (xr.t (ur (eB (cA rfl (nO "list" @F_ rfl rfl B.isinstance rfl B.list (@FM) (ae 0)))) (oN (bS (cJ hr.units) eM (a8 cB jC rfl B.len PX (ae 0)) au (a7 _))) @Ch))
  (az (aU me))
  cu)
  (az (aU (a8 (hZ rfl) gP rfl B.all (@FM) (bO (NB:=["row","order"]) (own:=1) (ixs:=[1]) [1] rfl @Id @Ch (iz rfl (ae 0)) (λH0 G0 par br bx C ex s3 H3 pn=>(dz (i:=0) (show (["row","order"]:@IN).Nodup by decide +kernel))) (λH0 G0 par br bx C ex s3 H3 pn hB1=>cN) (λH0 G0 par br bx C ex s3 H3 pn hB1=>(aA j4 @At jq rfl rfl (ab (ak 0 (hB1 0 @F_)) (ab (ak 1 (hB1 1 @F_)) af)))))))))⟩,λds h=>aH ds h⟩
abbrev vR:Stmt:=top 31
def Fu:aF ["thing","order"] ["thing","order"] (ao vR):=@AC
def DM {f:Addr}{fd:FuncData}{aI gy cT:@Cl}(F:gr K mg "tell" vR ["thing","order"] f fd)(B:gR mg)(aY:bZ P w K mg base ca "need_order" ["thing"] 5 aI)(nH:bZ P w K mg base ca "are_rows" ["thing","order"] 5 gy)(ju:bZ P w K mg base ca "shared_pairs" ["many","rows"] 2 cT):bZ P w K mg base ca "tell" ["thing","order"] 6 (aS 2 2 (yF aI gy cT)):=
 ⟨⟨f,fd,F.mg,F.F.kp,F.b,aR (N:=["thing","order"]) (k:=5) F.F Fu λcdv A outer s H G E hr=>
  (ar (fY (aA aY @At aP rfl rfl (ab (ak 1 rfl) af)))
  (az (aU (kc (aA nH @At aP rfl rfl (ab (ak 0 rfl) (ab (ak 1 rfl) af))) (kg (c4 (cJ hr.units) eM (aA ju @At aP rfl rfl (ab (aO aG bA (ae 1) au @Ch) (ab (ak 0 rfl) af))) (aO aG bA (ae 1) au @Ch) (a7 _))) @Ch))))⟩,λds h=>aH ds h⟩
abbrev jU:Stmt:=top 36
def vG:aF ["one","other"] ["one","other"] (ao jU):=@AC
def sY {f:Addr}{fd:FuncData}{aI:@Cl}(F:gr K mg "need_both" jU ["one","other"] f fd)(B:gR mg)(aY:bZ P w K mg base ca "need_order" ["thing"] 5 aI):bZ P w K mg base ca "need_both" ["one","other"] 6 (aS 2 2 (jZ aI)):=
 ⟨⟨f,fd,F.mg,F.F.kp,F.b,aR (N:=["one","other"]) (k:=5) F.F vG λcdv A outer s H G E hr=>
  (ar (fY (aA aY @At aP rfl rfl (ab (ak 0 rfl) af)))
  (az (fY (aA aY @At aP rfl rfl (ab (ak 1 rfl) af)))))⟩,λds h=>aH ds h⟩
abbrev jD:Stmt:=top 37
def vD:aF ["many"] ["many"] (ao jD):=@AC
def sN {f:Addr}{fd:FuncData}(F:gr K mg "need_room" jD ["many"] f fd)(B:gR mg){ki:Tok}(dv:mg "MOST_THINGS"=some (.int 8 ki)):bZ P w K mg base ca "need_room" ["many"] 1 (aS 1 1 (gj)):=
 ⟨⟨f,fd,F.mg,F.F.kp,F.b,aR (N:=["many"]) (k:=0) F.F vD λcdv A outer s H G E hr=>
  (az (dw (bS DF IU (ae 0) (Ay (by rfl) dv) (a7 _))
  (az uw)
  cu))⟩,λds h=>aH ds h⟩
abbrev hX:Stmt:=top 35
def rR:aF ["one","other"] ["one","other"] (ao hX):=@AC
def pJ {f:Addr}{fd:FuncData}{fG fE:@Cl}(F:gr K mg "need_joined" hX ["one","other"] f fd)(B:gR mg)(ml:bZ P w K mg base ca "need_both" ["one","other"] 6 fG)(lX:bZ P w K mg base ca "need_room" ["many"] 1 fE):bZ P w K mg base ca "need_joined" ["one","other"] 7 (aS 2 2 (gX fG fE)):=
 ⟨⟨f,fd,F.mg,F.F.kp,F.b,aR (N:=["one","other"]) (k:=6) F.F rR λcdv A outer s H G E hr=>
  (ar (fY (aA ml @At aP rfl rfl (ab (ak 0 rfl) (ab (ak 1 rfl) af))))
  (az (fY (aA lX @At aP rfl rfl (ab (bz dJ dM (aO aG bA (ae 0) au @Ch) (aO aG bA (ae 1) au @Ch)) af)))))⟩,λds h=>aH ds h⟩
abbrev gp:Stmt:=top 38
def pK:aF ["order","step"] ["order","step"] (ao gp):=@AC
def oJ {f:Addr}{fd:FuncData}(F:gr K mg "raised_pairs" gp ["order","step"] f fd)(B:gR mg):bZ P w K mg base ca "raised_pairs" ["order","step"] 1 (aS 2 2 (fV)):=
 ⟨⟨f,fd,F.mg,F.F.kp,F.b,aR (N:=["order","step"]) (k:=0) F.F pK λcdv A outer s H G E hr=>
  (az (kX (bO (NB:=["a","b","step"]) (own:=2) (ixs:=[1]) [] rfl @Id @Ch (iz rfl (aO aG bA (ae 0) au @Ch)) (λH0 G0 par br bx C ex s3 H3 pn=>(dO (i:=0) (j:=1) (show (["a","b","step"]:@IN).Nodup by decide +kernel))) (λH0 G0 par br bx C ex s3 H3 pn hB1=>cN) (λH0 G0 par br bx C ex s3 H3 pn hB1=>(bo (ab (bz dJ dM (ae 0) (ae 2)) (ab (bz dJ dM (ae 1) (ae 2)) af)))))))⟩,λds h=>aH ds h⟩
abbrev jO:Stmt:=top 33
def k9:aF ["one","other","many","between"] ["one","other"] (ao jO):=@AC
def sJ {f:Addr}{fd:FuncData}{bI aV bC:@Cl}(F:gr K mg "behind_of" jO ["one","other"] f fd)(B:gR mg)(dg:bZ P w K mg base ca "need_joined" ["one","other"] 7 bI)(cq:bZ P w K mg base ca "every_pair" ["many"] 1 aV)(cS:bZ P w K mg base ca "raised_pairs" ["order","step"] 1 bC):bZ P w K mg base ca "behind_of" ["one","other"] 8 (aS 4 2 (jI bI aV bC)):=
 ⟨⟨f,fd,F.mg,F.F.kp,F.b,aR (N:=["one","other","many","between"]) (k:=7) F.F k9 λcdv A outer s H G E hr=>
  (ar (fY (aA dg @At aP rfl rfl (ab (ak 0 rfl) (ab (ak 1 rfl) af))))
  (ar (bg (i:=2) (bz dJ dM (aO aG bA (ae 0) au @Ch) (aO aG bA (ae 1) au @Ch)) k9.nd)
  (ar (mE (i:=3) (NB:=["a","b","one"]) (own:=2) (ixs:=[0]) [] rfl @Id @Ch (iz rfl (aA cq @At aP rfl rfl (ab (ak 2 rfl) af))) (λH0 G0 par br bx C ex s3 H3 pn=>(dO (i:=0) (j:=1) (show (["a","b","one"]:@IN).Nodup by decide +kernel))) (λH0 G0 par br bx C ex s3 H3 pn hB1=>(c5 (EC rn tX xY BH (ae 0) (aO aG bA (ae 2) au @Ch) (ae 1)))) (λH0 G0 par br bx C ex s3 H3 pn hB1=>(bo (ab (ak 0 (hB1 0 @F_)) (ab (ak 1 (hB1 1 @F_)) af)))) k9.nd)
  (az (aU (bo (ab (ak 2 rfl) (ab (cH bJ gW rfl B.tuple (@FM) (a8 pe AB rfl B.sorted (@FM) (bz jG pA (bz jG pA (cH la zx rfl B.list (@FM) (aO aG bA (ae 0) au @Ch)) (aA cS @At aP rfl rfl (ab (ak 1 rfl) (ab (aO aG bA (ae 0) au @Ch) af)))) (ae 3)))) af))))))))⟩,λds h=>aH ds h⟩
abbrev jA:Stmt:=top 34
def ux:aF ["one","other"] ["one","other"] (ao jA):=@AC
def tf {f:Addr}{fd:FuncData}{bI bC:@Cl}(F:gr K mg "beside_of" jA ["one","other"] f fd)(B:gR mg)(dg:bZ P w K mg base ca "need_joined" ["one","other"] 7 bI)(cS:bZ P w K mg base ca "raised_pairs" ["order","step"] 1 bC):bZ P w K mg base ca "beside_of" ["one","other"] 8 (aS 2 2 (jK bI bC)):=
 ⟨⟨f,fd,F.mg,F.F.kp,F.b,aR (N:=["one","other"]) (k:=7) F.F ux λcdv A outer s H G E hr=>
  (ar (fY (aA dg @At aP rfl rfl (ab (ak 0 rfl) (ab (ak 1 rfl) af))))
  (az (aU (bo (ab (bz dJ dM (aO aG bA (ae 0) au @Ch) (aO aG bA (ae 1) au @Ch)) (ab (cH bJ gW rfl B.tuple (@FM) (bz jG pA (cH la zx rfl B.list (@FM) (aO aG bA (ae 0) au @Ch)) (aA cS @At aP rfl rfl (ab (ak 1 rfl) (ab (aO aG bA (ae 0) au @Ch) af))))) af))))))⟩,λds h=>aH ds h⟩
abbrev qm:Stmt:=top 40
def ED:aF ["old","thing","step"] ["old","thing","step"] (ao qm):=@AC
def A9 {f:Addr}{fd:FuncData}(F:gr K mg "moved" qm ["old","thing","step"] f fd)(B:gR mg):bZ P w K mg base ca "moved" ["old","thing","step"] 1 (aS 3 3 (qk)):=
 ⟨⟨f,fd,F.mg,F.F.kp,F.b,aR (N:=["old","thing","step"]) (k:=0) F.F ED λcdv A outer s H G E hr=>
  (az (aU (HX (bS DF IU (ae 0) (ae 1) (a7 _)) (bz dJ dM (ae 0) (ae 2)) (ak 0 rfl) @Ch)))⟩,λds h=>aH ds h⟩
abbrev mW:Stmt:=top 39
def rB:aF ["order","thing","kept"] ["order","thing"] (ao mW):=@AC
def xo {f:Addr}{fd:FuncData}{bE lh:@Cl}(F:gr K mg "without" mW ["order","thing"] f fd)(B:gR mg)(c6:bZ P w K mg base ca "need_order_and_thing" ["order","thing"] 6 bE)(p9:bZ P w K mg base ca "moved" ["old","thing","step"] 1 lh):bZ P w K mg base ca "without" ["order","thing"] 7 (aS 3 2 (mF bE lh)):=
 ⟨⟨f,fd,F.mg,F.F.kp,F.b,aR (N:=["order","thing","kept"]) (k:=6) F.F rB λcdv A outer s H G E hr=>
  (ar (fY (aA c6 @At aP rfl rfl (ab (ak 0 rfl) (ab (ak 1 rfl) af))))
  (ar (dw (bS (cJ hr.units) eM (aO aG bA (ae 0) au @Ch) au (a7 _))
  (az uw)
  cu)
  (ar (mE (i:=2) (NB:=["pair","thing"]) (own:=1) (ixs:=[1]) [] rfl @Id @Ch (iz rfl (aO aG bA (ae 0) au @Ch)) (λH0 G0 par br bx C ex s3 H3 pn=>(dz (i:=0) (show (["pair","thing"]:@IN).Nodup by decide +kernel))) (λH0 G0 par br bx C ex s3 H3 pn hB1=>(c5 (bS (ko hr.u1) uy (ae 1) (ae 0) (by with_unfolding_all rfl)))) (λH0 G0 par br bx C ex s3 H3 pn hB1=>(ak 0 (hB1 0 @F_))) rB.nd)
  (az (aU (bo (ab (bz zm DB (aO aG bA (ae 0) au @Ch) au) (ab (cH bJ gW rfl B.tuple (@FM) (bO (NB:=["a","b","thing"]) (own:=2) (ixs:=[1]) [1] rfl @Id @Ch (iz rfl (ae 2)) (λH0 G0 par br bx C ex s3 H3 pn=>(dO (i:=0) (j:=1) (show (["a","b","thing"]:@IN).Nodup by decide +kernel))) (λH0 G0 par br bx C ex s3 H3 pn hB2=>cN) (λH0 G0 par br bx C ex s3 H3 pn hB2=>(bo (ab (aA p9 @At jq rfl rfl (ab (ak 0 (hB2 0 @F_)) (ab (ak 2 (hB2 2 @F_)) (ab (xW rT xf au) af)))) (ab (aA p9 @At jq rfl rfl (ab (ak 1 (hB2 1 @F_)) (ab (ak 2 (hB2 2 @F_)) (ab (xW rT xf au) af)))) af)))))) af))))))))⟩,λds h=>aH ds h⟩
abbrev qu:Stmt:=top 42
def Dv:aF ["order"] ["order"] (ao qu):=@AC
def BM {f:Addr}{fd:FuncData}{aI aV fC:@Cl}(F:gr K mg "turns" qu ["order"] f fd)(B:gR mg)(aY:bZ P w K mg base ca "need_order" ["thing"] 5 aI)(cq:bZ P w K mg base ca "every_pair" ["many"] 1 aV)(mw:bZ P w K mg base ca "are_apart" ["order","a","b"] 1 fC):bZ P w K mg base ca "turns" ["order"] 6 (aS 1 1 (qi aI aV fC)):=
 ⟨⟨f,fd,F.mg,F.F.kp,F.b,aR (N:=["order"]) (k:=5) F.F Dv λcdv A outer s H G E hr=>
  (ar (fY (aA aY @At aP rfl rfl (ab (ak 0 rfl) af)))
  (az (kX (bO (NB:=["a","b","order"]) (own:=2) (ixs:=[0]) [0] rfl @Id @Ch (iz rfl (aA cq @At aP rfl rfl (ab (aO aG bA (ae 0) au @Ch) af))) (λH0 G0 par br bx C ex s3 H3 pn=>(dO (i:=0) (j:=1) (show (["a","b","order"]:@IN).Nodup by decide +kernel))) (λH0 G0 par br bx C ex s3 H3 pn hB1=>(c5 (cA rfl (aA mw @At jq rfl rfl (ab (ak 2 (hB1 2 @F_)) (ab (ak 0 (hB1 0 @F_)) (ab (ak 1 (hB1 1 @F_)) af))))))) (λH0 G0 par br bx C ex s3 H3 pn hB1=>(bo (ab (ak 0 (hB1 0 @F_)) (ab (ak 1 (hB1 1 @F_)) af))))))))⟩,λds h=>aH ds h⟩
abbrev k7:Stmt:=top 44
def pj:aF ["order","a","b","pairs"] ["order","a","b"] (ao k7):=@AC
def uS {f:Addr}{fd:FuncData}(F:gr K mg "is_sharp" k7 ["order","a","b"] f fd)(B:gR mg):bZ P w K mg base ca "is_sharp" ["order","a","b"] 1 (aS 4 3 (lx)):=
 ⟨⟨f,fd,F.mg,F.F.kp,F.b,aR (N:=["order","a","b","pairs"]) (k:=0) F.F pj λcdv A outer s H G E hr=>
  (ar (bg (i:=3) (aO aG bA (ae 0) au @Ch) pj.nd)
  (ar (dw (eB (cA rfl (a8 (hZ rfl) gP rfl B.all (@FM) (bO (NB:=["one","other","a","b","pairs"]) (own:=2) (ixs:=[1,2,3]) [2] rfl @Id @Ch (iz rfl (ae 3)) (λH0 G0 par br bx C ex s3 H3 pn=>(dO (i:=0) (j:=1) (show (["one","other","a","b","pairs"]:@IN).Nodup by decide +kernel))) (λH0 G0 par br bx C ex s3 H3 pn hB1=>(c5 (bS (cJ hr.units) eM (ae 1) (ae 2) (a7 _)))) (λH0 G0 par br bx C ex s3 H3 pn hB1=>(c4 (uN hr.u1) uy (bo (ab (ak 0 (hB1 0 @F_)) (ab (ak 3 (hB1 3 @F_)) af))) (ae 4) (by with_unfolding_all rfl)))))))
  (az (aU me))
  cu)
  (az (aU (a8 (hZ rfl) gP rfl B.all (@FM) (bO (NB:=["one","other","b","a","pairs"]) (own:=2) (ixs:=[2,1,3]) [1] rfl @Id @Ch (iz rfl (ae 3)) (λH0 G0 par br bx C ex s3 H3 pn=>(dO (i:=0) (j:=1) (show (["one","other","b","a","pairs"]:@IN).Nodup by decide +kernel))) (λH0 G0 par br bx C ex s3 H3 pn hB2=>(c5 (bS (cJ hr.units) eM (ae 0) (ae 2) (a7 _)))) (λH0 G0 par br bx C ex s3 H3 pn hB2=>(c4 (uN hr.u1) uy (bo (ab (ak 3 (hB2 3 @F_)) (ab (ak 1 (hB2 1 @F_)) af))) (ae 4) (by with_unfolding_all rfl)))))))))⟩,λds h=>aH ds h⟩
abbrev gQ:Stmt:=top 43
def qw:aF ["order"] ["order"] (ao gQ):=@AC
def pG {f:Addr}{fd:FuncData}{mU gA:@Cl}(F:gr K mg "sharp_turns" gQ ["order"] f fd)(B:gR mg)(vJ:bZ P w K mg base ca "turns" ["order"] 6 mU)(nA:bZ P w K mg base ca "is_sharp" ["order","a","b"] 1 gA):bZ P w K mg base ca "sharp_turns" ["order"] 7 (aS 1 1 (m8 mU gA)):=
 ⟨⟨f,fd,F.mg,F.F.kp,F.b,aR (N:=["order"]) (k:=6) F.F qw λcdv A outer s H G E hr=>
  (az (kX (bO (NB:=["a","b","order"]) (own:=2) (ixs:=[0]) [0] rfl @Id @Ch (iz rfl (aA vJ @At aP rfl rfl (ab (ak 0 rfl) af))) (λH0 G0 par br bx C ex s3 H3 pn=>(dO (i:=0) (j:=1) (show (["a","b","order"]:@IN).Nodup by decide +kernel))) (λH0 G0 par br bx C ex s3 H3 pn hB1=>(c5 (cA rfl (aA nA @At jq rfl rfl (ab (ak 2 (hB1 2 @F_)) (ab (ak 0 (hB1 0 @F_)) (ab (ak 1 (hB1 1 @F_)) af))))))) (λH0 G0 par br bx C ex s3 H3 pn hB1=>(bo (ab (ak 0 (hB1 0 @F_)) (ab (ak 1 (hB1 1 @F_)) af)))))))⟩,λds h=>aH ds h⟩
abbrev kS:Stmt:=top 45
def xw:aF ["order","turn","other"] ["order","turn","other"] (ao kS):=@AC
def vU {f:Addr}{fd:FuncData}(F:gr K mg "leads_on" kS ["order","turn","other"] f fd)(B:gR mg):bZ P w K mg base ca "leads_on" ["order","turn","other"] 1 (aS 3 3 (k8)):=
 ⟨⟨f,fd,F.mg,F.F.kp,F.b,aR (N:=["order","turn","other"]) (k:=0) F.F xw λcdv A outer s H G E hr=>
  (az (aU (Mj (c4 (cJ hr.units) eM (aO aG bA (ae 1) au @Ch) (aO aG bA (ae 2) au @Ch) (a7 _)) (kg (c4 (uN hr.u1) uy (bo (ab (aO aG bA (ae 1) au @Ch) (ab (aO aG bA (ae 2) au @Ch) af))) (aO aG bA (ae 0) au @Ch) (by with_unfolding_all rfl))) @Ch)))⟩,λds h=>aH ds h⟩
abbrev ly:Stmt:=top 46
def xT:aF ["masks","a","b"] ["masks","a","b"] (ao ly):=@AC
def uR {f:Addr}{fd:FuncData}{aK:@Cl}(F:gr K mg "is_ahead" ly ["masks","a","b"] f fd)(B:gR mg)(ba:bZ P w K mg base ca "with_thing" ["placed","thing"] 1 aK):bZ P w K mg base ca "is_ahead" ["masks","a","b"] 2 (aS 3 3 (lK aK)):=
 ⟨⟨f,fd,F.mg,F.F.kp,F.b,aR (N:=["masks","a","b"]) (k:=1) F.F xT λcdv A outer s H G E hr=>
  (az (aU (c4 (cJ hr.units) eM (aA ba @At aP rfl rfl (ab (aO aG bA (ae 0) (ae 2) @Ch) (ab (ak 1 rfl) af))) (aO aG bA (ae 0) (ae 2) @Ch) (a7 _))))⟩,λds h=>aH ds h⟩
abbrev jT:Stmt:=top 47
def u6:aF ["masks","turn"] ["masks","turn"] (ao jT):=@AC
def tw {f:Addr}{fd:FuncData}{bH:@Cl}(F:gr K mg "is_turned" jT ["masks","turn"] f fd)(B:gR mg)(c8:bZ P w K mg base ca "is_ahead" ["masks","a","b"] 2 bH):bZ P w K mg base ca "is_turned" ["masks","turn"] 3 (aS 2 2 (jV bH)):=
 ⟨⟨f,fd,F.mg,F.F.kp,F.b,aR (N:=["masks","turn"]) (k:=2) F.F u6 λcdv A outer s H G E hr=>
  (az (aU (aA c8 @At aP rfl rfl (ab (ak 0 rfl) (ab (aO aG bA (ae 1) au @Ch) (ab (aO aG bA (ae 1) au @Ch) af))))))⟩,λds h=>aH ds h⟩
abbrev jQ:Stmt:=top 48
def vQ:aF ["masks","turn"] ["masks","turn"] (ao jQ):=@AC
def sU {f:Addr}{fd:FuncData}{bH:@Cl}(F:gr K mg "is_barred" jQ ["masks","turn"] f fd)(B:gR mg)(c8:bZ P w K mg base ca "is_ahead" ["masks","a","b"] 2 bH):bZ P w K mg base ca "is_barred" ["masks","turn"] 3 (aS 2 2 (jW bH)):=
 ⟨⟨f,fd,F.mg,F.F.kp,F.b,aR (N:=["masks","turn"]) (k:=2) F.F vQ λcdv A outer s H G E hr=>
  (az (aU (aA c8 @At aP rfl rfl (ab (ak 0 rfl) (ab (aO aG bA (ae 1) au @Ch) (ab (aO aG bA (ae 1) au @Ch) af))))))⟩,λds h=>aH ds h⟩
abbrev kW:Stmt:=top 49
def l5:aF ["masks","turn","late","more"] ["masks","turn"] (ao kW):=@AC
def vq {f:Addr}{fd:FuncData}{bH aK:@Cl}(F:gr K mg "put_turn" kW ["masks","turn"] f fd)(B:gR mg)(c8:bZ P w K mg base ca "is_ahead" ["masks","a","b"] 2 bH)(ba:bZ P w K mg base ca "with_thing" ["placed","thing"] 1 aK):bZ P w K mg base ca "put_turn" ["masks","turn"] 3 (aS 4 2 (lq bH aK)):=
 ⟨⟨f,fd,F.mg,F.F.kp,F.b,aR (N:=["masks","turn","late","more"]) (k:=2) F.F l5 λcdv A outer s H G E hr=>
  (ar (bg (i:=2) (SE.wv (bO (NB:=["thing","turn","masks"]) (own:=1) (ixs:=[1,0]) [0] rfl @Id @Ch (ou rfl B.range (a8 cB jC rfl B.len PX (ae 0))) (λH0 G0 par br bx C ex s3 H3 pn=>(dz (i:=0) (show (["thing","turn","masks"]:@IN).Nodup by decide +kernel))) (λH0 G0 par br bx C ex s3 H3 pn hB1=>(c5 (xr.t (ur (bS (cJ hr.units) eM (ae 0) (aO aG bA (ae 1) au @Ch) (a7 _)) (oN (cA rfl (aA c8 @At jq rfl rfl (ab (ak 2 (hB1 2 @F_)) (ab (aO aG bA (ae 1) au @Ch) (ab (ak 0 (hB1 0 @F_)) af)))))) (λi hi=>hB1 i (by revert i hi;decide)))))) (λH0 G0 par br bx C ex s3 H3 pn hB1=>(ak 0 (hB1 0 @F_))))) l5.nd)
  (ar (bg (i:=3) (aA ba @At aP rfl rfl (ab (aO aG bA (ae 0) (aO aG bA (ae 1) au @Ch) @Ch) (ab (aO aG bA (ae 1) au @Ch) af))) l5.nd)
  (az (kX (bO (NB:=["thing","mask","late","more"]) (own:=2) (ixs:=[2,3]) [] rfl @Id @Ch (SI.vb (wd rfl rfl B.enumerate (ak 0 rfl))) (λH0 G0 par br bx C ex s3 H3 pn=>(dO (i:=0) (j:=1) (show (["thing","mask","late","more"]:@IN).Nodup by decide +kernel))) (λH0 G0 par br bx C ex s3 H3 pn hB2=>cN) (λH0 G0 par br bx C ex s3 H3 pn hB2=>(HX (bS (uN hr.u1) uy (ae 0) (ae 2) (by with_unfolding_all rfl)) (bz Hs K4 (ae 1) (ae 3)) (ak 1 (hB2 1 @F_)) (λi hi=>hB2 i (by revert i hi;decide)))))))))⟩,λds h=>aH ds h⟩
abbrev jL:Stmt:=top 50
def cX:aF ["order","put","turn","paths","left","at","fresh"] ["order","put","turn"] (ao jL):=@AC
def sy {f:Addr}{fd:FuncData}{fj:@Cl}(F:gr K mg "ring_with" jL ["order","put","turn"] f fd)(B:gR mg)(lL:bZ P w K mg base ca "leads_on" ["order","turn","other"] 1 fj):bZ P w K mg base ca "ring_with" ["order","put","turn"] 2 (aS 7 3 (jP fj)):=
 ⟨⟨f,fd,F.mg,F.F.kp,F.b,aR (N:=["order","put","turn","paths","left","at","fresh"]) (k:=1) F.F cX λcdv A outer s H G E hr=>
  (ar (gY (i:=3) (cZ (ab (SE.wv (cZ (ab (ak 2 rfl) af))) af)) cX.nd)
  (ar (bg (i:=4) (ak 1 rfl) cX.nd)
  (ar (bg (i:=5) au cX.nd)
  (ar (oA 1000 PassesOwn.leaving (eB (cA rfl (aA lL @At aP rfl rfl (ab (ak 0 rfl) (ab (aO aG bA (aO aG bA (ae 3) (ae 5) @Ch) (xW rT xf au) @Ch) (ab (ak 2 rfl) af))))))
  (ar (bg (i:=6) (SE.wv (bO (NB:=["other","order","paths","at"]) (own:=1) (ixs:=[0,3,5]) [0] rfl @Id @Ch (iz rfl (ae 4)) (λH0 G0 par br bx C ex s3 H3 pn=>(dz (i:=0) (show (["other","order","paths","at"]:@IN).Nodup by decide +kernel))) (λH0 G0 par br bx C ex s3 H3 pn hB1=>(c5 (cA rfl (aA lL @At jq rfl rfl (ab (ak 1 (hB1 1 @F_)) (ab (aO aG bA (aO aG bA (ae 2) (ae 3) @Ch) (xW rT xf au) @Ch) (ab (ak 0 (hB1 0 @F_)) af))))))) (λH0 G0 par br bx C ex s3 H3 pn hB1=>(ak 0 (hB1 0 @F_))))) cX.nd)
  (ar (mE (i:=4) (NB:=["other","fresh"]) (own:=1) (ixs:=[6]) [] rfl @Id @Ch (iz rfl (ae 4)) (λH0 G0 par br bx C ex s3 H3 pn=>(dz (i:=0) (show (["other","fresh"]:@IN).Nodup by decide +kernel))) (λH0 G0 par br bx C ex s3 H3 pn hB2=>(c5 (bS (ko hr.u1) uy (ae 0) (ae 1) (by with_unfolding_all rfl)))) (λH0 G0 par br bx C ex s3 H3 pn hB2=>(ak 0 (hB2 0 @F_))) cX.nd)
  (ar (BE 3 (λ_=>rfl) (bO (NB:=["other","paths","at"]) (own:=1) (ixs:=[3,5]) [] rfl @Id @Ch (iz rfl (ae 6)) (λH0 G0 par br bx C ex s3 H3 pn=>(dz (i:=0) (show (["other","paths","at"]:@IN).Nodup by decide +kernel))) (λH0 G0 par br bx C ex s3 H3 pn hB3=>cN) (λH0 G0 par br bx C ex s3 H3 pn hB3=>(SE.wv (bz jG pA (aO aG bA (ae 1) (ae 2) @Ch) (cZ (ab (ak 0 (hB3 0 @F_)) af)))))))
  (az (bg (i:=5) (bz dJ dM (ae 5) au) cX.nd))))))
  (az (aU (aO aG bA (ae 3) (ae 5) @Ch)))))))⟩,λds h=>aH ds h⟩
abbrev mH:Stmt:=top 57
def nk:aF ["order","left","rows","number","turn","masks","put"] ["order","left","rows","number","turn"] (ao mH):=@AC
def wX {T:Addr}{f:Addr}{fd:FuncData}{cm cc fD gC:@Cl}{k:Nat}(hk:6<=k)(F:gr K mg "case_of" mH ["order","left","rows","number","turn"] f fd)(B:gR mg)(jg:jy T P w K mg base ca "cases_on" ["order","left","rows"] k cm)(fx:bZ P w K mg base ca "is_barred" ["masks","turn"] 3 cc)(lW:bZ P w K mg base ca "ring_with" ["order","put","turn"] 2 fD)(nE:bZ P w K mg base ca "put_turn" ["masks","turn"] 3 gC):jy T P w K mg base ca "case_of" ["order","left","rows","number","turn"] (k + 1) (aS 7 5 (jb cm cc fD gC)):=
 ⟨⟨f,fd,F.mg,F.F.kp,F.b,kJ (N:=["order","left","rows","number","turn","masks","put"]) (k:=k) F.F nk λcdv A outer s H G E hcd hT hr=>
  (ar (bg (i:=5) (aO aG bA (aO aG bA (ae 2) (ae 3) @Ch) au @Ch) nk.nd)
  (ar (bg (i:=6) (aO aG bA (aO aG bA (ae 2) (ae 3) @Ch) au @Ch) nk.nd)
  (ar (dw (cA rfl (aA fx (hr.mono (@AT)) aP rfl rfl (ab (ak 5 rfl) (ab (ak 4 rfl) af))))
  (az (aU (bo (ab rC (ab (ak 3 rfl) (ab (aA lW (hr.mono (@AT)) aP rfl rfl (ab (ak 0 rfl) (ab (ak 6 rfl) (ab (ak 4 rfl) af)))) af))))))
  cu)
  (az (aU (gq hT jg (hr.mono (@AT)) aP rfl rfl (ab (ak 0 rfl) (ab (ak 1 rfl) (ab (SE.wv (bz jG pA (bz jG pA (wL rfl (ae 2) zC (Az (ae 3))) (cZ (ab (bo (ab (aA nE (hr.mono (@AT)) aP rfl rfl (ab (ak 5 rfl) (ab (ak 4 rfl) af))) (ab (bz EB JB (ae 6) (bo (ab (ak 4 rfl) af))) af))) af))) (wL rfl (ae 2) (Az (bz dJ dM (ae 3) au)) zC))) af)))))))))⟩,λds h=>aH ds h⟩
abbrev jS:Stmt:=top 56
def uC:aF ["rows","turn"] ["rows","turn"] (ao jS):=@AC
def sv {f:Addr}{fd:FuncData}{cc:@Cl}(F:gr K mg "free_rows" jS ["rows","turn"] f fd)(B:gR mg)(fx:bZ P w K mg base ca "is_barred" ["masks","turn"] 3 cc):bZ P w K mg base ca "free_rows" ["rows","turn"] 4 (aS 2 2 (jH cc)):=
 ⟨⟨f,fd,F.mg,F.F.kp,F.b,aR (N:=["rows","turn"]) (k:=3) F.F uC λcdv A outer s H G E hr=>
  (az (aU (a8 cB jC rfl B.len PX (bO (NB:=["masks","put","turn"]) (own:=2) (ixs:=[1]) [1] rfl @Id @Ch (iz rfl (ae 0)) (λH0 G0 par br bx C ex s3 H3 pn=>(dO (i:=0) (j:=1) (show (["masks","put","turn"]:@IN).Nodup by decide +kernel))) (λH0 G0 par br bx C ex s3 H3 pn hB1=>(c5 (eB (cA rfl (aA fx @At jq rfl rfl (ab (ak 0 (hB1 0 @F_)) (ab (ak 2 (hB1 2 @F_)) af))))))) (λH0 G0 par br bx C ex s3 H3 pn hB1=>(ak 0 (hB1 0 @F_)))))))⟩,λds h=>aH ds h⟩
abbrev lA:Stmt:=top 55
def fw:aF ["order","left","rows","undone","turn","papers","number","found"] ["order","left","rows"] (ao lA):=@AC
def uB {T:Addr}{f:Addr}{fd:FuncData}{ja fF fH fJ:@Cl}{k:Nat}(hk:7<=k)(F:gr K mg "cases_on" lA ["order","left","rows"] f fd)(B:gR mg){c:Addr}(hcode:fd.code=.ref c)(LT:A5 mg base c T)(AW:jy T P w K mg base ca "case_of" ["order","left","rows","number","turn"] (k + 1) ja)(l0:bZ P w K mg base ca "is_turned" ["masks","turn"] 3 fF)(lY:bZ P w K mg base ca "row_along" ["masks","late"] 3 fH)(mz:bZ P w K mg base ca "free_rows" ["rows","turn"] 4 fJ):jy T P w K mg base ca "cases_on" ["order","left","rows"] (k + 1 + 1) (aS 8 3 (e8 ja fF fH fJ)):=
 ⟨⟨f,fd,F.mg,F.F.kp,F.b,kJ (N:=["order","left","rows","undone","turn","papers","number","found"]) (k:=(k + 1)) F.F fw λcdv A outer s H G E hcd hT hr=>
  (ar (mE (i:=3) (NB:=["turn","rows"]) (own:=1) (ixs:=[2]) [] rfl @Id @Ch (iz rfl (ae 1)) (λH0 G0 par br bx C ex s3 H3 pn=>(dz (i:=0) (show (["turn","rows"]:@IN).Nodup by decide +kernel))) (λH0 G0 par br bx C ex s3 H3 pn hB1=>(c5 (eB (cA rfl (a8 (wI rfl) gP rfl B.any (@FM) (bO (NB:=["masks","put","turn"]) (own:=2) (ixs:=[0]) [0] rfl @Id (λi hi=>hB1 i (by revert i hi;decide)) (iz rfl (ae 1)) (λH0 G0 par br bx C ex s3 H3 pn=>(dO (i:=0) (j:=1) (show (["masks","put","turn"]:@IN).Nodup by decide +kernel))) (λH0 G0 par br bx C ex s3 H3 pn hB2=>cN) (λH0 G0 par br bx C ex s3 H3 pn hB2=>(aA l0 (hr.mono (@AT)) jq rfl rfl (ab (ak 0 (hB2 0 @F_)) (ab (ak 2 (hB2 2 @F_)) af)))))))))) (λH0 G0 par br bx C ex s3 H3 pn hB1=>(ak 0 (hB1 0 @F_))) fw.nd)
  (ar (dw (bS (cJ hr.units) eM (a8 cB jC rfl B.len PX (ae 3)) au (a7 _))
  (az (aU (bo (ab rC (ab (SE.wv (bO (NB:=["masks","put"]) (own:=2) (ixs:=[]) [] rfl @Id @Ch (iz rfl (ae 2)) (λH0 G0 par br bx C ex s3 H3 pn=>(dO (i:=0) (j:=1) (show (["masks","put"]:@IN).Nodup by decide +kernel))) (λH0 G0 par br bx C ex s3 H3 pn hB3=>cN) (λH0 G0 par br bx C ex s3 H3 pn hB3=>(aA lY (hr.mono (@AT)) jq rfl rfl (ab (ak 0 (hB3 0 @F_)) (ab (SE.wv (cZ af)) af)))))) af)))))
  cu)
  (ar (bg (i:=4) (AY (NB:=["one","rows"]) (ir:=2) rfl rfl rfl B.min (ak 3 rfl) (Ju (NB:=["one","rows"]) (own:=1) (ixs:=[2]) @Id rfl (hcd.symm.trans hcode) LT.hd LT.bt LT.ne) (λ_ _ _ _ _ _ I=>hT.mono (I.old.trans I.sub)) @Id @F_ rfl rfl hr.depth rfl rfl (λ_ _ _ _ _ _=>rfl) (λH0 G0 qn q c1 s1 H1 pn=>(aA mz ((hr.mono (@AT)).in1.deeper _) Lv rfl rfl (ab (ak 1 rfl) (ab (ak 0 rfl) af))))) fw.nd)
  (ar (gY (i:=5) (cZ af) fw.nd)
  (ar (ke PassesOwn.leaving rfl (ou rfl B.range (a8 cB jC rfl B.len PX (ae 2))) (dz (i:=6) fw.nd)
  (ar (bg (i:=7) (gq hT AW (hr.mono (@AT)) aP rfl rfl (ab (ak 0 rfl) (ab (ak 3 rfl) (ab (ak 2 rfl) (ab (ak 6 rfl) (ab (ak 4 rfl) af)))))) fw.nd)
  (ar (dw (bS (cJ hr.units) eM (aO aG bA (ae 7) au @Ch) rC (a7 _))
  (az (p5 7))
  cu)
  (az (kF 5 (λ_=>rfl) (ak 7 rfl))))))
  (az (aU (bo (ab rC (ab (ak 4 rfl) (ab (cH bJ gW rfl B.tuple (@FM) (ae 5)) af)))))))))))⟩,λds h=>aH ds h⟩
abbrev pZ:Stmt:=top 54
def wa:aF ["order","count","bare"] ["order","count"] (ao pZ):=@AC
def Bd {T:Addr}{f:Addr}{fd:FuncData}{dq cm du:@Cl}(F:gr K mg "cases" pZ ["order","count"] f fd)(B:gR mg)(kh:bZ P w K mg base ca "masks_ahead" ["order"] 2 dq)(jg:jy T P w K mg base ca "cases_on" ["order","left","rows"] 87 cm)(j5:bZ P w K mg base ca "sharp_turns" ["order"] 7 du):jy T P w K mg base ca "cases" ["order","count"] 88 (aS 3 2 (p7 dq cm du)):=
 ⟨⟨f,fd,F.mg,F.F.kp,F.b,kJ (N:=["order","count","bare"]) (k:=87) F.F wa λcdv A outer s H G E hcd hT hr=>
  (ar (bg (i:=2) (bo (ab (aA kh @At aP rfl rfl (ab (ak 0 rfl) af)) (ab (bo af) af))) wa.nd)
  (az (aU (gq hT jg @At aP rfl rfl (ab (ak 0 rfl) (ab (aA j5 @At aP rfl rfl (ab (ak 0 rfl) af)) (ab (SE.wv (yN (cZ (ab (ak 2 rfl) af)) (ae 1))) af)))))))⟩,λds h=>aH ds h⟩
abbrev hJ:Stmt:=top 53
def dN:aF ["order","count","found"] ["order"] (ao hJ):=@AC
def pV {T:Addr}{f:Addr}{fd:FuncData}{aI k6:@Cl}(F:gr K mg "fewest_rows" hJ ["order"] f fd)(B:gR mg)(aY:bZ P w K mg base ca "need_order" ["thing"] 5 aI)(qt:jy T P w K mg base ca "cases" ["order","count"] 88 k6):jy T P w K mg base ca "fewest_rows" ["order"] 89 (aS 3 1 (eO aI k6)):=
 ⟨⟨f,fd,F.mg,F.F.kp,F.b,kJ (N:=["order","count","found"]) (k:=88) F.F dN λcdv A outer s H G E hcd hT hr=>
  (ar (fY (aA aY @At aP rfl rfl (ab (ak 0 rfl) af)))
  (ar (bg (i:=1) au dN.nd)
  (ar (bg (i:=2) (gq hT qt @At aP rfl rfl (ab (ak 0 rfl) (ab (ak 1 rfl) af))) dN.nd)
  (ar (oA 1000 PassesOwn.leaving (bS (ji hr.units) eM (aO aG bA (ae 2) au @Ch) rC (a7 _))
  (ar (bg (i:=1) (bz dJ dM (ae 1) au) dN.nd)
  (az (bg (i:=2) (gq hT qt @At aP rfl rfl (ab (ak 0 rfl) (ab (ak 1 rfl) af))) dN.nd))))
  (az (aU (aO aG bA (ae 2) au @Ch)))))))⟩,λds h=>aH ds h⟩
abbrev om:Stmt:=top 52
def BB:aF ["order"] ["order"] (ao om):=@AC
def zo {T:Addr}{f:Addr}{fd:FuncData}{bM:@Cl}(F:gr K mg "fewest" om ["order"] f fd)(B:gR mg)(dh:jy T P w K mg base ca "fewest_rows" ["order"] 89 bM):jy T P w K mg base ca "fewest" ["order"] 90 (aS 1 1 (nW bM)):=
 ⟨⟨f,fd,F.mg,F.F.kp,F.b,kJ (N:=["order"]) (k:=89) F.F BB λcdv A outer s H G E hcd hT hr=>
  (az (aU (a8 cB jC rfl B.len PX (gq hT dh @At aP rfl rfl (ab (ak 0 rfl) af)))))⟩,λds h=>aH ds h⟩
abbrev kQ:Stmt:=top 59
def cW:aF ["script","k","here","number","j","part"] ["script","k"] (ao kQ):=@AC
def vL {f:Addr}{fd:FuncData}(F:gr K mg "_law_box" kQ ["script","k"] f fd)(B:gR mg):bZ P w K mg base ca "_law_box" ["script","k"] 1 (aS 6 2 (i6)):=
 ⟨⟨f,fd,F.mg,F.F.kp,F.b,aR (N:=["script","k","here","number","j","part"]) (k:=0) F.F cW λcdv A outer s H G E hr=>
  (ar (bg (i:=2) (bz dJ dM (bz l9 nq au (ae 1)) au) cW.nd)
  (ar (dw (bS rn xY (ae 1) (a8 cB jC rfl B.len PX (ae 0)) (a7 _))
  (az (bg (i:=2) (aO aG bA (ae 0) (ae 1) @Ch) cW.nd))
  cu)
  (ar (dw (bS (cJ hr.units) eM (bz nM t6 (ae 2) au) au (a7 _))
  (az (kX (cZ (ab (bz vH LL (ae 2) au) af))))
  cu)
  (ar (bg (i:=3) au cW.nd)
  (ar (ke PassesOwn.leaving rfl (ou rfl B.range au) (dz (i:=4) cW.nd)
  (ar (bg (i:=5) (bz nM t6 (bz dJ dM (bz dJ dM (bz l9 nq (bz nM t6 (ae 2) au) au) (bz l9 nq au (ae 4))) au) au) cW.nd)
  (ar (bg (i:=5) (bz nM t6 (bz l9 nq (ae 5) (ae 5)) au) cW.nd)
  (az (bg (i:=3) (bz dJ dM (bz l9 nq (ae 3) au) (bz nM t6 (bz l9 nq (ae 5) (bz dJ dM (ae 5) au)) au)) cW.nd)))))
  (az (kX (cZ (ab (ak 3 rfl) af)))))))))⟩,λds h=>aH ds h⟩
abbrev jR:Stmt:=top 60
def nU:aF ["box","many","left","digit"] ["box","many"] (ao jR):=@AC
def sQ {f:Addr}{fd:FuncData}(F:gr K mg "_law_take" jR ["box","many"] f fd)(B:gR mg):pH P w K mg base "_law_take" ["box","many"] 1 fA:=by
 refine⟨⟨f,fd,F.mg,F.F.kp,F.b,?_⟩,λds β h=>?_⟩
 ·refine F.F.Hr nU (λvs H Q E h=>?_) (λcdv A outer s H vs Q E hr h=>?_)
  ·obtain⟨b,rest,G,ds,β,rfl,hb,gb,sG,hl,r,_⟩:=h
   rw[O8,r.len,hl];rfl
  ·obtain⟨b,rest,G,ds,β,rfl,hb,gb,sG,hl,r,h⟩:=h
   obtain⟨m,rfl,h0,h1⟩:=Ar (λz=>by rw[z] at h;exact h)
   rw[uH h0 h1] at h
   have kk:∀v G' H',iL (some b) H H'->H' b=some (.lst [.int (β / m)])->aw G G'->aw G' H'->(∀c,Mx H c->G c=none->G' c=none)->FV K H G' H' false (.int (β % m)) v->Q v H':=h
   cases r with
   |cons r1 r2=>
    cases r1
    cases r2
    refine⟨_,jl (rG (oy xJ rfl B.divmod (@FM) (a9 (nh i3 (pv 0) yd @Ch) (a9 (pv 1) b9))) (E1 (i:=2) (j:=3) nU.nd rfl rfl rfl rfl rfl))
     (jl (rG (pv 2) (vg (pv 0) yd set_list)) (jE (oD (pv 3)))),?_⟩
    refine⟨_,rfl,b,_,0,.int β,rfl,rfl,.inl (.inl hb),rfl,_,rfl,β,m,rfl,⟨h0,h1⟩,λp hp=>⟨p,_,rfl,.inl (.inl aB),rfl,_,_,rfl,_,_,rfl,rfl,?_⟩⟩
    have hbp:b≠p:=aN hb hp
    exact⟨_,rfl,_,rfl,b,[.int β],0,0,rfl,rfl,by rw[ay hbp];exact hb,rfl,_,rfl,Ei hb sG hp kk gb⟩
 ·obtain⟨m,rfl,_⟩:=Ar h
  rfl
abbrev eS:Stmt:=top 61
def gE:aF ["box","some","left","found"] ["box","some"] (ao eS):=@AC
def ox {f:Addr}{fd:FuncData}{aX:List D->Int->FB}(F:gr K mg "_law_shuffled" eS ["box","some"] f fd)(B:gR mg)(cf:pH P w K mg base "_law_take" ["box","many"] 1 aX):pH P w K mg base "_law_shuffled" ["box","some"] 2 (xc 4 1 (eV aX)):=
 ⟨⟨f,fd,F.mg,F.F.kp,F.b,xS (ca:=λ_=>0) (N:=["box","some","left","found"]) (k:=1) F.F gE @F_ λcdv A outer s H G b E hr=>
  (ar (gY (i:=2) (cH la zx rfl B.list (@FM) (ae 1)) gE.nd)
  (ar (gY (i:=3) (cZ af) gE.nd)
  (ar (oA 1000 PassesOwn.leaving (bS (ji hr.units) eM (ae 2) (cZ af) (a7 _))
  (az (A6 3 2 (λ_=>rfl) (o9 0 cf @At aP rfl rfl (ab (a8 cB jC rfl B.len PX (ae 2)) af)))))
  (az (aU (cH bJ gW rfl B.tuple (@FM) (ae 3)))))))⟩,λds β h=>xU ds β h⟩
abbrev jF:Stmt:=top 62
def iR:aF ["many","rows","found","a","b"] ["many","rows"] (ao jF):=@AC
def sV {f:Addr}{fd:FuncData}(F:gr K mg "_law_told" jF ["many","rows"] f fd)(B:gR mg):bZ P w K mg base ca "_law_told" ["many","rows"] 1 (aS 5 2 (jB)):=
 ⟨⟨f,fd,F.mg,F.F.kp,F.b,aR (N:=["many","rows","found","a","b"]) (k:=0) F.F iR λcdv A outer s H G E hr=>
  (ar (gY (i:=2) (cZ af) iR.nd)
  (ar (ke PassesOwn.leaving rfl (ou rfl B.range (ae 0)) (dz (i:=3) iR.nd)
  (az (ke PassesOwn.leaving rfl (ou rfl B.range (ae 0)) (dz (i:=4) iR.nd)
  (az (dw (xr.t (xX (bS (ji hr.units) eM (ae 3) (ae 4) (a7 _)) (vd (cA rfl (a8 (hZ rfl) gP rfl B.all (@FM) (bO (NB:=["row","a","b"]) (own:=1) (ixs:=[3,4]) [] rfl @Id @Ch (iz rfl (ae 1)) (λH0 G0 par br bx C ex s3 H3 pn=>(dz (i:=0) (show (["row","a","b"]:@IN).Nodup by decide +kernel))) (λH0 G0 par br bx C ex s3 H3 pn hB1=>cN) (λH0 G0 par br bx C ex s3 H3 pn hB1=>(c4 rn xY (xQ rfl (ae 0) (ae 1)) (xQ rfl (ae 0) (ae 2)) (a7 _))))))) @Ch))
  (az (kF 2 (λ_=>rfl) (bo (ab (ak 3 rfl) (ab (ak 4 rfl) af)))))
  cu)))))
  (az (aU (cH bJ gW rfl B.tuple (@FM) (ae 2))))))⟩,λds h=>aH ds h⟩
abbrev iW:Stmt:=top 63
def cK:aF ["box","most","many","rows","lows","pairs","k"] ["box","most"] (ao iW):=@AC
def qG {f:Addr}{fd:FuncData}{fy:@Cl}{aX cn:List D->Int->FB}(F:gr K mg "_law_order" iW ["box","most"] f fd)(B:gR mg)(mi:bZ P w K mg base ca "_law_told" ["many","rows"] 1 fy)(cf:pH P w K mg base "_law_take" ["box","many"] 1 aX)(eR:pH P w K mg base "_law_shuffled" ["box","some"] 2 cn):pH P w K mg base "_law_order" ["box","most"] 3 (xc 7 1 (eZ fy aX cn)):=
 ⟨⟨f,fd,F.mg,F.F.kp,F.b,xS (ca:=ca) (N:=["box","most","many","rows","lows","pairs","k"]) (k:=2) F.F cK @F_ λcdv A outer s H G b E hr=>
  (ar (bg (i:=2) (bz dJ dM au (o9 0 cf @At aP rfl rfl (ab (ak 1 rfl) af))) cK.nd)
  (ar (mE (i:=3) (NB:=["turn","box","many"]) (own:=1) (ixs:=[0,2]) [] rfl @Id @Ch (ou rfl B.range (bz dJ dM au (o9 0 cf @At aP rfl rfl (ab au af)))) (λH0 G0 par br bx C ex s3 H3 pn=>(dz (i:=0) (show (["turn","box","many"]:@IN).Nodup by decide +kernel))) (λH0 G0 par br bx C ex s3 H3 pn hB1=>cN) (λH0 G0 par br bx C ex s3 H3 pn hB1=>(o9 1 eR @At jq rfl rfl (ab (SE.wv (rF rfl rfl B.list rfl B.range (ae 2))) af))) cK.nd)
  (ar (dw (xr.t (xX (bS (cJ hr.units) eM (ae 2) au (a7 _)) (vd (bS (cJ hr.units) eM (o9 0 cf @At aP rfl rfl (ab au af)) au (a7 _))) @Ch))
  (ar (bg (i:=4) (o9 0 eR @At aP rfl rfl (ab (SE.wv (rF rfl rfl B.list rfl B.range au)) af)) cK.nd)
  (ar (bg (i:=5) (SE.wv (cZ af)) cK.nd)
  (ar (ke PassesOwn.leaving rfl (ou rfl B.range au) (dz (i:=6) cK.nd)
  (az (bg (i:=5) (SE.wv (bz jG pA (ae 5) (bO (NB:=["j","k","lows"]) (own:=1) (ixs:=[6,4]) [] rfl @Id @Ch (ou rfl B.range au) (λH0 G0 par br bx C ex s3 H3 pn=>(dz (i:=0) (show (["j","k","lows"]:@IN).Nodup by decide +kernel))) (λH0 G0 par br bx C ex s3 H3 pn hB2=>(c5 (bS (ji hr.units) eM (ae 0) (ae 1) (a7 _)))) (λH0 G0 par br bx C ex s3 H3 pn hB2=>(bo (ab (aO aG bA (ae 2) (ae 1) @Ch) (ab (aO aG bA (ae 2) (bz dJ dM au (ae 0)) @Ch) af))))))) cK.nd)))
  (az (aU (bo (ab au (ab (cH bJ gW rfl B.tuple (@FM) (a8 pe AB rfl B.sorted (@FM) (ae 5))) af))))))))
  cu)
  (az (aU (bo (ab (ak 2 rfl) (ab (aA mi @At aP rfl rfl (ab (ak 2 rfl) (ab (ak 3 rfl) af))) af))))))))⟩,λds β h=>xU ds β h⟩
abbrev ng:Stmt:=top 64
def lg:aF ["script","box","order","thing","less","few","rows","row","both"] ["script"] (ao ng):=@AC
def Hh {T:Addr}{f:Addr}{fd:FuncData}{gF cV dG fo jd bM o4:@Cl}{dX aX:List D->Int->FB}(F:gr K mg "law" ng ["script"] f fd)(B:gR mg)(nr:bZ P w K mg base ca "_law_box" ["script","k"] 1 gF)(ig:bZ P w K mg base ca "behind_of" ["one","other"] 8 cV)(jY:bZ P w K mg base ca "beside_of" ["one","other"] 8 dG)(kq:bZ P w K mg base ca "without" ["order","thing"] 7 fo)(n0:jy T P w K mg base ca "fewest" ["order"] 90 jd)(dh:jy T P w K mg base ca "fewest_rows" ["order"] 89 bM)(yG:bZ P w K mg base ca "tell" ["thing","order"] 6 o4)(kR:pH P w K mg base "_law_order" ["box","most"] 3 dX)(cf:pH P w K mg base "_law_take" ["box","many"] 1 aX):fM P w K mg base (o6 P w) 91 f fd ["script"] (spT T K ca 1 (aS 9 1 (zW gF cV dG fo jd bM o4 dX aX))):=
 kJ (N:=["script","box","order","thing","less","few","rows","row","both"]) (k:=90) F.F lg λcdv A outer s H G E hcd hT hr=>
  (ar (Hb (i:=1) rfl (CA nr @At aP rfl rfl (ab (ak 0 rfl) (ab au af))) lg.nd)
  (ar (bg (i:=2) (o9 1 kR @At aP rfl rfl (ab au af)) lg.nd)
  (ar (dw (bS (cJ hr.units) eM (aO aG bA (ae 2) au @Ch) au (a7 _))
  (az (aU (kc (c4 (cJ hr.units) eM (aA ig @At aP rfl rfl (ab (ak 2 rfl) (ab (ak 2 rfl) af))) (bo (ab au (ab (bo (ab (bo (ab au (ab au af))) af)) af))) (a7 _)) (kg (c4 (cJ hr.units) eM (aA jY @At aP rfl rfl (ab (ak 2 rfl) (ab (ak 2 rfl) af))) (bo (ab au (ab (bo af) af))) (a7 _))) @Ch)))
  cu)
  (ar (bg (i:=3) (o9 1 cf @At aP rfl rfl (ab (aO aG bA (ae 2) au @Ch) af)) lg.nd)
  (ar (bg (i:=4) (aA kq @At aP rfl rfl (ab (ak 2 rfl) (ab (ak 3 rfl) af))) lg.nd)
  (ar (bg (i:=5) (gq hT n0 @At aP rfl rfl (ab (ak 2 rfl) af)) lg.nd)
  (ar (dw (eB (Ba tX tX BH BH (bz zm DB (ae 5) au) (gq hT n0 @At aP rfl rfl (ab (ak 4 rfl) af)) (ae 5)))
  (az (aU me))
  cu)
  (ar (gY (i:=6) (cZ af) lg.nd)
  (ar (ke PassesOwn.leaving rfl (Jm rfl (gq hT dh @At aP rfl rfl (ab (ak 2 rfl) af))) (dz (i:=7) lg.nd)
  (az (kF 6 (λ_=>rfl) (cH bJ gW rfl B.tuple (@FM) (bO (NB:=["one","thing"]) (own:=1) (ixs:=[3]) [] rfl @Id @Ch (iz rfl (ae 7)) (λH0 G0 par br bx C ex s3 H3 pn=>(dz (i:=0) (show (["one","thing"]:@IN).Nodup by decide +kernel))) (λH0 G0 par br bx C ex s3 H3 pn hB1=>(c5 (bS (ji hr.units) eM (ae 0) (ae 1) (a7 _)))) (λH0 G0 par br bx C ex s3 H3 pn hB1=>(bz zm DB (ae 0) (cH BW Jv rfl B.int (@FM) (c4 DF IU (ae 0) (ae 1) (a7 _))))))))))
  (ar (dw (eB (cA rfl (aA yG @At aP rfl rfl (ab (ak 6 rfl) (ab (ak 4 rfl) af)))))
  (az (aU me))
  cu)
  (ar (ke PassesOwn.leaving rfl (Jm rfl (SE.wv (cZ (ab (aA ig @At aP rfl rfl (ab (ak 2 rfl) (ab (bo (ab au (ab (bo af) af))) af))) (ab (aA jY @At aP rfl rfl (ab (ak 2 rfl) (ab (bo (ab au (ab (bo af) af))) af))) af))))) (dz (i:=8) lg.nd)
  (az (dw (bS (ji hr.units) eM (aA kq @At aP rfl rfl (ab (ak 8 rfl) (ab (aO aG bA (ae 2) au @Ch) af))) (ae 2) (a7 _))
  (az (aU me))
  cu)))
  (az (aU (c4 (cJ hr.units) eM (aA kq @At aP rfl rfl (ab (aA ig @At aP rfl rfl (ab (bo (ab au (ab (bo af) af))) (ab (ak 2 rfl) af))) (ab au af))) (ae 2) (a7 _)))))))))))))))
end
end RQ
namespace RM
open PySem L2
theorem Ej {t u:VF Bool}{vs:List Nv}{β:Int}{a b:Bool}(h:t vs β=.ok a β)(h':u vs β=.ok b β):Ac t u vs β=.ok (a && b) β:=by
 rw[yH,h];dsimp only[R.bnd]
 cases a with
 |true=>rw[OG rfl,h'];rfl
 |false=>rfl
theorem FI {t u:VF Bool}{vs:List Nv}{β:Int}{a b:Bool}(h:t vs β=.ok a β)(h':u vs β=.ok b β):oR t u vs β=.ok (a || b) β:=by
 rw[qr,h];dsimp only[R.bnd]
 cases a with
 |true=>rfl
 |false=>rw[OP OZ,h'];rfl
def fk {t:VF Bool}{vs:List Nv}{β:Int}{a:Bool}(h:t vs β=.ok a β):oH t vs β=.ok (!a) β:=by rw[vk,h];rfl
def y7 {fa:VF D}{vs:List Nv}{β:Int}{l:@A_}{f:Pr->Bool}(h:fa vs β=.ok (.list (l.map λq=>PyData.bool (f q))) β):f1 fa (bK λbs=>bs.all id) vs β=.ok (.bool (l.all f)) β:=by
 refine cU h ?_
 simp only[bK]
 rw[fB]
 simp[Q2]
def upTo (n:Nat)(f:Pr->Bool)(i k:Nat):@A_:=(OM.bP n).filter λp=>(decide (p.1 < i) || (decide (p.1=i) && decide (p.2 < k))) && f p
def DE {n:Nat}(f:Pr->Bool)(i k:Nat)(h8:n<=8):(upTo n f i k).length<=64:=by
 have h1:(upTo n f i k).length<=(OM.bP n).length:=Pu _ _
 rw[dF] at h1
 have:n * n<=64:=P4 h8 h8
 omega
def A8 (n:Nat)(f:Pr->Bool):upTo n f 0 0= []:=by
 unfold upTo
 rw[List.filter_eq_nil_iff]
 intro p hp
 have:=OM.aZ.mp hp
 rw[OR (@AT),OR (p:=p.2 < ((0:Nat):Int)) (@AT)];simp
def CO (n:Nat)(f:Pr->Bool):upTo n f n 0=(OM.bP n).filter f:=by
 unfold upTo
 refine QX λp hp=>?_
 have:=(OM.aZ.mp hp).1.2
 rw[OE this];simp
def Eu (n:Nat)(f:Pr->Bool)(i:Nat):upTo n f i n=upTo n f (i + 1) 0:=by
 unfold upTo
 refine QX λp hp=>?_
 have h:=OM.aZ.mp hp
 congr 1
 rw[PM]
 simp only[Qf,O1,OY]
 omega
def tY {n i k:Nat}(f:Pr->Bool)(hi:i < n)(hk:k < n):upTo n f i (k + 1)=upTo n f i k ++ if f ((i:Int),(k:Int))=true then [((i:Int),(k:Int))] else []:=by
 refine OM.dR (OM.b7 _ (OM.cQ n)) ?_ λx=>?_
 ·show List.Pairwise OM.zI _
  rw[List.pairwise_append]
  refine⟨OM.b7 _ (OM.cQ n),?_,λp hp q hq=>?_⟩
  ·split <;> simp
  ·unfold upTo at hp
   have h1:=(OJ.mp hp).2
   simp only[Qf,O1,OY] at h1
   split at hq
   ·have:q=((i:Int),(k:Int)):=by simpa using hq
    subst this
    show p.1 < (i:Int)\/(p.1=(i:Int)/\p.2 < (k:Int))
    exact h1.1
   ·cases hq
 ·rw[OT]
  unfold upTo
  rw[OJ,OJ,OM.aZ]
  simp only[Qf,O1,OY]
  constructor
  ·rintro⟨h1,h2,h3⟩
   by_cases z:x.1=i/\x.2=k
   ·obtain⟨xa,xb⟩:=x
    simp only at z h3
    obtain⟨rfl,rfl⟩:=z
    rw[OG h3]
    exact .inr (O7.mpr rfl)
   ·exact .inl ⟨h1,@AT,h3⟩
  ·rintro (⟨h1,h2,h3⟩ |h)
   ·exact⟨h1,@AT,h3⟩
   ·split at h
    ·rename_i hf
     have:x=((i:Int),(k:Int)):=by simpa using h
     subst this
     exact⟨⟨⟨by show (0:Int)<=(i:Int);omega,by show (i:Int) < n;omega⟩,by show (0:Int)<=(k:Int);omega,by show (k:Int) < n;omega⟩,.inr ⟨rfl,by show (k:Int) < ((k + 1:Nat):Int);omega⟩,hf⟩
    ·cases h
def tupI (r:@D_):D:=.tuple (r.map int)
def z7 {fa fb:VF D}{vs:List Nv}{β:Int}{r:@D_}{k:Int}(h:fa vs β=.ok (tupI r) β)(h':fb vs β=.ok (.int k) β)(hk:k∈r):oF fa fb vs β=.ok (.int (r.idxOf k:Nat)) β:=by
 unfold oF
 rw[h]
 dsimp only[R.bnd]
 rw[OG (by rfl),h']
 dsimp only[R.bnd,FQ,tupI]
 rw[kI]
 dsimp only
 rw[OG hk];rfl
def vW {r:@D_}{a b:Int}(ha:a∈r)(hb:b∈r)(h:r.idxOf a=r.idxOf b):a=b:=by
 have h1:=Qq (PF.mpr ha)
 have h2:=Qq (PF.mpr hb)
 rw[<-h1,<-h2]
 congr 1
noncomputable def Dj:@Cl:=aS 6 2 i6
def JC (ns:@D_)(k:Nat):∃z,Dj [eN ns,.int k]=.ok (.list [.int z]) true:=by
 show ∃z,fin (i6 [.fz (eN ns),.fz (.int k),.no,.no,.no,.no] 0)=.ok (.list [.int z]) true
 unfold i6
 have e0:f2 (f2 (cst (.int 7919)) (gv 1) dB) (cst (.int 13)) bV [Nv.da (eN ns),.da (.int k),.no,.no,.no,.no] 0=.ok (.int (7919 * k + 13)) 0:=aE (aE (x:=.int 7919) (y:=.int k) rfl rfl (qM ⟨@AT,@AT ⟩)) rfl rfl
 rw[aC (env':=[.fz (eN ns),.fz (.int k),.fz (.int (7919 * k + 13)),.no,.no,.no]) (β':=0) ?h0]
 case h0=>
  show toS (f2 (f2 (cst (.int 7919)) (gv 1) dB) (cst (.int 13)) bV [Nv.da (eN ns),.da (.int k),.no,.no,.no,.no] 0) _=_
  rw[e0];rfl
 obtain⟨c,hc⟩:∃c:Int,kO @GM (cM (f2 (gv 1) (f1 (gv 0) dP) qd)) (bR 2 @GM (f2 (gv 0) (gv 1) bh)) mh [.fz (eN ns),.fz (.int k),.fz (.int (7919 * k + 13)),.no,.no,.no] 0=.nx [.fz (eN ns),.fz (.int k),.fz (.int c),.no,.no,.no] 0:=by
  have e:cM (f2 (gv 1) (f1 (gv 0) dP) qd) (vl [.fz (eN ns),.fz (.int k),.fz (.int (7919 * k + 13)),.no,.no,.no]) 0=.ok (decide ((k:Int) < (ns.map int).length)) 0:=Jg rfl rfl
  by_cases h:k < ns.length
  ·rw[OE (by simp;exact h)] at e
   refine⟨ns[k],?_⟩
   rw[lO e]
   show toS (f2 (gv 0) (gv 1) bh [Nv.da (eN ns),.da (.int k),.da (.int (7919 * k + 13)),.no,.no,.no] 0) _=_
   rw[aE (x:=eN ns) (y:=.int k) (d:=.int ns[k]) (β1:=0) (β2:=0) rfl rfl]
   ·rfl
   ·show l8 (ns.map int) (k:Int)=_
    rw[n9,zt h];rfl
  ·rw[OR (by simp;omega)] at e
   exact⟨_,by rw[iw e];rfl⟩
 rw[aC hc]
 have e1:cM (f2 (f2 (gv 2) (cst (.int 2)) lT) @E_ (cY false)) (vl [.fz (eN ns),.fz (.int k),.fz (.int c),.no,.no,.no]) 0=.ok (decide (c % 2=0)) 0:=dD (neg:=false) (aE rfl rfl (oY (@AT))) rfl
 by_cases h:c % 2=0
 ·rw[OE h] at e1
  refine⟨c / 2,?_⟩
  rw[iV (d:=.list [.int (c / 2)]) (b:=true) (β':=0)]
  ·rfl
  ·rw[lO e1]
   show toS (dI (aa (f2 (gv 2) (cst (.int 2)) Ic) ah) [Nv.da (eN ns),.da (.int k),.da (.int c),.no,.no,.no] 0) _=_
   rw[lJ (ds:=[.int (c / 2)]) (β1:=0)]
   ·rfl
   ·have e2:f2 (gv 2) (cst (.int 2)) Ic [Nv.da (eN ns),.da (.int k),.da (.int c),.no,.no,.no] 0=.ok (.int (c / 2)) 0:=aE (x:=.int c) rfl rfl (HB (@AT) (@AT))
    rw[bX,e2];rfl
   ·simp
 ·rw[OR h] at e1
  rw[aC (env':=[.fz (eN ns),.fz (.int k),.fz (.int c),.no,.no,.no]) (β':=0) (by rw[iw e1];rfl)]
  rw[aC (env':=[.fz (eN ns),.fz (.int k),.fz (.int c),.fz (.int 0),.no,.no]) (β':=0) (by rfl)]
  obtain⟨env',β',el,z,x,y,rfl,rfl⟩:=ic (t:=.nm 4) (m:=aL (bR 5 ((((@GM ++ []) ++ @GM) ++ []) ++ []) (f2 (f2 (f2 (f2 (f2 (gv 2) (cst (.int 2147483647)) lT) (cst (.int 48271)) dB) (f2 (cst (.int 7919)) (gv 4) dB) bV) @Do bV) (cst (.int 2147483647)) lT))
    (aL (bR 5 (@GM ++ []) (f2 (f2 (gv 5) (gv 5) dB) (cst (.int 2147483629)) lT))
    (bR 3 (@GM ++ (([] ++ @GM) ++ [])) (f2 (f2 (gv 3) (cst (.int 2147483647)) dB) (f2 (f2 (gv 5) (f2 (gv 5) (cst (.int 13)) bV) dB) (cst (.int 2147483647)) lT) bV)))) (ds:=gf 0 16) (k:=0)
   (λ_ env β=>∃(z:Int) (x y:Sl),env= [.fz (eN ns),.fz (.int k),.fz (.int c),.fz (.int z),x,y]/\β=0) (env:=[.fz (eN ns),.fz (.int k),.fz (.int c),.fz (.int 0),.no,.no]) (β:=0) ⟨0,.no,.no,rfl,rfl⟩ (by
    rintro i d env β hi ⟨z,x,y,rfl,rfl⟩
    obtain⟨_,rfl⟩:=l6 hi
    generalize (0 + (i:Int))=j
    refine⟨[.fz (eN ns),.fz (.int k),.fz (.int c),.fz (.int z),.fz (.int j),y],rfl,?_⟩
    have b1:0<=c % 2147483647/\c % 2147483647 < 2147483647:=⟨QG _ (@AT),QC _ (@AT)⟩
    have a1:f2 (f2 (f2 (f2 (f2 (gv 2) (cst (.int 2147483647)) lT) (cst (.int 48271)) dB) (f2 (cst (.int 7919)) (gv 4) dB) bV) @Do bV) (cst (.int 2147483647)) lT (vl [.fz (eN ns),.fz (.int k),.fz (.int c),.fz (.int z),.fz (.int j),y]) 0=.ok (.int ((c % 2147483647 * 48271 + 7919 * j + 1) % 2147483647)) 0:=
     aE (aE (aE (aE (aE (x:=.int c) rfl rfl (oY (@AT))) rfl (D0 ⟨@AT,@AT ⟩)) (aE (x:=.int 7919) (y:=.int j) rfl rfl (qM ⟨@AT,@AT ⟩)) rfl) rfl rfl) rfl (oY (@AT))
    generalize hp:(c % 2147483647 * 48271 + 7919 * j + 1) % 2147483647=p at a1
    have bp:0<=p/\p < 2147483647:=by rw[<-hp];exact⟨QG _ (@AT),QC _ (@AT)⟩
    rw[aC (env':=[.fz (eN ns),.fz (.int k),.fz (.int c),.fz (.int z),.fz (.int j),.fz (.int p)]) (β':=0) ?k1]
    case k1=>rw[b8,a1];rfl
    have a2:f2 (f2 (gv 5) (gv 5) dB) (cst (.int 2147483629)) lT (vl [.fz (eN ns),.fz (.int k),.fz (.int c),.fz (.int z),.fz (.int j),.fz (.int p)]) 0=.ok (.int (p * p % 2147483629)) 0:=
     aE (aE (x:=.int p) (y:=.int p) rfl rfl (qM ⟨@AT,@AT ⟩)) rfl (oY (@AT))
    generalize hq:p * p % 2147483629=q at a2
    have bq:0<=q/\q < 2147483629:=by rw[<-hq];exact⟨QG _ (@AT),QC _ (@AT)⟩
    rw[aC (env':=[.fz (eN ns),.fz (.int k),.fz (.int c),.fz (.int z),.fz (.int j),.fz (.int q)]) (β':=0) ?k2]
    case k2=>rw[b8,a2];rfl
    have a3:f2 (f2 (gv 3) (cst (.int 2147483647)) dB) (f2 (f2 (gv 5) (f2 (gv 5) (cst (.int 13)) bV) dB) (cst (.int 2147483647)) lT) bV (vl [.fz (eN ns),.fz (.int k),.fz (.int c),.fz (.int z),.fz (.int j),.fz (.int q)]) 0=.ok (.int (z * 2147483647 + q * (q + 13) % 2147483647)) 0:=
     aE (aE (x:=.int z) rfl rfl (D0 ⟨@AT,@AT ⟩)) (aE (aE (x:=.int q) (y:=.int (q + 13)) rfl rfl (qM ⟨@AT,@AT ⟩)) rfl (oY (@AT))) rfl
    refine⟨[.fz (eN ns),.fz (.int k),.fz (.int c),.fz (.int (z * 2147483647 + q * (q + 13) % 2147483647)),.fz (.int j),.fz (.int q)],0,?_,_,_,_,rfl,rfl⟩
    rw[b8,a3];rfl)
  refine⟨z,?_⟩
  rw[aC (env':=[.fz (eN ns),.fz (.int k),.fz (.int c),.fz (.int z),x,y]) (β':=0) ?h2]
  case h2=>exact el
  show fin (toS (dI (aa (gv 3) ah) [.da (eN ns),.da (.int k),.da (.int c),.da (.int z),x.val,y.val] 0) _)=_
  rw[lJ (ds:=[.int z]) (β1:=0) rfl (by simp)]
  rfl
noncomputable def tV:List D->Int->FB:=xc 4 1 (eV fA)
def Jw (ns:@D_)(hz:ns.length<=100)(β:Int):∃(ms:@D_) (β':Int),tV [.list (ns.map int)] β=.ok (tupI ms) false β'/\ms.Perm ns:=by
 show ∃(ms:@D_) (β':Int),E9 (eV fA [.bx,.fz (.list (ns.map int)),.no,.no] β)=.ok (tupI ms) false β'/\ms.Perm ns
 unfold eV
 rw[aC (env':=[.bx,.fz (.list (ns.map int)),.ow (.list (ns.map int)),.no]) (β':=β) (by rfl)]
 have ez:dI ah [Nv.bx,.da (.list (ns.map int)),.da (.list (ns.map int)),.no] β=.ok (.list []) β:=lJ rfl (by simp)
 rw[aC (env':=[.bx,.fz (.list (ns.map int)),.ow (.list (ns.map int)),.ow (.list [])]) (β':=β) ?h]
 case h=>
  show toS (dI ah [Nv.bx,.da (.list (ns.map int)),.da (.list (ns.map int)),.no] β) _=_
  rw[ez];rfl
 obtain⟨env',β',ew,ms,rfl,hp⟩:=jc (L:=[] ++ []) (t:=cM (f2 (gv 2) (dI ah) (cY true))) (m:=lE 3 2 @GM (pN 0 fA (aa (f1 (gv 2) dP) ah)))
  (λk env β=>∃ls ms:@D_,env= [.bx,.fz (.list (ns.map int)),.ow (.list (ls.map int)),.ow (.list (ms.map int))]/\(ms ++ ls).Perm ns/\k=ls.length)
  (λenv β=>∃ms:@D_,env= [.bx,.fz (.list (ns.map int)),.ow (.list []),.ow (.list (ms.map int))]/\ms.Perm ns) (n:=1000) (k:=ns.length) (env:=[.bx,.fz (.list (ns.map int)),.ow (.list (ns.map int)),.ow (.list [])]) (β:=β) (@AT) ⟨ns,[],rfl,by simp,rfl⟩ (by
   rintro k env β ⟨ls,ms,rfl,hp,rfl⟩
   have e1:dI ah [Nv.bx,.da (.list (ns.map int)),.da (.list (ls.map int)),.da (.list (ms.map int))] β=.ok (.list (([]:@D_).map int)) β:=lJ rfl (by simp)
   have et:cM (f2 (gv 2) (dI ah) (cY true)) [Nv.bx,.da (.list (ns.map int)),.da (.list (ls.map int)),.da (.list (ms.map int))] β=.ok (!decide (ls= [])) β:=
    dZ _ _ _ _ (aE (x:=.list (ls.map int)) rfl e1 (by rw[DA];rfl))
   refine⟨_,_,et,?_⟩
   have hlen:=hp.length_eq
   rw[O9] at hlen
   cases ls with
   |nil=>exact .inl ⟨rfl,ms,rfl,by simpa using hp⟩
   |cons y ys=>
    refine .inr ⟨rfl,?_⟩
    have hm:(0:Int) < ((y :: ys).length:Nat)/\(((y :: ys).length:Nat):Int) < 1073741824:=by
     have:(y :: ys).length<=100:=@AT
     constructor
     ·simp
     ·omega
    obtain⟨j,hj⟩:∃j:Nat,β % (((y :: ys).length:Nat):Int)=j:=⟨(β % (((y :: ys).length:Nat):Int)).toNat,by have:=QG β (b:=(((y :: ys).length:Nat):Int)) (@AT);omega⟩
    have hj2:j < (y :: ys).length:=by have:=QC β hm.1;omega
    have ef:pN 0 fA (aa (f1 (gv 2) dP) ah) [Nv.bx,.da (.list (ns.map int)),.da (.list ((y :: ys).map int)),.da (.list (ms.map int))] β=.ok (.int (j:Int)) (β / (((y :: ys).length:Nat):Int)):=by
     refine mq (ds:=[.int (((y :: ys).length:Nat):Int)]) (b:=false) (by rfl) ?_ (by rw[uH hm.1 hm.2,hj])
     show R.ok [int ((((y :: ys).map int).length:Nat):Int)] β=_
     rw[OH]
    have hpop:BI ((y :: ys).map int) (.int (j:Int))=some (.int (y :: ys)[j],((y :: ys).eraseIdx j).map int):=by
     unfold BI
     dsimp only
     rw[OG ⟨@AT,@AT ⟩]
     have es:seqIndex? (j:Int) ((y :: ys).map int).length=some j:=by
      rw[OH]
      exact PySem.StrLaws.seqIndex_nonneg (@AT) (@AT)
     rw[es]
     dsimp only
     rw[OU,OD hj2,ub];rfl
    refine⟨[.bx,.fz (.list (ns.map int)),.ow (.list (((y :: ys).eraseIdx j).map int)),.ow (.list ((ms ++ [(y :: ys)[j]]).map int))],β / (((y :: ys).length:Nat):Int),((y :: ys).eraseIdx j).length,?_,?_,(y :: ys).eraseIdx j,ms ++ [(y :: ys)[j]],rfl,?_,rfl⟩
    ·show lE 3 2 @GM (pN 0 fA (aa (f1 (gv 2) dP) ah)) [.bx,.fz (.list (ns.map int)),.ow (.list ((y :: ys).map int)),.ow (.list (ms.map int))] β=_
     rw[yx (ds:=ms.map int) (es:=(y :: ys).map int) (by rfl) (by rfl) @F_ ef (by rfl) hpop (by rw[OH];omega),Pn]
     rfl
    ·rw[List.length_eraseIdx]
     rw[OG hj2]
     show (y :: ys).length - 1 < (y :: ys).length
     simp
    ·rw[Qu]
     exact (List.Perm.append_left ms (rE (OD hj2))).trans hp)
 refine⟨ms,β',?_,hp⟩
 rw[aC ew]
 rfl
def pf (rows:List (@D_))(p:Pr):Bool:= !decide (p.1=p.2) && rows.all λr=>decide (r.idxOf p.1 < r.idxOf p.2)
def GL {α:Type}{fa:VF D}{vs:List Nv}{β:Int}{l:List α}{f:α->Bool}(h:fa vs β=.ok (.list (l.map λq=>PyData.bool (f q))) β):f1 fa (bK λbs=>bs.all id) vs β=.ok (.bool (l.all f)) β:=by
 refine cU h ?_
 simp only[bK]
 rw[fB]
 simp[Q2]
def qK:@Cl:=aS 5 2 jB
def FL {n:Nat}{rows:List (@D_)}(h8:n<=8)(hr:rows.length<=100)(hp:∀r,r∈rows->r.Perm (bN n)):qK [.int n,.list (rows.map tupI)]=.ok (.tuple (((OM.bP n).filter (pf rows)).map ax)) false:=by
 show fin (jB [.fz (.int n),@Go,.no,.no,.no] 0)=_
 unfold jB
 rw[aC (env':=[.fz (.int n),@Go,.ow (.list []),.no,.no]) (β':=0) ?g1]
 case g1=>rw[kz,lJ (ds:=[]) rfl (by simp)];rfl
 obtain⟨env',β',ef,s,t,rfl,rfl⟩:=ic (t:=.nm 3) (m:=iO (.nm 4) [] (gm (gv 0))
   (kO (@GM ++ @GM) (Ac (cM (f2 (gv 3) (gv 4) (cY true))) (iS (f1 (aM 1 [3,4] (.nm 0) (bc (gv 1)) j0 (f2 (oF (gv 0) (gv 1)) (oF (gv 0) (gv 2)) qd)) (bK λbs=>bs.all id))))
   (nC 2 ([3] ++ ([4] ++ [])) (bD (aa (gv 3) (aa (gv 4) ah))))
   mh)) (ds:=gf 0 n) (k:=0)
  (λi env β=>∃s t:Sl,env= [.fz (.int n),@Go,.ow (.list ((upTo n (pf rows) i 0).map ax)),s,t]/\β=0)
  (env:=[.fz (.int n),@Go,.ow (.list []),.no,.no]) (β:=0) ⟨.no,.no,by rw[A8];rfl,rfl⟩ (by
   rintro i d env β hi ⟨s,t,rfl,rfl⟩
   obtain⟨hin,rfl⟩:=l6 hi
   refine⟨[.fz (.int n),@Go,.ow (.list ((upTo n (pf rows) (0 + i) 0).map ax)),.fz (.int (0 + (i:Int))),t],rfl,?_⟩
   rw[PR,Qp]
   obtain⟨env',β',ef,t2,rfl,rfl⟩:=ic (t:=.nm 4) (m:=kO (@GM ++ @GM) (Ac (cM (f2 (gv 3) (gv 4) (cY true))) (iS (f1 (aM 1 [3,4] (.nm 0) (bc (gv 1)) j0 (f2 (oF (gv 0) (gv 1)) (oF (gv 0) (gv 2)) qd)) (bK λbs=>bs.all id))))
     (nC 2 ([3] ++ ([4] ++ [])) (bD (aa (gv 3) (aa (gv 4) ah))))
     mh) (ds:=gf 0 n) (k:=0)
    (λk env β=>∃t:Sl,env= [.fz (.int n),@Go,.ow (.list ((upTo n (pf rows) i k).map ax)),.fz (.int i),t]/\β=0)
    (env:=[.fz (.int n),@Go,.ow (.list ((upTo n (pf rows) i 0).map ax)),.fz (.int i),t]) (β:=0) ⟨t,rfl,rfl⟩ (by
     rintro k d env β hk ⟨t,rfl,rfl⟩
     obtain⟨hkn,rfl⟩:=l6 hk
     refine⟨[.fz (.int n),@Go,.ow (.list ((upTo n (pf rows) i (0 + k)).map ax)),.fz (.int i),.fz (.int (0 + (k:Int)))],rfl,?_⟩
     rw[PR,Qp]
     have ec:aM 1 [3,4] (.nm 0) (bc (gv 1)) j0 (f2 (oF (gv 0) (gv 1)) (oF (gv 0) (gv 2)) qd) (vl [.fz (.int n),@Go,.ow (.list ((upTo n (pf rows) i k).map ax)),.fz (.int i),.fz (.int k)]) 0=.ok (.list (rows.map λr=>PyData.bool (decide (r.idxOf (i:Int) < r.idxOf (k:Int))))) 0:=by
      refine bY (l:=rows) (e:=tupI) (λr=>PyData.bool (decide (r.idxOf (i:Int) < r.idxOf (k:Int)))) rfl (@AT) λr hr=>⟨_,rfl,?_⟩
      have hp:=hp r hr
      refine aE (z7 (r:=r) (k:=i) rfl rfl (hp.mem_iff.mpr (aJ.mpr ⟨@AT,@AT ⟩))) (z7 (r:=r) (k:=k) rfl rfl (hp.mem_iff.mpr (aJ.mpr ⟨@AT,@AT ⟩))) ?_
      show some (PyData.bool (decide (((r.idxOf (i:Int):Nat):Int) < ((r.idxOf (k:Int):Nat):Int))))=_
      congr 2
      rw[PM,OY,OY]
      omega
     have et:Ac (cM (f2 (gv 3) (gv 4) (cY true))) (iS (f1 (aM 1 [3,4] (.nm 0) (bc (gv 1)) j0 (f2 (oF (gv 0) (gv 1)) (oF (gv 0) (gv 2)) qd)) (bK λbs=>bs.all id))) (vl [.fz (.int n),@Go,.ow (.list ((upTo n (pf rows) i k).map ax)),.fz (.int i),.fz (.int k)]) 0=.ok (pf rows ((i:Int),(k:Int))) 0:=
      Ej (dD (neg:=true) (i:=i) (j:=k) rfl rfl) (fq (GL ec))
     have hl:=DE (pf rows) i k h8
     by_cases c:pf rows ((i:Int),(k:Int))=true
     ·rw[c] at et
      refine⟨[.fz (.int n),@Go,.ow (.list ((upTo n (pf rows) i (k + 1)).map ax)),.fz (.int i),.fz (.int k)],0,?_,_,rfl,rfl⟩
      rw[lO et,tY (pf rows) hin hkn,OG c,Pn]
      exact qb (i:=2) (L:=[3] ++ ([4] ++ [])) (env:=[.fz (.int n),@Go,.ow (.list ((upTo n (pf rows) i k).map ax)),.fz (.int i),.fz (.int k)]) (ds:=(upTo n (pf rows) i k).map ax) (by rfl) (cC rfl rfl) (by rfl) (by rw[OH];omega)
     ·rw[Bool.not_eq_true] at c
      rw[c] at et
      refine⟨[.fz (.int n),@Go,.ow (.list ((upTo n (pf rows) i (k + 1)).map ax)),.fz (.int i),.fz (.int k)],0,?_,_,rfl,rfl⟩
      rw[iw et,tY (pf rows) hin hkn,c]
      simp)
   rw[gx,PR,Eu] at ef
   refine⟨[.fz (.int n),@Go,.ow (.list ((upTo n (pf rows) (i + 1) 0).map ax)),.fz (.int i),t2],0,?_,_,_,rfl,rfl⟩
   rw[fR (env:=[.fz (.int n),@Go,.ow (.list ((upTo n (pf rows) i 0).map ax)),.fz (.int i),t]) (iE (n:=n) (β1:=0) rfl (@AT))]
   exact ef)
 rw[gx,PR,CO] at ef
 rw[aC (env':=[.fz (.int n),@Go,.ow (.list (((OM.bP n).filter (pf rows)).map ax)),s,t]) (β':=0) ?g2]
 case g2=>
  rw[fR (env:=[.fz (.int n),@Go,.ow (.list []),.no,.no]) (iE (n:=n) (β1:=0) rfl (@AT))]
  exact ef
 rfl
def p0 {rows:List (@D_)}{p:Pr}:pf rows p=true↔p.1≠p.2/\∀r,r∈rows->r.idxOf p.1 < r.idxOf p.2:=by
 unfold pf
 rw[O1,QJ,P2,O4]
 simp only[OY]
def B6 {n:Nat}{rows:List (@D_)}(h1:1<=n)(h8:n<=8)(hne:rows≠ []):OM.Ord n ((OM.bP n).filter (pf rows)):=by
 refine⟨h1,h8,λp hm=>OM.aZ.mp (OJ.mp hm).1,OM.b7 _ (OM.cQ n),λa h=>?_,λa b c hab hbc=>?_⟩
 ·exact (p0.mp (OJ.mp h).2).1 rfl
 ·obtain⟨g1,t1⟩:=OJ.mp hab
  obtain⟨g2,t2⟩:=OJ.mp hbc
  have g1:=OM.aZ.mp g1
  have g2:=OM.aZ.mp g2
  obtain⟨n1,q1⟩:=p0.mp t1
  obtain⟨n2,q2⟩:=p0.mp t2
  refine OJ.mpr ⟨OM.aZ.mpr ⟨g1.1,g2.2⟩,p0.mpr ⟨λe=>?_,λr hr=>Rk (q1 r hr) (q2 r hr)⟩⟩
  simp only at e q1 q2
  subst e
  cases rows with
  |nil=>exact hne rfl
  |cons r rest=>
   have hr:r∈r :: rest:=ON ..
   exact absurd (Rk (q1 r hr) (q2 r hr)) (Pf _)
theorem qW {α:Type}{t:Tg}{fe:VF D}{vs:List Nv}(e:α->D)(P:α->Prop):∀{ds:List D} {β:Int},(∀d,d∈ds->∃vs1,nY t d vs=some vs1/\∀β,∃a β',fe vs1 β=.ok (e a) β'/\P a)->
  ∃(as:List α) (β':Int),iq t j0 fe vs ds β=.ok (as.map e) β'/\as.length=ds.length/\∀a,a∈as->P a
 | [],β,_=>⟨[],β,rfl,rfl,λa h=>(by cases h)⟩
 |d :: ds,β,h=>by
  obtain⟨vs1,hb,hf⟩:=h d (ON ..)
  obtain⟨a,β1,ef,pa⟩:=hf β
  obtain⟨as,β2,ec,hl,hP⟩:=qW e P (ds:=ds) (β:=β1) λd' hd=>h d' (OQ _ hd)
  refine⟨a :: as,β2,?_,by rw[O8,O8,hl],λx hx=>?_⟩
  ·unfold iq
   rw[hb]
   dsimp only[j0,R.okb]
   rw[OG rfl,ef]
   dsimp only
   rw[ec];rfl
  ·rcases OK.mp hx with z |z
   ·rw[z];exact pa
   ·exact hP x z
def BA {N:Nat}{l:@A_}(h1:1<=N)(h8:N<=8)(w:OM.Wn N l)(nd:l.Nodup)(irr:∀a,(a,a)∉l):kZ (.list (l.map ax))=some (.list ((OM.c9 8 (OM.Mem l)).map ax)):=by
 simp only[kZ,gB]
 rw[OG ⟨DT h8 w,nd,zG h1 h8 w nd irr⟩]
def EG (z:Int)(p:Pr):Pr:=(p.1 + z,p.2 + z)
def kK (n:Nat)(l k:@A_):@A_:=l ++ k.map (EG n)
def iQ {n:Nat}{l k:@A_}{p:Pr}:p∈kK n l k↔p∈l\/(p.1 - n,p.2 - n)∈k:=by
 unfold kK
 rw[OT,O3]
 refine or_congr Iff.rfl ⟨?_,λh=>⟨_,h,?_⟩⟩
 ·rintro⟨q,hq,rfl⟩
  have:((EG n q).1 - (n:Int),(EG n q).2 - (n:Int))=q:=by
   obtain⟨a,b⟩:=q
   show (a + (n:Int) - n,b + (n:Int) - n)=(a,b)
   rw[Int.add_sub_cancel,Int.add_sub_cancel]
  rw[this];exact hq
 ·obtain⟨a,b⟩:=p
  show (a - (n:Int) + n,b - (n:Int) + n)=(a,b)
  rw[Int.sub_add_cancel,Int.sub_add_cancel]
section
variable {n m:Nat}{l k:@A_}
def CQ (O:OM.Ord n l)(O':OM.Ord m k):OM.Wn (n + m) (kK n l k):=λp hp=>by
 rcases iQ.mp hp with h |h
 ·have:=O.wn p h;omega
 ·have:=O'.wn _ h;simp only at this;omega
def zD (O:OM.Ord n l)(O':OM.Ord m k):OM.vh (kK n l k):=by
 show List.Pairwise OM.zI _
 unfold kK
 rw[List.pairwise_append,Qv]
 refine⟨O.ris,O'.ris.imp λ{a b} h=>?_,λp hp q hq=>?_⟩
 ·unfold OM.zI at h ⊢
  unfold EG
  simp only
  omega
 ·obtain⟨r,hr,rfl⟩:=O3.mp hq
  have h1:=O.wn p hp
  have h2:=O'.wn r hr
  unfold OM.zI EG
  simp only
  omega
def zQ (O:OM.Ord n l)(O':OM.Ord m k)(a:Int):(a,a)∉kK n l k:=λh=>by
 rcases iQ.mp h with h |h
 ·exact O.irr a h
 ·exact O'.irr _ h
def oh (N n i:Nat):@A_:=(OM.bP N).filter λp=>decide (p.1 < i) && decide ((n:Int)<=p.2)
def lH {N n i:Nat}{p:Pr}:p∈oh N n i↔((0<=p.1/\p.1 < N)/\(0<=p.2/\p.2 < N))/\p.1 < i/\(n:Int)<=p.2:=by
 unfold oh
 rw[OJ,OM.aZ,O1,OY,OY]
def FE (N n i:Nat):OM.vh (oh N n i):=OM.b7 _ (OM.cQ N)
def Ec (O:OM.Ord n l)(O':OM.Ord m k){i:Nat}(hi:i<=n):OM.Wn (n + m) (kK n l k ++ oh (n + m) n i)/\(kK n l k ++ oh (n + m) n i).Nodup/\∀a,(a,a)∉kK n l k ++ oh (n + m) n i:=by
 refine⟨λp hp=>?_,?_,λa h=>?_⟩
 ·rcases OT.mp hp with h |h
  ·exact CQ O O' p h
  ·exact (lH.mp h).1
 ·rw[QY]
  refine⟨OM.kH (zD O O'),OM.kH (FE _ _ _),λp hp q hq e=>?_⟩
  subst e
  have h2:=lH.mp hq
  rcases iQ.mp hp with h |h
  ·have:=O.wn p h;omega
  ·have:=O'.wn _ h;simp only at this;omega
 ·rcases OT.mp h with h |h
  ·exact zQ O O' a h
  ·have:=lH.mp h;simp only at this;omega
end
def Ka {n m:Nat}{l k:@A_}(O:OM.Ord n l)(O':OM.Ord m k)(h8:n + m<=8){i:Nat}(hi:i<=n):(kK n l k ++ oh (n + m) n i).length < 64:=by
 have h1:=O.lo
 obtain⟨a,b,c⟩:=Ec O O' hi
 exact zG (@AT) h8 a b c
noncomputable def NJ:@Cl:=aS 2 2 (jZ iD)
def N1 {n m:Nat}{l k:@A_}(O:OM.Ord n l)(O':OM.Ord m k):NJ [ag n l,ag m k]=.ok .none false:=by
 show fin (jZ iD [@Db,.fz (ag m k)] 0)=_
 unfold jZ
 rw[aC (env':=[@Db,.fz (ag m k)]) (β':=0) ?a,ip,aq (ds:=[ag m k]) (β1:=0) rfl (nI O')]
 ·rfl
 case a=>rw[ip,aq (ds:=[ag n l]) (β1:=0) rfl (nI O)];rfl
def Ht:@Cl:=aS 2 2 fV
def LI {n:Nat}{l:@A_}(hl:l.length<=1000)(z:Int):Ht [ag n l,.int z]=.ok (.list ((l.map (EG z)).map ax)) true:=by
 show fin (fV [@Db,.fz (.int z)] 0)=_
 unfold fV
 have e:aM 2 [1] (.two 0 1) (bc (f2 (gv 0) @Do bh)) j0 (bD (aa (f2 (gv 0) (gv 2) bV) (aa (f2 (gv 1) (gv 2) bV) ah))) (vl [@Db,.fz (.int z)]) 0=.ok (.list (l.map λp=>ax (EG z p))) 0:=
  bY (l:=l) (e:=ax) (λp=>ax (EG z p)) rfl hl λp hp=>⟨[.da (.int p.1),.da (.int p.2),.da (.int z)],rfl,cC (a:=p.1 + z) (b:=p.2 + z) rfl rfl⟩
 rw[ra,e,QE];rfl
def yi (n:Nat)(l:@A_):SeqAt.shaped (ag n l)=true:=by
 unfold SeqAt.shaped
 have h1:(ag n l).canLay0=true:=by
  simp only[ag,PyData.canLay0,PyData.canLayAll0,vF];rfl
 have h2:(ag n l).depth<=64:=by
  have:=uG l
  simp only[ag,PyData.depth,PyData.depthAll];omega
 rw[h1,OE h2];rfl
def Gs:D->Bool
 | .tuple _=>true
 |_=>false
theorem Fl {d:D}(h:Gs d=true):∃ds,d=.tuple ds:=by
 cases d with
 |tuple ds=>exact⟨ds,rfl⟩
 |_=>cases h
def C1 {d:D}(h:eJ d=false):j8 "tuple" d=some (.bool (Gs d)):=by
 unfold j8;rw[h];cases d <;> rfl
section
variable {fa fb:VF D}{vs:List Nv}{β:Int}
def LV {d:D}(ha:fa vs β=.ok d β)(h:eJ d=false):iS (f1 fa (j8 "tuple")) vs β=.ok (Gs d) β:=fq (cU ha (C1 h))
def zJ {l:List D}{f:D->Bool}(h:fa vs β=.ok (.list (l.map λq=>PyData.bool (f q))) β):f1 fa (bK λbs=>bs.all id) vs β=.ok (.bool (l.all f)) β:=by
 refine cU h ?_
 simp only[bK]
 rw[fB]
 simp[Q2]
def LC {ds:List D}(ha:fa vs β=.ok (.tuple ds) β):f1 fa dP vs β=.ok (.int ds.length) β:=cU ha rfl
def Hy {t u:VF Bool}(h:t vs β=.ok true β):oR t u vs β=.ok true β:=by rw[qr,h];rfl
def z5 {t u:VF Bool}{c:Bool}(h:t vs β=.ok false β)(h':u vs β=.ok c β):oR t u vs β=.ok c β:=by rw[qr,h];exact h'
def Hv (h:fa vs β=.ok (.bool false) β):fX fa fb vs β=.ok (.bool false) β:=by unfold fX;rw[h];rfl
def D6 {d:D}(h:fa vs β=.ok (.bool true) β)(h':fb vs β=.ok d β):fX fa fb vs β=.ok d β:=by unfold fX;rw[h];exact h'
def N3 (h:fa vs β=.ok (.bool true) β):Ku fa fb vs β=.ok (.bool true) β:=by unfold Ku;rw[h];rfl
def NR {d:D}(h:fa vs β=.ok (.bool false) β)(h':fb vs β=.ok d β):Ku fa fb vs β=.ok d β:=by unfold Ku;rw[h];exact h'
end
def Sq (c k:Nat)(d:D):Prop:=d.showable=true/\d.depth<=k/\d.shown.length<=c
def Sq.mono {c k c' k':Nat}{d:D}(h:Sq c k d)(h1:c<=c')(h2:k<=k'):Sq c' k' d:=⟨h.1,PB h.2.1 h2,PB h.2.2 h1⟩
theorem CS {c k:Nat}:∀{ds:List D},(∀d,d∈ds->Sq c k d)->PyData.showableAll ds=true/\PyData.depthAll ds<=k/\(∀t,t∈PyData.shownAll ds->t.length<=c)/\(PyData.shownAll ds).length=ds.length
 | [],_=>⟨by simp[PyData.showableAll],by simp[PyData.depthAll],λt h=>by simp[PyData.shownAll] at h,by simp[PyData.shownAll]⟩
 |d :: ds,h=>by
  obtain⟨h1,h2,h3,h4⟩:=CS λx hx=>h x (OQ _ hx)
  obtain⟨q1,q2,q3⟩:=h d (ON ..)
  refine⟨?_,?_,λt ht=>?_,?_⟩
  ·rw[PyData.showableAll,q1,h1];rfl
  ·rw[PyData.depthAll];omega
  ·rw[PyData.shownAll] at ht
   rcases OK.mp ht with rfl |ht
   ·exact q3
   ·exact h3 t ht
  ·rw[PyData.shownAll,O8,O8,h4]
theorem xu {c:Nat}:∀{ts:@IN},(∀t,t∈ts->t.length<=c)->(Str.join ", " ts).length<=(c + 2) * ts.length
 | [],_=>by show (Str.join ", " []).length<=_;exact Pz _
 | [x],h=>by
  have:=h x (ON ..)
  show x.length<=(c + 2) * 1
  omega
 |x :: y :: r,h=>by
  have ih:=xu (ts:=y :: r) λt ht=>h t (OQ _ ht)
  have:=h x (ON ..)
  show (x ++ ", " ++ Str.join ", " (y :: r)).length<=_
  rw[strLen_append,strLen_append]
  have e2:((", ":String):Str).length=2:=rfl
  rw[e2]
  have e:(c + 2) * (x :: y :: r).length=(c + 2) * (y :: r).length + (c + 2):=by rw[O8,Nat.mul_succ]
  omega
def DU {c k:Nat}{ds:List D}(h:∀d,d∈ds->Sq c k d):Sq (3 + (c + 2) * ds.length) (k + 1) (.tuple ds):=by
 obtain⟨h1,h2,h3,h4⟩:=CS h
 refine⟨by rw[PyData.showable];exact h1,by rw[PyData.depth];omega,?_⟩
 rw[PyData.shown]
 unfold tupleText
 rw[strLen_append,strLen_append]
 have j:=xu h3
 rw[h4] at j
 have e1:((("(":String):Str)).length=1:=rfl
 have e3:((if (PyData.shownAll ds).length == 1 then ",)" else ")":String):Str).length<=2:=by split <;> exact by decide
 rw[e1]
 omega
def Bf (d:D):Prop:=Ks d=true
theorem CD:∀{ds:List D},(∀d,d∈ds->Bf d)->EA ds=true
 | [],_=>rfl
 |d :: ds,h=>by
  have h1:=CD λx hx=>h x (OQ _ hx)
  have q1:Ks d=true:=h d (ON ..)
  rw[EA,q1,h1];rfl
def DQ {ds:List D}(h:∀d,d∈ds->Bf d):Bf (.tuple ds):=by show Ks (.tuple ds)=true;rw[Ks];exact CD h
def NA:@D_:=[-1,0,1,2,3,4,5,6,7,8,9]
def DG:∀i∈NA,(int i).showable=true/\(int i).shown.length<=20:=@FM
def Aq {i:Int}(h: -1<=i/\i<=9):i∈NA:=by
 simp only[NA,OK,Pw,Qm]
 omega
def EL (d:D):Prop:=d=.none\/(∃b,d=.bool b)\/∃i:Int,d=.int i/\ -1<=i/\i<=9
def EL.sq {d:D}(h:EL d):Sq 20 0 d:=by
 rcases h with rfl | ⟨b,rfl⟩ | ⟨i,rfl,h⟩
 ·exact⟨by simp[PyData.showable],by simp[PyData.depth],by rw[PyData.shown];decide⟩
 ·exact⟨by simp[PyData.showable],by simp[PyData.depth],by rw[PyData.shown];cases b <;> decide⟩
 ·exact⟨(DG i (Aq h)).1,by simp[PyData.depth],(DG i (Aq h)).2⟩
def EL.bf {d:D}(h:EL d):Bf d:=by
 rcases h with rfl | ⟨b,rfl⟩ | ⟨i,rfl,h⟩ <;> exact by simp[Bf,Ks]
def EL.scr {d:D}(h:EL d):eJ d=false:=by
 rcases h with rfl | ⟨b,rfl⟩ | ⟨i,rfl,h⟩ <;> rfl
section
variable {vs:List Nv}{β β1 β2:Int}{fa:VF D}{fr:VF (List D)}{d:D}{ds:List D}
def ac {fa:VF D}{fr:VF (List D)}(h:fa vs β=.ok d β)(h':fr vs β=.ok ds β):aa fa fr vs β=.ok (d :: ds) β:=by rw[bX,h];dsimp only[R.bnd];rw[h']
def an:ah vs β=.ok [] β:=rfl
def tp (h:fr vs β=.ok ds β)(hz:ds.length<=1000:=by simp):bD fr vs β=.ok (.tuple ds) β:=gn h hz
def lp (h:fr vs β=.ok ds β)(hz:ds.length<=1000:=by simp):dI fr vs β=.ok (.list ds) β:=lJ h hz
def ck (d:D):cst d vs β=.ok d β:=rfl
end
def Aa {i:Int}(h: -1<=i/\i<=9):EL (.int i):=.inr (.inr ⟨i,rfl,h⟩)
def C9 {d:D}(h:eJ d=false):j8 "list" d=some (.bool (match d with | .list _=>true |_=>false)):=by
 unfold j8;rw[h];cases d <;> rfl
def JZ:D->Bool
 | .list _=>true
 |_=>false
theorem Gf {d:D}(h:JZ d=true):∃ds,d=.list ds:=by
 cases d with
 |list ds=>exact⟨ds,rfl⟩
 |_=>cases h
def LO {fa:VF D}{vs:List Nv}{β:Int}{d:D}(ha:fa vs β=.ok d β)(h:eJ d=false):f1 fa (j8 "list") vs β=.ok (.bool (JZ d)) β:=cU ha (by rw[C9 h];cases d <;> rfl)
def nD {fa:VF D}{vs:List Nv}{β:Int}{ds:List D}(ha:fa vs β=.ok (.list ds) β):f1 fa dP vs β=.ok (.int ds.length) β:=cU ha rfl
def Ge (e:D):Prop:=eJ e=false/\∀es,e=.tuple es->es.length<=100/\∀x,x∈es->eJ x=false
def Sp (p:Pr):Prop:=(0<=p.1/\p.1<=8)/\(0<=p.2/\p.2<=8)
def J3 {es:List D}(hl:es.length<=100)(h:∀x,x∈es->eJ x=false):Ge (.tuple es):=⟨rfl,λes' e=>by cases e;exact⟨hl,h⟩⟩
def GF {fa fb:VF D}{vs:List Nv}{β:Int}{ds:List D}{i:Nat}(ha:fa vs β=.ok (.list ds) β)(hb:fb vs β=.ok (.int ((i:Nat):Int)) β):Hf fa (GV fb) (λ_ β=>.ok none β) vs β=.ok (.list (ds.drop i)) β:=by
 unfold Hf GV
 rw[ha];dsimp only[R.bnd]
 rw[hb];dsimp only[R.bnd]
 congr 2
 unfold cutD
 rw[HT.v9,HT.AK]
 by_cases h:i<=ds.length
 ·rw[Nat.min_eq_left h];exact List.take_of_length_le (by rw[length_drop];omega)
 ·rw[Nat.min_eq_right (@AT),drop_length,List.drop_of_length_le (@AT)];simp
def CU {fa fb:VF D}{vs:List Nv}{β:Int}{ds:List D}{i:Nat}(ha:fa vs β=.ok (.list ds) β)(hb:fb vs β=.ok (.int ((i:Nat):Int)) β):Hf fa (λ_ β=>.ok none β) (GV fb) vs β=.ok (.list (ds.take i)) β:=by
 unfold Hf GV
 rw[ha];dsimp only[R.bnd]
 rw[hb];dsimp only[R.bnd]
 congr 2
 unfold cutD
 rw[HT.v9,HT.AK]
 by_cases h:i<=ds.length
 ·rw[Nat.min_eq_left h];rfl
 ·rw[Nat.min_eq_right (@AT),List.take_of_length_le (show ds.length<=i by omega)];simp
end RM
namespace RM
open PySem PySem.Spec L2 PyProof.Rows
theorem qv:∀(ns acc:@D_),acc.Nodup->(ns.foldl step_dedup acc).length<=acc.length + ns.length/\((ns.foldl step_dedup acc).length=acc.length + ns.length↔(ns.Nodup/\∀x,x∈ns->x∉acc))
 | [],acc,_=>by simp
 |n :: ns,acc,hn=>by
  rw[foldl_cons]
  by_cases h:n∈acc
  ·have e:step_dedup acc n=acc:=by unfold step_dedup;rw[OG (by simpa using h)]
   rw[e]
   obtain⟨h1,h2⟩:=qv ns acc hn
   refine⟨by rw[O8];omega,⟨λz=>?_,λz=>absurd h (z.2 n (ON ..))⟩⟩
   rw[O8] at z;omega
  ·have e:step_dedup acc n=acc ++ [n]:=by unfold step_dedup;rw[OP (by simpa using h)]
   have hn':(acc ++ [n]).Nodup:=by
    rw[QY]
    refine⟨hn,Pl.mpr ⟨by simp,Q4⟩,λa ha b hb=>?_⟩
    rw[O7] at hb
    subst hb
    exact λq=>h (q▸ha)
   rw[e]
   obtain⟨h1,h2⟩:=qv ns (acc ++ [n]) hn'
   rw[O9,PD] at h1 h2
   refine⟨by rw[O8];omega,?_⟩
   rw[O8,show acc.length + (ns.length + 1)=acc.length + 1 + ns.length by omega,h2,Pl]
   constructor
   ·rintro⟨z1,z2⟩
    refine⟨⟨λq=>z2 n q (by simp),z1⟩,λx hx=>?_⟩
    rcases OK.mp hx with rfl |hx
    ·exact h
    ·exact λq=>z2 x hx (Qr _ q)
   ·rintro⟨⟨z1,z2⟩,z3⟩
    refine⟨z2,λx hx q=>?_⟩
    rcases OT.mp q with q |q
    ·exact z3 x (OQ _ hx) q
    ·rw[O7] at q;subst q;exact z1 hx
def wO (ns:@D_):tu ns=ns.length↔ns.Nodup:=by
 have e:firstMet (λi=>ns.getD i 0) ns.length=ns.foldl step_dedup []:=by
  unfold firstMet
  congr 1
  refine QP (by simp) λi h1 h2=>?_
  simp[O5,h2]
 unfold tu
 rw[e]
 have:=(qv ns [] Q4).2
 simpa using this
theorem pC:∀{l m:@D_},l.Nodup->(∀x,x∈l->x∈m)->m.length<=l.length->l.Perm m
 | [],m,_,_,h=>by
  have:m= []:=List.length_eq_zero_iff.mp (by simpa using h)
  rw[this]
 |x :: l,m,nd,hs,h=>by
  obtain⟨h1,h2⟩:=Pl.mp nd
  have hx:x∈m:=hs x (ON ..)
  have pm:m.Perm (x :: m.erase x):=List.perm_cons_erase hx
  refine (List.Perm.cons x (pC (m:=m.erase x) h2 (λy hy=>?_) ?_)).trans pm.symm
  ·have hy':=pm.mem_iff.mp (hs y (OQ _ hy))
   rcases OK.mp hy' with rfl |q
   ·exact absurd hy h1
   ·exact q
  ·have:=pm.length_eq
   rw[O8] at this h
   omega
def wB {n:Nat}{r:@D_}(hl:r.length=n)(hb:∀x,x∈r->0<=x/\x < n)(nd:r.Nodup):r.Perm (bN n):=pC nd (λx hx=>aJ.mpr (hb x hx)) (by rw[cO];omega)
noncomputable def qB (n:Nat)(d:D):Bool:=@decide (∃r:@D_,d=tupI r/\r.Perm (bN n)) (Classical.propDecidable _)
def Ja {n:Nat}{d:D}(h:qB n d=true):∃r:@D_,d=tupI r/\r.Perm (bN n):=@Pb _ (Classical.propDecidable _) h
def xm {n:Nat}{r:@D_}(h:r.Perm (bN n)):qB n (tupI r)=true:=@OE _ (Classical.propDecidable _) ⟨r,rfl,h⟩
def uI {n:Nat}{d:D}(h:∀r:@D_,d=tupI r->¬r.Perm (bN n)):qB n d=false:=@OR _ (Classical.propDecidable _) λ⟨r,e,p⟩=>h r e p
def rl {r q:@D_}(h:tupI r=tupI q):r=q:=by
 unfold tupI at h
 have h:=PyData.tuple.inj h
 exact List.map_inj_right (λa b e=>int.inj e) |>.mp h
theorem Bg {d:D}{n:Int}(h:j3 d n=true):∃i:Int,d=.int i/\0<=i/\i < n:=by
 cases d with
 |int i=>exact⟨i,rfl,Pb h⟩
 |_=>cases h
theorem ua {n:Int}:∀{ds:List D},(ds.all λe=>j3 e n)=true->∃r:@D_,ds=r.map int/\∀x,x∈r->0<=x/\x < n
 | [],_=>⟨[],rfl,λx hx=>by cases hx⟩
 |d :: ds,h=>by
  rw[all_cons,O1] at h
  obtain⟨i,rfl,hi⟩:=Bg h.1
  obtain⟨r,rfl,hr⟩:=ua h.2
  refine⟨i :: r,rfl,λx hx=>?_⟩
  rcases OK.mp hx with rfl |hx
  ·exact hi
  ·exact hr x hx
def A7 {n:Nat}{r:@D_}(h:∀x,x∈r->0<=x/\x < (n:Int)):((r.map int).all λe=>j3 e n)=true:=by
 rw[Q2,O4]
 intro x hx
 exact OE (h x hx)
theorem kI:∀r:@D_,kn (r.map int)=some r
 | []=>rfl
 |x :: r=>by
  have:=kI r
  simp only[P8,kn,this]
  try rfl
def AL:@Cl:=aS 2 2 (mP fg)
theorem IM {n:Nat}{d:D}(h8:n<=100)(h:Ge d):AL [d,.int n]=.ok (.bool (qB n d)) false:=by
 show fin (mP fg [.fz d,.fz (.int n)] 0)=_
 unfold mP
 have g0:gv 0 (vl [.fz d,.fz (.int n)]) 0=.ok d 0:=rfl
 have t1:=LV g0 h.1
 cases hy:Gs d with
 |false=>
  rw[hy] at t1
  rw[iV (d:=.bool false) (b:=false) (β':=0) (by rw[lO (Hy (fk t1))];rfl),uI]
  ·rfl
  ·intro r e;subst e;cases hy
 |true=>
  obtain⟨es,rfl⟩:=Fl hy
  rw[hy] at t1
  have t2:cM (f2 (f1 (gv 0) dP) (gv 1) (cY true)) (vl [.fz (.tuple es),.fz (.int n)]) 0=.ok (!decide ((es.length:Int)=n)) 0:=dD (neg:=true) (LC g0) rfl
  by_cases hl:es.length=n
  ·rw[OE (show (es.length:Int)=n by omega)] at t2
   rw[aC (env':=[.fz (.tuple es),.fz (.int n)]) (β':=0) (by rw[iw (z5 (fk t1) t2)];rfl)]
   have hs:=(h.2 _ rfl).2
   have ec:aM 1 [1] (.nm 0) (bc (gv 0)) j0 (av fg @Fa) (vl [.fz (.tuple es),.fz (.int n)]) 0=.ok (.list (es.map λe=>PyData.bool (j3 e n))) 0:=
    tP (λe=>PyData.bool (j3 e n)) rfl (@AT) λe he=>⟨_,rfl,aq (ds:=[e,.int n]) rfl (uT (hs e he))⟩
   have ea:=zJ ec
   rw[cD]
   cases hb:(es.all λe=>j3 e n) with
   |false=>
    rw[hb] at ea
    rw[Hv ea,uI]
    ·rfl
    ·intro r e pm
     have e:=PyData.tuple.inj e
     subst e
     rw[A7 λx hx=>aJ.mp (pm.mem_iff.mp hx)] at hb
     cases hb
   |true=>
    rw[hb] at ea
    obtain⟨r,rfl,hr⟩:=ua hb
    have hrl:r.length=n:=by rw[OH] at hl;exact hl
    have es:f1 (gv 0) p8 (vl [.fz (.tuple (r.map int)),.fz (.int n)]) 0=.ok (.int (tu r)) 0:=by
     refine cU g0 ?_
     show (match kn (r.map int) with |some ns=>if ns.length<=1000 then some (int (tu ns)) else none |none=>none)=_
     rw[kI]
     exact OG (@AT)
    rw[D6 ea (aE es rfl (mN false (tu r) n))]
    show FR.ok (.bool (decide ((tu r:Int)=(n:Int)))) false=_
    by_cases nd:r.Nodup
    ·have:=(wO r).mpr nd
     rw[OE (@AT),show qB n (.tuple (r.map int))=true from xm (wB hrl hr nd)]
    ·have:tu r≠r.length:=λq=>nd ((wO r).mp q)
     rw[OR (@AT),uI]
     intro q e pm
     have e:=rl (r:=r) e
     subst e
     exact nd (pm.nodup_iff.mpr (gK n))
  ·rw[OR (show ¬(es.length:Int)=n by omega)] at t2
   rw[iV (d:=.bool false) (b:=false) (β':=0) (by rw[lO (z5 (fk t1) t2)];rfl),uI]
   ·rfl
   ·intro r e pm
    have e:=PyData.tuple.inj e
    subst e
    have:=pm.length_eq
    rw[cO] at this
    rw[OH] at hl
    exact hl this
end RM
namespace RM
open PySem L2
def sk (r:@D_):@D_:=(List.range r.length).map λ(a:Nat)=>((r.idxOf (a:Int):Nat):Int)
def iu (r:@D_)(k:Nat):@D_:=(List.range r.length).map λ(a:Nat)=>if r.idxOf (a:Int) < k then ((r.idxOf (a:Int):Nat):Int) else 0
def A3 {n:Nat}{r:@D_}(h:r.Perm (bN n)):iu r r.length=sk r:=by
 unfold iu sk
 refine Qe λa ha=>?_
 have hl:=h.length_eq
 rw[cO] at hl
 have:=Pp.mp ha
 rw[OG (PF.mpr (h.mem_iff.mpr (aJ.mpr ⟨@AT,@AT ⟩)))]
def yB (r:@D_):iu r 0=List.replicate r.length 0:=by
 unfold iu
 refine QP (by simp) λi h1 h2=>by simp
def zy {n:Nat}{r:@D_}(h:r.Perm (bN n)){k:Nat}{x:Int}(hk:r[k]? =some x):(iu r k).set x.toNat (k:Int)=iu r (k + 1):=by
 have hl:=h.length_eq
 rw[cO] at hl
 have hx:=aJ.mp (h.mem_iff.mp (O0 hk))
 have nd:r.Nodup:=h.nodup_iff.mpr (gK n)
 obtain⟨hkl,hke⟩:=OO.mp hk
 have hix:r.idxOf x=k:=by rw[<-hke];exact nd.idxOf_getElem k hkl
 unfold iu
 refine QP (by simp) λi h1 h2=>?_
 have hi:i < r.length:=by simpa using h2
 rw[List.getElem_set]
 simp only[List.getElem_map,List.getElem_range]
 by_cases e:x.toNat=i
 ·rw[OG e]
  have ex:(i:Int)=x:=@AT
  rw[ex,hix,OG (@AT)]
 ·rw[OP e]
  have:r.idxOf (i:Int)≠k:=λq=>by
   have hm:(i:Int)∈r:=h.mem_iff.mpr (aJ.mpr ⟨@AT,@AT ⟩)
   have h3:=Qq (PF.mpr hm)
   simp only[q] at h3
   rw[hke] at h3
   omega
  by_cases z:r.idxOf (i:Int) < k
  ·rw[OG z,OG (@AT)]
  ·rw[OP z,OP (@AT)]
def Ey {n:Nat}{r:@D_}(h:r.Perm (bN n)){a:Int}(ha:0<=a/\a < n):l8 (sk r) a=some ((r.idxOf a:Nat):Int):=by
 have hl:=h.length_eq
 rw[cO] at hl
 have e:(a.toNat:Int)=a:=@AT
 have:=mS (xs:=sk r) (j:=a.toNat) (v:=((r.idxOf a:Nat):Int)) (by
  unfold sk
  rw[OU,Qy (@AT)]
  simp only[Option.map_some,e])
 rw[e] at this
 exact this
def Kh:@Cl:=aS 4 1 oi
def Mn {n:Nat}{r:@D_}{d:D}(h1:dP d=some (.int ((r.map int).length:Nat)))(h2:lV d=some (r.map int))(h100:n<=100)(h:r.Perm (bN n)):Kh [d]=.ok (.list ((sk r).map int)) true:=by
 have hl:=h.length_eq
 rw[cO] at hl
 show fin (oi [.fz (d),.no,.no,.no] 0)=_
 unfold oi
 rw[aC (env':=[.fz (d),.ow (.list ((iu r 0).map int)),.no,.no]) (β':=0) ?a]
 case a=>
  have e:f2 (dI (aa @E_ ah)) (f1 (gv 0) dP) pW (vl [.fz (d),.no,.no,.no]) 0=.ok (.list ((iu r 0).map int)) 0:=by
   refine aE (lp (ac (ck _) an)) (cU (x:=d) rfl h1) ?_
   rw[OH,yB,List.map_replicate]
   simp only[pW]
   rw[OG ?q]
   ·congr 2
    rw[Pk]
    induction r.length with
    |zero=>rfl
    |succ m ih=>first |rw[Px,Px,Qd,ih];rfl | (simp[Px] at ih ⊢;try exact ih)
   case q=>first | (constructor <;> first |omega | (show _<=_;simp;try omega)) | (rw[Pq];simp;omega)
  rw[kz,e];rfl
 have ee:Ij (gv 0) (vl [.fz (d),.ow (.list ((iu r 0).map int)),.no,.no]) 0=.ok (dC (r.map int)) 0:=by
  show (match lV d with |some ds=>R.ok (dC ds) 0 |none=>.bad)=_
  rw[h2]
 obtain⟨env',β',ef,s,t,rfl,rfl⟩:=ic (t:=.two 2 3) (m:=rb 1 [2] [] (gv 2) (gv 3)) (ds:=dC (r.map int)) (k:=0)
  (λk env β=>∃s t:Sl,env= [.fz (d),.ow (.list ((iu r k).map int)),s,t]/\β=0)
  (env:=[.fz (d),.ow (.list ((iu r 0).map int)),.no,.no]) (β:=0) ⟨.no,.no,rfl,rfl⟩ (by
   rintro k d env β hk ⟨s,t,rfl,rfl⟩
   unfold dC at hk
   rw[Q6,OU] at hk
   cases hx:r[k]? with
   |none=>rw[hx] at hk;cases hk
   |some x=>
    rw[hx] at hk
    cases hk
    have hxm:=aJ.mp (h.mem_iff.mp (O0 hx))
    refine⟨[.fz (d),.ow (.list ((iu r (0 + k)).map int)),.fz (.int k),.fz (.int x)],rfl,?_⟩
    rw[PR]
    refine⟨[.fz (d),.ow (.list ((iu r (k + 1)).map int)),.fz (.int k),.fz (.int x)],0,?_,_,_,rfl,rfl⟩
    rw[wF (ds:=(iu r k).map int) (d:=.int k) (k:=x) (n:=x.toNat) (β1:=0) (β2:=0) rfl (by rfl) rfl (by rfl) ?b]
    ·rw[<-zy h hx,List.map_set];rfl
    case b=>
     unfold uF
     rw[OG hxm.1,OG (by rw[OH];unfold iu;simp;omega)])
 have hle:(dC (r.map int)).length=r.length:=by unfold dC;simp
 rw[PR,hle,A3 h] at ef
 rw[aC (env':=[.fz (d),.ow (.list ((sk r).map int)),s,t]) (β':=0) (by
  rw[fR (env:=[.fz (d),.ow (.list ((iu r 0).map int)),.no,.no]) ee]
  exact ef)]
 rfl
def L1 {n:Nat}{r:@D_}(h100:n<=100)(h:r.Perm (bN n)):Kh [tupI r]=.ok (.list ((sk r).map int)) true:=Mn rfl rfl h100 h
def pF (l:@A_)(r:@D_):Bool:=l.all λp=>decide (r.idxOf p.1 < r.idxOf p.2)
def Row (n:Nat)(l:@A_)(r:@D_):Prop:=r.Perm (bN n)/\pF l r=true
noncomputable def uW (n:Nat)(l:@A_)(d:D):Bool:=@decide (∃r:@D_,d=tupI r/\Row n l r) (Classical.propDecidable _)
def LF {n:Nat}{l:@A_}{d:D}(h:uW n l d=true):∃r:@D_,d=tupI r/\Row n l r:=@Pb _ (Classical.propDecidable _) h
def AE {n:Nat}{l:@A_}{r:@D_}(h:Row n l r):uW n l (tupI r)=true:=@OE _ (Classical.propDecidable _) ⟨r,rfl,h⟩
def HS {n:Nat}{l:@A_}{d:D}(h:∀r:@D_,d=tupI r->¬Row n l r):uW n l d=false:=@OR _ (Classical.propDecidable _) λ⟨r,e,p⟩=>h r e p
noncomputable def MD:@Cl:=aS 3 2 (hW AL Kh)
def Df {n:Nat}{r:@D_}(h:r.Perm (bN n)){a b:Int}(ha:0<=a/\a < n)(hb:0<=b/\b < n){fp fa fb:VF D}{vs:List Nv}{β:Int}(hp:fp vs β=.ok (.list ((sk r).map int)) β)(h1:fa vs β=.ok (.int a) β)(h2:fb vs β=.ok (.int b) β) :
  f2 (f2 fp fa bh) (f2 fp fb bh) qd vs β=.ok (.bool (decide (r.idxOf a < r.idxOf b))) β:=by
 refine aE (aE hp h1 (show l8 ((sk r).map int) a=_ by rw[n9,Ey h ha];rfl)) (aE hp h2 (show l8 ((sk r).map int) b=_ by rw[n9,Ey h hb];rfl)) ?_
 show some (PyData.bool (decide (((r.idxOf a:Nat):Int) < ((r.idxOf b:Nat):Int))))=_
 congr 2
 rw[PM,OY,OY]
 omega
theorem NI {n:Nat}{l:@A_}{d:D}(O:OM.Ord n l)(h:Ge d):MD [d,ag n l]=.ok (.bool (uW n l d)) false:=by
 have h8:=O.hi
 show fin (hW AL Kh [.fz d,@Db,.no] 0)=_
 unfold hW
 have t:iS (av AL (aa (gv 0) (aa (f2 (gv 1) @E_ bh) ah))) (vl [.fz d,@Db,.no]) 0=.ok (qB n d) 0:=fq (aq (ds:=[d,.int n]) (ac rfl (ac (Kq (n:=n) (l:=l) rfl) an)) (IM (@AT) h))
 cases q:qB n d with
 |false=>
  rw[q] at t
  rw[iV (d:=.bool false) (b:=false) (β':=0) (by rw[lO (fk t)];rfl),HS]
  ·rfl
  ·rintro r rfl hr
   rw[xm hr.1] at q;cases q
 |true=>
  rw[q] at t
  obtain⟨r,rfl,pm⟩:=Ja q
  rw[aC (env':=[.fz (tupI r),@Db,.no]) (β':=0) (by rw[iw (fk t)];rfl)]
  rw[aC (env':=[.fz (tupI r),@Db,.fz (.list ((sk r).map int))]) (β':=0) (by rw[b8,aq (ds:=[tupI r]) (β1:=0) rfl (L1 (@AT) pm)];rfl)]
  have ec:aM 2 [2] (.two 0 1) (bc (f2 (gv 1) @Do bh)) j0 (f2 (f2 (gv 2) (gv 0) bh) (f2 (gv 2) (gv 1) bh) qd) (vl [.fz (tupI r),@Db,.fz (.list ((sk r).map int))]) 0=.ok (.list (l.map λp=>PyData.bool (decide (r.idxOf p.1 < r.idxOf p.2)))) 0:=by
   refine bY (l:=l) (e:=ax) (λp=>PyData.bool (decide (r.idxOf p.1 < r.idxOf p.2))) rfl (by have:=iZ O;omega) λp hp=>⟨_,rfl,?_⟩
   have hw:=O.wn p hp
   exact Df pm hw.1 hw.2 rfl rfl rfl
  rw[cD,y7 (f:=λp=>decide (r.idxOf p.1 < r.idxOf p.2)) ec]
  show FR.ok (.bool (pF l r)) false=_
  cases qf:pF l r with
  |true=>rw[AE ⟨pm,qf⟩]
  |false=>
   rw[HS]
   rintro r' e hr
   have e:=rl e
   subst e
   rw[hr.2] at qf;cases qf
def Gt (d:D):Prop:=eJ d=false/\∀ds,d=.list ds->ds.length<=100/\∀e,e∈ds->Ge e
noncomputable def v7 (n:Nat)(l:@A_)(d:D):Bool:=@decide (∃rs:List (@D_),d=.list (rs.map tupI)/\rs≠ []/\∀r,r∈rs->Row n l r) (Classical.propDecidable _)
def J6 {n:Nat}{l:@A_}{d:D}(h:v7 n l d=true):∃rs:List (@D_),d=.list (rs.map tupI)/\rs≠ []/\∀r,r∈rs->Row n l r:=@Pb _ (Classical.propDecidable _) h
def uk {n:Nat}{l:@A_}{rs:List (@D_)}(h1:rs≠ [])(h:∀r,r∈rs->Row n l r):v7 n l (.list (rs.map tupI))=true:=@OE _ (Classical.propDecidable _) ⟨rs,rfl,h1,h⟩
def zd {n:Nat}{l:@A_}{d:D}(h:∀rs:List (@D_),d=.list (rs.map tupI)->rs≠ []->∃r,r∈rs/\¬Row n l r):v7 n l d=false:=@OR _ (Classical.propDecidable _) λ⟨r,e,h1,h2⟩=>by
 obtain⟨x,hx,hn⟩:=h r e h1
 exact hn (h2 x hx)
theorem all_rows {n:Nat}{l:@A_}:∀{ds:List D},ds.all (uW n l)=true->∃rs:List (@D_),ds=rs.map tupI/\∀r,r∈rs->Row n l r
 | [],_=>⟨[],rfl,λr hr=>by cases hr⟩
 |d :: ds,h=>by
  rw[all_cons,O1] at h
  obtain⟨r,rfl,hr⟩:=LF h.1
  obtain⟨rs,rfl,hrs⟩:=all_rows h.2
  refine⟨r :: rs,rfl,λx hx=>?_⟩
  rcases OK.mp hx with rfl |hx
  ·exact hr
  ·exact hrs x hx
noncomputable def NL:@Cl:=aS 2 2 (lF MD)
theorem MQ {n:Nat}{l:@A_}{d:D}(O:OM.Ord n l)(h:Gt d):NL [d,ag n l]=.ok (.bool (v7 n l d)) false:=by
 show fin (lF MD [.fz d,@Db] 0)=_
 unfold lF
 have e1:=LO (fa:=gv 0) (vs:=vl [.fz d,@Db]) (β:=0) rfl h.1
 cases q:JZ d with
 |false=>
  rw[q] at e1
  rw[iV (d:=.bool false) (b:=false) (β':=0) (by rw[lO (Hy (fk (fq e1)))];rfl),zd]
  ·rfl
  ·rintro rs rfl;cases q
 |true=>
  rw[q] at e1
  obtain⟨ds,rfl⟩:=Gf q
  have hd:=h.2 ds rfl
  have t2:cM (f2 (f1 (gv 0) dP) @E_ (cY false)) (vl [.fz (.list ds),@Db]) 0=.ok (decide ((ds.length:Int)=0)) 0:=dD (neg:=false) (nD rfl) rfl
  cases ds with
  |nil=>
   rw[iV (d:=.bool false) (b:=false) (β':=0) (by rw[lO (z5 (fk (fq e1)) t2)];rfl),zd]
   ·rfl
   ·intro rs e hne
    have e:=PyData.list.inj e
    cases rs with
    |nil=>exact absurd rfl hne
    |cons=>cases e
  |cons x ds=>
   rw[OR (by simp;omega)] at t2
   rw[aC (env':=[.fz (.list (x :: ds)),@Db]) (β':=0) (by rw[iw (z5 (fk (fq e1)) t2)];rfl)]
   have ec:aM 1 [1] (.nm 0) (bc (gv 0)) j0 (av MD @Fa) (vl [.fz (.list (x :: ds)),@Db]) 0=.ok (.list ((x :: ds).map λe=>PyData.bool (uW n l e))) 0:=
    tP (λe=>PyData.bool (uW n l e)) rfl (@AT) λe he=>⟨_,rfl,aq (ds:=[e,ag n l]) rfl (NI O (hd.2 e he))⟩
   rw[cD,zJ (f:=uW n l) ec]
   cases qa:(x :: ds).all (uW n l) with
   |true=>
    obtain⟨rs,e,hrs⟩:=all_rows qa
    rw[e,uk (by rintro rfl;cases e) hrs];rfl
   |false=>
    rw[zd]
    ·rfl
    ·intro rs e hne
     have e:=PyData.list.inj e
     rw[e,Q2,List.all_eq_false] at qa
     obtain⟨r,hr,hx⟩:=qa
     exact⟨r,hr,λz=>hx (AE z)⟩
def BN (rs:List (@D_))(p:Pr):Bool:=rs.all λr=>decide (r.idxOf p.1 < r.idxOf p.2)
def MP:@Cl:=aS 3 3 gi
def Fv {α:Type}{fa:VF D}{vs:List Nv}{β:Int}{l:List α}{f:α->Bool}(h:fa vs β=.ok (.list (l.map λq=>PyData.bool (f q))) β):f1 fa (bK λbs=>bs.all id) vs β=.ok (.bool (l.all f)) β:=by
 refine cU h ?_
 simp only[bK]
 rw[fB]
 simp[Q2,Function.comp_def]
def MR {n:Nat}{rs:List (@D_)}(hz:rs.length<=1000)(hp:∀r,r∈rs->r.Perm (bN n)){a b:Int}(ha:0<=a/\a < n)(hb:0<=b/\b < n):MP [.list (rs.map λr=>.list ((sk r).map int)),.int a,.int b]=.ok (.bool (BN rs (a,b))) false:=by
 show fin (gi [.fz (.list (rs.map λr=>.list ((sk r).map int))),.fz (.int a),.fz (.int b)] 0)=_
 unfold gi
 have ec:aM 1 [1,2] (.nm 0) (bc (gv 0)) j0 (f2 (f2 (gv 0) (gv 1) bh) (f2 (gv 0) (gv 2) bh) qd) (vl [.fz (.list (rs.map λr=>.list ((sk r).map int))),.fz (.int a),.fz (.int b)]) 0=.ok (.list (rs.map λr=>PyData.bool (decide (r.idxOf a < r.idxOf b)))) 0:=
  bY (l:=rs) (e:=λr=>.list ((sk r).map int)) (λr=>PyData.bool (decide (r.idxOf a < r.idxOf b))) rfl (@AT) λr hr=>⟨_,rfl,Df (hp r hr) ha hb rfl rfl rfl⟩
 rw[cD,Fv ec];rfl
noncomputable def MA:@Cl:=aS 3 2 (fZ Kh gL MP)
def Jt {n:Nat}{rs:List (@D_)}(h1:1<=n)(h8:n<=8)(hz:rs.length<=1000)(hp:∀r,r∈rs->r.Perm (bN n)):MA [.int n,.list (rs.map tupI)]=.ok (.tuple (((OM.bP n).filter (BN rs)).map ax)) false:=by
 show fin (fZ Kh gL MP [.fz (.int n),.fz (.list (rs.map tupI)),.no] 0)=_
 unfold fZ
 have e1:aM 1 [] (.nm 0) (bc (gv 1)) j0 (av Kh (aa (gv 0) ah)) (vl [.fz (.int n),.fz (.list (rs.map tupI)),.no]) 0=.ok (.list (rs.map λr=>.list ((sk r).map int))) 0:=
  bY (l:=rs) (e:=tupI) (λr=>.list ((sk r).map int)) rfl (@AT) λr hr=>⟨_,rfl,aq (ds:=[tupI r]) rfl (L1 (@AT) (hp r hr))⟩
 rw[aC (env':=[.fz (.int n),.fz (.list (rs.map tupI)),.fz (.list (rs.map λr=>.list ((sk r).map int)))]) (β':=0) (by rw[b8,e1];rfl)]
 have hg:(OM.bP n).length<=64:=by rw[dF];exact P4 h8 h8
 have e2:aM 2 [2] (.two 0 1) (bc (av gL (aa (gv 0) ah))) (iS (av MP (aa (gv 2) @Fa))) (bD @Fa) (vl [.fz (.int n),.fz (.list (rs.map tupI)),.fz (.list (rs.map λr=>.list ((sk r).map int)))]) 0=.ok (.list (((OM.bP n).filter (BN rs)).map ax)) 0:=by
  refine bQ (l:=OM.bP n) (e:=ax) (BN rs) ax ?_ (@AT) λp hp'=>⟨_,rfl,?_,λ_=>cC rfl rfl⟩
  ·unfold bc
   rw[aq (ds:=[.int n]) (β1:=0) rfl (uY h1 h8)];rfl
  ·have:=OM.aZ.mp hp'
   exact fq (aq (ds:=[.list (rs.map λr=>.list ((sk r).map int)),.int p.1,.int p.2]) rfl (MR hz hp this.1 this.2))
 rw[cD,cU (g:=fT) e2 rfl];rfl
def Lq {n:Nat}{rs:List (@D_)}(h1:1<=n)(h8:n<=8)(hz:rs.length<=100)(hp:∀r,r∈rs->r.Perm (bN n)):MA [.int n,.list (rs.map tupI)]=.ok (.tuple (((OM.bP n).filter (BN rs)).map ax)) false:=Jt h1 h8 (@AT) hp
theorem any_ints (a:Int):∀s:@D_,((s.map int).any λe=>PyData.eqv e (.int a))=decide (a∈s)
 | []=>rfl
 |b :: s=>by
  rw[P8,Qj,any_ints a s]
  show ((b == a) || _)=_
  rw[PM]
  simp only[Qf,beq_iff_eq,OY,OK]
  exact⟨λh=>h.imp Eq.symm id,λh=>h.imp Eq.symm id⟩
def Bb (s:@D_):(s.map int).all SeqAt.shaped=true:=by
 rw[O4]
 intro d hd
 obtain⟨p,_,rfl⟩:=O3.mp hd
 rfl
def Ex {a b:List D}(h:a.length + b.length<=1000):se (.tuple a) (.tuple b)=some (.tuple (a ++ b)):=OG (by rw[Pq];omega)
def Ce (l:@A_)(r:@D_)(x:Int):@D_:=(l.filter λp=>decide (p.2=x) && !decide (p.1∈r)).map (·.1)
def lG {l:@A_}{r:@D_}{x a:Int}:a∈Ce l r x↔(a,x)∈l/\a∉r:=by
 unfold Ce
 rw[O3]
 constructor
 ·rintro⟨p,hp,rfl⟩
  have:=OJ.mp hp
  simp only[O1,OY,QJ,P2] at this
  obtain⟨pa,pb⟩:=p
  obtain⟨h1,h2,h3⟩:=this
  simp only at h2 h3
  subst h2
  exact⟨h1,h3⟩
 ·rintro⟨h1,h2⟩
  exact⟨(a,x),OJ.mpr ⟨h1,by simp[h2]⟩,rfl⟩
def BR {n:Nat}{l:@A_}(O:OM.Ord n l)(r:@D_)(x:Int):(Ce l r x).Nodup:=by
 unfold Ce
 rw[Qb,Qv]
 refine QN (λ{a b} ha hb h e=>h ?_) (Qb.mp ((OM.kH O.ris).filter _))
 have h1:=(OJ.mp ha).2
 have h2:=(OJ.mp hb).2
 simp only[O1,OY] at h1 h2
 exact Prod.ext e (h1.1.trans h2.1.symm)
theorem least {n:Nat}{l:@A_}(O:OM.Ord n l)(r:@D_):∀(k:Nat) (x:Int),(0<=x/\x < n)->x∉r->(Ce l r x).length<=k->∃y:Int,(0<=y/\y < n)/\y∉r/\Ce l r y= []
 | 0,x,hx,hr,hk=>⟨x,hx,hr,List.length_eq_zero_iff.mp (@AT)⟩
 |k + 1,x,hx,hr,hk=>by
  by_cases he:Ce l r x= []
  ·exact⟨x,hx,hr,he⟩
  ·obtain⟨a,ha⟩:=List.exists_mem_of_ne_nil _ he
   obtain⟨h1,h2⟩:=lG.mp ha
   refine least O r k a (O.wn _ h1).1 h2 ?_
   have nd:(a :: Ce l r a).Nodup:=Pl.mpr ⟨λq=>O.irr a (lG.mp q).1,BR O r a⟩
   have:=L2.ST.fL nd (m:=Ce l r x) λy hy=>by
    rcases OK.mp hy with rfl |hy
    ·exact ha
    ·obtain⟨q1,q2⟩:=lG.mp hy
     exact lG.mpr ⟨O.tr _ _ _ q1 h1,q2⟩
   rw[O8] at this
   omega
structure EN (n:Nat)(l:@A_)(r:@D_):Prop where
 nd:r.Nodup
 inn:∀x,x∈r->0<=x/\x < (n:Int)
 fit:∀p,p∈l->p.2∈r->p.1∈r/\r.idxOf p.1 < r.idxOf p.2
def EN.len {n:Nat}{l:@A_}{r:@D_}(B:EN n l r):r.length<=n:=by
 have:=L2.ST.fL B.nd (m:=bN n) λx hx=>aJ.mpr (B.inn x hx)
 rwa [cO] at this
def EN.row {n:Nat}{l:@A_}{r:@D_}(O:OM.Ord n l)(B:EN n l r)(h:n<=r.length):Row n l r:=by
 have pm:=wB (Nat.le_antisymm B.len h) B.inn B.nd
 refine⟨pm,O4.mpr λp hp=>OE ?_⟩
 exact (B.fit p hp (pm.mem_iff.mpr (aJ.mpr (O.wn p hp).2))).2
def iN (l:@A_)(r:@D_)(x:Int):Bool:= !decide (x∈r) && decide (Ce l r x= [])
def EN.more {n:Nat}{l:@A_}{r:@D_}{x:Int}(B:EN n l r)(hx:0<=x/\x < (n:Int))(hf:iN l r x=true):EN n l (r ++ [x]):=by
 unfold iN at hf
 rw[O1,QJ,P2,OY] at hf
 obtain⟨h1,h2⟩:=hf
 refine⟨?_,λy hy=>?_,λp hp hm=>?_⟩
 ·rw[QY]
  refine⟨B.nd,Pl.mpr ⟨by simp,Q4⟩,λa ha b hb=>?_⟩
  rw[O7] at hb
  subst hb
  exact λq=>h1 (q▸ha)
 ·rcases OT.mp hy with hy |hy
  ·exact B.inn y hy
  ·rw[O7] at hy;subst hy;exact hx
 ·rcases OT.mp hm with hm |hm
  ·obtain⟨q1,q2⟩:=B.fit p hp hm
   refine⟨Qr _ q1,?_⟩
   rw[Ro,Ro,OG q1,OG hm]
   exact q2
  ·rw[O7] at hm
   have hp1:p.1∈r:=by
    by_cases z:p.1∈r
    ·exact z
    ·have:p.1∈Ce l r x:=lG.mpr ⟨by rw[<-hm];exact hp,z⟩
     rw[h2] at this;cases this
   refine⟨Qr _ hp1,?_⟩
   rw[Ro,Ro,OG hp1,OP (by rw[hm];exact h1)]
   have:=PF.mpr hp1
   omega
def EN.free {n:Nat}{l:@A_}{r:@D_}(O:OM.Ord n l)(B:EN n l r)(h:r.length < n):(bN n).filter (iN l r)≠ []:=by
 have:∃x,x∈bN n/\x∉r:=by
  apply Classical.byContradiction
  intro z
  have:=L2.ST.fL (gK n) (m:=r) λx hx=>Classical.byContradiction λq=>z ⟨x,hx,q⟩
  rw[cO] at this
  omega
 obtain⟨x,hx,hr⟩:=this
 obtain⟨y,hy,hyr,hp⟩:=least O r _ x (aJ.mp hx) hr (OF _)
 intro q
 have:y∈(bN n).filter (iN l r):=OJ.mpr ⟨aJ.mpr hy,by unfold iN;simp[hyr,hp]⟩
 rw[q] at this
 cases this
def dS (l:@A_)(r:@D_)(i:Nat):@D_:=(bN i).filter (iN l r)
def Dk (i:Nat):bN (i + 1)=bN i ++ [(i:Int)]:=by unfold bN;rw[List.range_succ,Pn];rfl
def tW (l:@A_)(r:@D_)(i:Nat):dS l r (i + 1)=dS l r i ++ if iN l r (i:Int)=true then [(i:Int)] else []:=by
 unfold dS
 rw[Dk,List.filter_append]
 congr 1
 by_cases h:iN l r (i:Int)=true
 ·rw[OG h];simp[h]
 ·rw[OP h];simp[h]
def oz (l:@A_)(r:@D_)(i:Nat):(dS l r i).length<=i:=by
 have:(dS l r i).length<=(bN i).length:=Pu _ _
 rwa [cO] at this
end RM
namespace RM
open PySem L2 PyProof.Rows
def mk (f:Nat->Bool):Nat->Nat
 | 0=>0
 |n + 1=>mk f n ||| if f n=true then 2 ^ n else 0
theorem iM (f:Nat->Bool):∀(n i:Nat),(mk f n).testBit i=(decide (i < n) && f i)
 | 0,i=>by simp[mk]
 |n + 1,i=>by
  unfold mk
  rw[Nat.testBit_or,iM f n i]
  by_cases h:f n=true
  ·rw[OG h,Nat.testBit_two_pow]
   by_cases e:n=i
   ·subst e;simp[h]
   ·have e2:decide (i < n)=decide (i < n + 1):=by
     rw[P6];omega
    simp[e,e2]
  ·rw[OP h]
   by_cases e:i=n
   ·subst e;simp[h]
   ·have e2:decide (i < n)=decide (i < n + 1):=by
     rw[P6];omega
    simp[e2]
def mk_eq {f g:Nat->Bool}{n:Nat}:mk f n=mk g n↔∀i,i < n->f i=g i:=by
 constructor
 ·intro h i hi
  have:=congrArg (λx=>x.testBit i) h
  simp only[iM,OE hi,Bool.true_and] at this
  exact this
 ·intro h
  apply Q7
  intro i
  rw[iM,iM]
  by_cases hi:i < n
  ·rw[h i hi]
  ·rw[OR hi];simp
def iJ (f:Nat->Bool)(t:Nat):Nat->Bool:=λi=>f i || decide (i=t)
def Lk {f:Nat->Bool}{n t:Nat}(h:t < n):mk f n ||| 2 ^ t=mk (iJ f t) n:=by
 apply Q7
 intro i
 rw[Nat.testBit_or,iM,iM,Nat.testBit_two_pow]
 unfold iJ
 by_cases e:t=i
 ·subst e;simp[h]
 ·have e':¬i=t:=λq=>e q.symm
  simp[e,e']
def Js {f g:Nat->Bool}{n:Nat}:(mk f n &&& mk g n=mk g n)↔∀i,i < n->g i=true->f i=true:=by
 have e:mk f n &&& mk g n=mk (λi=>f i && g i) n:=by
  apply Q7
  intro i
  rw[Nat.testBit_and,iM,iM,iM]
  by_cases h:i < n
  ·simp[h]
  ·simp[h]
 rw[e,mk_eq]
 constructor
 ·intro h i hi hg
  have:=h i hi
  rw[hg,Bool.and_true] at this
  exact this
 ·intro h i hi
  cases hg:g i with
  |false=>simp
  |true=>rw[h i hi hg];rfl
def ui (a b:Nat):Builtin.bitOr (a:Int) (b:Int)=((a ||| b:Nat):Int):=by
 have h1:¬(0<=Builtin.bitNot (a:Int)):=by show ¬(0<= -(a:Int) - 1);omega
 have h2:¬(0<=Builtin.bitNot (b:Int)):=by show ¬(0<= -(b:Int) - 1);omega
 show Builtin.bitNot (Builtin.bitAnd (Builtin.bitNot a) (Builtin.bitNot b))=_
 rw[bitAnd_nn h1 h2]
 have e1:Builtin.bitNot (Builtin.bitNot (a:Int))=a:=by show -(-(a:Int) - 1) - 1=a;omega
 have e2:Builtin.bitNot (Builtin.bitNot (b:Int))=b:=by show -(-(b:Int) - 1) - 1=b;omega
 rw[e1,e2]
 show -(-((((a:Int).toNat ||| (b:Int).toNat:Nat):Int)) - 1) - 1=_
 rw[Pk,Pk];omega
def yS (a b:Nat):Builtin.bitAnd (a:Int) (b:Int)=((a &&& b:Nat):Int):=by
 rw[bitAnd_pp (@AT) (@AT),Pk,Pk]
def mI (f:Nat->Bool)(n:Nat):D:=.int ((mk f n:Nat):Int)
def IZ:∀t:Nat,t < 8->Iz (.int 1) (.int (t:Int))=some (.int ((2 ^ t:Nat):Int)):=by
 intro t ht
 have:t=0\/t=1\/t=2\/t=3\/t=4\/t=5\/t=6\/t=7:=@AT
 rcases this with rfl |rfl |rfl |rfl |rfl |rfl |rfl |rfl <;> rfl
def wj:@Cl:=aS 2 2 iU
def Cq {f:Nat->Bool}{n t:Nat}(h8:n<=8)(h:t < n):wj [mI f n,.int (t:Int)]=.ok (mI (iJ f t) n) false:=by
 show fin (iU [.fz (mI f n),.fz (.int t)] 0)=_
 unfold iU
 rw[cD,aE (x:=mI f n) (y:=.int ((2 ^ t:Nat):Int)) (d:=mI (iJ f t) n) (β1:=0) (β2:=0) rfl (aE (x:=.int 1) (y:=.int t) rfl rfl (IZ t (@AT))) ?a]
 ·rfl
 case a=>
  show some (int (Builtin.bitOr _ _))=_
  rw[ui,Lk h];rfl
def cp (n:Nat)(M:Nat->Nat->Bool):D:=.list ((List.range n).map λb=>mI (M b) n)
def bF (l:@A_)(b a:Nat):Bool:=decide ((((a:Nat):Int),((b:Nat):Int))∈l)
def D8 {n b:Nat}{M:Nat->Nat->Bool}(h:b < n):l8 ((List.range n).map λb=>mI (M b) n) (b:Int)=some (mI (M b) n):=mS (by rw[OU,Qy h];rfl)
def NF:@Cl:=aS 4 1 (gN wj)
def orM (M:Nat->Nat->Bool)(p:Pr)(b a:Nat):Bool:=M b a || (decide ((b:Int)=p.2) && decide ((a:Int)=p.1))
def Kb {n:Nat}{M:Nat->Nat->Bool}{p:Pr}(h1:0<=p.1/\p.1 < n)(h2:0<=p.2/\p.2 < n):((List.range n).map λb=>mI (M b) n).set p.2.toNat (mI (iJ (M p.2.toNat) p.1.toNat) n)=(List.range n).map λb=>mI (orM M p b) n:=by
 refine QP (by simp) λi h3 h4=>?_
 rw[List.getElem_set]
 simp only[List.getElem_map,List.getElem_range]
 unfold mI
 by_cases e:p.2.toNat=i
 ·rw[OG e]
  congr 2
  rw[mk_eq]
  intro j hj
  unfold iJ orM
  rw[e]
  have e1:((i:Nat):Int)=p.2:=@AT
  rw[OE e1,Bool.true_and]
  congr 1
  rw[P6];omega
 ·rw[OP e]
  congr 2
  rw[mk_eq]
  intro j hj
  unfold orM
  rw[OR (@AT:¬((i:Nat):Int)=p.2)];simp
theorem Aw {n:Nat}{l:@A_}(h8:n<=8):∀(ps:@A_) (M:Nat->Nat->Bool) (s2 s3:Sl),OM.Wn n ps->∃M' s2' s3',lU (.two 2 3) (rb 1 (@GM ++ ([2] ++ [])) [] (av wj (aa (f2 (gv 1) (gv 3) bh) (aa (gv 2) ah))) (gv 3)) (ps.map ax) [@Db,.ow (cp n M),s2,s3] 0=.nx [@Db,.ow (cp n M'),s2',s3'] 0/\∀b a,b < n->a < n->M' b a=(M b a || bF ps b a)
 | [],M,s2,s3,_=>⟨M,s2,s3,rfl,λb a _ _=>by unfold bF;simp⟩
 |p :: ps,M,s2,s3,wn=>by
  have hp:=wn p (ON ..)
  obtain⟨M',s2',s3',e,hM⟩:=Aw (l:=l) h8 ps (orM M p) (.fz (.int p.1)) (.fz (.int p.2)) λq hq=>wn q (OQ _ hq)
  refine⟨M',s2',s3',?_,λb a hb ha=>?_⟩
  ·rw[P8]
   unfold lU
   rw[show ij (.two 2 3) (ax p) [@Db,.ow (cp n M),s2,s3]=some [@Db,.ow (cp n M),.fz (.int p.1),.fz (.int p.2)] from rfl]
   dsimp only
   have e1:(p.2.toNat:Int)=p.2:=@AT
   have e2:(p.1.toNat:Int)=p.1:=@AT
   have ew:av wj (aa (f2 (gv 1) (gv 3) bh) (aa (gv 2) ah)) (vl [@Db,.ow (cp n M),.fz (.int p.1),.fz (.int p.2)]) 0=.ok (mI (iJ (M p.2.toNat) p.1.toNat) n) 0:=by
    refine aq (b:=false) (ds:=[mI (M p.2.toNat) n,.int (p.1.toNat:Int)]) (ac (aE (x:=cp n M) (y:=.int p.2) rfl rfl ?_) (ac ?_ an)) (Cq h8 (@AT))
    ·have:=D8 (n:=n) (M:=M) (b:=p.2.toNat) (@AT)
     rw[e1] at this
     exact this
    ·show R.ok (int p.1) 0=_
     rw[e2]
   rw[wF (ds:=(List.range n).map λb=>mI (M b) n) (d:=mI (iJ (M p.2.toNat) p.1.toNat) n) (k:=p.2) (n:=p.2.toNat) (β1:=0) (β2:=0) ew (by rfl) rfl (by rfl) (by
    unfold uF
    rw[OG hp.2.1,OG (by simp;omega)]),Kb hp.1 hp.2]
   dsimp only
   exact e
  ·rw[hM b a hb ha]
   unfold orM bF
   obtain⟨p1,p2⟩:=p
   rw[Bool.or_assoc]
   congr 1
   rw[PM]
   simp only[Qf,O1,OY,OK,Prod.mk.injEq]
   constructor
   ·rintro (⟨h1,h2⟩ |h)
    ·exact .inl ⟨h2,h1⟩
    ·exact .inr h
   ·rintro (⟨h1,h2⟩ |h)
    ·exact .inl ⟨h2,h1⟩
    ·exact .inr h
def BV {n:Nat}{M N:Nat->Nat->Bool}(h:∀b a,b < n->a < n->M b a=N b a):cp n M=cp n N:=by
 unfold cp
 congr 1
 refine Qe λb hb=>?_
 unfold mI
 congr 2
 rw[mk_eq]
 exact λa ha=>h b a (Pp.mp hb) ha
def M7 {n:Nat}{l:@A_}(O:OM.Ord n l):NF [ag n l]=.ok (cp n (bF l)) true:=by
 have h8:=O.hi
 show fin (gN wj [@Db,.no,.no,.no] 0)=_
 unfold gN
 rw[aC (env':=[@Db,.ow (cp n λ_ _=>false),.no,.no]) (β':=0) ?a]
 case a=>
  have e:f2 (dI (aa @E_ ah)) (f2 (gv 0) @E_ bh) pW (vl [@Db,.no,.no,.no]) 0=.ok (cp n λ_ _=>false) 0:=by
   refine aE (lp (ac (ck _) an)) (Kq (n:=n) (l:=l) rfl) ?_
   simp only[pW]
   rw[OG ⟨@AT,@AT,by rw[Pq];simp;omega⟩]
   unfold cp
   congr 2
   rw[Pk]
   have hz:∀m,mk (λ_=>false) m=0:=λm=>by
    induction m with
    |zero=>rfl
    |succ m ih=>unfold mk;rw[ih];simp
   unfold mI
   simp only[hz]
   have:∀m:Nat,(List.replicate m [int 0]).flatten=List.replicate m (int 0):=λm=>by
    induction m with
    |zero=>rfl
    |succ m ih=>rw[Px,Px,Qd,ih];rfl
   rw[this]
   refine QP (by simp) λi h1 h2=>by simp
  rw[kz,e];rfl
 obtain⟨M',s2,s3,e,hM⟩:=Aw (l:=l) h8 l (λ_ _=>false) .no .no O.wn
 have hm:cp n M'=cp n (bF l):=BV λb a hb ha=>by rw[hM b a hb ha];rfl
 rw[hm] at e
 rw[aC (env':=[@Db,.ow (cp n (bF l)),s2,s3]) (β':=0) (by
  rw[fR (env:=[@Db,.ow (cp n λ_ _=>false),.no,.no]) (ds:=l.map ax) (β1:=0) (by unfold bc;rw[L4 (n:=n) (l:=l) rfl];rfl)]
  exact e)]
 rfl
end RM
namespace RM
open PySem L2
def dU (r:@D_)(i:Nat):Bool:=decide ((i:Int)∈r)
def MH:@Cl:=aS 5 2 (g7 wj)
def Dl {n:Nat}{l:@A_}(O:OM.Ord n l){r:@D_}{t:Nat}(ht:t < n):(!decide (mk (iJ (dU r) t) n=mk (dU r) n) && decide (mk (dU r) n &&& mk (bF l t) n=mk (bF l t) n))=iN l r t:=by
 unfold iN
 congr 1
 ·congr 1
  rw[P6,mk_eq]
  constructor
  ·intro h
   have:=h t ht
   unfold iJ dU at this
   simp at this
   exact this
  ·intro h i hi
   unfold iJ dU
   by_cases e:i=t
   ·subst e;simp[h]
   ·simp[e]
 ·rw[P6,Js]
  constructor
  ·intro h
   rw[List.eq_nil_iff_forall_not_mem]
   intro a ha
   obtain⟨h1,h2⟩:=lG.mp ha
   have hw:=(O.wn _ h1).1
   simp only at hw
   have e:((a.toNat:Nat):Int)=a:=@AT
   have:=h a.toNat (@AT) (by unfold bF;rw[e];exact OE h1)
   unfold dU at this
   rw[e] at this
   exact h2 (Pb this)
  ·intro h i hi hg
   unfold dU
   refine OE (Classical.byContradiction λq=>?_)
   have:(i:Int)∈Ce l r t:=lG.mpr ⟨Pb hg,q⟩
   rw[h] at this;cases this
def Gd {n:Nat}{l:@A_}(O:OM.Ord n l)(r:@D_):∃s3 s4,lU (.two 3 4) (kO ((([1] ++ ([3] ++ [])) ++ []) ++ (@GM ++ [])) (Ac (cM (f2 (av wj (aa (gv 1) (aa (gv 3) ah))) (gv 1) (cY true))) (cM (f2 (f2 (gv 1) (gv 4) Dd) (gv 4) (cY false))))
  (nC 2 [3] (gv 3)) mh) (dC ((List.range n).map λb=>mI (bF l b) n)) [@IO,.fz (mI (dU r) n),.ow (.list []),.no,.no] 0=.nx [@IO,.fz (mI (dU r) n),.ow (.list ((dS l r n).map int)),s3,s4] 0:=by
 have h8:=O.hi
 obtain⟨env',β',ef,s3,s4,rfl,rfl⟩:=ic (t:=.two 3 4) (m:=kO ((([1] ++ ([3] ++ [])) ++ []) ++ (@GM ++ [])) (Ac (cM (f2 (av wj (aa (gv 1) (aa (gv 3) ah))) (gv 1) (cY true))) (cM (f2 (f2 (gv 1) (gv 4) Dd) (gv 4) (cY false))))
  (nC 2 [3] (gv 3)) mh) (ds:=dC ((List.range n).map λb=>mI (bF l b) n)) (k:=0)
  (λk env b=>∃s3 s4,env= [@IO,.fz (mI (dU r) n),.ow (.list ((dS l r k).map int)),s3,s4]/\b=0)
  (env:=[@IO,.fz (mI (dU r) n),.ow (.list []),.no,.no]) (β:=0) ⟨.no,.no,rfl,rfl⟩ (by
   rintro k d env b hk ⟨s3,s4,rfl,rfl⟩
   unfold dC at hk
   rw[Q6,OU] at hk
   have hkn:k < n:=by
    by_cases h:k < n
    ·exact h
    ·rw[Qg (by simp;omega)] at hk;cases hk
   rw[Qy hkn] at hk
   cases hk
   refine⟨[@IO,.fz (mI (dU r) n),.ow (.list ((dS l r (0 + k)).map int)),.fz (.int k),.fz (mI (bF l k) n)],rfl,?_⟩
   rw[PR]
   have et:Ac (cM (f2 (av wj (aa (gv 1) (aa (gv 3) ah))) (gv 1) (cY true))) (cM (f2 (f2 (gv 1) (gv 4) Dd) (gv 4) (cY false))) (vl [@IO,.fz (mI (dU r) n),.ow (.list ((dS l r k).map int)),.fz (.int k),.fz (mI (bF l k) n)]) 0=.ok (iN l r k) 0:=by
    rw[<-Dl O hkn]
    refine Ej (dZ _ _ _ _ (aE (x:=mI (iJ (dU r) k) n) (y:=mI (dU r) n) (aq (ds:=[mI (dU r) n,.int k]) rfl (Cq h8 hkn)) rfl ?_)) (dZ _ _ _ _ (aE (x:=.int ((mk (dU r) n &&& mk (bF l k) n:Nat):Int)) (y:=mI (bF l k) n) (aE (x:=mI (dU r) n) (y:=mI (bF l k) n) rfl rfl ?_) rfl ?_))
    ·unfold mI;rw[mN,OG rfl];congr 3;rw[P6];omega
    ·show some (int (Builtin.bitAnd _ _))=_
     rw[yS]
    ·unfold mI;rw[mN,OP OZ];congr 2;rw[P6];omega
   cases c:iN l r (k:Int) with
   |true=>
    rw[c] at et
    refine⟨[@IO,.fz (mI (dU r) n),.ow (.list ((dS l r (k + 1)).map int)),.fz (.int k),.fz (mI (bF l k) n)],0,?_,_,_,rfl,rfl⟩
    rw[lO et]
    have hz:=oz l r k
    rw[show aW ((([1] ++ ([3] ++ [])) ++ []) ++ (@GM ++ [])) [@IO,.fz (mI (dU r) n),.ow (.list ((dS l r k).map int)),.fz (.int k),.fz (mI (bF l k) n)]= [@IO,.fz (mI (dU r) n),.ow (.list ((dS l r k).map int)),.fz (.int k),.fz (mI (bF l k) n)] from rfl]
    rw[qb (i:=2) (ds:=(dS l r k).map int) (d:=.int k) (β':=0) (by rfl) rfl (by rfl) (by rw[OH];omega),tW,OG c,Pn]
    rfl
   |false=>
    rw[c] at et
    refine⟨[@IO,.fz (mI (dU r) n),.ow (.list ((dS l r (k + 1)).map int)),.fz (.int k),.fz (mI (bF l k) n)],0,?_,_,_,rfl,rfl⟩
    rw[iw et,tW,c,show dS l r k ++ (if false=true then [(k:Int)] else [])=dS l r k by simp]
    rfl)
 have hle:(dC ((List.range n).map λb=>mI (bF l b) n)).length=n:=by unfold dC;simp
 rw[PR,hle] at ef
 exact⟨s3,s4,ef⟩
def MS {n:Nat}{l:@A_}(O:OM.Ord n l)(r:@D_):MH [cp n (bF l),mI (dU r) n]=.ok (.list ((dS l r n).map int)) true:=by
 show fin (g7 wj [@IO,.fz (mI (dU r) n),.no,.no,.no] 0)=_
 unfold g7
 rw[aC (env':=[@IO,.fz (mI (dU r) n),.ow (.list []),.no,.no]) (β':=0) (by rw[kz,lp (ds:=[]) an];rfl)]
 obtain⟨s3,s4,e⟩:=Gd O r
 rw[aC (env':=[@IO,.fz (mI (dU r) n),.ow (.list ((dS l r n).map int)),s3,s4]) (β':=0) (by
  rw[fR (env:=[@IO,.fz (mI (dU r) n),.ow (.list []),.no,.no]) (ds:=dC ((List.range n).map λb=>mI (bF l b) n)) (β1:=0) rfl]
  exact e)]
 rfl
noncomputable def Km:@Cl:=aS 6 2 (jJ MH wj)
structure JX (n:Nat)(l:@A_)(late r:@D_):Prop where
 beg:EN n l r
 late:∀q x,(q ++ [x]) <+:r->x∈late->∀y:Int,(0<=y/\y < n)->iN l q y=true->y∈late
def wY (neg:Bool)(a:Int)(s:@D_):mX neg (.int a) (.list (s.map int))=some (.bool (if neg then !decide (a∈s) else decide (a∈s))):=by
 unfold mX
 simp only[lV,Bb,any_ints]
 rfl
def JX.more {n:Nat}{l:@A_}{late r:@D_}{x:Int}(R:JX n l late r)(hx:0<=x/\x < (n:Int))(hf:iN l r x=true)(hl:x∈late->∀y:Int,(0<=y/\y < n)->iN l r y=true->y∈late):JX n l late (r ++ [x]):=by
 refine⟨R.beg.more hx hf,λq z hp hz y hy hfy=>?_⟩
 rcases List.prefix_concat_iff.mp hp with e |hp
 ·have:=List.append_inj' e rfl
  obtain⟨rfl,e2⟩:=this
  cases e2
  exact hl hz y hy hfy
 ·exact R.late q z hp hz y hy hfy
def JN (n:Nat):mI (dU []) n=.int 0:=by
 unfold mI
 congr 1
 have:mk (dU []) n=0:=by
  induction n with
  |zero=>rfl
  |succ m ih=>unfold mk;rw[ih];simp[dU]
 rw[this];rfl
def Jp {n:Nat}{r:@D_}{x:Int}(h:0<=x/\x < n):mI (iJ (dU r) x.toNat) n=mI (dU (r ++ [x])) n:=by
 unfold mI
 congr 2
 rw[mk_eq]
 intro i hi
 unfold iJ dU
 rw[PM]
 simp only[Qf,OY,OT,O7]
 constructor
 ·rintro (h |h)
  ·exact .inl h
  ·exact .inr (@AT)
 ·rintro (h |h)
  ·exact .inl h
  ·exact .inr (@AT)
def Lu {n:Nat}{l:@A_}{late:@D_}(O:OM.Ord n l)(hz:late.length<=100):∃r,Km [cp n (bF l),.list (late.map int)]=.ok (tupI r) false/\Row n l r/\JX n l late r:=by
 have h8:=O.hi
 show ∃r,fin (jJ MH wj [@IO,.fz (.list (late.map int)),.no,.no,.no,.no] 0)=.ok (tupI r) false/\Row n l r/\JX n l late r
 unfold jJ
 rw[aC (env':=[@IO,.fz (.list (late.map int)),.ow (.list (([]:@D_).map int)),.no,.no,.no]) (β':=0) (by rw[kz,lp (ds:=[]) an];rfl)]
 rw[aC (env':=[@IO,.fz (.list (late.map int)),.ow (.list (([]:@D_).map int)),.fz (mI (dU []) n),.no,.no]) (β':=0) (by rw[b8,JN];rfl)]
 obtain⟨env',β',ew,r,s4,s5,rfl,rfl,hr,R⟩:=jc (L:=[] ++ []) (t:=cM (f2 (f1 (gv 2) dP) (f1 (gv 0) dP) qd))
  (m:=aL (bR 4 ([0] ++ ([3] ++ [])) (av MH (aa (gv 0) (aa (gv 3) ah))))
   (aL (bR 5 @GM (aM 1 [1] (.nm 0) (bc (gv 4)) (cM (f2 (gv 0) (gv 1) (mX true))) (gv 0)))
   (aL (nC 2 (@GM ++ []) (f2 (f2 (gv 5) (gv 4) jr) @E_ bh))
   (bR 3 ([3] ++ (@GM ++ [])) (av wj (aa (gv 3) (aa (f2 (gv 2) (f1 @Do mZ) bh) ah)))))))
  (λk env b=>∃r s4 s5,env= [@IO,.fz (.list (late.map int)),.ow (.list (r.map int)),.fz (mI (dU r) n),s4,s5]/\b=0/\JX n l late r/\k=n - r.length)
  (λenv b=>∃r s4 s5,env= [@IO,.fz (.list (late.map int)),.ow (.list (r.map int)),.fz (mI (dU r) n),s4,s5]/\b=0/\Row n l r/\JX n l late r)
  (n:=1000) (k:=n) (env:=[@IO,.fz (.list (late.map int)),.ow (.list (([]:@D_).map int)),.fz (mI (dU []) n),.no,.no]) (β:=0) (@AT)
  ⟨[],.no,.no,rfl,rfl,⟨⟨Q4,(λx hx=>by cases hx),(λp _ h=>by cases h)⟩,λq x hp=>by simp at hp⟩,by simp⟩ (by
   rintro k env b ⟨r,s4,s5,rfl,rfl,R,rfl⟩
   have hrl:=R.beg.len
   have et:cM (f2 (f1 (gv 2) dP) (f1 (gv 0) dP) qd) (vl [@IO,.fz (.list (late.map int)),.ow (.list (r.map int)),.fz (mI (dU r) n),s4,s5]) 0=.ok (decide ((r.length:Int) < n)) 0:=by
    refine dZ _ _ _ _ (aE (x:=.int r.length) (y:=.int n) (β1:=0) ?_ ?_ rfl)
    ·rw[nD (ds:=r.map int) rfl,OH]
    ·rw[nD (ds:=(List.range n).map λb=>mI (bF l b) n) rfl,OH,P7]
   refine⟨_,_,et,?_⟩
   by_cases hlt:r.length < n
   ·refine .inr ⟨OE (@AT),?_⟩
    show ∃env2 β2 k',aL _ _ [@IO,.fz (.list (late.map int)),.ow (.list (r.map int)),.fz (mI (dU r) n),s4,s5] 0=.nx env2 β2/\k' < n - r.length/\_
    rw[aC (env':=[@IO,.fz (.list (late.map int)),.ow (.list (r.map int)),.fz (mI (dU r) n),.fz (.list ((dS l r n).map int)),s5]) (β':=0) (by rw[b8,aq (ds:=[cp n (bF l),mI (dU r) n]) (β1:=0) rfl (MS O r)];rfl)]
    have ec:aM 1 [1] (.nm 0) (bc (gv 4)) (cM (f2 (gv 0) (gv 1) (mX true))) (gv 0) (vl [@IO,.fz (.list (late.map int)),.ow (.list (r.map int)),.fz (mI (dU r) n),.fz (.list ((dS l r n).map int)),s5]) 0=.ok (.list (((dS l r n).filter λx=> !decide (x∈late)).map int)) 0:=by
     refine bQ (l:=dS l r n) (e:=int) (λx=> !decide (x∈late)) int rfl (by have:=oz l r n;omega) λx hx=>⟨_,rfl,?_,λ_=>rfl⟩
     exact dZ _ _ _ _ (aE (x:=.int x) (y:=.list (late.map int)) rfl rfl (wY true x late))
    generalize hEE:((dS l r n).filter λx=> !decide (x∈late))=EE at ec
    rw[aC (env':=[@IO,.fz (.list (late.map int)),.ow (.list (r.map int)),.fz (mI (dU r) n),.fz (.list ((dS l r n).map int)),.fz (.list (EE.map int))]) (β':=0) (by rw[b8,ec];rfl)]
    have hne:dS l r n≠ []:=R.beg.free O hlt
    have hEl:EE.length<=n:=by rw[<-hEE];exact PB (Pu _ _) (oz l r n)
    have hfl:=oz l r n
    obtain⟨x,L,hx⟩:∃x L,EE ++ dS l r n=x :: L:=List.exists_cons_of_ne_nil (by simp[hne])
    have hxm:x∈dS l r n:=by
     have:x∈EE ++ dS l r n:=by rw[hx];exact ON ..
     rcases OT.mp this with h |h
     ·rw[<-hEE] at h;exact (OJ.mp h).1
     ·exact h
    obtain⟨hm1,hm2⟩:=OJ.mp hxm
    have hxr:=aJ.mp hm1
    have hlate:x∈late->∀y:Int,(0<=y/\y < n)->iN l r y=true->y∈late:=λhxl y hy hfy=>by
     apply Classical.byContradiction
     intro hn
     have hyE:y∈EE:=by rw[<-hEE];exact OJ.mpr ⟨OJ.mpr ⟨aJ.mpr hy,hfy⟩,by simp[hn]⟩
     cases hE:EE with
     |nil=>rw[hE] at hyE;cases hyE
     |cons z Z=>
      rw[hE,List.cons_append] at hx
      have e1:=(List.cons.inj hx).1
      have:z∈EE:=by rw[hE];exact ON ..
      rw[<-hEE] at this
      have:=(OJ.mp this).2
      rw[e1] at this
      simp[hxl] at this
    have R':=R.more hxr hm2 hlate
    rw[aC (env':=[@IO,.fz (.list (late.map int)),.ow (.list ((r ++ [x]).map int)),.fz (mI (dU r) n),.fz (.list ((dS l r n).map int)),.fz (.list (EE.map int))]) (β':=0) ?bb]
    case bb=>
     have ei:f2 (f2 (gv 5) (gv 4) jr) @E_ bh (vl [@IO,.fz (.list (late.map int)),.ow (.list (r.map int)),.fz (mI (dU r) n),.fz (.list ((dS l r n).map int)),.fz (.list (EE.map int))]) 0=.ok (.int x) 0:=by
      refine aE (x:=.list ((EE ++ dS l r n).map int)) (y:=.int 0) (aE (x:=.list (EE.map int)) (y:=.list ((dS l r n).map int)) rfl rfl ?_) rfl ?_
      ·rw[kU (by rw[OH,OH];omega),Pn]
      ·rw[hx];exact mS (xs:=.int x :: L.map int) (j:=0) rfl
     rw[qb (i:=2) (ds:=r.map int) (d:=.int x) (β':=0) (by rfl) ei (by rfl) (by rw[OH];omega),Pn]
     rfl
    have e1:(x.toNat:Int)=x:=@AT
    have el:f2 (gv 2) (f1 @Do mZ) bh (vl [@IO,.fz (.list (late.map int)),.ow (.list ((r ++ [x]).map int)),.fz (mI (dU r) n),.fz (.list ((dS l r n).map int)),.fz (.list (EE.map int))]) 0=.ok (.int (x.toNat:Int)) 0:=by
     refine aE (x:=.list ((r ++ [x]).map int)) (y:=.int (-1)) rfl rfl ?_
     show l8 ((r ++ [x]).map int) (-1)=_
     rw[e1]
     unfold l8 uF
     rw[OP (@AT),OG (by simp;omega)]
     show ((r ++ [x]).map int)[((-1:Int) + ((((r ++ [x]).map int).length:Nat):Int)).toNat]? =_
     rw[show ((-1:Int) + ((((r ++ [x]).map int).length:Nat):Int)).toNat=r.length by simp;omega,Pn,Po (by simp)]
     simp
    refine⟨[@IO,.fz (.list (late.map int)),.ow (.list ((r ++ [x]).map int)),.fz (mI (dU (r ++ [x])) n),.fz (.list ((dS l r n).map int)),.fz (.list (EE.map int))],0,n - (r ++ [x]).length,?_,by rw[O9,PD];omega,_,_,_,rfl,rfl,R',rfl⟩
    rw[b8,aq (ds:=[mI (dU r) n,.int (x.toNat:Int)]) (β1:=0) (ac rfl (ac el an)) (Cq h8 (@AT)),Jp hxr];rfl
   ·refine .inl ⟨OR (@AT),r,s4,s5,rfl,rfl,R.beg.row O (@AT),R⟩)
 rw[aC (env':=[@IO,.fz (.list (late.map int)),.ow (.list (r.map int)),.fz (mI (dU r) n),s4,s5]) (β':=0) ew]
 exact⟨r,rfl,hr,R⟩
def lR (l:@A_)(x y:Int):Bool:=decide (x=y) || decide ((x,y)∈l)
def eY {l:@A_}{x y:Int}:lR l x y=true↔x=y\/(x,y)∈l:=by unfold lR;simp
def vn {n:Nat}{l:@A_}(O:OM.Ord n l){x y z:Int}(h:lR l x y=true)(k:lR l y z=true):lR l x z=true:=by
 rw[eY] at *
 rcases h with rfl |h
 ·exact k
 ·rcases k with rfl |k
  ·exact .inr h
  ·exact .inr (O.tr _ _ _ h k)
def putL (n:Nat)(l:@A_)(t:Pr):@A_:=(OM.bP n).filter λp=>decide (p∈l) || (lR l p.1 t.2 && lR l t.1 p.2)
def mf {n:Nat}{l:@A_}{t p:Pr}(h:(0<=p.1/\p.1 < n)/\(0<=p.2/\p.2 < n)):p∈putL n l t↔p∈l\/(lR l p.1 t.2=true/\lR l t.1 p.2=true):=by
 unfold putL
 rw[OJ,OM.aZ,Qf,O1,OY]
 exact⟨λh=>h.2,λk=>⟨h,k⟩⟩
def nz {n:Nat}{l:@A_}{t p:Pr}(h:p∈putL n l t):p∈l\/(lR l p.1 t.2=true/\lR l t.1 p.2=true):=by
 unfold putL at h
 have:=(OJ.mp h).2
 rw[Qf,O1,OY] at this
 exact this
def FZ {n:Nat}{l:@A_}{t:Pr}(O:OM.Ord n l)(h:lR l t.1 t.2=false):OM.Ord n (putL n l t):=by
 have hn:¬lR l t.1 t.2=true:=by rw[h];exact OZ
 refine⟨O.lo,O.hi,λp hp=>OM.aZ.mp (OJ.mp hp).1,OM.b7 _ (OM.cQ n),λa ha=>?_,λa b c hab hbc=>?_⟩
 ·rcases nz ha with q | ⟨q1,q2⟩
  ·exact O.irr a q
  ·exact hn (vn O q2 q1)
 ·have g1:=OM.aZ.mp (OJ.mp hab).1
  have g2:=OM.aZ.mp (OJ.mp hbc).1
  refine (mf (p:=(a,c)) ⟨g1.1,g2.2⟩).mpr ?_
  rcases nz hab with q | ⟨q1,q2⟩
  ·rcases nz hbc with r | ⟨r1,r2⟩
   ·exact .inl (O.tr _ _ _ q r)
   ·exact .inr ⟨vn O (eY.mpr (.inr q)) r1,r2⟩
  ·rcases nz hbc with r | ⟨r1,r2⟩
   ·exact .inr ⟨q1,vn O q2 (eY.mpr (.inr r))⟩
   ·exact .inr ⟨q1,r2⟩
def Ak {n:Nat}{l:@A_}{t p:Pr}(O:OM.Ord n l)(h:p∈l):p∈putL n l t:=(mf (O.wn p h)).mpr (.inl h)
def qN {n:Nat}{l:@A_}{t:Pr}(h:(0<=t.1/\t.1 < n)/\(0<=t.2/\t.2 < n)):(t.2,t.1)∈putL n l t:=(mf ⟨h.2,h.1⟩).mpr (.inr ⟨eY.mpr (.inl rfl),eY.mpr (.inl rfl)⟩)
def FD:@Cl:=aS 3 3 (lK wj)
def JU {n:Nat}{l:@A_}{a b:Int}(h8:n<=8)(ha:0<=a/\a < n)(hb:0<=b/\b < n):FD [cp n (bF l),.int a,.int b]=.ok (.bool (decide ((a,b)∈l))) false:=by
 have ea:((a.toNat:Nat):Int)=a:=@AT
 have eb:((b.toNat:Nat):Int)=b:=@AT
 show fin (lK wj [@IO,.fz (.int a),.fz (.int b)] 0)=_
 unfold lK
 have em:f2 (gv 0) (gv 2) bh (vl [@IO,.fz (.int a),.fz (.int b)]) 0=.ok (mI (bF l b.toNat) n) 0:=by
  refine aE (x:=cp n (bF l)) (y:=.int b) rfl rfl ?_
  have:=D8 (n:=n) (M:=bF l) (b:=b.toNat) (@AT)
  rw[eb] at this
  exact this
 rw[cD,aE (x:=mI (iJ (bF l b.toNat) a.toNat) n) (y:=mI (bF l b.toNat) n) (d:=.bool (decide ((a,b)∈l))) (β1:=0) (β2:=0) (aq (b:=false) (ds:=[mI (bF l b.toNat) n,.int (a.toNat:Int)]) (ac em (ac (by rw[ea];rfl) an)) (Cq h8 (@AT))) em ?z]
 ·rfl
 case z=>
  unfold mI
  rw[mN,OP OZ]
  congr 2
  rw[P6]
  constructor
  ·intro h
   have h:mk (iJ (bF l b.toNat) a.toNat) n=mk (bF l b.toNat) n:=@AT
   have:=mk_eq.mp h a.toNat (@AT)
   unfold iJ bF at this
   rw[ea,eb] at this
   simpa using this
  ·intro h
   have:mk (iJ (bF l b.toNat) a.toNat) n=mk (bF l b.toNat) n:=mk_eq.mpr λi hi=>by
    unfold iJ bF
    by_cases e:i=a.toNat
    ·rw[e,ea,eb];simp[h]
    ·simp[e]
   rw[this]
def Dc:@Cl:=aS 2 2 (jW FD)
def Jx {n:Nat}{l:@A_}{t:Pr}(h8:n<=8)(h:(0<=t.1/\t.1 < n)/\(0<=t.2/\t.2 < n)):Dc [cp n (bF l),ax t]=.ok (.bool (decide (t∈l))) false:=by
 show fin (jW FD [@IO,.fz (ax t)] 0)=_
 unfold jW
 rw[cD,aq (ds:=[cp n (bF l),.int t.1,.int t.2]) (β1:=0) rfl (JU h8 h.1 h.2)];rfl
def II {f g:Nat->Bool}{n:Nat}:mk f n ||| mk g n=mk (λi=>f i || g i) n:=by
 apply Q7
 intro i
 rw[Nat.testBit_or,iM,iM,iM]
 by_cases h:i < n <;> simp[h]
noncomputable def Kg:@Cl:=aS 4 2 (lq FD wj)
def NZ {n:Nat}{l:@A_}{t:Pr}(h8:n<=8)(h:(0<=t.1/\t.1 < n)/\(0<=t.2/\t.2 < n)):Kg [cp n (bF l),ax t]=.ok (cp n (bF (putL n l t))) true:=by
 have e2:((t.2.toNat:Nat):Int)=t.2:=@AT
 show fin (lq FD wj [@IO,.fz (ax t),.no,.no] 0)=_
 unfold lq
 have el:f1 (gv 0) dP (vl [@IO,.fz (ax t),.no,.no]) 0=.ok (.int n) 0:=by
  rw[nD (ds:=(List.range n).map λb=>mI (bF l b) n) rfl,OH,P7]
 have ec:aM 1 [1,0] (.nm 0) (gm (f1 (gv 0) dP)) (oR (cM (f2 (gv 0) (f2 (gv 1) @E_ bh) (cY false))) (iS (av FD (aa (gv 2) (aa (f2 (gv 1) @E_ bh) (aa (gv 0) ah)))))) (gv 0) (vl [@IO,.fz (ax t),.no,.no]) 0=.ok (.list (((bN n).filter λx=>lR l t.1 x).map int)) 0:=by
  refine bQ (l:=bN n) (e:=int) (λx=>lR l t.1 x) int ?_ (by rw[cO];omega) λx hx=>⟨[.da (.int x),.da (ax t),.da (cp n (bF l))],rfl,?_,λ_=>rfl⟩
  ·rw[<-tI];exact iE (n:=n) el (@AT)
  ·have hx:=aJ.mp hx
   have:=FI (dD (neg:=false) (fa:=gv 0) (fb:=f2 (gv 1) @E_ bh) (vs:=[.da (.int x),.da (ax t),.da (cp n (bF l))]) (β:=0) (i:=x) (j:=t.1) rfl rfl) (fq (aq (F:=FD) (fr:=aa (gv 2) (aa (f2 (gv 1) @E_ bh) (aa (gv 0) ah))) (vs:=[.da (.int x),.da (ax t),.da (cp n (bF l))]) (β:=0) (ds:=[cp n (bF l),.int t.1,.int x]) rfl (JU h8 h.1 hx)))
   rw[this]
   congr 1
   unfold lR
   rw[OP OZ]
   congr 1
   rw[P6];exact⟨Eq.symm,Eq.symm⟩
 rw[aC (env':=[@IO,.fz (ax t),.fz (.list (((bN n).filter λx=>lR l t.1 x).map int)),.no]) (β':=0) (by rw[b8,ec];rfl)]
 have em:f2 (gv 0) (f2 (gv 1) @Do bh) bh (vl [@IO,.fz (ax t),.fz (.list (((bN n).filter λx=>lR l t.1 x).map int)),.no]) 0=.ok (mI (bF l t.2.toNat) n) 0:=by
  refine aE (x:=cp n (bF l)) (y:=.int t.2) rfl (aE rfl rfl rfl) ?_
  have:=D8 (n:=n) (M:=bF l) (b:=t.2.toNat) (@AT)
  rw[e2] at this
  exact this
 rw[aC (env':=[@IO,.fz (ax t),.fz (.list (((bN n).filter λx=>lR l t.1 x).map int)),.fz (mI (iJ (bF l t.2.toNat) t.2.toNat) n)]) (β':=0) (by
  rw[b8,aq (b:=false) (ds:=[mI (bF l t.2.toNat) n,.int (t.2.toNat:Int)]) (β1:=0) (ac em (ac (by rw[e2];rfl) an)) (Cq h8 (@AT))];rfl)]
 have ed:aM 2 [2,3] (.two 0 1) (GR (gv 0)) j0 (Mc (cM (f2 (gv 0) (gv 2) (mX false))) (f2 (gv 1) (gv 3) MJ) (gv 1)) (vl [@IO,.fz (ax t),.fz (.list (((bN n).filter λx=>lR l t.1 x).map int)),.fz (mI (iJ (bF l t.2.toNat) t.2.toNat) n)]) 0=.ok (cp n (bF (putL n l t))) 0:=by
  unfold cp
  refine bY (l:=List.range n) (e:=λb=>.tuple [.int b,mI (bF l b) n]) (λb=>mI (bF (putL n l t) b) n) ?_ (by rw[P7];omega) λb hb=>⟨[.da (.int b),.da (mI (bF l b) n),.da (.list (((bN n).filter λx=>lR l t.1 x).map int)),.da (mI (iJ (bF l t.2.toNat) t.2.toNat) n)],rfl,?_⟩
  ·show R.ok (dC ((List.range n).map λb=>mI (bF l b) n)) 0=_
   congr 1
   unfold dC
   refine QP (by simp) λi h1 h2=>by simp
  ·have hbn:=Pp.mp hb
   have hmem:decide ((b:Int)∈(bN n).filter λx=>lR l t.1 x)=lR l t.1 b:=by
    rw[PM,OY,OJ]
    exact⟨λh=>h.2,λh=>⟨aJ.mpr ⟨@AT,@AT ⟩,h⟩⟩
   have et:cM (f2 (gv 0) (gv 2) (mX false)) [.da (.int b),.da (mI (bF l b) n),.da (.list (((bN n).filter λx=>lR l t.1 x).map int)),.da (mI (iJ (bF l t.2.toNat) t.2.toNat) n)] 0=.ok (lR l t.1 b) 0:=by
    rw[<-hmem]
    exact dZ _ _ _ _ (aE (x:=.int b) (y:=.list (((bN n).filter λx=>lR l t.1 x).map int)) rfl rfl (wY false b _))
   rw[Cj,et]
   show (if lR l t.1 b=true then _ else _)=_
   have key:∀a,a < n->bF (putL n l t) b a=(bF l b a || (lR l a t.2 && lR l t.1 b)):=λa ha=>by
    unfold bF
    rw[PM,OY,mf ⟨⟨by simp only;omega,by simp only;omega⟩,⟨by simp only;omega,by simp only;omega⟩⟩,Qf,O1,OY]
   by_cases c:lR l t.1 b=true
   ·rw[OG c]
    refine aE (x:=mI (bF l b) n) (y:=mI (iJ (bF l t.2.toNat) t.2.toNat) n) rfl rfl ?_
    show some (int (Builtin.bitOr _ _))=_
    rw[ui,II]
    unfold mI
    congr 3
    rw[mk_eq]
    intro a ha
    rw[key a ha,c,Bool.and_true]
    unfold iJ lR bF
    rw[e2]
    congr 1
    rw[Bool.or_comm]
    congr 1
    rw[P6];omega
   ·rw[OP c]
    show R.ok (mI (bF l b) n) 0=_
    unfold mI
    congr 3
    rw[mk_eq]
    intro a ha
    rw[key a ha]
    have c:lR l t.1 b=false:=by simpa using c
    rw[c,Bool.and_false,Bool.or_false]
 rw[ra,ed];rfl
structure WP (r:SO)(Q:SO->Prop):Prop where
 out:Q r
section
variable {m m' m1 m2:SF}{env env1:En}{β β1 β2 z:Int}{Q:SO->Prop}{f fa fb:VF D}{t:VF Bool}{d e:D}{L La Lb:@IR}{i j:Nat}{c:Bool}
def wp_at (env1:En)(e:env=env1)(k:WP (m env1 β) Q):WP (m env β) Q:=by rw[e];exact k
def wp_seq (h:m env β=.nx env1 β1)(k:WP (m' env1 β1) Q):WP (aL m m' env β) Q:=by rw[aC h];exact k
theorem zf (h:WP (aL m mh env β) Q):WP (m env β) Q:=by
 obtain⟨h⟩:=h
 unfold aL at h
 cases e:m env β with
 |_=>rw[e] at h;exact⟨h⟩
def wc (q:Q (.nx env β)):WP (mh env β) Q:=⟨q⟩
def fm (h:f (vl env) β=.ok d β1)(k:WP (m' ((aW L env).set i (.fz d)) β1) Q):WP (aL (bR i L f) m' env β) Q:=wp_seq (by unfold bR;rw[h];rfl) k
def zK (h:f (vl env) β=.ok d β1)(k:WP (m' ((aW L env).set i (.ow d)) β1) Q):WP (aL (jX i L f) m' env β) Q:=wp_seq (by unfold jX;rw[h];rfl) k
def Gu (h:f (vl env) β=.ok (.list [.int z]) β1)(k:WP (m' ((vO (aW L env)).set i .bx) z) Q):WP (aL (AG i L f) m' env β) Q:=wp_seq (by unfold AG;rw[h];rfl) k
def AF (h:f (vl env) β=.ok d β1)(k:WP (m' (aW L env) β1) Q):WP (aL (jo L f) m' env β) Q:=wp_seq (by unfold jo;rw[h];rfl) k
def CH {ds:List D}(hi:env[i]? =some (.ow (.list ds)))(h:f (vl env) β=.ok d β1)(hL:(aW L env)[i]? =some (.ow (.list ds)))(hz:ds.length<=1000)(k:WP (m' ((aW L env).set i (.ow (.list (ds ++ [d])))) β1) Q):WP (aL (nC i L f) m' env β) Q:=wp_seq (qb hi h hL hz) k
def mM (h:t (vl env) β=.ok false β1)(k:WP (m' (aW L env) β1) Q):WP (aL (kO L t m1 mh) m' env β) Q:=wp_seq (by rw[iw h];rfl) k
def qp (h:t (vl env) β=.ok true β1)(k:WP (aL m1 m' (aW L env) β1) Q):WP (aL (kO L t m1 m2) m' env β) Q:=by
 have:aL (kO L t m1 m2) m' env β=aL m1 m' (aW L env) β1:=by unfold aL;rw[lO h]
 rw[this];exact k
def KA (h:t (vl env) β=.ok false β1)(k:WP (m2 (aW L env) β1) Q):WP (kO L t m1 m2 env β) Q:=by rw[iw h];exact k
def ka (h:f (vl env) β=.ok d β1)(q:Q (.rt d false β1)):WP (bL f env β) Q:=⟨by unfold bL;rw[h];exact q⟩
def vP (h:f (vl env) β=.ok d β1)(q:Q (.rt d false β1)):WP (aL (bL f) m' env β) Q:=⟨by unfold aL bL;rw[h];exact q⟩
def j6 {R:FR}(h:WP (m env β) λr=>fin r=R):fin (m env β)=R:=h.out
def CP {t:Tg}{fi:VF (List D)}{ds:List D}(I:Nat->En->Int->Prop)(hi:fi (vl env) β=.ok ds β1)(h0:I 0 (aW L env) β1)
  (hs:∀i d env β,ds[i]? =some d->I i env β->∃env1,ij t d env=some env1/\WP (m env1 β) λr=>∃env2 β2,r=.nx env2 β2/\I (i + 1) env2 β2)
  (k:∀env β,I ds.length env β->WP (m' env β) Q):WP (aL (iO t L fi m) m' env β) Q:=by
 obtain⟨env',β',e,h⟩:=ic (t:=t) (m:=m) I (ds:=ds) (k:=0) h0 λi d env β hd h=>by
  rw[PR] at h
  obtain⟨env1,e1,⟨env2,β2,e2,h2⟩⟩:=hs i d env β hd h
  exact⟨env1,e1,env2,β2,e2,by rw[PR];exact h2⟩
 rw[PR] at h
 exact wp_seq ((fR hi).trans e) (k _ _ h)
def Ee {n:Nat}(I:Nat->En->Int->Prop)(Dn:En->Int->Prop)(b:Nat)(hb:b < n)(h0:I b env β)
  (hs:∀k env β,I k env β->∃c β1,t (vl env) β=.ok c β1/\((c=false/\Dn (aW L env) β1)\/(c=true/\WP (m (aW L env) β1) λr=>∃env2 β2 k',r=.nx env2 β2/\k' < k/\I k' env2 β2)))
  (k:∀env β,Dn env β->WP (m' env β) Q):WP (aL (iG L t m n) m' env β) Q:=by
 obtain⟨env',β',e,h⟩:=jc (L:=L) (t:=t) (m:=m) I Dn (n:=n) hb h0 λk env β h=>by
  obtain⟨c,β1,e1,h⟩:=hs k env β h
  refine⟨c,β1,e1,?_⟩
  rcases h with h | ⟨h1,⟨h2⟩⟩
  ·exact .inl h
  ·exact .inr ⟨h1,h2⟩
 exact wp_seq e (k _ _ h)
end
def It (d:D):Prop:=eJ d=false/\Sq 400 8 d/\Bf d
def Th (d:D):Prop:=Ge d/\Sq 10000 9 d/\Bf d
def Ap (P:D->Prop)(k:Nat)(es:List D):Prop:=es.length<=k/\∀x,x∈es->P x
abbrev Al:Nat->List D->Prop:=Ap It
def EL.it {d:D}(h:EL d):It d:=⟨h.scr,h.sq.mono (@AT) (@AT),h.bf⟩
def J1 {i:Int}(h: -1<=i/\i<=9):It (.int i):=(Aa h).it
def FP {k:Nat}{r:@D_}(hl:r.length<=k)(h:∀x,x∈r->0<=x/\x < 9):Al k (r.map int):=⟨by rw[OH];exact hl,λx hx=>by
 obtain⟨y,hy,rfl⟩:=O3.mp hx
 exact J1 (by have:=h y hy;omega)⟩
def Ap.tup {k:Nat}{a:List D}(h:Al k a)(hk:k<=24):Th (.tuple a):=by
 have:=h.1
 refine⟨J3 (@AT) λx hx=>(h.2 x hx).1,(DU (c:=400) (k:=8) λd hd=>(h.2 d hd).2.1).mono ?_ (@AT),DQ λd hd=>(h.2 d hd).2.2⟩
 have:(400 + 2) * a.length<=402 * 24:=P4 (@AT) (@AT)
 omega
def IT {r:@D_}(hl:r.length<=9)(h:∀x,x∈r->0<=x/\x < 9):It (tupI r):=by
 have sm:∀d,d∈r.map int->EL d:=λd hd=>by
  obtain⟨y,hy,rfl⟩:=O3.mp hd
  exact Aa (by have:=h y hy;omega)
 refine⟨rfl,(DU (c:=20) (k:=0) λd hd=>(sm d hd).sq).mono ?_ (@AT),DQ λd hd=>(sm d hd).bf⟩
 rw[OH]
 have:(20 + 2) * r.length<=22 * 9:=P4 (@AT) hl
 omega
def Lz {n:Nat}{r:@D_}(h8:n<=8)(hp:r.Perm (bN n)):r.length=n/\∀x,x∈r->0<=x/\x < 9:=⟨by rw[hp.length_eq,cO],λx hx=>by have:=aJ.mp (hp.mem_iff.mp hx);omega⟩
def Cn {ds:List D}{k:Nat}(h:k < ds.length):∃d,ds[k]? =some d/\d∈ds/\l8 ds (k:Int)=some d:=⟨ds[k],OD h,Qh h,mS (OD h)⟩
def Kx {fa fb:VF D}{vs:List Nv}{β β1 β2:Int}{a b:List D}(h1:fa vs β=.ok (.tuple a) β1)(h2:fb vs β1=.ok (.tuple b) β2)(hz:a.length + b.length<=1000):f2 fa fb se vs β=.ok (.tuple (a ++ b)) β2:=aE h1 h2 (Ex hz)
def HW {fa fb:VF D}{vs:List Nv}{β β1 β2:Int}{a b:List D}(h1:fa vs β=.ok (.list a) β1)(h2:fb vs β1=.ok (.list b) β2)(hz:a.length + b.length<=1000):f2 fa fb jr vs β=.ok (.list (a ++ b)) β2:=aE h1 h2 (kU (@AT))
def Of {fa:VF D}{vs:List Nv}{β:Int}{i:Nat}(h:fa vs β=.ok (.int (i:Nat)) β):f2 fa @Do bV vs β=.ok (.int ((i + 1:Nat):Int)) β:=aE h rfl (by show some (int ((i:Int) + 1))=_;rw[show ((i + 1:Nat):Int)=(i:Int) + 1 by omega])
section
variable {m m' m1 m2:SF}{env env1:En}{β β1 β2 z:Int}{Q:SO->Prop}{f fa fb:VF D}{t:VF Bool}{d e:D}{L La Lb:@IR}{i j:Nat}{c:Bool}
theorem Ha (h:WP (m env β) λr=>(∀a b,r≠.nx a b)/\Q r):WP (aL m m' env β) Q:=by
 obtain⟨h1,h2⟩:=h.out
 refine⟨?_⟩
 unfold aL
 cases e:m env β with
 |nx a b=>exact absurd e (h1 a b)
 |_=>rw[e] at h2;exact h2
end
def Ig (d:D):Prop:=Ge d/\Sq 400 8 d/\Bf d
def ID {r:@D_}(hl:r.length<=9)(h:∀x,x∈r->0<=x/\x < 9):Ig (tupI r):=⟨(FP (k:=9) hl h).tup (@AT) |>.1,(IT hl h).2⟩
def rL (l:@A_)(p q:Pr):Bool:=decide (p.1=q.2) || decide ((p.1,q.2)∈l)
def EX:@Cl:=aS 3 3 k8
theorem LN (n:Nat)(l:@A_)(p q:Pr):EX [ag n l,ax p,ax q]=.ok (.bool (rL l p q)) false:=by
 show fin (k8 [@Db,.fz (ax p),.fz (ax q)] 0)=_
 unfold k8
 have i0:f2 (gv 1) @E_ bh (vl [@Db,.fz (ax p),.fz (ax q)]) 0=.ok (.int p.1) 0:=aE (x:=ax p) (y:=.int 0) rfl rfl rfl
 have i1:f2 (gv 2) @Do bh (vl [@Db,.fz (ax p),.fz (ax q)]) 0=.ok (.int q.2) 0:=aE (x:=ax q) (y:=.int 1) rfl rfl rfl
 have e1:f2 (f2 (gv 1) @E_ bh) (f2 (gv 2) @Do bh) (cY false) (vl [@Db,.fz (ax p),.fz (ax q)]) 0=.ok (.bool (decide (p.1=q.2))) 0:=aE i0 i1 (mN false p.1 q.2)
 have e2:f2 (bD (aa (f2 (gv 1) @E_ bh) (aa (f2 (gv 2) @Do bh) ah))) (f2 (gv 0) @Do bh) (mX false) (vl [@Db,.fz (ax p),.fz (ax q)]) 0=.ok (.bool (decide ((p.1,q.2)∈l))) 0:=aE (x:=ax (p.1,q.2)) (cC i0 i1) (L4 (n:=n) (l:=l) rfl) (oo false (p.1,q.2) l)
 rw[cD]
 unfold rL
 cases c:decide (p.1=q.2) with
 |true=>rw[c] at e1;rw[N3 e1];rfl
 |false=>rw[c] at e1;rw[NR e1 e2];rfl
def Kw (l:@A_)(ps:@A_):Bool:=(List.range ps.length).all λi=>rL l (ps.getD (if i=0 then ps.length - 1 else i - 1) (0,0)) (ps.getD i (0,0))
def Gi {i:Nat}{L:@IR}{f:VF D}{env:En}{β β':Int}{ds es:List D}(hi:env[i]? =some (.ow (.list ds)))(hf:f (vl env) β=.ok (.list es) β')(hL:(aW L env)[i]? =some (.ow (.list ds)))(hz:ds.length + es.length<=10000) :
  BQ i L f env β=.nx ((aW L env).set i (.ow (.list (ds ++ es)))) β':=by
 unfold BQ
 rw[OG (by rw[hi];rfl),hf]
 exact uA hL (OG (by rw[Pq];omega))
def putAll (n:Nat)(l:@A_)(put:@A_):@A_:=put.foldl (putL n) l
theorem qC {n:Nat}{U:Int->Prop}:∀{put l:@A_},(∀u v,(u,v)∈l->U u->U v)->(∀t,t∈put->U t.2->U t.1)->∀u v,(u,v)∈putAll n l put->U u->U v
 | [],l,h0,_=>h0
 |t :: put,l,h0,h1=>by
  have q:∀u v,lR l u v=true->U u->U v:=λu v h hu=>by
   rcases eY.mp h with rfl |h
   ·exact hu
   ·exact h0 _ _ h hu
  refine qC (put:=put) (l:=putL n l t) (λu v h hu=>?_) (λx hx=>h1 x (OQ _ hx))
  rcases nz h with h | ⟨a,b⟩
  ·exact h0 _ _ h hu
  ·exact q _ _ b (h1 t (ON ..) (q _ _ a hu))
def MC (l:@A_)(p:@A_):Prop:=∀i a b,p[i]? =some a->p[i + 1]? =some b->rL l a b=true
structure RI (l put:@A_)(t:Pr)(ph:List (@A_))(left:@A_)(at':Nat):Prop where
 pth:∀p,p∈ph->∃q,p=t :: q/\(∀x,x∈q->x∈put/\¬x∈left)/\p.Nodup/\MC l p
 lft:∀x,x∈left->x∈put
 rch:∀x,x∈put->x∈left\/∃p,p∈ph/\p.getLast? =some x
 fst:∃p,p∈ph/\p.getLast? =some t
 old:∀i p s,i < at'->ph[i]? =some p->p.getLast? =some s->rL l s t=false/\∀x,x∈left->rL l s x=false
 cnt:ph.length + left.length=put.length + 1
 le:at'<=ph.length
def RI.lt {n:Nat}{l put:@A_}{t:Pr}{ph:List (@A_)}{left:@A_}{k:Nat}(R:RI l put t ph left k)(O:OM.Ord n l)(hb:t∈putAll n l put):k < ph.length:=by
 apply Classical.byContradiction
 intro hn
 have hk:k=ph.length:=by have:=R.le;omega
 have idx:∀p,p∈ph->∃i:Nat,i < k/\ph[i]? =some p:=λp hp=>by
  obtain⟨i,hi⟩:=PZ.mp hp
  exact⟨i,by rw[hk];exact (OO.mp hi).1,hi⟩
 have key:=qC (n:=n) (U:=λx=>∃s:Pr,(∃p,p∈ph/\p.getLast? =some s)/\lR l s.1 x=true) (put:=put) (l:=l) (by
  rintro u v h ⟨s,hs,hl⟩
  exact⟨s,hs,vn O hl (eY.mpr (.inr h))⟩) (by
  rintro x hx ⟨s,⟨p,hp,hs⟩,hl⟩
  rcases R.rch x hx with h |h
  ·obtain⟨i,hi,hpi⟩:=idx p hp
   have h2:rL l s x=false:=(R.old i p s hi hpi hs).2 x h
   have hl:rL l s x=true:=hl
   rw[h2] at hl;cases hl
  ·exact⟨x,h,eY.mpr (.inl rfl)⟩) t.1 t.2 hb ⟨t,R.fst,eY.mpr (.inl rfl)⟩
 obtain⟨s,⟨p,hp,hs⟩,hl⟩:=key
 obtain⟨i,hi,hpi⟩:=idx p hp
 have h2:rL l s t=false:=(R.old i p s hi hpi hs).1
 have hl:rL l s t=true:=hl
 rw[h2] at hl;cases hl
theorem zP {α:Type}(f:α->Bool):∀L:List α,(L.filter f).length + (L.filter λx=> !f x).length=L.length
 | []=>rfl
 |x :: L=>by
  have:=zP f L
  cases h:f x <;> simp[List.filter_cons,h] <;> omega
def Gj {l p:@A_}{s x:Pr}(h:MC l p)(hs:p.getLast? =some s)(hx:rL l s x=true):MC l (p ++ [x]):=by
 intro i a b ha hb
 have hl:p≠ []:=λe=>by rw[e] at hs;cases hs
 have hpos:=List.length_pos_iff.mpr hl
 by_cases c:i + 1 < p.length
 ·rw[Pg (@AT)] at ha
  rw[Pg c] at hb
  exact h i a b ha hb
 ·by_cases d:i + 1=p.length
  ·rw[Pg (@AT)] at ha
   rw[Po (@AT),d,Nat.sub_self] at hb
   cases hb
   rw[Rf,show p.length - 1=i by omega,ha] at hs
   cases hs
   exact hx
  ·rw[Qg (by rw[O9,PD];omega)] at hb
   cases hb
def RI.step {l put:@A_}{t s:Pr}{ph:List (@A_)}{left p fr:@A_}{k:Nat}(R:RI l put t ph left k)(htp:¬t∈put)(hp:ph[k]? =some p)(hs:p.getLast? =some s)(hst:rL l s t=false)(hfr:left.filter (λx=>rL l s x)=fr):RI l put t (ph ++ fr.map λx=>p ++ [x]) (left.filter λx=> !decide (x∈fr)) (k + 1):=by
 have hpm:p∈ph:=PZ.mpr ⟨k,hp⟩
 have hk:k < ph.length:=(OO.mp hp).1
 have mfr:∀x,x∈fr↔x∈left/\rL l s x=true:=λx=>by rw[<-hfr];exact OJ
 have mlf:∀x,x∈(left.filter λx=> !decide (x∈fr))↔x∈left/\¬x∈fr:=λx=>by rw[OJ];simp
 refine⟨λr hr=>?_,λx hx=>R.lft x ((mlf x).mp hx).1,λx hx=>?_,?_,λi r s' hi hr hs'=>?_,?_,?_⟩
 ·rcases OT.mp hr with hr |hr
  ·obtain⟨q,e,h1,h2,h3⟩:=R.pth r hr
   exact⟨q,e,λx hx=>⟨(h1 x hx).1,λhm=>(h1 x hx).2 ((mlf x).mp hm).1⟩,h2,h3⟩
  ·obtain⟨x,hx,rfl⟩:=O3.mp hr
   obtain⟨q,e,h1,h2,h3⟩:=R.pth p hpm
   have hxf:=(mfr x).mp hx
   refine⟨q ++ [x],by rw[e];rfl,λy hy=>?_,?_,Gj h3 hs hxf.2⟩
   ·rcases OT.mp hy with hy |hy
    ·exact⟨(h1 y hy).1,λhm=>(h1 y hy).2 ((mlf y).mp hm).1⟩
    ·rw[O7] at hy;subst hy
     exact⟨R.lft _ hxf.1,λhm=>((mlf _).mp hm).2 hx⟩
   ·refine QY.mpr ⟨h2,by simp,λa ha b hb eab=>?_⟩
    rw[O7] at hb;subst hb;subst eab
    rw[e] at ha
    rcases OK.mp ha with rfl |ha
    ·exact htp (R.lft _ hxf.1)
    ·exact (h1 _ ha).2 hxf.1
 ·rcases R.rch x hx with h | ⟨r,h1,h2⟩
  ·by_cases c:x∈fr
   ·exact .inr ⟨p ++ [x],OT.mpr (.inr (O3.mpr ⟨x,c,rfl⟩)),by simp⟩
   ·exact .inl ((mlf x).mpr ⟨h,c⟩)
  ·exact .inr ⟨r,OT.mpr (.inl h1),h2⟩
 ·obtain⟨r,h1,h2⟩:=R.fst
  exact⟨r,OT.mpr (.inl h1),h2⟩
 ·rw[Pg (@AT)] at hr
  by_cases c:i=k
  ·subst c
   rw[hp] at hr;cases hr
   rw[hs] at hs';cases hs'
   refine⟨hst,λx hx=>?_⟩
   obtain⟨a,b⟩:=(mlf x).mp hx
   cases z:rL l s x with
   |false=>rfl
   |true=>exact absurd ((mfr x).mpr ⟨a,z⟩) b
  ·obtain⟨a,b⟩:=R.old i r s' (@AT) hr hs'
   exact⟨a,λx hx=>b x ((mlf x).mp hx).1⟩
 ·have h1:=zP (λx=>rL l s x) left
  have h2:(left.filter λx=> !decide (x∈fr))=left.filter λx=> !rL l s x:=QX λx hx=>by
   congr 1
   rw[PM,OY,mfr x]
   exact⟨λh=>h.2,λh=>⟨hx,h⟩⟩
  rw[h2,O9,OH,<-hfr]
  have:=R.cnt
  omega
 ·rw[O9];omega
theorem zq:∀{q put:@A_},q.Nodup->(∀x,x∈q->x∈put)->q.length<=put.length
 | [],_,_,_=>Pz _
 |x :: q,put,nd,h=>by
  have nd:=Pl.mp nd
  have hx:=h x (ON ..)
  have:=zq (q:=q) (put:=put.erase x) nd.2 λy hy=>(List.mem_erase_of_ne (λe=>nd.1 (by rw[<-e];exact hy))).mpr (h y (OQ _ hy))
  rw[Rj hx] at this
  have:=List.length_pos_of_mem hx
  rw[O8];omega
abbrev pD (p:@A_):D:=.list (p.map ax)
def D7 {fs:@A_}{s:Pr}(h:fs.getLast? =some s):l8 (fs.map ax) (-1)=some (ax s):=by
 have hl:fs≠ []:=λe=>by rw[e] at h;cases h
 have hpos:=List.length_pos_iff.mpr hl
 unfold l8 uF
 rw[OP (@AT),OG (by simp;omega)]
 show (fs.map ax)[((-1:Int) + (((fs.map ax).length:Nat):Int)).toNat]? =_
 rw[show ((-1:Int) + (((fs.map ax).length:Nat):Int)).toNat=fs.length - 1 by simp;omega,OU,<-Rf,h];rfl
def zT {ph:List (@A_)}{p:@A_}{k:Nat}(h:ph[k]? =some p):l8 (ph.map pD) (k:Int)=some (pD p):=by
 have hk:k < ph.length:=(OO.mp h).1
 rw[n9,zt hk]
 have:ph[k]=p:=by rw[OD hk] at h;exact Option.some.inj h
 rw[this];rfl
noncomputable def Kr:@Cl:=aS 7 3 (jP EX)
def Jo {l p:@A_}{s:Pr}(h:MC l p)(hs:p.getLast? =some s){t:Pr}{q:@A_}(e:p=t :: q)(hst:rL l s t=true):Kw l p=true:=by
 unfold Kw
 rw[O4]
 intro i hi
 have hi:=Pp.mp hi
 by_cases c:i=0
 ·subst c
  rw[OG rfl,O5,<-Rf,hs,e]
  exact hst
 ·rw[OP c]
  refine h (i - 1) _ _ ?_ ?_
  ·rw[O5,OD (@AT)];rfl
  ·rw[show i - 1 + 1=i by omega,O5,OD hi];rfl
def Nb {n:Nat}{l put:@A_}{t:Pr}(O:OM.Ord n l)(hz:put.length<=100)(htp:¬t∈put)(hb:t∈putAll n l put):∃r,Kr [ag n l,.tuple (put.map ax),ax t]=.ok (.list (r.map ax)) false/\(∀x,x∈r->x=t\/x∈put)/\r.Nodup/\r≠ []/\Kw l r=true:=by
 show ∃r,fin (jP EX [@Db,.fz (.tuple (put.map ax)),.fz (ax t),.no,.no,.no,.no] 0)=_/\_
 unfold jP
 rw[aC (env':=[@Db,.fz (.tuple (put.map ax)),.fz (ax t),.ow (.list ([[t]].map pD)),.no,.no,.no]) (β':=0) (by
  rw[kz,lp (ds:=[pD [t]]) (ac (lp (ds:=[ax t]) (ac rfl an)) an)];rfl)]
 rw[aC (env':=[@Db,.fz (.tuple (put.map ax)),.fz (ax t),.ow (.list ([[t]].map pD)),.fz (.tuple (put.map ax)),.no,.no]) (β':=0) (by rfl)]
 rw[aC (env':=[@Db,.fz (.tuple (put.map ax)),.fz (ax t),.ow (.list ([[t]].map pD)),.fz (.tuple (put.map ax)),.fz (.int ((0:Nat):Int)),.no]) (β':=0) (by rfl)]
 obtain⟨env',β',ew,ph,left,k,p,s,s6,x4,rfl,rfl,R,hp,hs,hst⟩:=jc (L:=[0] ++ ((@GM ++ []) ++ ([2] ++ []))) (t:=oH (iS (av EX (aa (gv 0) (aa (f2 (f2 (gv 3) (gv 5) bh) (f1 @Do mZ) bh) (aa (gv 2) ah))))))
  (m:=aL (bR 6 ([] ++ [0]) (aM 1 [0,3,5] (.nm 0) (bc (gv 4)) (iS (av EX (aa (gv 1) (aa (f2 (f2 (gv 2) (gv 3) bh) (f1 @Do mZ) bh) (aa (gv 0) ah))))) (gv 0)))
   (aL (bR 4 @GM (aM 1 [6] (.nm 0) (bc (gv 4)) (cM (f2 (gv 0) (gv 1) (mX true))) (gv 0)))
   (aL (BQ 3 @GM (aM 1 [3,5] (.nm 0) (bc (gv 6)) j0 (f2 (f2 (gv 1) (gv 2) bh) (dI (aa (gv 0) ah)) jr)))
   (bR 5 @GM (f2 (gv 5) @Do bV)))))
  (λm env b=>∃ph left k s6,∃q4:List D->D,(q4=PyData.list\/q4=PyData.tuple)/\env= [@Db,.fz (.tuple (put.map ax)),.fz (ax t),.ow (.list (ph.map pD)),.fz (q4 (left.map ax)),.fz (.int ((k:Nat):Int)),s6]/\b=0/\RI l put t ph left k/\m=put.length + 1 - k)
  (λenv b=>∃ph left k p s s6 x4,env= [@Db,.fz (.tuple (put.map ax)),.fz (ax t),.ow (.list (ph.map pD)),.fz x4,.fz (.int ((k:Nat):Int)),s6]/\b=0/\RI l put t ph left k/\ph[k]? =some p/\p.getLast? =some s/\rL l s t=true)
  (n:=1000) (k:=put.length + 1) (env:=[@Db,.fz (.tuple (put.map ax)),.fz (ax t),.ow (.list ([[t]].map pD)),.fz (.tuple (put.map ax)),.fz (.int ((0:Nat):Int)),.no]) (β:=0) (@AT)
  ⟨[[t]],put,0,.no,PyData.tuple,.inr rfl,rfl,rfl,⟨λp hp=>by
    rw[O7] at hp;subst hp
    exact⟨[],rfl,(λx hx=>by cases hx),by simp,(λi a b _ hb=>by simp at hb)⟩,λx hx=>hx,λx hx=>.inl hx,⟨[t],by simp,rfl⟩,λi p s hi=>@AT,by simp;omega,@AT ⟩,@AT ⟩ (by
   rintro m env b ⟨ph,left,k,s6,q4,h4,rfl,rfl,R,rfl⟩
   have hk:=R.lt O hb
   obtain⟨p,hp⟩:∃p,ph[k]? =some p:=⟨_,OD hk⟩
   have hpm:p∈ph:=PZ.mpr ⟨k,hp⟩
   obtain⟨q,eq,hq,hnd,hch⟩:=R.pth p hpm
   obtain⟨s,hs⟩:∃s,p.getLast? =some s:=⟨_,List.getLast?_eq_some_getLast (by rw[eq];exact List.cons_ne_nil _ _)⟩
   have hcnt:=R.cnt
   have hpl:p.length<=put.length + 1:=by
    have h1:q.length<=put.length:=by
     rw[eq] at hnd
     exact zq (Pl.mp hnd).2 λx hx=>(hq x hx).1
    rw[eq,O8];omega
   have el:∀s6:Sl,f2 (f2 (gv 3) (gv 5) bh) (f1 @Do mZ) bh (vl [@Db,.fz (.tuple (put.map ax)),.fz (ax t),.ow (.list (ph.map pD)),.fz (q4 (left.map ax)),.fz (.int ((k:Nat):Int)),s6]) 0=.ok (ax s) 0:=λs6=>aE (x:=pD p) (y:=.int (-1)) (aE (x:=.list (ph.map pD)) (y:=.int k) rfl rfl (zT hp)) rfl (D7 hs)
   have et:oH (iS (av EX (aa (gv 0) (aa (f2 (f2 (gv 3) (gv 5) bh) (f1 @Do mZ) bh) (aa (gv 2) ah))))) (vl [@Db,.fz (.tuple (put.map ax)),.fz (ax t),.ow (.list (ph.map pD)),.fz (q4 (left.map ax)),.fz (.int ((k:Nat):Int)),s6]) 0=.ok (!rL l s t) 0:=fk (fq (aq (F:=EX) (ds:=[ag n l,ax s,ax t]) (b:=false) (ac rfl (ac (el s6) (ac rfl an))) (LN n l s t)))
   refine⟨_,_,et,?_⟩
   cases hst:rL l s t with
   |true=>exact .inl ⟨rfl,ph,left,k,p,s,s6,_,rfl,rfl,R,hp,hs,hst⟩
   |false=>
    refine .inr ⟨rfl,?_⟩
    show ∃env2 β2 k',aL _ _ [@Db,.fz (.tuple (put.map ax)),.fz (ax t),.ow (.list (ph.map pD)),.fz (q4 (left.map ax)),.fz (.int ((k:Nat):Int)),s6] 0=.nx env2 β2/\k' < put.length + 1 - k/\_
    generalize hfr:left.filter (λx=>rL l s x)=fr
    have hfl:fr.length<=left.length:=by rw[<-hfr];exact Pu _ _
    have e6:aM 1 [0,3,5] (.nm 0) (bc (gv 4)) (iS (av EX (aa (gv 1) (aa (f2 (f2 (gv 2) (gv 3) bh) (f1 @Do mZ) bh) (aa (gv 0) ah))))) (gv 0) (vl [@Db,.fz (.tuple (put.map ax)),.fz (ax t),.ow (.list (ph.map pD)),.fz (q4 (left.map ax)),.fz (.int ((k:Nat):Int)),s6]) 0=.ok (.list (fr.map ax)) 0:=by
     rw[<-hfr]
     refine bQ (l:=left) (e:=ax) (λx=>rL l s x) ax (by rcases h4 with h4 |h4 <;> rw[h4] <;> rfl) (@AT) λx hx=>⟨[.da (ax x),.da (ag n l),.da (.list (ph.map pD)),.da (.int ((k:Nat):Int))],rfl,?_,λ_=>rfl⟩
     have e2:f2 (f2 (gv 2) (gv 3) bh) (f1 @Do mZ) bh [.da (ax x),.da (ag n l),.da (.list (ph.map pD)),.da (.int ((k:Nat):Int))] 0=.ok (ax s) 0:=aE (x:=pD p) (y:=.int (-1)) (aE (x:=.list (ph.map pD)) (y:=.int k) rfl rfl (zT hp)) rfl (D7 hs)
     exact fq (aq (F:=EX) (ds:=[ag n l,ax s,ax x]) (b:=false) (ac rfl (ac e2 (ac rfl an))) (LN n l s x))
    rw[aC (env':=[@Db,.fz (.tuple (put.map ax)),.fz (ax t),.ow (.list (ph.map pD)),.fz (q4 (left.map ax)),.fz (.int ((k:Nat):Int)),.fz (.list (fr.map ax))]) (β':=0) (by rw[b8,e6];rfl)]
    have e4:aM 1 [6] (.nm 0) (bc (gv 4)) (cM (f2 (gv 0) (gv 1) (mX true))) (gv 0) (vl [@Db,.fz (.tuple (put.map ax)),.fz (ax t),.ow (.list (ph.map pD)),.fz (q4 (left.map ax)),.fz (.int ((k:Nat):Int)),.fz (.list (fr.map ax))]) 0=.ok (.list ((left.filter λx=> !decide (x∈fr)).map ax)) 0:=by
     refine bQ (l:=left) (e:=ax) (λx=> !decide (x∈fr)) ax (by rcases h4 with h4 |h4 <;> rw[h4] <;> rfl) (@AT) λx hx=>⟨_,rfl,?_,λ_=>rfl⟩
     exact dZ _ _ _ _ (aE (x:=ax x) (y:=.list (fr.map ax)) rfl rfl (Gg true x fr))
    have R':=R.step htp hp hs hst hfr
    generalize hlf:(left.filter λx=> !decide (x∈fr))=left' at e4 R'
    rw[aC (env':=[@Db,.fz (.tuple (put.map ax)),.fz (ax t),.ow (.list (ph.map pD)),.fz (.list (left'.map ax)),.fz (.int ((k:Nat):Int)),.fz (.list (fr.map ax))]) (β':=0) (by rw[b8,e4];rfl)]
    have e3:aM 1 [3,5] (.nm 0) (bc (gv 6)) j0 (f2 (f2 (gv 1) (gv 2) bh) (dI (aa (gv 0) ah)) jr) (vl [@Db,.fz (.tuple (put.map ax)),.fz (ax t),.ow (.list (ph.map pD)),.fz (.list (left'.map ax)),.fz (.int ((k:Nat):Int)),.fz (.list (fr.map ax))]) 0=.ok (.list ((fr.map λx=>p ++ [x]).map pD)) 0:=by
     rw[QE]
     refine bY (l:=fr) (e:=ax) (λx=>pD (p ++ [x])) rfl (@AT) λx hx=>⟨[.da (ax x),.da (.list (ph.map pD)),.da (.int ((k:Nat):Int))],rfl,?_⟩
     refine aE (x:=pD p) (y:=.list [ax x]) (aE (x:=.list (ph.map pD)) (y:=.int k) rfl rfl (zT hp)) (lp (ds:=[ax x]) (ac rfl an)) ?_
     rw[kU (by rw[OH,PD];omega)]
     show some (PyData.list (p.map ax ++ [x].map ax))=_
     rw[<-Pn]
    rw[aC (env':=[@Db,.fz (.tuple (put.map ax)),.fz (ax t),.ow (.list ((ph ++ fr.map λx=>p ++ [x]).map pD)),.fz (.list (left'.map ax)),.fz (.int ((k:Nat):Int)),.fz (.list (fr.map ax))]) (β':=0) ?g3]
    case g3=>
     rw[Gi (i:=3) (ds:=ph.map pD) (by rfl) e3 (by rfl) (by rw[OH,OH,OH];omega),<-Pn];rfl
    refine⟨[@Db,.fz (.tuple (put.map ax)),.fz (ax t),.ow (.list ((ph ++ fr.map λx=>p ++ [x]).map pD)),.fz (.list (left'.map ax)),.fz (.int ((k + 1:Nat):Int)),.fz (.list (fr.map ax))],0,put.length + 1 - (k + 1),?_,@AT,_,_,_,_,PyData.list,.inl rfl,rfl,rfl,R',rfl⟩
    rw[show ((k + 1:Nat):Int)=(k:Int) + 1 by omega];rfl)
 obtain⟨q,eq,hq,hnd,hch⟩:=R.pth p (PZ.mpr ⟨k,hp⟩)
 refine⟨p,?_,λx hx=>?_,hnd,by rw[eq];exact List.cons_ne_nil _ _,Jo hch hs eq hst⟩
 ·rw[aC ew,cD,aE (x:=.list (ph.map pD)) (y:=.int k) (d:=pD p) (β1:=0) (β2:=0) rfl rfl (zT hp)];rfl
 ·rw[eq] at hx
  rcases OK.mp hx with h |h
  ·exact .inl h
  ·exact .inr (hq x h).1
def xN (l:@A_)(p:Pr):Bool:=((l.filter λq=>decide (q.2=p.1)).all λq=>decide ((q.1,p.2)∈l)) && ((l.filter λq=>decide (q.1=p.2)).all λq=>decide ((p.1,q.2)∈l))
def vp:@Cl:=aS 4 3 lx
theorem Ga {n:Nat}{l:@A_}(hl:l.length<=1000)(a b:Int):vp [ag n l,.int a,.int b]=.ok (.bool (xN l (a,b))) false:=by
 show fin (lx [@Db,.fz (.int a),.fz (.int b),.no] 0)=_
 unfold lx
 rw[aC (env':=[@Db,.fz (.int a),.fz (.int b),.fz (.tuple (l.map ax))]) (β':=0) (by rfl)]
 have e1:aM 2 [1,2,3] (.two 0 1) (bc (gv 3)) (cM (f2 (gv 1) (gv 2) (cY false))) (f2 (bD (aa (gv 0) (aa (gv 3) ah))) (gv 4) (mX false)) [.da (ag n l),.da (.int a),.da (.int b),.da (.tuple (l.map ax))] 0=.ok (.list ((l.filter λq=>decide (q.2=a)).map λq=>PyData.bool (decide ((q.1,b)∈l)))) 0:=
  bQ (l:=l) (e:=ax) (λq=>decide (q.2=a)) (λq=>PyData.bool (decide ((q.1,b)∈l))) rfl hl λq hq=>⟨_,rfl,dD (neg:=false) (i:=q.2) (j:=a) rfl rfl,λ_=>aE (cC (a:=q.1) (b:=b) rfl rfl) rfl (oo false (q.1,b) l)⟩
 have e2:aM 2 [2,1,3] (.two 0 1) (bc (gv 3)) (cM (f2 (gv 0) (gv 2) (cY false))) (f2 (bD (aa (gv 3) (aa (gv 1) ah))) (gv 4) (mX false)) [.da (ag n l),.da (.int a),.da (.int b),.da (.tuple (l.map ax))] 0=.ok (.list ((l.filter λq=>decide (q.1=b)).map λq=>PyData.bool (decide ((a,q.2)∈l)))) 0:=
  bQ (l:=l) (e:=ax) (λq=>decide (q.1=b)) (λq=>PyData.bool (decide ((a,q.2)∈l))) rfl hl λq hq=>⟨_,rfl,dD (neg:=false) (i:=q.1) (j:=b) rfl rfl,λ_=>aE (cC (a:=a) (b:=q.2) rfl rfl) rfl (oo false (a,q.2) l)⟩
 have t1:oH (iS (f1 (aM 2 [1,2,3] (.two 0 1) (bc (gv 3)) (cM (f2 (gv 1) (gv 2) (cY false))) (f2 (bD (aa (gv 0) (aa (gv 3) ah))) (gv 4) (mX false))) (bK λbs=>bs.all id))) (vl [@Db,.fz (.int a),.fz (.int b),.fz (.tuple (l.map ax))]) 0=.ok (!((l.filter λq=>decide (q.2=a)).all λq=>decide ((q.1,b)∈l))) 0:=fk (fq (y7 e1))
 unfold xN
 dsimp only
 cases c:((l.filter λq=>decide (q.2=a)).all λq=>decide ((q.1,b)∈l)) with
 |false=>
  rw[c] at t1
  rw[iV (d:=.bool false) (b:=false) (β':=0) ?g]
  case g=>rw[lO t1];rfl
  rfl
 |true=>
  rw[c] at t1
  rw[aC (env':=[@Db,.fz (.int a),.fz (.int b),.fz (.tuple (l.map ax))]) (β':=0) ?g]
  case g=>rw[iw t1];rfl
  rw[cD]
  show fin (toS (f1 (aM 2 [2,1,3] (.two 0 1) (bc (gv 3)) (cM (f2 (gv 0) (gv 2) (cY false))) (f2 (bD (aa (gv 3) (aa (gv 1) ah))) (gv 4) (mX false))) (bK λbs=>bs.all id) [.da (ag n l),.da (.int a),.da (.int b),.da (.tuple (l.map ax))] 0) _)=_
  rw[y7 e2];rfl
noncomputable def vE:@Cl:=aS 1 1 (m8 rH vp)
def DZ {n:Nat}{l:@A_}(O:OM.Ord n l):vE [ag n l]=.ok (.list (((mB n l).filter (xN l)).map ax)) true:=by
 have hl:=iZ O
 have e:aM 2 [0] (.two 0 1) (bc (av rH (aa (gv 0) ah))) (iS (av vp (aa (gv 2) @Fa))) (bD @Fa) [.da (ag n l)] 0=.ok (.list (((mB n l).filter (xN l)).map ax)) 0:=by
  have hi:bc (av rH (aa (gv 0) ah)) [.da (ag n l)] 0=.ok ((mB n l).map ax) 0:=by
   unfold bc
   rw[aq (ds:=[ag n l]) rfl (GZ O)];rfl
  exact bQ (l:=mB n l) (e:=ax) (xN l) ax hi (by have:=ET (l:=l) O.hi;omega) λp hp=>⟨_,rfl,fq (aq (ds:=[ag n l,.int p.1,.int p.2]) rfl (Ga (@AT) p.1 p.2)),λ_=>cC rfl rfl⟩
 show fin (toS (aM 2 [0] (.two 0 1) (bc (av rH (aa (gv 0) ah))) (iS (av vp (aa (gv 2) @Fa))) (bD @Fa) [.da (ag n l)] 0) _)=_
 rw[e];rfl
def jj (n:Nat)(l put:@A_)(t:Pr):putAll n l (put ++ [t])=putL n (putAll n l put) t:=by unfold putAll;rw[List.foldl_append];rfl
theorem vN {n:Nat}:∀{put l:@A_} {p:Pr},((0<=p.1/\p.1 < n)/\(0<=p.2/\p.2 < n))->p∈l->p∈putAll n l put
 | [],l,p,_,h=>h
 |t :: put,l,p,hr,h=>vN (put:=put) (l:=putL n l t) hr ((mf hr).mpr (.inl h))
def He {n:Nat}{l:@A_}{r:@D_}{t:Pr}(hR:Row n l r)(h:r.idxOf t.2 < r.idxOf t.1):Row n (putL n l t) r:=by
 refine⟨hR.1,?_⟩
 have hf:=hR.2
 unfold pF at hf ⊢
 rw[O4] at hf ⊢
 intro p hp
 have q:∀x y:Int,lR l x y=true->r.idxOf x<=r.idxOf y:=λx y hxy=>by
  rcases eY.mp hxy with e |hm
  ·rw[e];exact OF _
  ·exact Qz (Pb (hf _ hm))
 rcases nz hp with hm | ⟨a,b⟩
 ·exact hf p hm
 ·have:=q _ _ a
  have:=q _ _ b
  exact OE (@AT)
def oX {n:Nat}{l:@A_}{r:@D_}{p:Pr}(hR:Row n l r)(h:p∈l):r.idxOf p.1 < r.idxOf p.2:=by
 have hf:=hR.2
 unfold pF at hf
 exact Pb (O4.mp hf p h)
structure Pt (n:Nat)(l:@A_)(put:@A_):Prop where
 ord:OM.Ord n (putAll n l put)
 tr:∀p,p∈put->p∈mB n l
 tnd:∀p,p∈put->(p.2,p.1)∈putAll n l put
def vv {n:Nat}{l:@A_}(O:OM.Ord n l):Pt n l []:=⟨O,(λp h=>by cases h),λp h=>by cases h⟩
def Pt.more {n:Nat}{l put:@A_}{t:Pr}(h:Pt n l put)(ht:t∈mB n l)(hb:¬t∈putAll n l put):Pt n l (put ++ [t]):=by
 obtain⟨hr,ha⟩:=cg.mp ht
 have hn:lR (putAll n l put) t.1 t.2=false:=by
  cases z:lR (putAll n l put) t.1 t.2 with
  |false=>rfl
  |true=>
   rcases eY.mp z with e |e
   ·unfold EI at ha;rw[e] at ha;simp at ha
   ·exact absurd e hb
 refine⟨by rw[jj];exact FZ h.ord hn,λp hp=>?_,λp hp=>?_⟩
 ·rcases OT.mp hp with z |z
  ·exact h.tr p z
  ·rw[O7] at z;subst z;exact ht
 ·rw[jj]
  rcases OT.mp hp with z |z
  ·exact Ak h.ord (h.tnd p z)
  ·rw[O7] at z;subst z;exact qN hr
def u4 (n:Nat)(l put:@A_):D:=.tuple [cp n (bF (putAll n l put)),.tuple (put.map ax)]
def eH (n:Nat)(l:@A_)(pts:List (@A_)):D:=.list (pts.map (u4 n l))
def B4:@Cl:=aS 2 2 (jV FD)
def Lo {n:Nat}{l:@A_}{t:Pr}(h8:n<=8)(h:(0<=t.1/\t.1 < n)/\(0<=t.2/\t.2 < n)):B4 [cp n (bF l),ax t]=.ok (.bool (decide ((t.2,t.1)∈l))) false:=by
 show fin (jV FD [@IO,.fz (ax t)] 0)=_
 unfold jV
 exact j6 (ka (aq (ds:=[cp n (bF l),.int t.2,.int t.1]) (ac rfl (ac (aE (x:=ax t) (y:=.int 1) rfl rfl rfl) (ac (aE (x:=ax t) (y:=.int 0) rfl rfl rfl) an))) (JU h8 h.2 h.1)) rfl)
def BG (n:Nat)(l:@A_)(pts:List (@A_))(t:Pr):Bool:=pts.any λput=>decide ((t.2,t.1)∈putAll n l put)
noncomputable def Bk:@Cl:=aS 2 2 (jH Dc)
def L5 {n:Nat}{l:@A_}{pts:List (@A_)}{t:Pr}(h8:n<=8)(hz:pts.length<=100)(h:(0<=t.1/\t.1 < n)/\(0<=t.2/\t.2 < n)):∃k:Nat,Bk [eH n l pts,ax t]=.ok (.int k) false:=by
 refine⟨(pts.filter λput=> !decide (t∈putAll n l put)).length,?_⟩
 show fin (jH Dc [.fz (eH n l pts),.fz (ax t)] 0)=_
 unfold jH
 have ec:aM 2 [1] (.two 0 1) (bc (gv 0)) (oH (iS (av Dc (aa (gv 0) (aa (gv 2) ah))))) (gv 0) (vl [.fz (eH n l pts),.fz (ax t)]) 0=.ok (.list ((pts.filter λput=> !decide (t∈putAll n l put)).map λput=>cp n (bF (putAll n l put)))) 0:=
  bQ (l:=pts) (e:=u4 n l) (λput=> !decide (t∈putAll n l put)) (λput=>cp n (bF (putAll n l put))) rfl (@AT) λput _=>⟨[.da (cp n (bF (putAll n l put))),.da (.tuple (put.map ax)),.da (ax t)],rfl,fk (fq (aq (ds:=[cp n (bF (putAll n l put)),ax t]) rfl (Jx h8 h))),λ_=>rfl⟩
 refine j6 (ka (cU ec ?_) rfl)
 show some (int _)=_
 rw[OH]
def JG {ir:Nat}{fa fb:VF D}{vs:List Nv}{β:Int}{ts:@A_}{dr:D}(h:fa vs β=.ok (.list (ts.map ax)) β)(hr:vs[ir]? =some (.da dr))(hne:ts≠ [])(hk:∀t,t∈ts->∃k:Nat,fb [.da (ax t),.da dr] β=.ok (.int k) β):∃t,t∈ts/\Ae ir fa fb vs β=.ok (ax t) β:=by
 have hl:0 < ts.length:=List.length_pos_iff.mpr hne
 unfold Ae
 rw[h]
 dsimp only[R.bnd]
 rw[show dat vs[ir]? =some dr by rw[hr];rfl]
 dsimp only
 have hall:(ts.map ax).all (λd=>(lZ fb dr β d).isSome)=true:=by
  rw[O4]
  intro d hd
  obtain⟨t,ht,rfl⟩:=O3.mp hd
  obtain⟨k,e⟩:=hk t ht
  unfold lZ
  rw[e];rfl
 rw[OG ⟨by rw[OH];exact hl,hall⟩]
 have hb:=(rP (ks:=(ts.map ax).map λd=>(lZ fb dr β d).getD 0) (by rw[OH,OH];exact hl)).1
 generalize wZ ((ts.map ax).map λd=>(lZ fb dr β d).getD 0)=b at hb
 rw[OH,OH] at hb
 refine⟨ts[b],Qh hb,?_⟩
 rw[OU,OD hb];rfl
section
variable {m m':SF}{env:En}{β β1:Int}{Q:SO->Prop}{L:@IR}
def Gk {t:Tg}{fi:VF (List D)}{ds:List D}(Pd:D->Prop)(I:Nat->En->Int->Prop)(hi:fi (vl env) β=.ok ds β1)(h0:I 0 (aW L env) β1)
  (hs:∀i d env β,ds[i]? =some d->I i env β->∃env1,ij t d env=some env1/\WP (m env1 β) λs=>(∃d β2,s=.rt d false β2/\Pd d)\/∃env2 β2,s=.nx env2 β2/\I (i + 1) env2 β2)
  (kr:∀d β,Pd d->Q (.rt d false β)) (k:∀env β,I ds.length env β->WP (m' env β) Q):WP (aL (iO t L fi m) m' env β) Q:=by
 have key:∀(k i:Nat),i + k=ds.length->∀env β,I i env β->(∃d β2,lU t m (ds.drop i) env β=.rt d false β2/\Pd d)\/∃env2 β2,lU t m (ds.drop i) env β=.nx env2 β2/\I ds.length env2 β2:=by
  intro k
  induction k with
  |zero=>
   intro i hik env β h
   have:i=ds.length:=@AT
   subst this
   rw[drop_length]
   exact .inr ⟨env,β,rfl,h⟩
  |succ k ih=>
   intro i hik env β h
   have hlt:i < ds.length:=@AT
   obtain⟨env1,e1,⟨h1⟩⟩:=hs i ds[i] env β (OD hlt) h
   rw[Rb hlt]
   rcases h1 with⟨d,β2,e2,hp⟩ | ⟨env2,β2,e2,h2⟩
   ·exact .inl ⟨d,β2,by unfold lU;rw[e1];dsimp only;rw[e2],hp⟩
   ·have e3:lU t m (ds[i] :: ds.drop (i + 1)) env β=lU t m (ds.drop (i + 1)) env2 β2:=by conv=>lhs;unfold lU;rw[e1];dsimp only;rw[e2]
    rw[e3]
    exact ih (i + 1) (@AT) env2 β2 h2
 have e0:=key ds.length 0 (@AT) _ _ h0
 rw[List.drop_zero] at e0
 rcases e0 with⟨d,β2,e,hp⟩ | ⟨env2,β2,e,h2⟩
 ·exact⟨by rw[iV ((fR hi).trans e)];exact kr d β2 hp⟩
 ·exact wp_seq ((fR hi).trans e) (k _ _ h2)
end
def fu (pts:List (@A_))(i:Nat)(t:Pr):List (@A_):=pts.take i ++ [pts.getD i [] ++ [t]] ++ pts.drop (i + 1)
def rm {pts:List (@A_)}{i:Nat}{t:Pr}(hi:i < pts.length):(fu pts i t).length=pts.length:=by
 unfold fu;rw[O9,O9,PH,length_drop,PD];omega
def mD {pts:List (@A_)}{i:Nat}{t:Pr}{put:@A_}(hi:pts[i]? =some put)(j:Nat):(fu pts i t)[j]? =if j=i then some (put ++ [t]) else pts[j]?:=by
 have hlt:=(OO.mp hi).1
 have hg:pts.getD i []=put:=by rw[O5,hi];rfl
 unfold fu
 rw[hg]
 by_cases h:j < i
 ·rw[OP (@AT),Qu,Pg (by rw[PH];omega),List.getElem?_take,OG h]
 ·rw[Qu,Po (by rw[PH];omega),PH,Nat.min_eq_left (@AT)]
  by_cases e:j=i
  ·rw[OG e,show j - i=0 by omega];rfl
  ·rw[OP e,Po (by rw[PD];omega),PD,List.getElem?_drop]
   congr 1
   omega
def Ft (n:Nat)(l:@A_)(pts:List (@A_))(rs:List (@D_)):Prop:=rs.length=pts.length/\∀(i:Nat) (r:@D_) (put:@A_),rs[i]? =some r->pts[i]? =some put->Row n (putAll n l put) r
def Tn (r:@D_)(t:Pr):Prop:=r.idxOf t.2 < r.idxOf t.1
def N0 (n:Nat)(l:@A_)(pts:List (@A_))(left:@A_):Prop:=∀rs,Ft n l pts rs->∃t,t∈left/\∀r,r∈rs->¬Tn r t
def Mg (n:Nat)(l:@A_)(pts:List (@A_))(left:@A_)(d:D):Prop:=∃rs,d=.tuple [.str "rows",.list (rs.map tupI)]/\Ft n l pts rs/\∀t,t∈left->∃r,r∈rs/\Tn r t
def Jy (n:Nat)(l:@A_):Nat->D->List (@A_)->Prop
 | 0,_,_=>False
 |k + 1,d,pts=>(∃(i:Nat) (r q:@A_),d=.tuple [.str "ring",.int i,.list (r.map ax)]/\pts[i]? =some q/\(∀x,x∈r->x∈q)/\r≠ []/\Kw l r=true/\r.length<=100/\∀x,x∈r->x∈mB n l)\/
  ∃(t:Pr) (zs:List D),d=.tuple [.str "turn",ax t,.tuple zs]/\t∈mB n l/\zs.length=pts.length/\∀i z,zs[i]? =some z->Jy n l k z (fu pts i t)
noncomputable def JH (F:@Cl):@Cl:=aS 7 5 (jb F Dc Kr Kg)
noncomputable def EM (F:@Cl):@Cl:=aS 8 3 (e8 (JH F) B4 Km Bk)
def D1 {n:Nat}{l:@A_}{pts:List (@A_)}{i:Nat}{put:@A_}(hi:pts[i]? =some put):bh (eH n l pts) (.int (i:Int))=some (u4 n l put):=mS (by rw[OU,hi];rfl)
def Dr {n:Nat}{l:@A_}{pts:List (@A_)}{i:Nat}{t:Pr}{put:@A_}(hi:pts[i]? =some put):eH n l (fu pts i t)=.list ((pts.map (u4 n l)).take i ++ [PyData.tuple [cp n (bF (putL n (putAll n l put) t)),.tuple (put.map ax ++ [ax t])]] ++ (pts.map (u4 n l)).drop (i + 1)):=by
 have hg:pts.getD i []=put:=by rw[O5,hi];rfl
 unfold eH fu
 rw[hg,Pn,Pn,List.map_take,List.map_drop]
 show PyData.list (_ ++ [u4 n l (put ++ [t])] ++ _)=_
 unfold u4
 rw[jj,Pn];rfl
def DK {n:Nat}{l:@A_}{F:@Cl}{pts:List (@A_)}{left:D}{i:Nat}{put:@A_}{t:Pr}{Q:SO->Prop}(h8:n<=8)(hi:pts[i]? =some put)(hr:(0<=t.1/\t.1 < n)/\(0<=t.2/\t.2 < n))
  (k:WP (aL (kO ([5] ++ ([4] ++ [])) (λvs β=>iS (av Dc (aa (gv 5) (aa (gv 4) ah))) vs β)
    (bL (bD (aa (cst (.str "ring")) (aa (gv 3) (aa (av Kr (aa (gv 0) (aa (gv 6) (aa (gv 4) ah)))) ah)))))
    mh)
   (bL (av F (aa (gv 0) (aa (gv 1) (aa (f2 (f2 (Hf (gv 2) (λ_ β=>.ok none β) (GV (gv 3))) (dI (aa (bD (aa (av Kg (aa (gv 5) (aa (gv 4) ah))) (aa (f2 (gv 6) (bD (aa (gv 4) ah)) se) ah))) ah)) jr) (Hf (gv 2) (GV (f2 (gv 3) @Do bV)) (λ_ β=>.ok none β)) jr) ah))))) @Fk 0) Q) :
  WP (jb F Dc Kr Kg [@Db,.fz left,.fz (eH n l pts),.fz (.int (i:Int)),.fz (ax t),.no,.no] 0) Q:=by
 unfold jb
 refine fm (d:=cp n (bF (putAll n l put))) (β1:=0) (aE (x:=u4 n l put) (y:=.int 0) (aE (x:=eH n l pts) (y:=.int i) rfl rfl (D1 hi)) rfl rfl) ?_
 refine fm (d:=.tuple (put.map ax)) (β1:=0) (aE (x:=u4 n l put) (y:=.int 1) (aE (x:=eH n l pts) (y:=.int i) rfl rfl (D1 hi)) rfl rfl) ?_
 exact wp_at @Fk rfl k
def K9 {n:Nat}{l:@A_}{F:@Cl}{pts:List (@A_)}{left:D}{i:Nat}{put:@A_}{t:Pr}(O:OM.Ord n l)(hi:pts[i]? =some put)(hp:Pt n l put)(hz:put.length<=100)(ht:t∈mB n l)(hb:t∈putAll n l put) :
  ∃r,JH F [ag n l,left,eH n l pts,.int (i:Int),ax t]=.ok (.tuple [.str "ring",.int i,.list (r.map ax)]) false/\(∀x,x∈r->x=t\/x∈put)/\r.Nodup/\r≠ []/\Kw l r=true:=by
 obtain⟨hr,ha⟩:=cg.mp ht
 have htp:¬t∈put:=λh=>hp.ord.irr _ (hp.ord.tr _ _ _ hb (hp.tnd t h))
 obtain⟨r,er,h1,h2,h3,h4⟩:=Nb O hz htp hb
 refine⟨r,?_,h1,h2,h3,h4⟩
 show fin (jb F Dc Kr Kg [@Db,.fz left,.fz (eH n l pts),.fz (.int (i:Int)),.fz (ax t),.no,.no] 0)=_
 refine j6 (DK O.hi hi hr ?_)
 have eb:iS (av Dc (aa (gv 5) (aa (gv 4) ah))) (vl @Fk) 0=.ok true 0:=by
  rw[<-OE hb]
  exact fq (aq (ds:=[cp n (bF (putAll n l put)),ax t]) rfl (Jx O.hi hr))
 refine qp eb (vP (gn (ds:=[.str "ring",.int i,.list (r.map ax)]) (ac rfl (ac rfl (ac (aq (ds:=[ag n l,.tuple (put.map ax),ax t]) rfl er) an))) (by simp)) rfl)
def LX {n:Nat}{l:@A_}{F:@Cl}{pts:List (@A_)}{left d:D}{i:Nat}{put:@A_}{t:Pr}{b:Bool}(h8:n<=8)(hi:pts[i]? =some put)(hl:pts.length<=100)(hz:put.length<=100)(ht:t∈mB n l)(hb:¬t∈putAll n l put)(hF:F [ag n l,left,eH n l (fu pts i t)]=.ok d b) :
  JH F [ag n l,left,eH n l pts,.int (i:Int),ax t]=.ok d false:=by
 obtain⟨hr,ha⟩:=cg.mp ht
 show fin (jb F Dc Kr Kg [@Db,.fz left,.fz (eH n l pts),.fz (.int (i:Int)),.fz (ax t),.no,.no] 0)=_
 refine j6 (DK h8 hi hr ?_)
 have eb:iS (av Dc (aa (gv 5) (aa (gv 4) ah))) (vl @Fk) 0=.ok false 0:=by
  rw[<-OR hb]
  exact fq (aq (ds:=[cp n (bF (putAll n l put)),ax t]) rfl (Jx h8 hr))
 refine mM eb (wp_at @Fk rfl ?_)
 refine ka (aq (ds:=[ag n l,left,eH n l (fu pts i t)]) (ac rfl (ac rfl (ac ?_ an))) hF) rfl
 rw[Dr hi]
 have a1:av Kg (aa (gv 5) (aa (gv 4) ah)) (vl @Fk) 0=.ok (cp n (bF (putL n (putAll n l put) t))) 0:=aq (ds:=[cp n (bF (putAll n l put)),ax t]) rfl (NZ h8 hr)
 have a2:f2 (gv 6) (bD (aa (gv 4) ah)) se (vl @Fk) 0=.ok (.tuple (put.map ax ++ [ax t])) 0:=Kx (a:=put.map ax) (b:=[ax t]) rfl (tp (ac rfl an)) (by rw[OH];simp;omega)
 refine HW (HW (CU (ds:=pts.map (u4 n l)) rfl rfl) (lp (ac (tp (ac a1 (ac a2 an))) an)) ?_) (GF (ds:=pts.map (u4 n l)) rfl (Of rfl)) ?_
 ·rw[PH,OH];simp;omega
 ·rw[O9,PH,length_drop,OH];simp;omega
open Classical in
noncomputable def rv (n:Nat)(l put:@A_):@D_:=if h:OM.Ord n (putAll n l put) then Classical.choose (Lu (late:=[]) h (by simp)) else []
def rk {n:Nat}{l put:@A_}(h:OM.Ord n (putAll n l put)):Km [cp n (bF (putAll n l put)),.list []]=.ok (tupI (rv n l put)) false/\Row n (putAll n l put) (rv n l put):=by
 have:=Q0 (Lu (late:=[]) h (by simp))
 unfold rv
 rw[dif_pos h]
 exact⟨this.1,this.2.1⟩
def GG (n:Nat)(l:@A_)(pts:List (@A_))(left:@A_):@A_:=left.filter λt=> !BG n l pts t
abbrev cE (n:Nat)(l:@A_)(pts:List (@A_))(left:@A_)(s3 s4 s5 s6 s7:Sl):En:=[@Db,.fz (.list (left.map ax)),.fz (eH n l pts),s3,s4,s5,s6,s7]
def GC {α:Type}{fa:VF D}{vs:List Nv}{β:Int}{l:List α}{f:α->Bool}(h:fa vs β=.ok (.list (l.map λq=>PyData.bool (f q))) β):f1 fa (bK λbs=>bs.any id) vs β=.ok (.bool (l.any f)) β:=cU h (by simp only[bK];rw[fB];simp[List.any_map])
def Hx {n:Nat}{l:@A_}{pts:List (@A_)}{left:@A_}(h8:n<=8)(hl:pts.length<=100)(hz:left.length<=100)(ht:∀t,t∈left->t∈mB n l)(s3 s4 s5 s6 s7:Sl) :
  aM 1 [2] (.nm 0) (bc (gv 1)) (oH (iS (f1 (aM 2 [0] (.two 0 1) (bc (gv 1)) j0 (av B4 (aa (gv 0) (aa (gv 2) ah)))) (bK λbs=>bs.any id)))) (gv 0) (vl (cE n l pts left s3 s4 s5 s6 s7)) 0=.ok (.list ((GG n l pts left).map ax)) 0:=by
 refine bQ (l:=left) (e:=ax) (λt=> !BG n l pts t) ax rfl (@AT) λt hm=>⟨[.da (ax t),.da (eH n l pts)],rfl,fk (fq ?_),λ_=>rfl⟩
 refine GC (l:=pts) (f:=λput=>decide ((t.2,t.1)∈putAll n l put)) ?_
 exact bY (l:=pts) (e:=u4 n l) (λput=>PyData.bool (decide ((t.2,t.1)∈putAll n l put))) rfl (@AT) λput _=>⟨[.da (cp n (bF (putAll n l put))),.da (.tuple (put.map ax)),.da (ax t)],rfl,aq (ds:=[cp n (bF (putAll n l put)),ax t]) rfl (Lo h8 (cg.mp (ht t hm)).1)⟩
def Ml {n:Nat}{l:@A_}{pts:List (@A_)}{t:Pr}(h:BG n l pts t=true):∃(j:Nat) (put:@A_),pts[j]? =some put/\(t.2,t.1)∈putAll n l put:=by
 unfold BG at h
 obtain⟨put,hm,hd⟩:=List.any_eq_true.mp h
 obtain⟨j,hj⟩:=PZ.mp hm
 exact⟨j,put,hj,Pb hd⟩
def Ln {n:Nat}{l:@A_}{pts:List (@A_)}{rs:List (@D_)}(h:Ft n l pts rs){j:Nat}{put:@A_}(hj:pts[j]? =some put):∃r,rs[j]? =some r/\r∈rs/\Row n (putAll n l put) r:=by
 have hlt:=(OO.mp hj).1
 have hl:=h.1
 have e:rs[j]? =some (rs[j]'(@AT)):=OD (@AT)
 exact⟨_,e,Qh (@AT),h.2 j _ _ e hj⟩
def HP {n:Nat}{l:@A_}{pts:List (@A_)}{rs:List (@D_)}{t:Pr}(h:Ft n l pts rs)(ht:BG n l pts t=true):∃r,r∈rs/\Tn r t:=by
 obtain⟨j,put,hj,hm⟩:=Ml ht
 obtain⟨r,_,hr,hR⟩:=Ln h hj
 exact⟨r,hr,oX hR hm⟩
def FU {n:Nat}{l:@A_}{pts:List (@A_)}{rs:List (@D_)}{i:Nat}{t:Pr}{put:@A_}(hi:pts[i]? =some put)(hP:∀q,q∈pts->Pt n l q)(h:Ft n l (fu pts i t) rs):Ft n l pts rs:=by
 have hlt:=(OO.mp hi).1
 refine⟨by rw[h.1,rm hlt],λj r q hr hq=>?_⟩
 by_cases e:j=i
 ·subst e
  rw[hi] at hq;cases hq
  have:=h.2 j r (put ++ [t]) hr (by rw[mD hi,OG rfl])
  rw[jj] at this
  refine⟨this.1,?_⟩
  have hf:=this.2
  unfold pF at hf ⊢
  rw[O4] at hf ⊢
  exact λp hp=>hf p (Ak (hP _ (O0 hi)).ord hp)
 ·exact h.2 j r q hr (by rw[mD hi,OP e];exact hq)
def Gz {n:Nat}{l:@A_}{pts:List (@A_)}{rs:List (@D_)}{i:Nat}{t:Pr}{put:@A_}{r:@D_}(hi:pts[i]? =some put)(hr:rs[i]? =some r)(ht:Tn r t)(h:Ft n l pts rs):Ft n l (fu pts i t) rs:=by
 have hlt:=(OO.mp hi).1
 refine⟨by rw[h.1,rm hlt],λj r' q hr' hq=>?_⟩
 rw[mD hi] at hq
 by_cases e:j=i
 ·subst e
  rw[OG rfl] at hq;cases hq
  rw[hr] at hr';cases hr'
  rw[jj]
  exact He (h.2 j r put hr hi) ht
 ·rw[OP e] at hq
  exact h.2 j r' q hr' hq
def Br (n:Nat)(l:@A_)(pts:List (@A_))(ud:@A_)(t:Pr)(j:Nat):Prop:=∀rs r,Ft n l pts rs->rs[j]? =some r->Tn r t->∃u,u∈ud/\∀r,r∈rs->¬Tn r u
def yf:SeqAt.shaped (.str "rows")=true/\∀s∈([Str.ofString "rows",Str.ofString "ring",Str.ofString "turn"]:@IN),SeqAt.shaped (.str s)=true/\PyData.eqv (.str s) (.str "rows")=decide (s="rows"):=@FM
def qh {fa:VF D}{vs:List Nv}{β:Int}{s:Str}(hs:s∈([Str.ofString "rows",Str.ofString "ring",Str.ofString "turn"]:@IN)){neg:Bool}(h:fa vs β=.ok (.str s) β):cM (f2 fa (cst (.str "rows")) (cY neg)) vs β=.ok (if neg then !decide (s="rows") else decide (s="rows")) β:=dZ _ _ _ _ (aE h rfl (by unfold cY;rw[(yf.2 s hs).1,yf.1,(yf.2 s hs).2];cases neg <;> rfl))
theorem len0 {fa:VF D}{vs:List Nv}{β:Int}{ds:List D}(h:fa vs β=.ok (.list ds) β):cM (f2 (f1 fa dP) @E_ (cY false)) vs β=.ok ds.isEmpty β:=by
 have:=dD (neg:=false) (fa:=f1 fa dP) (fb:=cst (.int 0)) (vs:=vs) (β:=β) (i:=ds.length) (j:=0) (nD h) rfl
 rw[this]
 cases ds with
 |nil=>rfl
 |cons d ds=>congr 1
def Hz {n:Nat}{l:@A_}{F:@Cl}{pts:List (@A_)}{left:@A_}(O:OM.Ord n l)(hl:pts.length<=64)(hP:∀put,put∈pts->Pt n l put)(ht:∀t,t∈left->t∈mB n l)(hz:left.length<=64)(hu:GG n l pts left= []):∃d,EM F [ag n l,.list (left.map ax),eH n l pts]=.ok d false/\Mg n l pts left d:=by
 have hR:Ft n l pts (pts.map (rv n l)):=⟨by rw[OH],λi r put hr hp=>by
  rw[OU,hp] at hr
  cases hr
  exact (rk (hP put (O0 hp)).ord).2⟩
 refine⟨.tuple [.str "rows",.list ((pts.map (rv n l)).map tupI)],?_,pts.map (rv n l),rfl,hR,λt hm=>?_⟩
 ·show fin (e8 (JH F) B4 Km Bk (cE n l pts left .no .no .no .no .no) 0)=_
  unfold e8
  have eu:=Hx (pts:=pts) O.hi (@AT) (@AT) ht .no .no .no .no .no
  rw[hu] at eu
  refine j6 (fm eu (wp_at (cE n l pts left (.fz (.list [])) .no .no .no .no) rfl ?_))
  refine qp (len0 (ds:=[]) rfl) (vP (gn (ds:=[.str "rows",.list ((pts.map (rv n l)).map tupI)]) (ac rfl (ac ?_ an)) (by simp)) rfl)
  rw[QE]
  exact bY (l:=pts) (e:=u4 n l) (λput=>tupI (rv n l put)) rfl (@AT) λput hp=>⟨[.da (cp n (bF (putAll n l put))),.da (.tuple (put.map ax))],rfl,aq (ds:=[cp n (bF (putAll n l put)),.list []]) (ac rfl (ac (lp (ds:=[]) an) an)) (rk (hP put hp).ord).1⟩
 ·have:BG n l pts t=true:=by
   cases c:BG n l pts t with
   |true=>rfl
   |false=>
    have:t∈GG n l pts left:=OJ.mpr ⟨hm,by rw[c];rfl⟩
    rw[hu] at this;cases this
  exact HP hR this
theorem MW {n:Nat}{l:@A_}(O:OM.Ord n l):∀(k:Nat) (pts:List (@A_)) (left:@A_),pts.length<=64->(∀put,put∈pts->Pt n l put)->(∀t,t∈left->t∈mB n l)->left.length<=64->(GG n l pts left).length<=k->(∀put,put∈pts->put.length + k<=70)->
  ∃d,rj EM (k + 1) [ag n l,.list (left.map ax),eH n l pts]=.ok d false/\(Mg n l pts left d\/((∃t zs,d=.tuple [.str "turn",ax t,.tuple zs]/\zs.length=pts.length)/\Jy n l (k + 1) d pts/\N0 n l pts left)):=by
 intro k
 induction k with
 |zero=>
  intro pts left hl hP ht hz hu hk
  obtain⟨d,e,h⟩:=Hz (F:=rj EM 0) O hl hP ht hz (List.length_eq_zero_iff.mp (@AT))
  exact⟨d,e,.inl h⟩
 |succ k ih=>
  intro pts left hl hP ht hz hu hk
  by_cases hu0:GG n l pts left= []
  ·obtain⟨d,e,h⟩:=Hz (F:=rj EM (k + 1)) O hl hP ht hz hu0
   exact⟨d,e,.inl h⟩
  have eu:=Hx (pts:=pts) O.hi (@AT) (@AT) ht .no .no .no .no .no
  have hud:∀t,t∈GG n l pts left->t∈left/\BG n l pts t=false:=λt h=>by
   have:=OJ.mp h
   exact⟨this.1,by simpa using this.2⟩
  generalize hU:GG n l pts left=ud at eu hu hu0 hud
  have hut:∀t,t∈ud->t∈mB n l:=λt h=>ht t (hud t h).1
  have huz:ud.length<=64:=by rw[<-hU];exact PB (Pu _ _) hz
  obtain⟨t,htu,em⟩:=JG (ir:=2) (fa:=gv 3) (fb:=av Bk (aa (gv 1) (aa (gv 0) ah))) (vs:=vl (cE n l pts left (.fz (.list (ud.map ax))) .no .no .no .no)) (β:=0) (ts:=ud) (dr:=eH n l pts) rfl rfl hu0 λt h=>by
   obtain⟨j,e⟩:=L5 (l:=l) (pts:=pts) O.hi (@AT) (cg.mp (hut t h)).1
   exact⟨j,aq (ds:=[eH n l pts,ax t]) rfl e⟩
  have htt:=hut t htu
  have br:∀i,i < pts.length->∃d,JH (rj EM (k + 1)) [ag n l,.list (ud.map ax),eH n l pts,.int (i:Int),ax t]=.ok d false/\(Mg n l pts left d\/((∃s y z,d=.tuple [.str s,y,z]/\(s="ring"\/s="turn"))/\Jy n l (k + 1) d (fu pts i t)/\Br n l pts ud t i)):=λi hi=>by
   obtain⟨put,hp⟩:∃put,pts[i]? =some put:=⟨_,OD hi⟩
   have hpm:=O0 hp
   have hpk:=hk put hpm
   by_cases hb:t∈putAll n l put
   ·obtain⟨r,e,h1,h2,h3,h4⟩:=K9 (F:=rj EM (k + 1)) (left:=.list (ud.map ax)) O hp (hP put hpm) (@AT) htt hb
    have hmr:∀x,x∈r->x∈put ++ [t]:=λx hx=>by
     rcases h1 x hx with h |h
     ·simp[h]
     ·simp[h]
    refine⟨_,e,.inr ⟨⟨_,_,_,rfl,.inl rfl⟩,.inl ⟨i,r,put ++ [t],rfl,by rw[mD hp,OG rfl],hmr,h3,h4,?_,λx hx=>?_⟩,λrs r' hf hr hT=>?_⟩⟩
    ·have:=zq h2 hmr
     rw[O9,PD] at this
     omega
    ·rcases h1 x hx with h |h
     ·rw[h];exact htt
     ·exact (hP put hpm).tr x h
    ·have:=oX (hf.2 i r' put hr hp) hb
     unfold Tn at hT
     omega
   ·have hlt:(GG n l (fu pts i t) ud).length<=k:=by
     have hlt:(ud.filter λu=> !BG n l (fu pts i t) u).length < ud.length:=by
      rw[List.length_filter_lt_length_iff_exists]
      refine⟨t,htu,?_⟩
      have:BG n l (fu pts i t) t=true:=by
       unfold BG
       refine List.any_eq_true.mpr ⟨put ++ [t],PZ.mpr ⟨i,by rw[mD hp,OG rfl]⟩,OE ?_⟩
       rw[jj]
       exact qN (cg.mp htt).1
      rw[this];simp
     have e9:GG n l (fu pts i t) ud=ud.filter λu=> !BG n l (fu pts i t) u:=rfl
     rw[e9];omega
    have hmem:∀q,q∈fu pts i t->q=put ++ [t]\/q∈pts:=λq hq=>by
     obtain⟨j,hj⟩:=PZ.mp hq
     rw[mD hp] at hj
     split at hj
     ·cases hj;exact .inl rfl
     ·exact .inr (O0 hj)
    obtain⟨d,e,h⟩:=ih (fu pts i t) ud (by rw[rm hi];exact hl) (λq hq=>by
     rcases hmem q hq with rfl |h
     ·exact (hP put hpm).more htt hb
     ·exact hP q h) hut huz hlt (λq hq=>by
     rcases hmem q hq with rfl |h
     ·rw[O9,PD];omega
     ·have:=hk q h;omega)
    refine⟨d,LX O.hi hp (@AT) (@AT) htt hb e,?_⟩
    rcases h with⟨rs,rfl,hf,hT⟩ | ⟨⟨t',zs,rfl,_⟩,hPap,hN⟩
    ·have hf':=FU hp hP hf
     refine .inl ⟨rs,rfl,hf',λu hu'=>?_⟩
     cases c:BG n l pts u with
     |true=>exact HP hf' c
     |false=>exact hT u (by rw[<-hU];exact OJ.mpr ⟨hu',by rw[c];rfl⟩)
    ·exact .inr ⟨⟨_,_,_,rfl,.inr rfl⟩,hPap,λrs r hf hr hT=>hN rs (Gz hp hr hT hf)⟩
  have W:WP (e8 (JH (rj EM (k + 1))) B4 Km Bk (cE n l pts left .no .no .no .no .no) 0) λs=>∃d β,s=.rt d false β/\(Mg n l pts left d\/((∃t zs,d=.tuple [.str "turn",ax t,.tuple zs]/\zs.length=pts.length)/\Jy n l (k + 1 + 1) d pts/\N0 n l pts left)):=by
   unfold e8
   refine fm eu (wp_at (cE n l pts left (.fz (.list (ud.map ax))) .no .no .no .no) rfl ?_)
   have e0:=len0 (fa:=gv 3) (vs:=vl (cE n l pts left (.fz (.list (ud.map ax))) .no .no .no .no)) (β:=0) (ds:=ud.map ax) rfl
   rw[show (ud.map ax).isEmpty=false by cases ud with |nil=>exact absurd rfl hu0 |cons a b=>rfl] at e0
   refine mM e0 (wp_at (cE n l pts left (.fz (.list (ud.map ax))) .no .no .no .no) rfl ?_)
   refine fm em (wp_at (cE n l pts left (.fz (.list (ud.map ax))) (.fz (ax t)) .no .no .no) rfl ?_)
   refine zK (lp (ds:=[]) an) (wp_at (cE n l pts left (.fz (.list (ud.map ax))) (.fz (ax t)) (.ow (.list [])) .no .no) rfl ?_)
   refine Gk (ds:=gf 0 pts.length) (β1:=0) (Mg n l pts left) (λi env β=>β=0/\∃zs s6 s7,env=cE n l pts left (.fz (.list (ud.map ax))) (.fz (ax t)) (.ow (.list zs)) s6 s7/\zs.length=i/\i<=pts.length/\∀j z,zs[j]? =some z->Jy n l (k + 1) z (fu pts j t)/\Br n l pts ud t j) ?_ ⟨rfl,[],.no,.no,rfl,rfl,Pz _,λj z h=>by simp at h⟩ ?_ (λd β h=>⟨d,β,rfl,.inl h⟩) ?_
   ·refine iE ?_ (@AT)
    rw[nD (ds:=pts.map (u4 n l)) rfl,OH]
   ·rintro i d env β hd ⟨rfl,zs,s6,s7,rfl,hzl,_,hzs⟩
    obtain⟨hi,rfl⟩:=l6 hd
    rw[Qp]
    refine⟨cE n l pts left (.fz (.list (ud.map ax))) (.fz (ax t)) (.ow (.list zs)) (.fz (.int (i:Int))) s7,rfl,?_⟩
    obtain⟨d,ed,hd⟩:=br i hi
    refine fm (d:=d) (β1:=0) (aq (ds:=[ag n l,.list (ud.map ax),eH n l pts,.int (i:Int),ax t]) rfl ed) (wp_at (cE n l pts left (.fz (.list (ud.map ax))) (.fz (ax t)) (.ow (.list zs)) (.fz (.int (i:Int))) (.fz d)) rfl ?_)
    rcases hd with h | ⟨⟨s,y,z,rfl,hs⟩,hPap,hB⟩
    ·have h':=h
     obtain⟨rs,rfl,_⟩:=h'
     refine qp (qh (neg:=false) (s:="rows") (by simp) (aE (x:=.tuple [.str "rows",.list (rs.map tupI)]) (y:=.int 0) rfl rfl rfl)) (Ha ?_)
     exact⟨(λa b z=>by cases z),.inl ⟨_,_,rfl,h⟩⟩
    ·have hsm:s∈([Str.ofString "rows",Str.ofString "ring",Str.ofString "turn"]:@IN):=by rcases hs with h |h <;> simp[h]
     have e2:=qh (neg:=false) hsm (fa:=f2 (gv 7) @E_ bh) (vs:=vl (cE n l pts left (.fz (.list (ud.map ax))) (.fz (ax t)) (.ow (.list zs)) (.fz (.int (i:Int))) (.fz (.tuple [.str s,y,z])))) (β:=0) (aE (x:=.tuple [.str s,y,z]) (y:=.int 0) rfl rfl rfl)
     have hne:decide (s="rows")=false:=by rcases hs with rfl |rfl <;> decide +kernel
     rw[hne] at e2
     refine mM e2 (wp_at (cE n l pts left (.fz (.list (ud.map ax))) (.fz (ax t)) (.ow (.list zs)) (.fz (.int (i:Int))) (.fz (.tuple [.str s,y,z]))) rfl (zf ?_))
     refine CH (ds:=zs) rfl rfl rfl (@AT) (wc (.inr ⟨_,_,rfl,rfl,zs ++ [.tuple [.str s,y,z]],_,_,rfl,by rw[O9,PD];omega,@AT,λj z' hj=>?_⟩))
     by_cases c:j < zs.length
     ·rw[Pg c] at hj
      exact hzs j z' hj
     ·rw[Po (@AT)] at hj
      have hj0:j - zs.length=0:=by
       have:=(OO.mp hj).1
       rw[PD] at this;omega
      rw[hj0] at hj
      cases hj
      have:j=i:=@AT
      subst this
      exact⟨hPap,hB⟩
   ·rintro env β ⟨rfl,zs,s6,s7,rfl,hzl,_,hzs⟩
    rw[gx] at hzl
    refine ka (gn (ds:=[.str "turn",ax t,.tuple zs]) (ac rfl (ac rfl (ac (cU (x:=.list zs) rfl rfl) an))) (by simp)) ⟨_,_,rfl,.inr ⟨⟨t,zs,rfl,hzl⟩,.inr ⟨t,zs,rfl,htt,hzl,λj z hj=>(hzs j z hj).1⟩,λrs hf=>?_⟩⟩
    by_cases c:∃r,r∈rs/\Tn r t
    ·obtain⟨r,hr,hT⟩:=c
     obtain⟨j,hj⟩:=PZ.mp hr
     have hjl:j < zs.length:=by
      have:=(OO.mp hj).1
      have:=hf.1
      omega
     obtain⟨u,hu1,hu2⟩:=(hzs j _ (OD hjl)).2 rs r hf hj hT
     exact⟨u,(hud u hu1).1,hu2⟩
    ·exact⟨t,(hud t htu).1,λr hr hT=>c ⟨r,hr,hT⟩⟩
  obtain⟨d,β,e,h⟩:=W.out
  refine⟨d,?_,h⟩
  show fin (e8 (JH (rj EM (k + 1))) B4 Km Bk (cE n l pts left .no .no .no .no .no) 0)=_
  rw[e];rfl
abbrev AO (n:Nat)(l:@A_):@A_:=(mB n l).filter (xN l)
noncomputable def MI:@Cl:=aS 3 2 (p7 NF (rj EM 40) vE)
def Dm (n:Nat)(l:@A_)(c:Nat):Prop:=∃rs:List (@D_),rs.length=c/\(∀r,r∈rs->Row n l r)/\∀t,t∈AO n l->∃r,r∈rs/\Tn r t
def yT {n:Nat}{l:@A_}{c:Nat}{rs:List (@D_)}:Ft n l (List.replicate c []) rs↔rs.length=c/\∀r,r∈rs->Row n l r:=by
 constructor
 ·rintro⟨h1,h2⟩
  rw[PL] at h1
  refine⟨h1,λr hr=>?_⟩
  obtain⟨i,hi⟩:=PZ.mp hr
  exact h2 i r [] hi (by rw[P0,OG (by have:=(OO.mp hi).1;omega)])
 ·rintro⟨h1,h2⟩
  refine⟨by rw[PL];exact h1,λi r put hr hp=>?_⟩
  rw[P0] at hp
  split at hp
  ·cases hp;exact h2 r (O0 hr)
  ·cases hp
def Hm {n:Nat}{l:@A_}{c:Nat}:N0 n l (List.replicate c []) (AO n l)↔¬Dm n l c:=by
 constructor
 ·rintro h ⟨rs,h1,h2,h3⟩
  obtain⟨t,ht,hn⟩:=h rs (yT.mpr ⟨h1,h2⟩)
  obtain⟨r,hr,hT⟩:=h3 t ht
  exact hn r hr hT
 ·intro h rs hf
  refine Classical.byContradiction λhc=>h ?_
  obtain⟨h1,h2⟩:=yT.mp hf
  refine⟨rs,h1,h2,λt ht=>Classical.byContradiction λhn=>hc ⟨t,ht,λr hr hT=>hn ⟨r,hr,hT⟩⟩⟩
def Dm.mono {n:Nat}{l:@A_}{c c':Nat}(O:OM.Ord n l)(h:Dm n l c)(hc:c<=c'):Dm n l c':=by
 obtain⟨rs,h1,h2,h3⟩:=h
 have hv:=(rk (n:=n) (l:=l) (put:=[]) O).2
 refine⟨rs ++ List.replicate (c' - c) (rv n l []),by rw[O9,PL];omega,λr hr=>?_,λt ht=>?_⟩
 ·rcases OT.mp hr with h |h
  ·exact h2 r h
  ·rw[Qi h];exact hv
 ·obtain⟨r,hr,hT⟩:=h3 t ht
  exact⟨r,OT.mpr (.inl hr),hT⟩
def JR {n:Nat}{l:@A_}(O:OM.Ord n l):Dm n l (AO n l).length:=by
 refine⟨(AO n l).map λt=>rv n l [t],by rw[OH],λr hr=>?_,λt ht=>⟨rv n l [t],O3.mpr ⟨t,ht,rfl⟩,?_⟩⟩
 ·obtain⟨t,ht,rfl⟩:=O3.mp hr
  have htt:=(OJ.mp ht).1
  have hP:=(vv O).more htt (λh=>by
   have:=(cg.mp htt).2
   unfold EI at this
   have h:t∈l:=h
   simp[h] at this)
  have:=(rk hP.ord).2
  refine⟨this.1,?_⟩
  have hf:=this.2
  unfold pF at hf ⊢
  rw[O4] at hf ⊢
  exact λp hp=>hf p (vN (O.wn p hp) hp)
 ·have htt:=(OJ.mp ht).1
  have hP:=(vv O).more htt (λh=>by
   have:=(cg.mp htt).2
   unfold EI at this
   have h:t∈l:=h
   simp[h] at this)
  exact oX (rk hP.ord).2 (hP.tnd t (by simp))
def Iy {n:Nat}{l:@A_}(h6:n<=6):(AO n l).length<=36:=by
 refine PB (Pu _ _) ?_
 unfold mB
 refine PB (Pu _ _) ?_
 have:(OM.bP n).length=n * n:=dF n
 rw[this]
 exact P4 h6 h6
def Et {d:D}{c:Nat}(h:c<=64):pW (.list [d]) (.int (c:Int))=some (.list (List.replicate c d)):=by
 have e:(List.replicate c [d]).flatten=List.replicate c d:=by
  clear h
  induction c with
  |zero=>rfl
  |succ c ih=>rw[Px,Qd,ih,Px];rfl
 have key:∀k:Int,0<=k->k<=64->pW (.list [d]) (.int k)=some (.list (List.replicate k.toNat [d]).flatten):=λk h0 h1=>OG ⟨@AT,@AT,sz _ (by simp;omega)⟩
 rw[key c (@AT) (@AT),Pk,e]
def K8 {n:Nat}{l:@A_}{c:Nat}(O:OM.Ord n l)(hs:(AO n l).length<=39)(hc:c<=64):∃d,MI [ag n l,.int (c:Int)]=.ok d false/\((∃rs:List (@D_),d=.tuple [.str "rows",.list (rs.map tupI)]/\rs.length=c/\(∀r,r∈rs->Row n l r)/\∀t,t∈AO n l->∃r,r∈rs/\Tn r t)\/((∃t zs,d=.tuple [.str "turn",ax t,.tuple zs]/\zs.length=c)/\Jy n l 40 d (List.replicate c [])/\¬Dm n l c)):=by
 obtain⟨d,e,h⟩:=MW O 39 (List.replicate c []) (AO n l) (by rw[PL];exact hc) (λput hp=>by rw[Qi hp];exact vv O) (λt ht=>(OJ.mp ht).1) (@AT) (PB (Pu _ _) hs) (λput hp=>by rw[Qi hp];simp)
 refine⟨d,?_,?_⟩
 ·show fin (p7 NF (rj EM 40) vE [@Db,.fz (.int (c:Int)),.no] 0)=_
  unfold p7
  refine j6 (fm (d:=u4 n l []) (β1:=0) (gn (ds:=[cp n (bF l),.tuple []]) (ac (aq (ds:=[ag n l]) rfl (M7 O)) (ac (tp (ds:=[]) an) an)) (by simp)) (wp_at [@Db,.fz (.int (c:Int)),.fz (u4 n l [])] rfl ?_))
  refine ka (aq (ds:=[ag n l,.list ((AO n l).map ax),eH n l (List.replicate c [])]) (ac rfl (ac (aq (ds:=[ag n l]) rfl (DZ O)) (ac (aE (x:=.list [u4 n l []]) (y:=.int c) (lp (ds:=[u4 n l []]) (ac rfl an)) rfl ?_) an))) e) rfl
  show pW (.list [u4 n l []]) (.int c)=some (eH n l (List.replicate c []))
  rw[Et hc]
  unfold eH
  rw[List.map_replicate]
 ·rcases h with⟨rs,rfl,hf,hT⟩ | ⟨⟨t,zs,rfl,hz⟩,hP,hN⟩
  ·obtain⟨h1,h2⟩:=yT.mp hf
   exact .inl ⟨rs,rfl,h1,h2,hT⟩
  ·exact .inr ⟨⟨t,zs,rfl,by rw[hz,PL]⟩,hP,Hm.mp hN⟩
noncomputable def Ia:@Cl:=aS 3 1 (eO iD MI)
structure Cf (n:Nat)(l:@A_)(rs:List (@D_)):Prop where
 pos:1<=rs.length
 few:rs.length<=40
 row:∀r,r∈rs->Row n l r
 tn:∀t,t∈AO n l->∃r,r∈rs/\Tn r t
 least:∀c,1<=c->c < rs.length->¬Dm n l c
def Cf.dm {n:Nat}{l:@A_}{rs:List (@D_)}(h:Cf n l rs):Dm n l rs.length:=⟨rs,rfl,h.row,h.tn⟩
def Cf.iff {n:Nat}{l:@A_}{rs:List (@D_)}(h:Cf n l rs)(O:OM.Ord n l){c:Nat}(hc:1<=c):Dm n l c↔rs.length<=c:=⟨λd=>Nat.le_of_not_lt λz=>h.least c hc z d,λz=>h.dm.mono O z⟩
def Nm {n:Nat}{l:@A_}(O:OM.Ord n l)(hs:(AO n l).length<=39):∃rs,Ia [ag n l]=.ok (.list (rs.map tupI)) false/\Cf n l rs:=by
 have W:WP (eO iD MI [@Db,.no,.no] 0) λs=>∃d β,s=.rt d false β/\∃rs:List (@D_),d=.list (rs.map tupI)/\Cf n l rs:=by
  unfold eO
  refine AF (aq (ds:=[ag n l]) (ac rfl an) (nI O)) (wp_at [@Db,.no,.no] rfl ?_)
  refine fm (d:=.int 1) (β1:=0) rfl (wp_at [@Db,.fz (.int ((1:Nat):Int)),.no] rfl ?_)
  obtain⟨d1,e1,h1⟩:=K8 (c:=1) O hs (@AT)
  refine fm (d:=d1) (β1:=0) (aq (ds:=[ag n l,.int ((1:Nat):Int)]) rfl e1) (wp_at [@Db,.fz (.int ((1:Nat):Int)),.fz d1] rfl ?_)
  refine Ee (λb env β=>β=0/\∃(c:Nat) (d:D),env= [@Db,.fz (.int (c:Int)),.fz d]/\b=60 - c/\1<=c/\c<=40/\(∀c',1<=c'->c' < c->¬Dm n l c')/\((∃rs:List (@D_),d=.tuple [.str "rows",.list (rs.map tupI)]/\rs.length=c/\(∀r,r∈rs->Row n l r)/\∀t,t∈AO n l->∃r,r∈rs/\Tn r t)\/((∃t zs,d=.tuple [.str "turn",ax t,.tuple zs]/\zs.length=c)/\Jy n l 40 d (List.replicate c [])/\¬Dm n l c)))
   (λenv β=>β=0/\∃(c:Nat) (rs:List (@D_)),env= [@Db,.fz (.int (c:Int)),.fz (.tuple [.str "rows",.list (rs.map tupI)])]/\Cf n l rs) 59 (@AT) ⟨rfl,1,d1,rfl,rfl,@AT,@AT,λc' h1 h2=>@AT,h1⟩ ?_ ?_
  ·rintro b env β ⟨rfl,c,d,rfl,rfl,hc1,hc2,hn,h⟩
   rcases h with⟨rs,rfl,hl,hr,ht⟩ | ⟨⟨t,zs,rfl,hz⟩,hP,hD⟩
   ·refine⟨_,_,qh (neg:=true) (s:="rows") (by simp) (aE (x:=.tuple [.str "rows",.list (rs.map tupI)]) (y:=.int 0) rfl rfl rfl),.inl ⟨by rfl,rfl,c,rs,rfl,⟨@AT,@AT,hr,ht,λc' h1 h2=>hn c' h1 (@AT)⟩⟩⟩
   ·refine⟨_,_,qh (neg:=true) (s:="turn") (by simp) (aE (x:=.tuple [.str "turn",ax t,.tuple zs]) (y:=.int 0) rfl rfl rfl),.inr ⟨@FM,wp_at [@Db,.fz (.int (c:Int)),.fz (.tuple [.str "turn",ax t,.tuple zs])] rfl ?_⟩⟩
    have hc:c < 40:=by
     refine Nat.lt_of_not_le λz=>hD ((JR O).mono O (@AT))
    refine fm (d:=.int ((c + 1:Nat):Int)) (β1:=0) (Of rfl) (wp_at [@Db,.fz (.int ((c + 1:Nat):Int)),.fz (.tuple [.str "turn",ax t,.tuple zs])] rfl ?_)
    obtain⟨d2,e2,h2⟩:=K8 (c:=c + 1) O hs (@AT)
    refine zf (fm (d:=d2) (β1:=0) (aq (ds:=[ag n l,.int ((c + 1:Nat):Int)]) rfl e2) (wc ⟨_,_,60 - (c + 1),rfl,@AT,rfl,c + 1,d2,rfl,rfl,@AT,@AT,λc' h1 h2=>?_,h2⟩))
    by_cases e:c'=c
    ·subst e;exact hD
    ·exact hn c' h1 (@AT)
  ·rintro env β ⟨rfl,c,rs,rfl,h⟩
   exact ka (aE (x:=.tuple [.str "rows",.list (rs.map tupI)]) (y:=.int 1) rfl rfl rfl) ⟨_,_,rfl,rs,rfl,h⟩
 obtain⟨d,β,e,rs,rfl,h⟩:=W.out
 refine⟨rs,?_,h⟩
 show fin (eO iD MI [@Db,.no,.no] 0)=_
 rw[e];rfl
noncomputable def Mw:@Cl:=aS 1 1 (nW Ia)
def Mo {n:Nat}{l:@A_}(O:OM.Ord n l)(hs:(AO n l).length<=39):∃rs,Ia [ag n l]=.ok (.list (rs.map tupI)) false/\Mw [ag n l]=.ok (.int (rs.length:Nat)) false/\Cf n l rs:=by
 obtain⟨rs,e,h⟩:=Nm O hs
 refine⟨rs,e,?_,h⟩
 show fin (nW Ia [@Db] 0)=_
 unfold nW
 have:=nD (fa:=av Ia (aa (gv 0) ah)) (vs:=vl [@Db]) (β:=0) (aq (ds:=[ag n l]) rfl e)
 rw[OH] at this
 exact j6 (ka this rfl)
def j9 {l:@A_}{p:Pr}:EI l p=true↔p.1≠p.2/\(p.1,p.2)∉l/\(p.2,p.1)∉l:=by
 unfold EI
 simp only[O1,QJ,P2,ne_eq]
def Ie {l:@A_}{p:Pr}:xN l p=true↔(∀c,(c,p.1)∈l->(c,p.2)∈l)/\∀c,(p.2,c)∈l->(p.1,c)∈l:=by
 unfold xN
 rw[O1,O4,O4]
 constructor
 ·rintro⟨h1,h2⟩
  exact⟨λc hc=>Pb (h1 (c,p.1) (OJ.mpr ⟨hc,OE rfl⟩)),λc hc=>Pb (h2 (p.2,c) (OJ.mpr ⟨hc,OE rfl⟩))⟩
 ·rintro⟨h1,h2⟩
  constructor
  ·intro q hq
   obtain⟨hm,he⟩:=OJ.mp hq
   have he:=Pb he
   refine OE (h1 q.1 ?_)
   rw[<-he];exact hm
  ·intro q hq
   obtain⟨hm,he⟩:=OJ.mp hq
   have he:=Pb he
   refine OE (h2 q.2 ?_)
   rw[<-he];exact hm
def N2 (n:Nat)(l:@A_)(a:Int):Nat:=((bN n).filter λx=>decide ((x,a)∈l)).length
def Nw (n:Nat)(l:@A_)(a:Int):Nat:=((bN n).filter λx=>decide ((a,x)∈l)).length
def filter_lt {L:@D_}{p q:Int->Bool}(h:∀x,x∈L->p x=true->q x=true){y:Int}(hy:y∈L)(h1:q y=true)(h2:p y=false):(L.filter p).length < (L.filter q).length:=by
 have e:L.filter p=(L.filter q).filter p:=by
  rw[List.filter_filter]
  refine QX λx hx=>?_
  cases c:p x with
  |false=>rfl
  |true=>rw[h x hx c];rfl
 rw[e]
 exact List.length_filter_lt_length_iff_exists.mpr ⟨y,OJ.mpr ⟨hy,h1⟩,by rw[h2];simp⟩
def K5 {n:Nat}{l:@A_}(O:OM.Ord n l){a c:Int}(h:(c,a)∈l):N2 n l c < N2 n l a:=by
 refine filter_lt (y:=c) (λx _ hx=>OE (O.tr x c a (Pb hx) h)) (aJ.mpr (O.wn _ h).1) (OE h) (OR (O.irr c))
def LU {n:Nat}{l:@A_}(O:OM.Ord n l){a c:Int}(h:(a,c)∈l):Nw n l c < Nw n l a:=by
 refine filter_lt (y:=c) (λx _ hx=>OE (O.tr a c x h (Pb hx))) (aJ.mpr (O.wn _ h).2) (OE h) (OR (O.irr c))
def Od (l:@A_)(q p:Pr):Prop:=(q.1=p.1\/(q.1,p.1)∈l)/\(q.2=p.2\/(p.2,q.2)∈l)
theorem ie {n:Nat}{l:@A_}(O:OM.Ord n l):∀(k:Nat) (p:Pr),N2 n l p.1 + Nw n l p.2<=k->p∈mB n l->∃q,q∈mB n l/\xN l q=true/\Od l q p
 |k,p,hk,hp=>by
  by_cases hs:xN l p=true
  ·exact⟨p,hp,hs,.inl rfl,.inl rfl⟩
  ·rw[Ie,Classical.not_and_iff_not_or_not] at hs
   obtain⟨hg,ha⟩:=cg.mp hp
   obtain⟨a1,a2,a3⟩:=j9.mp ha
   rcases hs with hs |hs
   ·obtain⟨c,hc⟩:=Classical.not_forall.mp hs
    obtain⟨hc1,hc2⟩:=Classical.not_imp.mp hc
    have hlt:=K5 O hc1
    have hm:((c,p.2):Pr)∈mB n l:=cg.mpr ⟨⟨(O.wn _ hc1).1,hg.2⟩,j9.mpr ⟨λe=>by
     simp only at e
     exact a3 (e▸hc1),hc2,λh=>a3 (O.tr _ _ _ h hc1)⟩⟩
    match k,hk with
    | 0,hk=>omega
    |k + 1,hk=>
     obtain⟨q,h1,h2,h3,h4⟩:=ie O k (c,p.2) (by simp only;omega) hm
     refine⟨q,h1,h2,.inr ?_,h4⟩
     rcases h3 with h3 |h3
     ·rw[h3];exact hc1
     ·exact O.tr _ _ _ h3 hc1
   ·obtain⟨c,hc⟩:=Classical.not_forall.mp hs
    obtain⟨hc1,hc2⟩:=Classical.not_imp.mp hc
    have hlt:=LU O hc1
    have hm:((p.1,c):Pr)∈mB n l:=cg.mpr ⟨⟨hg.1,(O.wn _ hc1).2⟩,j9.mpr ⟨λe=>by
     simp only at e
     exact a3 (e▸hc1),hc2,λh=>a3 (O.tr _ _ _ hc1 h)⟩⟩
    match k,hk with
    | 0,hk=>omega
    |k + 1,hk=>
     obtain⟨q,h1,h2,h3,h4⟩:=ie O k (p.1,c) (by simp only;omega) hm
     refine⟨q,h1,h2,h3,.inr ?_⟩
     rcases h4 with h4 |h4
     ·rw[h4];exact hc1
     ·exact O.tr _ _ _ hc1 h4
def oK {n:Nat}{l:@A_}{q p:Pr}{r:@D_}(hR:Row n l r)(h:Od l q p)(ht:r.idxOf q.2 < r.idxOf q.1):r.idxOf p.2 < r.idxOf p.1:=by
 have fit:∀{a b:Int},(a,b)∈l->r.idxOf a < r.idxOf b:=λ{a b} hm=>Pb (O4.mp hR.2 (a,b) hm)
 obtain⟨h1,h2⟩:=h
 have g1:r.idxOf q.1<=r.idxOf p.1:=h1.elim (λe=>by rw[e];exact OF _) λh=>Qz (fit h)
 have g2:r.idxOf p.2<=r.idxOf q.2:=h2.elim (λe=>by rw[e];exact OF _) λh=>Qz (fit h)
 omega
def AU {n:Nat}{l:@A_}{rs:List (@D_)}(O:OM.Ord n l)(h1:rs≠ [])(h:∀r,r∈rs->Row n l r):(OM.bP n).filter (BN rs)=l↔∀p,p∈mB n l->∃r,r∈rs/\r.idxOf p.2 < r.idxOf p.1:=by
 have sh:∀p,BN rs p=true↔∀r,r∈rs->r.idxOf p.1 < r.idxOf p.2:=λp=>by
  unfold BN
  rw[O4]
  exact⟨λh r hr=>Pb (h r hr),λh r hr=>OE (h r hr)⟩
 have fit:∀{a b:Int} {r:@D_},r∈rs->(a,b)∈l->r.idxOf a < r.idxOf b:=λ{a b r} hr hm=>Pb (O4.mp (h r hr).2 (a,b) hm)
 constructor
 ·intro e p hp
  obtain⟨hg,ha⟩:=cg.mp hp
  obtain⟨a1,a2,a3⟩:=j9.mp ha
  have hn:¬BN rs p=true:=λhs=>a2 (by rw[<-e];exact OJ.mpr ⟨OM.aZ.mpr hg,hs⟩)
  rw[sh] at hn
  obtain⟨r,hr⟩:=Classical.not_forall.mp hn
  obtain⟨hr1,hr2⟩:=Classical.not_imp.mp hr
  refine⟨r,hr1,Nat.lt_of_le_of_ne (Nat.le_of_not_lt hr2) λz=>a1 ?_⟩
  have pm:=(h r hr1).1
  exact (vW (pm.mem_iff.mpr (aJ.mpr hg.2)) (pm.mem_iff.mpr (aJ.mpr hg.1)) z).symm
 ·intro ht
  refine OM.dR (OM.b7 _ (OM.cQ n)) O.ris λp=>?_
  rw[OJ,sh]
  constructor
  ·rintro⟨hg,hs⟩
   by_cases c:p∈l
   ·exact c
   ·obtain⟨r,rs',rfl⟩:∃r rs',rs=r :: rs':=by
     cases rs with
     |nil=>exact absurd rfl h1
     |cons r rs'=>exact⟨r,rs',rfl⟩
    have hr:r∈r :: rs':=ON ..
    have l1:=hs r hr
    obtain⟨q,hq1,hq2⟩:=ht p (cg.mpr ⟨OM.aZ.mp hg,j9.mpr ⟨λe=>by rw[e] at l1;omega,c,λz=>by have:=fit hr z;omega⟩⟩)
    have:=hs q hq1
    omega
  ·intro hm
   exact⟨OM.aZ.mpr (O.wn p hm),λr hr=>fit hr hm⟩
def Ew {n:Nat}{l:@A_}{rs:List (@D_)}(O:OM.Ord n l)(h1:rs≠ [])(h:∀r,r∈rs->Row n l r):(OM.bP n).filter (BN rs)=l↔∀p,p∈(mB n l).filter (xN l)->∃r,r∈rs/\r.idxOf p.2 < r.idxOf p.1:=by
 rw[AU O h1 h]
 constructor
 ·exact λk p hp=>k p (OJ.mp hp).1
 ·intro k p hp
  obtain⟨q,hq1,hq2,hu⟩:=ie O _ p (OF _) hp
  obtain⟨r,hr,ht⟩:=k q (OJ.mpr ⟨hq1,hq2⟩)
  exact⟨r,hr,oK (h r hr) hu ht⟩
theorem FW {n:Nat}{l:@A_}(O:OM.Ord n l){x:Int}:∀{bs:@D_},(∀b,b∈bs->(x,b)∈mB n l)->Pt n l (bs.reverse.map λb=>(x,b))/\∀z,(x,z)∈putAll n l (bs.reverse.map λb=>(x,b))->(x,z)∈l:=by
 intro bs
 induction bs with
 |nil=>exact λ_=>⟨vv O,λz h=>h⟩
 |cons b bs ih=>
  intro h
  obtain⟨hP,hu⟩:=ih λb hb=>h b (by simp[hb])
  have hb:=h b (by simp)
  have ha:=(j9.mp (cg.mp hb).2)
  have hn:¬(x,b)∈putAll n l (bs.reverse.map λb=>(x,b)):=λz=>ha.2.1 (hu b z)
  rw[List.reverse_cons,Pn]
  refine⟨hP.more hb hn,λz hz=>?_⟩
  have hz:(x,z)∈putAll n l (bs.reverse.map (λb=>(x,b)) ++ [(x,b)]):=hz
  rw[jj] at hz
  rcases nz hz with h1 | ⟨h1,_⟩
  ·exact hu z h1
  ·rcases eY.mp h1 with e |e
   ·exact absurd e ha.1
   ·exact absurd e hn
def NV {n:Nat}{l:@A_}(O:OM.Ord n l):Dm n l n:=by
 let bs:Int->@D_:=λx=>(bN n).filter λb=>EI l (x,b)
 have hb:∀x,(0<=x/\x < (n:Int))->∀b,b∈bs x->(x,b)∈mB n l:=λx hx b hb=>cg.mpr ⟨⟨hx,aJ.mp (OJ.mp hb).1⟩,(OJ.mp hb).2⟩
 have fit:∀x,(0<=x/\x < (n:Int))->Pt n l ((bs x).reverse.map λb=>(x,b)):=λx hx=>(FW O (hb x hx)).1
 refine⟨(bN n).map λx=>rv n l ((bs x).reverse.map λb=>(x,b)),by rw[OH,cO],λr hr=>?_,λt ht=>?_⟩
 ·obtain⟨x,hx,rfl⟩:=O3.mp hr
  have:=(rk (fit x (aJ.mp hx)).ord).2
  refine⟨this.1,?_⟩
  have hf:=this.2
  unfold pF at hf ⊢
  rw[O4] at hf ⊢
  exact λp hp=>hf p (vN (O.wn p hp) hp)
 ·obtain⟨hr,ha⟩:=cg.mp (OJ.mp ht).1
  refine⟨_,O3.mpr ⟨t.1,aJ.mpr hr.1,rfl⟩,?_⟩
  exact oX (rk (fit t.1 hr.1).ord).2 ((fit t.1 hr.1).tnd t (O3.mpr ⟨t.2,List.mem_reverse.mpr <|OJ.mpr ⟨aJ.mpr hr.2,ha⟩,rfl⟩))
def Cf.le {n:Nat}{l:@A_}{rs:List (@D_)}(h:Cf n l rs)(O:OM.Ord n l):rs.length<=n:=(h.iff O O.lo).mp (NV O)
def Cf.ne {n:Nat}{l:@A_}{rs:List (@D_)}(h:Cf n l rs):rs≠ []:=λe=>by have:=h.pos;rw[e] at this;simp at this
def Tells (n:Nat)(l:@A_)(d:D):Prop:=∃rs:List (@D_),d=.list (rs.map tupI)/\rs≠ []/\(∀r,r∈rs->Row n l r)/\(OM.bP n).filter (BN rs)=l
noncomputable def Ab (n:Nat)(l:@A_)(d:D):Bool:=@decide (Tells n l d) (Classical.propDecidable _)
def Ik {n:Nat}{l:@A_}{d:D}(h:Tells n l d):Ab n l d=true:=@OE _ (Classical.propDecidable _) h
def D5 {n:Nat}{l:@A_}{d:D}(h:¬Tells n l d):Ab n l d=false:=@OR _ (Classical.propDecidable _) h
theorem wJ:∀{rs qs:List (@D_)},rs.map tupI=qs.map tupI->rs=qs
 | [],[],_=>rfl
 | [],_ :: _,h=>by cases h
 |_ :: _,[],h=>by cases h
 |r :: rs,q :: qs,h=>by
  rw[P8,P8,List.cons.injEq] at h
  rw[rl h.1,wJ h.2]
def tE {n:Nat}{l:@A_}{rs:List (@D_)}(h1:rs≠ [])(h:∀r,r∈rs->Row n l r):Ab n l (.list (rs.map tupI))=decide ((OM.bP n).filter (BN rs)=l):=by
 by_cases c:(OM.bP n).filter (BN rs)=l
 ·rw[OE c];exact Ik ⟨rs,rfl,h1,h,c⟩
 ·rw[OR c]
  refine D5 λ⟨qs,e,_,_,c'⟩=>c ?_
  have:=wJ (PyData.list.inj e)
  rw[this];exact c'
noncomputable def zN:@Cl:=aS 2 2 (yF iD NL MA)
theorem Jd {n:Nat}{l:@A_}{d:D}(O:OM.Ord n l)(h:Gt d):zN [d,ag n l]=.ok (.bool (Ab n l d)) false:=by
 show fin (yF iD NL MA [.fz d,@Db] 0)=_
 refine j6 (AF (aq (ds:=[ag n l]) rfl (nI O)) ?_)
 have ea:=MQ O h
 cases c:v7 n l d with
 |false=>
  rw[c] at ea
  rw[D5 λ⟨rs,e,h1,h2,_⟩=>by rw[e,uk h1 h2] at c;cases c]
  exact ka (Hv (aq (ds:=[d,ag n l]) rfl ea)) rfl
 |true=>
  rw[c] at ea
  obtain⟨rs,rfl,h1,h2⟩:=J6 c
  rw[tE h1 h2]
  have hz:rs.length<=100:=by have:=(h.2 _ rfl).1;rw[OH] at this;exact this
  exact ka (D6 (aq (ds:=[.list (rs.map tupI),ag n l]) rfl ea) (aE (aq (ds:=[.int n,.list (rs.map tupI)]) (ac (Kq (n:=n) (l:=l) rfl) (ac rfl an)) (Lq O.lo O.hi hz λr hr=>(h2 r hr).1)) (L4 (n:=n) (l:=l) rfl) (wQ false _ _))) rfl
def Oh (ms:@D_)(m i:Nat)(ps:@A_):Prop:=ps.Nodup/\ps.length<=4 * i/\∀p,p∈ps->∃i' j:Nat,i' < i/\j < m/\ms[i']? =some p.1/\ms[m + j]? =some p.2
def GN {ms:@D_}{m i:Nat}{ps:@A_}(h3:3<=m)(h4:m<=4)(hi:i<=m)(hp:ms.Perm (bN (2 * m)))(h:Oh ms m i ps):OM.Ord (2 * m) (OM.c9 8 (OM.Mem ps))/\ps.all Ko=true/\ps.length < 64:=by
 obtain⟨nd,hl,hc⟩:=h
 have ndm:ms.Nodup:=hp.nodup_iff.mpr (gK _)
 have wn:OM.Wn (2 * m) ps:=λp hm=>by
  obtain⟨i',j,_,_,e1,e2⟩:=hc p hm
  exact⟨aJ.mp (hp.mem_iff.mp (O0 e1)),aJ.mp (hp.mem_iff.mp (O0 e2))⟩
 rw[Ky (@AT) wn]
 refine⟨⟨@AT,@AT,OM.FX _ _,OM.gc _ _,λa h=>?_,λa b c h k=>?_⟩,DT (@AT) wn,@AT ⟩
 ·obtain⟨i',j,hi',_,e1,e2⟩:=hc _ (OM.cG.mp h).2
  have:=l7 ndm e1 e2
  omega
 ·obtain⟨i',j,hi',_,e1,e2⟩:=hc _ (OM.cG.mp h).2
  obtain⟨i2,j2,hi2,_,e3,e4⟩:=hc _ (OM.cG.mp k).2
  have:=l7 ndm e2 e3
  omega
noncomputable def JV:List D->Int->FB:=xc 7 1 (eZ qK fA tV)
abbrev oe (n:Nat)(rows:D)(ms:@D_)(ps:@A_)(s6:Sl):En:=[.bx,.fz (.int 6),.fz (.int n),.fz rows,.fz (tupI ms),.fz (.list (ps.map ax)),s6]
def FK (β:Int):∃(n:Nat) (l:@A_) (β':Int),JV [.int ((6:Nat):Int)] β=.ok (ag n l) false β'/\OM.Ord n l/\n<=6:=by
 obtain⟨j,hj,ej⟩:=n5 (m:=6) (@AT) (@AT) β
 show ∃(n:Nat) (l:@A_) (β':Int),E9 (eZ qK fA tV [.bx,.fz (.int ((6:Nat):Int)),.no,.no,.no,.no,.no] β)=.ok (ag n l) false β'/\OM.Ord n l/\n<=6
 unfold eZ
 generalize hβ1:β / ((6:Nat):Int)=β1 at ej
 have e1:f2 @Do (pN 0 fA (aa (gv 1) ah)) bV (vl [.bx,.fz (.int ((6:Nat):Int)),.no,.no,.no,.no,.no]) β=.ok (.int ((1 + j:Nat):Int)) β1:=by
  refine aE (x:=.int 1) rfl (mq (by rfl) rfl ej) ?_
  show some (int (1 + (j:Int)))=_
  rw[show ((1 + j:Nat):Int)=1 + (j:Int) by omega]
 rw[aC (env':=[.bx,.fz (.int 6),.fz (.int ((1 + j:Nat):Int)),.no,.no,.no,.no]) (β':=β1) ?g1]
 case g1=>rw[b8,e1];rfl
 have n6:1 + j<=6:=@AT
 generalize hn:1 + j=n at n6
 have n1:1<=n:=@AT
 obtain⟨q,hq,eq⟩:=n5 (m:=3) (@AT) (@AT) β1
 generalize hβ2:β1 / ((3:Nat):Int)=β2 at eq
 have e2:f2 @Do (pN 0 fA (aa (cst (.int 3)) ah)) bV (vl [.bx,.fz (.int 6),.fz (.int n),.no,.no,.no,.no]) β1=.ok (.int ((1 + q:Nat):Int)) β2:=by
  refine aE (x:=.int 1) rfl (mq (ds:=[.int 3]) (by rfl) rfl eq) ?_
  show some (int (1 + (q:Int)))=_
  rw[show ((1 + q:Nat):Int)=1 + (q:Int) by omega]
 have shuf:∀(k:Nat),k<=6->∀b,∃(ms:@D_) (b':Int),tV [.list ((bN k).map int)] b=.ok (tupI ms) false b'/\ms.Perm (bN k):=λk hk b=>Jw (bN k) (by rw[cO];omega) b
 obtain⟨rows,β3,ec,hl,hP⟩:=qW (t:=.nm 0) (fe:=pN 1 tV (aa (f1 (gv 2) iC) ah)) (vs:=iy 1 [0,2] (vl [.bx,.fz (.int 6),.fz (.int n),.no,.no,.no,.no])) tupI (λr:@D_=>r.Perm (bN n)) (ds:=gf 0 (1 + q)) (β:=β2) (by
  intro d hd
  refine⟨[.da d,.bx,.da (.int n)],rfl,λb=>?_⟩
  obtain⟨ms,b',em,pm⟩:=shuf n n6 b
  refine⟨ms,b',mq (ds:=[.list ((bN n).map int)]) (β1:=b) (by rfl) ?_ em,pm⟩
  rw[bX,cU (x:=.int n) (d:=.list ((bN n).map int)) (β1:=b) rfl (pz (@AT))];rfl)
 rw[gx] at hl
 have ef:aM 1 [0,2] (.nm 0) (gm (f2 @Do (pN 0 fA (aa (cst (.int 3)) ah)) bV)) j0 (pN 1 tV (aa (f1 (gv 2) iC) ah)) (vl [.bx,.fz (.int 6),.fz (.int n),.no,.no,.no,.no]) β1=.ok (.list (rows.map tupI)) β3:=by
  unfold aM
  rw[iE (n:=1 + q) e2 (@AT)]
  dsimp only[R.bnd]
  rw[OG (sz _ (by rw[gx];omega)),ec];rfl
 rw[aC (env':=[.bx,.fz (.int 6),.fz (.int n),@Go,.no,.no,.no]) (β':=β3) ?g2]
 case g2=>rw[b8,ef];rfl
 have hne:rows≠ []:=λz=>by rw[z] at hl;simp at hl;omega
 have told:∀β4,∃(n':Nat) (l:@A_) (β':Int),E9 (bL (bD (aa (gv 2) (aa (av qK (aa (gv 2) (aa (gv 3) ah))) ah))) [.bx,.fz (.int 6),.fz (.int n),@Go,.no,.no,.no] β4)=.ok (ag n' l) false β'/\OM.Ord n' l/\n'<=6:=λβ4=>by
  refine⟨n,(OM.bP n).filter (pf rows),β4,?_,B6 n1 (@AT) hne,n6⟩
  have a1:av qK (aa (gv 2) (aa (gv 3) ah)) (vl [.bx,.fz (.int 6),.fz (.int n),@Go,.no,.no,.no]) β4=.ok (.tuple (((OM.bP n).filter (pf rows)).map ax)) β4:=aq rfl (FL (@AT) (@AT) hP)
  rw[cD,gn (ds:=[.int n,.tuple (((OM.bP n).filter (pf rows)).map ax)]) (β1:=β4) ?k3 (by simp)]
  case k3=>
   rw[bX]
   show (R.ok (int n) β4).bnd _=_
   dsimp only[R.bnd]
   rw[bX,a1];rfl
  rfl
 have t1:cM (f2 (gv 2) (cst (.int 6)) (cY false)) (vl [.bx,.fz (.int 6),.fz (.int n),@Go,.no,.no,.no]) β3=.ok (decide ((n:Int)=6)) β3:=dD (neg:=false) (i:=n) (j:=6) rfl rfl
 by_cases qn:(n:Int)=6
 case neg=>
  rw[OR qn] at t1
  have t:Ac (cM (f2 (gv 2) (cst (.int 6)) (cY false))) (cM (f2 (pN 0 fA (aa (cst (.int 3)) ah)) (cst (.int 2)) (cY false))) (vl [.bx,.fz (.int 6),.fz (.int n),@Go,.no,.no,.no]) β3=.ok false β3:=by rw[yH,t1];rfl
  rw[aC (env':=[.bx,.fz (.int 6),.fz (.int n),@Go,.no,.no,.no]) (β':=β3) (by rw[iw t];rfl)]
  exact told β3
 rw[OE qn] at t1
 obtain⟨g,hg,eg⟩:=n5 (m:=3) (@AT) (@AT) β3
 generalize hβ4:β3 / ((3:Nat):Int)=β4 at eg
 have t:Ac (cM (f2 (gv 2) (cst (.int 6)) (cY false))) (cM (f2 (pN 0 fA (aa (cst (.int 3)) ah)) (cst (.int 2)) (cY false))) (vl [.bx,.fz (.int 6),.fz (.int n),@Go,.no,.no,.no]) β3=.ok (decide ((g:Int)=2)) β4:=by
  have t2:cM (f2 (pN 0 fA (aa (cst (.int 3)) ah)) (cst (.int 2)) (cY false)) (vl [.bx,.fz (.int 6),.fz (.int n),@Go,.no,.no,.no]) β3=.ok (decide ((g:Int)=2)) β4:=dD (neg:=false) (i:=g) (j:=2) (mq (ds:=[.int 3]) (by rfl) rfl eg) rfl
  rw[yH,t1]
  exact t2
 by_cases qg:(g:Int)=2
 case neg=>
  rw[OR qg] at t
  rw[aC (env':=[.bx,.fz (.int 6),.fz (.int n),@Go,.no,.no,.no]) (β':=β4) (by rw[iw t];rfl)]
  exact told β4
 rw[OE qg] at t
 obtain⟨ms,β5,em,hp⟩:=shuf 6 (@AT) β4
 have hml:ms.length=6:=by rw[hp.length_eq,cO]
 have ndm:ms.Nodup:=hp.nodup_iff.mpr (gK _)
 generalize hR:PyData.list (rows.map tupI)=R3 at t ⊢
 obtain⟨env',β',ef6,ps,s6,rfl,rfl,hC⟩:=ic (t:=.nm 6) (m:=bR 5 ([] ++ @GM) (f2 (gv 5) (aM 1 [6,4] (.nm 0) (gm (cst (.int 3))) (cM (f2 (gv 0) (gv 1) (cY true))) (bD (aa (f2 (gv 2) (gv 1) bh) (aa (f2 (gv 2) (f2 (cst (.int 3)) (gv 0) bV) bh) ah)))) jr)) (ds:=gf 0 3) (k:=0)
  (λi env β=>∃(ps:@A_) (s6:Sl),env=oe n R3 ms ps s6/\β=β5/\Oh ms 3 i ps)
  (env:=oe n R3 ms [] .no) (β:=β5) ⟨[],.no,rfl,rfl,Q4,by simp,λp hp=>by cases hp⟩ (by
   rintro i d env β hi ⟨ps,s6,rfl,rfl,nd,hl,hc⟩
   obtain⟨hin,rfl⟩:=l6 hi
   rw[PR] at hl hc
   rw[PR,Qp]
   refine⟨oe n R3 ms ps (.fz (.int i)),rfl,?_⟩
   have him:i < ms.length:=@AT
   generalize hO:((List.range 3).filter λ(j:Nat)=> !decide ((j:Int)=(i:Int)))=js
   have hjs:∀j,j∈js->j < 3:=λj hj=>by rw[<-hO] at hj;exact Pp.mp (OJ.mp hj).1
   have hjn:js.Nodup:=by rw[<-hO];exact nodup_range.filter _
   have hjl:js.length<=3:=by rw[<-hO];have:=Pu (λ(j:Nat)=> !decide ((j:Int)=(i:Int))) (List.range 3);rw[P7] at this;exact this
   have at_:∀k:Nat,k < ms.length->bh (tupI ms) (.int (k:Int))=some (.int (ms.getD k 0)):=λk hk=>by
    show l8 (ms.map int) (k:Int)=_
    rw[n9,zt hk,O5,OD hk];rfl
   have ed:aM 1 [6,4] (.nm 0) (gm (cst (.int 3))) (cM (f2 (gv 0) (gv 1) (cY true))) (bD (aa (f2 (gv 2) (gv 1) bh) (aa (f2 (gv 2) (f2 (cst (.int 3)) (gv 0) bV) bh) ah))) (vl (oe n R3 ms ps (.fz (.int i)))) β=.ok (.list ((js.map λ(j:Nat)=>((ms.getD i 0,ms.getD (3 + j) 0):Pr)).map ax)) β:=by
    rw[<-hO,QE]
    refine bQ (l:=List.range 3) (e:=λ(k:Nat)=>int (0 + (k:Int))) (λ(j:Nat)=> !decide ((j:Int)=(i:Int))) (λj=>ax (ms.getD i 0,ms.getD (3 + j) 0)) (iE (n:=3) rfl (@AT)) (by rw[P7];omega) λj hj=>⟨_,rfl,?_,λ_=>?_⟩
    ·rw[Qp];exact dD (neg:=true) (i:=j) (j:=i) rfl rfl
    ·have hj:=Pp.mp hj
     refine cC (aE (x:=tupI ms) (y:=.int i) rfl rfl (at_ i him)) (aE (x:=tupI ms) (y:=.int ((3 + j:Nat):Int)) rfl (aE (x:=.int 3) (y:=.int (0 + (j:Int))) rfl rfl ?_) (at_ (3 + j) (@AT)))
     show some (int (3 + (0 + (j:Int))))=_
     congr 2;omega
   refine⟨oe n R3 ms (ps ++ js.map λ(j:Nat)=>((ms.getD i 0,ms.getD (3 + j) 0):Pr)) (.fz (.int i)),β,?_,_,_,rfl,rfl,?_,?_,?_⟩
   ·rw[b8,aE (x:=.list (ps.map ax)) (β1:=β) rfl ed (kU (by rw[OH,OH,OH];omega)),<-Pn];rfl
   ·have hd:∀j,j < 3->ms[3 + j]? =some (ms.getD (3 + j) 0):=λj hj=>by rw[O5,OD (@AT)];rfl
    have hdi:ms[i]? =some (ms.getD i 0):=by rw[O5,OD him];rfl
    refine QY.mpr ⟨nd,?_,λp hp q hq e=>?_⟩
    ·rw[Qb,Qv]
     refine QN (λ{a b} ha hb h e=>?_) (Qb.mp hjn)
     have e2:=(Prod.mk.inj e).2
     have:=l7 ndm (hd a (hjs a ha)) (by rw[e2];exact hd b (hjs b hb))
     omega
    ·subst e
     obtain⟨j,hj,rfl⟩:=O3.mp hq
     obtain⟨i',j',h1,h2,h3,h4⟩:=hc _ hp
     have:=l7 ndm h3 hdi
     omega
   ·rw[O9,OH];omega
   ·intro p hp
    rcases OT.mp hp with hp |hp
    ·obtain⟨i',j',h1,h2,h3,h4⟩:=hc _ hp
     exact⟨i',j',@AT,h2,h3,h4⟩
    ·obtain⟨j,hj,rfl⟩:=O3.mp hp
     refine⟨i,j,@AT,hjs j hj,?_,?_⟩
     ·show ms[i]? =some (ms.getD i 0)
      rw[O5,OD him];rfl
     ·have:=hjs j hj
      show ms[3 + j]? =some (ms.getD (3 + j) 0)
      rw[O5,OD (@AT)];rfl)
 rw[gx,PR] at hC
 obtain⟨O,hsm,hl64⟩:=GN (@AT) (@AT) (OF 3) hp hC
 have g9:kZ (.list (ps.map ax))=some (.list ((OM.c9 8 (OM.Mem ps)).map ax)):=by
  unfold kZ
  dsimp only
  rw[gB]
  dsimp only
  rw[OG ⟨hsm,hC.1,hl64⟩]
 rw[iV (d:=ag 6 (OM.c9 8 (OM.Mem ps))) (b:=false) (β':=β') ?z]
 ·exact⟨6,_,_,rfl,O,@AT ⟩
 case z=>
  rw[lO t]
  rw[aC (env':=[.bx,.fz (.int 6),.fz (.int n),.fz R3,.fz (tupI ms),.no,.no]) (β':=β') ?y1]
  case y1=>
   show bR 4 _ _ [.bx,.fz (.int 6),.fz (.int n),.fz R3,.no,.no,.no] β4=_
   rw[b8,mq (ds:=[.list ((bN 6).map int)]) (β1:=β4) (by rfl) ?hu1 em]
   ·rfl
   case hu1=>rw[bX,cU (x:=.int ((6:Nat):Int)) (d:=.list ((bN 6).map int)) (β1:=β4) rfl (pz (@AT))];rfl
  rw[aC (env':=oe n R3 ms [] .no) (β':=β') ?y2]
  case y2=>rw[b8,lJ (ds:=[]) (β1:=β') rfl (by simp)];rfl
  rw[aC (env':=oe n R3 ms ps s6) (β':=β') ?y3]
  case y3=>
   rw[fR (env:=oe n R3 ms [] .no) (ds:=gf 0 3) (β1:=β') (iE (n:=3) rfl (@AT))]
   exact ef6
  rw[cD,gn (ds:=[.int 6,.tuple ((OM.c9 8 (OM.Mem ps)).map ax)]) (β1:=β') ?y4 (by simp)]
  ·rfl
  case y4=>
   rw[bX,J4,oC,bX,cU (cU (x:=.list (ps.map ax)) rfl g9) (by rfl)];rfl
def Nc:@Cl:=aS 1 1 gj
def KC {z:Int}(h:z<=8):Nc [.int z]=.ok .none false:=by
 show fin (gj [.fz (.int z)] 0)=_
 unfold gj
 have e:cM (f2 (gv 0) (cst (.int 8)) Ke) (vl [.fz (.int z)]) 0=.ok (decide (z > 8)) 0:=dZ _ _ _ _ (aE (x:=.int z) rfl rfl rfl)
 rw[OR (@AT)] at e
 rw[iw e];rfl
noncomputable def K7:@Cl:=aS 2 2 (gX NJ Nc)
def LB {n m:Nat}{l k:@A_}(O:OM.Ord n l)(O':OM.Ord m k)(h8:n + m<=8):K7 [ag n l,ag m k]=.ok .none false:=by
 show fin (gX NJ Nc [@Db,.fz (ag m k)] 0)=_
 unfold gX
 rw[aC (env':=[@Db,.fz (ag m k)]) (β':=0) ?a]
 case a=>rw[ip,aq (ds:=[ag n l,ag m k]) (β1:=0) rfl (N1 O O')];rfl
 rw[ip,aq (ds:=[.int ((n:Int) + m)]) (β1:=0) rfl (KC (@AT))]
 rfl
def Ez {a b c:Int}{vs:List Nv}{β:Int}{fa fb fc:VF D}(ha:fa vs β=.ok (.int a) β)(hb:fb vs β=.ok (.int b) β)(hc:fc vs β=.ok (.int c) β):eh fa fb fc qd xG vs β=.ok (.bool (decide (a < b) && decide (b<=c))) β:=by
 unfold eh
 rw[ha];dsimp only[R.bnd];rw[hb];dsimp only[R.bnd]
 show (match (some (PyData.bool (decide (a < b))):Option D) with
  |some (.bool true)=>_
  |some (.bool false)=>_
  |_=>_)=_
 by_cases h:a < b
 ·rw[OE h]
  dsimp only
  rw[hc]
  dsimp only[R.bnd]
  rfl
 ·rw[OR h];rfl
noncomputable def Nf:@Cl:=aS 4 2 (jI K7 gL Ht)
def JP {n m:Nat}{l k:@A_}(O:OM.Ord n l)(O':OM.Ord m k)(h8:n + m<=8):Nf [ag n l,ag m k]=.ok (ag (n + m) (OM.c9 8 (OM.Mem (kK n l k ++ oh (n + m) n n)))) false:=by
 have l1:=iZ O
 have l2:=iZ O'
 have ll:=Ka O O' h8 (OF n)
 have h1:=O.lo
 show fin (jI K7 gL Ht [@Db,.fz (ag m k),.no,.no] 0)=_
 unfold jI
 rw[aC (env':=[@Db,.fz (ag m k),.no,.no]) (β':=0) ?a]
 case a=>rw[ip,aq (ds:=[ag n l,ag m k]) (β1:=0) rfl (LB O O' h8)];rfl
 rw[aC (env':=[@Db,.fz (ag m k),.fz (.int ((n + m:Nat):Int)),.no]) (β':=0) ?b]
 case b=>
  rw[b8,aE (x:=.int n) (y:=.int m) (d:=.int ((n + m:Nat):Int)) (β1:=0) (β2:=0) rfl rfl]
  ·rfl
  ·show some (int ((n:Int) + m))=_
   rw[show ((n + m:Nat):Int)=(n:Int) + m by omega]
 have hg:(OM.bP (n + m)).length<=1000:=by
  rw[dF]
  have:(n + m) * (n + m)<=8 * 8:=P4 h8 h8
  omega
 have ec:aM 2 [0] (.two 0 1) (bc (av gL (aa (gv 2) ah))) (cM (eh (gv 0) (f2 (gv 2) @E_ bh) (gv 1) qd xG)) (bD @Fa) (vl [@Db,.fz (ag m k),.fz (.int ((n + m:Nat):Int)),.no]) 0=.ok (.list ((oh (n + m) n n).map ax)) 0:=by
  refine bQ (l:=OM.bP (n + m)) (e:=ax) (λp=>decide (p.1 < n) && decide ((n:Int)<=p.2)) ax ?_ hg λp hp=>⟨[.da (.int p.1),.da (.int p.2),.da (ag n l)],rfl,?_,λ_=>?_⟩
  ·have e1:av gL (aa (gv 2) ah) (vl [@Db,.fz (ag m k),.fz (.int ((n + m:Nat):Int)),.no]) 0=.ok (.list ((OM.bP (n + m)).map ax)) 0:=aq (ds:=[.int ((n + m:Nat):Int)]) (β1:=0) rfl (uY (@AT) h8)
   unfold bc
   rw[e1];rfl
  ·exact dZ _ _ _ _ (Ez (a:=p.1) (b:=n) (c:=p.2) rfl rfl rfl)
  ·exact cC (a:=p.1) (b:=p.2) rfl rfl
 rw[aC (env':=[@Db,.fz (ag m k),.fz (.int ((n + m:Nat):Int)),.fz (.list ((oh (n + m) n n).map ax))]) (β':=0) ?c]
 case c=>rw[b8,ec];rfl
 obtain⟨w,nd,irr⟩:=Ec O O' (OF n)
 rw[O9] at ll
 have lb:(kK n l k).length=l.length + k.length:=by unfold kK;rw[O9,OH]
 have e1:f2 (f1 (f2 (gv 0) @Do bh) rh) (av Ht (aa (gv 1) (aa (f2 (gv 0) @E_ bh) ah))) jr (vl [@Db,.fz (ag m k),.fz (.int ((n + m:Nat):Int)),.fz (.list ((oh (n + m) n n).map ax))]) 0=.ok (.list ((kK n l k).map ax)) 0:=by
  refine aE (x:=.list (l.map ax)) (y:=.list ((k.map (EG n)).map ax)) rfl (aq (ds:=[ag m k,.int n]) (β1:=0) rfl (LI (@AT) n)) ?_
  rw[kU (by simp only[OH];omega)]
  unfold kK
  rw[Pn]
 have e2:f1 (f1 (f2 (f2 (f1 (f2 (gv 0) @Do bh) rh) (av Ht (aa (gv 1) (aa (f2 (gv 0) @E_ bh) ah))) jr) (gv 3) jr) kZ) fT (vl [@Db,.fz (ag m k),.fz (.int ((n + m:Nat):Int)),.fz (.list ((oh (n + m) n n).map ax))]) 0=.ok (.tuple ((OM.c9 8 (OM.Mem (kK n l k ++ oh (n + m) n n))).map ax)) 0:=by
  refine cU (cU (aE (d:=.list ((kK n l k ++ oh (n + m) n n).map ax)) e1 rfl ?_) (BA (@AT) h8 w nd irr)) rfl
  rw[kU (by simp only[OH];omega),Pn]
 rw[cD,gn (ds:=[.int ((n + m:Nat):Int),.tuple ((OM.c9 8 (OM.Mem (kK n l k ++ oh (n + m) n n))).map ax)]) (β1:=0) ?d (by simp)]
 ·rfl
 case d=>
  rw[bX]
  show (R.ok (int ((n + m:Nat):Int)) 0).bnd _=_
  dsimp only[R.bnd]
  rw[bX,e2];rfl
noncomputable def Na:@Cl:=aS 2 2 (jK K7 Ht)
def LY {n m:Nat}{l k:@A_}(O:OM.Ord n l)(O':OM.Ord m k)(h8:n + m<=8):Na [ag n l,ag m k]=.ok (ag (n + m) (kK n l k)) false:=by
 have l1:=iZ O
 have l2:=iZ O'
 show fin (jK K7 Ht [@Db,.fz (ag m k)] 0)=_
 unfold jK
 rw[aC (env':=[@Db,.fz (ag m k)]) (β':=0) ?a]
 case a=>rw[ip,aq (ds:=[ag n l,ag m k]) (β1:=0) rfl (LB O O' h8)];rfl
 have e1:f2 (f1 (f2 (gv 0) @Do bh) rh) (av Ht (aa (gv 1) (aa (f2 (gv 0) @E_ bh) ah))) jr (vl [@Db,.fz (ag m k)]) 0=.ok (.list ((kK n l k).map ax)) 0:=by
  refine aE (x:=.list (l.map ax)) (y:=.list ((k.map (EG n)).map ax)) rfl (aq (ds:=[ag m k,.int n]) (β1:=0) rfl (LI (@AT) n)) ?_
  rw[kU (by simp only[OH];omega)]
  unfold kK
  rw[Pn]
 have e0:f2 (f2 (gv 0) @E_ bh) (f2 (gv 1) @E_ bh) bV (vl [@Db,.fz (ag m k)]) 0=.ok (.int ((n + m:Nat):Int)) 0:=by
  refine aE (x:=.int n) (y:=.int m) rfl rfl ?_
  show some (int ((n:Int) + m))=_
  rw[show ((n + m:Nat):Int)=(n:Int) + m by omega]
 rw[cD,gn (ds:=[.int ((n + m:Nat):Int),.tuple ((kK n l k).map ax)]) (β1:=0) ?d (by simp)]
 ·rfl
 case d=>
  rw[bX,e0]
  dsimp only[R.bnd]
  rw[bX,cU (d:=.tuple ((kK n l k).map ax)) e1 rfl];rfl
noncomputable def IS:@Cl:=aS 2 2 (bW iD fg)
def LP {n:Nat}{l:@A_}(O:OM.Ord n l){j:Nat}(hj:j < n):IS [ag n l,.int j]=.ok .none false:=by
 show fin (bW iD fg [@Db,.fz (.int j)] 0)=_
 unfold bW
 rw[aC (env':=[@Db,.fz (.int j)]) (β':=0) ?g1]
 case g1=>
  rw[ip,aq (ds:=[ag n l]) (β1:=0) rfl (nI O)];rfl
 have et:oH (iS (av fg (aa (gv 1) (aa (f2 (gv 0) @E_ bh) ah)))) (vl [@Db,.fz (.int j)]) 0=.ok (!j3 (.int j) n) 0:=by
  rw[vk,fq (aq (ds:=[.int j,.int n]) (β1:=0) rfl (uT rfl))];rfl
 have hb:j3 (.int j) n=true:=OE ⟨@AT,@AT ⟩
 rw[hb] at et
 rw[iw et];rfl
def dn (j:Nat)(a:Int):Int:=if a > j then a + -1 else a
def up (j:Nat)(a:Int):Int:=if a < j then a else a + 1
def z0 (j:Nat)(p:Pr):Bool:= !(decide (p.1=j) || decide (p.2=j))
def Mp:@Cl:=aS 3 3 qk
def Mb (a:Int)(j:Nat):Mp [.int a,.int j,.int (-1)]=.ok (.int (dn j a)) false:=by
 show fin (qk [.fz (.int a),.fz (.int j),.fz (.int (-1))] 0)=_
 unfold qk
 have et:cM (f2 (gv 0) (gv 1) Ke) (vl [.fz (.int a),.fz (.int j),.fz (.int (-1))]) 0=.ok (decide (a > j)) 0:=dZ _ _ _ _ (aE (x:=.int a) (y:=.int j) rfl rfl rfl)
 rw[cD,Cj,et]
 unfold dn
 by_cases h:a > (j:Int)
 ·rw[OE h,OG h];rfl
 ·rw[OR h,OP h];rfl
def GD (j:Nat)(p:Pr):mX true (.int j) (ax p)=some (.bool (z0 j p)):=by
 obtain⟨a,b⟩:=p
 unfold mX z0
 simp only[ax,lV]
 rw[OG (by rfl)]
 simp only[Qj,List.any_nil,PyData.eqv,Bool.or_false,P9]
 congr 3
def Dg (j:Nat)(a:Int):up j a≠j:=by unfold up;split <;> omega
def EF (j:Nat)(a:Int):dn j (up j a)=a:=by unfold dn up;split <;> split <;> omega
def kG {j:Nat}{a:Int}(h:a≠j):up j (dn j a)=a:=by unfold dn up;split <;> split <;> omega
def HL {j:Nat}{a b:Int}(ha:a≠j)(hb:b≠j)(h:a < b):dn j a < dn j b:=by unfold dn;split <;> split <;> omega
def EH (l:@A_)(j:Nat)(p:Pr):Bool:=decide ((up j p.1,up j p.2)∈l)
def L0 {n:Nat}{l:@A_}(O:OM.Ord n l){j:Nat}(hj:j < n):((l.filter (z0 j)).map λp=>(dn j p.1,dn j p.2))=(OM.bP (n - 1)).filter (EH l j):=by
 have kp:∀{p:Pr},z0 j p=true->p.1≠j/\p.2≠j:=λ{p} h=>by
  unfold z0 at h
  rw[QJ,Bool.or_eq_false_iff,P2,P2] at h
  exact h
 refine OM.dR ?_ (OM.b7 _ (OM.cQ _)) λx=>?_
 ·show List.Pairwise OM.zI _
  rw[Qv]
  refine QN (R:=OM.zI) (λ{a b} ha hb h=>?_) (OM.b7 _ O.ris)
  have h1:=kp (OJ.mp ha).2
  have h2:=kp (OJ.mp hb).2
  rcases h with h | ⟨h,h'⟩
  ·exact .inl (HL h1.1 h2.1 h)
  ·exact .inr ⟨by show dn j a.1=dn j b.1;rw[h],HL h1.2 h2.2 h'⟩
 ·rw[O3,OJ,OM.aZ]
  unfold EH
  rw[OY]
  constructor
  ·rintro⟨p,hp,rfl⟩
   obtain⟨hp,hk⟩:=OJ.mp hp
   obtain⟨k1,k2⟩:=kp hk
   have w:=O.wn p hp
   simp only
   rw[kG k1,kG k2]
   refine⟨?_,hp⟩
   unfold dn
   constructor <;> constructor <;> split <;> omega
  ·rintro⟨h1,h2⟩
   refine⟨_,OJ.mpr ⟨h2,?_⟩,?_⟩
   ·unfold z0
    rw[QJ,Bool.or_eq_false_iff,P2,P2]
    exact⟨Dg j _,Dg j _⟩
   ·simp only[EF]
noncomputable def ME:@Cl:=aS 3 2 (mF IS Mp)
def E7 {n j:Nat}{l:@A_}(O:OM.Ord n l)(hj:j < n)(h2:2<=n):ME [ag n l,.int j]=.ok (ag (n - 1) ((OM.bP (n - 1)).filter (EH l j))) false:=by
 have hl:=iZ O
 show fin (mF IS Mp [@Db,.fz (.int j),.no] 0)=_
 unfold mF
 rw[aC (env':=[@Db,.fz (.int j),.no]) (β':=0) ?a]
 case a=>rw[ip,aq (ds:=[ag n l,.int j]) (β1:=0) rfl (LP O hj)];rfl
 have et:cM (f2 (f2 (gv 0) @E_ bh) @Do (cY false)) (vl [@Db,.fz (.int j),.no]) 0=.ok (decide ((n:Int)=1)) 0:=dD (neg:=false) (i:=n) (j:=1) rfl rfl
 rw[OR (@AT)] at et
 rw[aC (env':=[@Db,.fz (.int j),.no]) (β':=0) ?b]
 case b=>rw[iw et];rfl
 have ec:aM 1 [1] (.nm 0) (bc (f2 (gv 0) @Do bh)) (cM (f2 (gv 1) (gv 0) (mX true))) (gv 0) (vl [@Db,.fz (.int j),.no]) 0=.ok (.list ((l.filter (z0 j)).map ax)) 0:=
  bQ (l:=l) (e:=ax) (z0 j) ax rfl (@AT) λp hp=>⟨[.da (ax p),.da (.int j)],rfl,dZ _ _ _ _ (aE (x:=.int j) (y:=ax p) rfl rfl (GD j p)),λ_=>rfl⟩
 rw[aC (env':=[@Db,.fz (.int j),.fz (.list ((l.filter (z0 j)).map ax))]) (β':=0) ?c]
 case c=>rw[b8,ec];rfl
 have hk:(l.filter (z0 j)).length<=1000:=PB (Pu _ _) (@AT)
 have em:aM 2 [1] (.two 0 1) (bc (gv 2)) j0 (bD (aa (av Mp (aa (gv 0) (aa (gv 2) (aa (f1 @Do mZ) ah)))) (aa (av Mp (aa (gv 1) (aa (gv 2) (aa (f1 @Do mZ) ah)))) ah))) (vl [@Db,.fz (.int j),.fz (.list ((l.filter (z0 j)).map ax))]) 0=.ok (.list ((l.filter (z0 j)).map λp=>ax (dn j p.1,dn j p.2))) 0:=
  bY (l:=l.filter (z0 j)) (e:=ax) (λp=>ax (dn j p.1,dn j p.2)) rfl hk λp hp=>⟨[.da (.int p.1),.da (.int p.2),.da (.int j)],rfl,cC (aq (ds:=[.int p.1,.int j,.int (-1)]) (β1:=0) rfl (Mb p.1 j)) (aq (ds:=[.int p.2,.int j,.int (-1)]) (β1:=0) rfl (Mb p.2 j))⟩
 have e0:f2 (f2 (gv 0) @E_ bh) @Do qX (vl [@Db,.fz (.int j),.fz (.list ((l.filter (z0 j)).map ax))]) 0=.ok (.int ((n - 1:Nat):Int)) 0:=by
  refine aE (x:=.int n) (y:=.int 1) rfl rfl ?_
  show some (int ((n:Int) - 1))=_
  rw[show ((n - 1:Nat):Int)=(n:Int) - 1 by omega]
 rw[cD,gn (ds:=[.int ((n - 1:Nat):Int),.tuple (((OM.bP (n - 1)).filter (EH l j)).map ax)]) (β1:=0) ?e (by simp)]
 ·rfl
 case e=>
  rw[bX,e0]
  dsimp only[R.bnd]
  rw[bX,cU (d:=.tuple (((OM.bP (n - 1)).filter (EH l j)).map ax)) em ?_]
  ·rfl
  ·rw[<-L0 O hj,QE];rfl
def Dm.all {n:Nat}{l:@A_}{c:Nat}(O:OM.Ord n l)(h:Dm n l c):∃rs:List (@D_),rs.length=c/\(∀r,r∈rs->Row n l r)/\∀t,t∈mB n l->∃r,r∈rs/\Tn r t:=by
 obtain⟨rs,h1,h2,h3⟩:=h
 refine⟨rs,h1,h2,λt ht=>?_⟩
 obtain⟨q,hq,hs,hu⟩:=ie O _ t (OF _) ht
 obtain⟨r,hr,hT⟩:=h3 q (OJ.mpr ⟨hq,hs⟩)
 exact⟨r,hr,oK (h2 r hr) hu hT⟩
def oW {x a:Int}{r:@D_}(h:x≠a):(x :: r).idxOf a=r.idxOf a + 1:=by rw[List.idxOf_cons,show (x == a)=false by simpa using h];rfl
def pull (n:Nat)(f:Int->Int)(r:@D_):@D_:=r.filterMap λx=>(bN n).find? λa=>decide (f a=x)
theorem mO {n:Nat}{f:Int->Int}(inj:∀a b,a∈bN n->b∈bN n->f a=f b->a=b){a:Int}(ha:a∈bN n):(bN n).find? (λb=>decide (f b=f a))=some a:=by
 cases e:(bN n).find? (λb=>decide (f b=f a)) with
 |none=>
  have:=List.find?_eq_none.mp e a ha
  simp at this
 |some b=>
  have h1:=List.find?_some e
  have h2:=List.mem_of_find?_eq_some e
  rw[inj b a h2 ha (Pb h1)]
def uZ {n:Nat}{f:Int->Int}{x b:Int}(h:(bN n).find? (λa=>decide (f a=x))=some b):b∈bN n/\f b=x:=⟨List.mem_of_find?_eq_some h,by have:=List.find?_some h;simpa using this⟩
def xI {n:Nat}{f:Int->Int}(inj:∀a b,a∈bN n->b∈bN n->f a=f b->a=b){r:@D_}{a:Int}:a∈pull n f r↔a∈bN n/\f a∈r:=by
 unfold pull
 rw[QT]
 constructor
 ·rintro⟨x,hx,h⟩
  obtain⟨h1,h2⟩:=uZ h
  exact⟨h1,by rw[h2];exact hx⟩
 ·rintro⟨h1,h2⟩
  exact⟨f a,h2,mO inj h1⟩
theorem Av {n:Nat}{f:Int->Int}(inj:∀a b,a∈bN n->b∈bN n->f a=f b->a=b):∀{r:@D_},r.Nodup->(pull n f r).Nodup
 | [],_=>Q4
 |x :: r,h=>by
  have h:=Pl.mp h
  have ih:=Av inj h.2
  unfold pull
  rw[PY]
  cases e:(bN n).find? (λa=>decide (f a=x)) with
  |none=>exact ih
  |some b=>
   refine Pl.mpr ⟨λhm=>?_,ih⟩
   obtain⟨_,h2⟩:=(xI (r:=r) inj).mp hm
   rw[(uZ e).2] at h2
   exact h.1 h2
theorem qF {n:Nat}{f:Int->Int}(inj:∀a b,a∈bN n->b∈bN n->f a=f b->a=b){a b:Int}(ha:a∈bN n)(hb:b∈bN n)(hab:a≠b):∀{r:@D_},f a∈r->f b∈r->((pull n f r).idxOf a < (pull n f r).idxOf b↔r.idxOf (f a) < r.idxOf (f b))
 | [],h,_=>by cases h
 |x :: r,h1,h2=>by
  have hf:f a≠f b:=λe=>hab (inj a b ha hb e)
  by_cases ca:x=f a
  ·subst ca
   have e:pull n f (f a :: r)=a :: pull n f r:=by unfold pull;rw[PY,mO inj ha]
   rw[e,Q8,Q8,oW hab,oW hf]
   exact⟨λ_=>Nat.succ_pos _,λ_=>Nat.succ_pos _⟩
  ·by_cases cb:x=f b
   ·subst cb
    have e:pull n f (f b :: r)=b :: pull n f r:=by unfold pull;rw[PY,mO inj hb]
    rw[e,Q8,Q8]
    exact⟨λz=>absurd z (QV _),λz=>absurd z (QV _)⟩
   ·have h1:f a∈r:=(OK.mp h1).resolve_left (λe=>ca e.symm)
    have h2:f b∈r:=(OK.mp h2).resolve_left (λe=>cb e.symm)
    have ih:=qF inj ha hb hab h1 h2
    rw[oW ca,oW cb]
    cases e:(bN n).find? (λa=>decide (f a=x)) with
    |none=>
     have e2:pull n f (x :: r)=pull n f r:=by unfold pull;rw[PY,e]
     rw[e2,ih]
     omega
    |some y=>
     have hy:=(uZ e).2
     have e2:pull n f (x :: r)=y :: pull n f r:=by unfold pull;rw[PY,e]
     have ya:y≠a:=λz=>ca (by rw[<-hy,z])
     have yb:y≠b:=λz=>cb (by rw[<-hy,z])
     rw[e2,oW ya,oW yb]
     omega
structure GY (n:Nat)(l:@A_)(N:Nat)(L:@A_)(f:Int->Int):Prop where
 inj:∀a b,a∈bN n->b∈bN n->f a=f b->a=b
 ran:∀a,a∈bN n->f a∈bN N
 iff:∀a b,a∈bN n->b∈bN n->a≠b->((a,b)∈l↔(f a,f b)∈L)
def GY.mem {n N:Nat}{l L:@A_}{f:Int->Int}(E:GY n l N L f){r:@D_}(h:Row N L r){a:Int}(ha:a∈bN n):f a∈r:=h.1.mem_iff.mpr (E.ran a ha)
def GY.row {n N:Nat}{l L:@A_}{f:Int->Int}(E:GY n l N L f)(O:OM.Ord n l){r:@D_}(h:Row N L r):Row n l (pull n f r):=by
 refine⟨?_,?_⟩
 ·refine (List.perm_ext_iff_of_nodup (Av E.inj (h.1.nodup_iff.mpr (gK _))) (gK _)).mpr λa=>?_
  rw[xI E.inj]
  exact⟨λh=>h.1,λz=>⟨z,E.mem h z⟩⟩
 ·unfold pF
  rw[O4]
  intro p hp
  have hw:=O.wn p hp
  have ha:=aJ.mpr hw.1
  have hb:=aJ.mpr hw.2
  have hne:p.1≠p.2:=λe=>O.irr p.1 (by have:(p.1,p.2)∈l:=hp;rw[<-e] at this;exact this)
  refine OE ((qF E.inj ha hb hne (E.mem h ha) (E.mem h hb)).mpr ?_)
  exact oX (p:=(f p.1,f p.2)) h ((E.iff p.1 p.2 ha hb hne).mp hp)
def GY.turn {n N:Nat}{l L:@A_}{f:Int->Int}(E:GY n l N L f){rs:List (@D_)}(h2:∀r,r∈rs->Row N L r)(h3:∀t,t∈mB N L->∃r,r∈rs/\Tn r t){t:Pr}(ht:t∈mB n l):∃r,r∈rs.map (pull n f)/\Tn r t:=by
 obtain⟨hw,hap⟩:=cg.mp ht
 obtain⟨n1,n2,n3⟩:=j9.mp hap
 have ha:=aJ.mpr hw.1
 have hb:=aJ.mpr hw.2
 obtain⟨r,hr,hT⟩:=h3 (f t.1,f t.2) (cg.mpr ⟨⟨aJ.mp (E.ran _ ha),aJ.mp (E.ran _ hb)⟩,j9.mpr ⟨λe=>n1 (E.inj _ _ ha hb e),λh=>n2 ((E.iff _ _ ha hb n1).mpr h),λh=>n3 ((E.iff _ _ hb ha (λe=>n1 e.symm)).mpr h)⟩⟩)
 exact⟨pull n f r,O3.mpr ⟨r,hr,rfl⟩,(qF E.inj hb ha (λe=>n1 e.symm) (E.mem (h2 r hr) hb) (E.mem (h2 r hr) ha)).mpr hT⟩
def GY.dm {n N:Nat}{l L:@A_}{f:Int->Int}(E:GY n l N L f)(O:OM.Ord n l)(O':OM.Ord N L){c:Nat}(h:Dm N L c):Dm n l c:=by
 obtain⟨rs,h1,h2,h3⟩:=h.all O'
 refine⟨rs.map (pull n f),by rw[OH];exact h1,λr' hr'=>?_,λt ht=>E.turn h2 h3 (OJ.mp ht).1⟩
 obtain⟨r,hr,rfl⟩:=O3.mp hr'
 exact E.row O (h2 r hr)
def Ef {r:@D_}{a:Int}(h:a∈r):r[r.idxOf a]? =some a:=by
 have hl:=PF.mpr h
 rw[OD hl,Qq hl]
def vB (n:Nat)(key:Int->Nat)(inj:∀a b,a∈bN n->b∈bN n->key a=key b->a=b):∃r:@D_,r.Perm (bN n)/\∀a b,a∈bN n->b∈bN n->key a < key b->r.idxOf a < r.idxOf b:=by
 have hp:((bN n).mergeSort λa b=>decide (key a<=key b)).Perm (bN n):=List.mergeSort_perm _ _
 have hs:=List.pairwise_mergeSort (le:=λa b=>decide (key a<=key b)) (λa b c h1 h2=>OE (PB (Pb h1) (Pb h2))) (λa b=>by rcases Nat.le_total (key a) (key b) with h |h <;> simp[h]) (bN n)
 refine⟨_,hp,λa b ha hb h=>?_⟩
 generalize (bN n).mergeSort (λa b=>decide (key a<=key b))=r at hp hs
 have ma:=hp.mem_iff.mpr ha
 have mb:=hp.mem_iff.mpr hb
 refine Nat.lt_of_not_le λhle=>?_
 rcases Nat.lt_or_eq_of_le hle with hlt |he
 ·have ea:=Ef ma
  have eb:=Ef mb
  have hl:=PF.mpr ma
  have:=QL.mp hs (r.idxOf b) (r.idxOf a) (PF.mpr mb) hl hlt
  rw[Qq,Qq] at this
  have:=Pb this
  omega
 ·have:=vW mb ma he
  subst this
  exact Pf _ h
theorem Dx (key:Int->Nat):∀ds:@D_,∃u,(∀d,d∈ds->key d < u)/\(u=0\/∃d,d∈ds/\u=key d + 1)
 | []=>⟨0,(λd h=>by cases h),.inl rfl⟩
 |d :: ds=>by
  obtain⟨u,h1,h2⟩:=Dx key ds
  by_cases c:key d < u
  ·refine⟨u,λx hx=>?_,h2.imp id λ⟨x,hx,e⟩=>⟨x,OQ _ hx,e⟩⟩
   rcases OK.mp hx with rfl |hx
   ·exact c
   ·exact h1 x hx
  ·refine⟨key d + 1,λx hx=>?_,.inr ⟨d,ON ..,rfl⟩⟩
   rcases OK.mp hx with rfl |hx
   ·omega
   ·have:=h1 x hx;omega
section
variable {n j:Nat}{l:@A_}
abbrev qY (n:Nat)(l:@A_)(j:Nat):@A_:=(OM.bP (n - 1)).filter (EH l j)
def iH {a b:Int}:(a,b)∈qY n l j↔((0<=a/\a < (n - 1:Nat))/\(0<=b/\b < (n - 1:Nat)))/\(up j a,up j b)∈l:=by
 rw[OJ,OM.aZ]
 unfold EH
 rw[OY]
def M8 (hj:j < n){a:Int}(h:0<=a/\a < (n - 1:Nat)):0<=up j a/\up j a < n:=by
 unfold up;split <;> omega
def Eh {a b:Int}(h:up j a=up j b):a=b:=by rw[<-EF j a,h,EF]
def Dw (O:OM.Ord n l)(h2:2<=n):OM.Ord (n - 1) (qY n l j):=by
 refine⟨@AT,by have:=O.hi;omega,λp hp=>?_,OM.b7 _ (OM.cQ _),λa h=>O.irr _ (iH.mp h).2,λa b c h k=>?_⟩
 ·exact (iH (a:=p.1) (b:=p.2).mp hp).1
 ·have h:=iH.mp h
  have k:=iH.mp k
  exact iH.mpr ⟨⟨h.1.1,k.1.2⟩,O.tr _ _ _ h.2 k.2⟩
def CV (hj:j < n):GY (n - 1) (qY n l j) n l (up j):=by
 refine⟨λa b _ _ e=>Eh e,λa h=>aJ.mpr (M8 hj (aJ.mp h)),λa b ha hb _=>?_⟩
 rw[iH]
 exact⟨λh=>h.2,λh=>⟨⟨aJ.mp ha,aJ.mp hb⟩,h⟩⟩
def yp (hj:j < n){a:Int}(h:0<=a/\a < n)(ha:a≠j):0<=dn j a/\dn j a < (n - 1:Nat):=by
 unfold dn;split <;> omega
def Fc (O:OM.Ord n l)(hj:j < n)(h2:2<=n){c:Nat}(hc:1<=c)(h:Dm (n - 1) (qY n l j) c):Dm n l (c + 1):=by
 obtain⟨rs,e,hR,hT⟩:=h.all (Dw O h2)
 obtain⟨r1,rs,rfl⟩:∃r1 rs',rs=r1 :: rs':=List.exists_cons_of_ne_nil (by intro z;rw[z] at e;simp at e;omega)
 have hx:(j:Int)∈bN n:=aJ.mpr (@AT)
 have kap:∀r,r∈r1 :: rs->∀a b:Int,a∈bN n->b∈bN n->a≠j->b≠j->(r.idxOf (dn j a)=r.idxOf (dn j b)->a=b)/\((a,b)∈l->r.idxOf (dn j a) < r.idxOf (dn j b))/\r.idxOf (dn j a) < n:=λr hr a b ha hb na nb=>by
  have ma:=(hR r hr).1.mem_iff.mpr (aJ.mpr (yp hj (aJ.mp ha) na))
  have mb:=(hR r hr).1.mem_iff.mpr (aJ.mpr (yp hj (aJ.mp hb) nb))
  refine⟨λz=>?_,λz=>?_,?_⟩
  ·have:=vW ma mb z
   rw[<-kG na,this,kG nb]
  ·exact oX (p:=(dn j a,dn j b)) (hR r hr) (iH.mpr ⟨⟨yp hj (aJ.mp ha) na,yp hj (aJ.mp hb) nb⟩,by rw[kG na,kG nb];exact z⟩)
  ·have:=PF.mpr ma
   rw[(hR r hr).1.length_eq,cO] at this
   omega
 have K1:∃r:@D_,Row n l r/\(∀a b:Int,a∈bN n->b∈bN n->a≠j->b≠j->r1.idxOf (dn j a) < r1.idxOf (dn j b)->¬((b,(j:Int))∈l/\(a,(j:Int))∉l)->r.idxOf a < r.idxOf b)/\∀y:Int,y∈bN n->y≠j->(y,(j:Int))∉l->r.idxOf (j:Int) < r.idxOf y:=by
  let key:Int->Nat:=λy=>if y=j then n else if (y,(j:Int))∈l then r1.idxOf (dn j y) else n + 1 + r1.idxOf (dn j y)
  have kx:key j=n:=OG rfl
  have kd:∀y:Int,y≠j->(y,(j:Int))∈l->key y=r1.idxOf (dn j y):=λy h1 h2=>by show (if _ then _ else _)=_;rw[OP h1,OG h2]
  have ku:∀y:Int,y≠j->(y,(j:Int))∉l->key y=n + 1 + r1.idxOf (dn j y):=λy h1 h2=>by show (if _ then _ else _)=_;rw[OP h1,OP h2]
  have hm:r1∈r1 :: rs:=ON ..
  have lt:∀a b:Int,a∈bN n->b∈bN n->a≠j->b≠j->r1.idxOf (dn j a) < r1.idxOf (dn j b)->¬((b,(j:Int))∈l/\(a,(j:Int))∉l)->key a < key b:=λa b ha hb na nb h hn=>by
   have k1:=(kap r1 hm a b ha hb na nb).2.2
   by_cases ca:(a,(j:Int))∈l
   ·rw[kd a na ca]
    by_cases cb:(b,(j:Int))∈l
    ·rw[kd b nb cb];exact h
    ·rw[ku b nb cb];omega
   ·rw[ku a na ca]
    by_cases cb:(b,(j:Int))∈l
    ·exact absurd ⟨cb,ca⟩ hn
    ·rw[ku b nb cb];omega
  obtain⟨r,hp,hk⟩:=vB n key λa b ha hb he=>by
   by_cases ca:a=j
   ·by_cases cb:b=j
    ·rw[ca,cb]
    ·rw[ca,kx] at he
     have k1:=(kap r1 hm b b hb hb cb cb).2.2
     by_cases c:(b,(j:Int))∈l
     ·rw[kd b cb c] at he;omega
     ·rw[ku b cb c] at he;omega
   ·by_cases cb:b=j
    ·rw[cb,kx] at he
     have k1:=(kap r1 hm a a ha ha ca ca).2.2
     by_cases c:(a,(j:Int))∈l
     ·rw[kd a ca c] at he;omega
     ·rw[ku a ca c] at he;omega
    ·have k0:=kap r1 hm a b ha hb ca cb
     have k1:=k0.2.2
     have k2:=(kap r1 hm b a hb ha cb ca).2.2
     apply k0.1
     by_cases c:(a,(j:Int))∈l
     ·rw[kd a ca c] at he
      by_cases d:(b,(j:Int))∈l
      ·rw[kd b cb d] at he;exact he
      ·rw[ku b cb d] at he;omega
     ·rw[ku a ca c] at he
      by_cases d:(b,(j:Int))∈l
      ·rw[kd b cb d] at he;omega
      ·rw[ku b cb d] at he;omega
  refine⟨r,⟨hp,?_⟩,λa b ha hb na nb h hn=>hk a b ha hb (lt a b ha hb na nb h hn),λy hy ny h=>hk _ _ hx hy (by rw[kx,ku y ny h];omega)⟩
  unfold pF
  rw[O4]
  intro p hp'
  have hpl:(p.1,p.2)∈l:=hp'
  have hw:=O.wn p hp'
  have ha:=aJ.mpr hw.1
  have hb:=aJ.mpr hw.2
  refine OE (hk _ _ ha hb ?_)
  by_cases ca:p.1=j
  ·have cb:p.2≠j:=λz=>O.irr _ (by rw[ca,z] at hpl;exact hpl)
   rw[ca,kx,ku _ cb (λz=>O.irr _ (O.tr _ _ _ z (by rw[ca] at hpl;exact hpl)))]
   omega
  ·by_cases cb:p.2=j
   ·rw[cb,kx,kd _ ca (by rw[cb] at hpl;exact hpl)]
    exact (kap r1 hm _ _ ha ha ca ca).2.2
   ·exact lt _ _ ha hb ca cb ((kap r1 hm _ _ ha hb ca cb).2.1 hpl) λz=>z.2 (O.tr _ _ _ hpl z.1)
 have K2:∃r:@D_,Row n l r/\(∀a b:Int,a∈bN n->b∈bN n->a≠j->b≠j->r1.idxOf (dn j a) < r1.idxOf (dn j b)->¬(((j:Int),a)∈l/\((j:Int),b)∉l)->r.idxOf a < r.idxOf b)/\∀y:Int,y∈bN n->y≠j->((j:Int),y)∉l->r.idxOf y < r.idxOf (j:Int):=by
  let key:Int->Nat:=λy=>if y=j then n else if ((j:Int),y)∈l then n + 1 + r1.idxOf (dn j y) else r1.idxOf (dn j y)
  have kx:key j=n:=OG rfl
  have kd:∀y:Int,y≠j->((j:Int),y)∈l->key y=n + 1 + r1.idxOf (dn j y):=λy h1 h2=>by show (if _ then _ else _)=_;rw[OP h1,OG h2]
  have ku:∀y:Int,y≠j->((j:Int),y)∉l->key y=r1.idxOf (dn j y):=λy h1 h2=>by show (if _ then _ else _)=_;rw[OP h1,OP h2]
  have hm:r1∈r1 :: rs:=ON ..
  have lt:∀a b:Int,a∈bN n->b∈bN n->a≠j->b≠j->r1.idxOf (dn j a) < r1.idxOf (dn j b)->¬(((j:Int),a)∈l/\((j:Int),b)∉l)->key a < key b:=λa b ha hb na nb h hn=>by
   have k1:=(kap r1 hm a b ha hb na nb).2.2
   by_cases ca:((j:Int),a)∈l
   ·rw[kd a na ca]
    by_cases cb:((j:Int),b)∈l
    ·rw[kd b nb cb];omega
    ·exact absurd ⟨ca,cb⟩ hn
   ·rw[ku a na ca]
    by_cases cb:((j:Int),b)∈l
    ·rw[kd b nb cb];omega
    ·rw[ku b nb cb];exact h
  obtain⟨r,hp,hk⟩:=vB n key λa b ha hb he=>by
   by_cases ca:a=j
   ·by_cases cb:b=j
    ·rw[ca,cb]
    ·rw[ca,kx] at he
     have k1:=(kap r1 hm b b hb hb cb cb).2.2
     by_cases c:((j:Int),b)∈l
     ·rw[kd b cb c] at he;omega
     ·rw[ku b cb c] at he;omega
   ·by_cases cb:b=j
    ·rw[cb,kx] at he
     have k1:=(kap r1 hm a a ha ha ca ca).2.2
     by_cases c:((j:Int),a)∈l
     ·rw[kd a ca c] at he;omega
     ·rw[ku a ca c] at he;omega
    ·have k0:=kap r1 hm a b ha hb ca cb
     have k1:=k0.2.2
     have k2:=(kap r1 hm b a hb ha cb ca).2.2
     apply k0.1
     by_cases c:((j:Int),a)∈l
     ·rw[kd a ca c] at he
      by_cases d:((j:Int),b)∈l
      ·rw[kd b cb d] at he;omega
      ·rw[ku b cb d] at he;omega
     ·rw[ku a ca c] at he
      by_cases d:((j:Int),b)∈l
      ·rw[kd b cb d] at he;omega
      ·rw[ku b cb d] at he;omega
  refine⟨r,⟨hp,?_⟩,λa b ha hb na nb h hn=>hk a b ha hb (lt a b ha hb na nb h hn),λy hy ny h=>hk _ _ hy hx (by rw[kx,ku y ny h];exact (kap r1 hm y y hy hy ny ny).2.2)⟩
  unfold pF
  rw[O4]
  intro p hp'
  have hpl:(p.1,p.2)∈l:=hp'
  have hw:=O.wn p hp'
  have ha:=aJ.mpr hw.1
  have hb:=aJ.mpr hw.2
  refine OE (hk _ _ ha hb ?_)
  by_cases ca:p.1=j
  ·have cb:p.2≠j:=λz=>O.irr _ (by rw[ca,z] at hpl;exact hpl)
   rw[ca,kx,kd _ cb (by rw[ca] at hpl;exact hpl)]
   omega
  ·by_cases cb:p.2=j
   ·rw[cb,kx,ku _ ca (λz=>O.irr _ (O.tr _ _ _ z (by rw[cb] at hpl;exact hpl)))]
    exact (kap r1 hm _ _ ha ha ca ca).2.2
   ·exact lt _ _ ha hb ca cb ((kap r1 hm _ _ ha hb ca cb).2.1 hpl) λz=>z.2 (O.tr _ _ _ z.1 hpl)
 have K3:∀r0,r0∈rs->∃r:@D_,Row n l r/\∀a b:Int,a∈bN n->b∈bN n->a≠j->b≠j->r0.idxOf (dn j a) < r0.idxOf (dn j b)->r.idxOf a < r.idxOf b:=λr0 hr0=>by
  have hm:r0∈r1 :: rs:=OQ _ hr0
  obtain⟨u,hu1,hu2⟩:=Dx (λy=>r0.idxOf (dn j y)) ((bN n).filter λy=>decide ((y,(j:Int))∈l))
  have md:∀y:Int,y∈(bN n).filter (λy=>decide ((y,(j:Int))∈l))↔y∈bN n/\(y,(j:Int))∈l:=λy=>by rw[OJ,OY]
  let key:Int->Nat:=λy=>if y=j then 2 * u else 2 * r0.idxOf (dn j y) + 1
  have kx:key j=2 * u:=OG rfl
  have ky:∀y:Int,y≠j->key y=2 * r0.idxOf (dn j y) + 1:=λy h=>OP h
  obtain⟨r,hp,hk⟩:=vB n key λa b ha hb he=>by
   by_cases ca:a=j
   ·by_cases cb:b=j
    ·rw[ca,cb]
    ·rw[ca,kx,ky b cb] at he;omega
   ·by_cases cb:b=j
    ·rw[cb,kx,ky a ca] at he;omega
    ·rw[ky a ca,ky b cb] at he
     exact (kap r0 hm a b ha hb ca cb).1 (@AT)
  refine⟨r,⟨hp,?_⟩,λa b ha hb na nb h=>hk a b ha hb (by rw[ky a na,ky b nb];omega)⟩
  unfold pF
  rw[O4]
  intro p hp'
  have hpl:(p.1,p.2)∈l:=hp'
  have hw:=O.wn p hp'
  have ha:=aJ.mpr hw.1
  have hb:=aJ.mpr hw.2
  refine OE (hk _ _ ha hb ?_)
  by_cases ca:p.1=j
  ·have cb:p.2≠j:=λz=>O.irr _ (by rw[ca,z] at hpl;exact hpl)
   rw[ca,kx,ky _ cb]
   rcases hu2 with z | ⟨d,hd,z⟩
   ·omega
   ·obtain⟨hd1,hd2⟩:=(md d).mp hd
    have nd:d≠j:=λz=>O.irr _ (by rw[z] at hd2;exact hd2)
    have:=(kap r0 hm d p.2 hd1 hb nd cb).2.1 (O.tr _ _ _ hd2 (by rw[ca] at hpl;exact hpl))
    omega
  ·by_cases cb:p.2=j
   ·rw[cb,kx,ky _ ca]
    have:=hu1 p.1 ((md p.1).mpr ⟨ha,by rw[cb] at hpl;exact hpl⟩)
    omega
   ·rw[ky _ ca,ky _ cb]
    have:=(kap r0 hm _ _ ha hb ca cb).2.1 hpl
    omega
 obtain⟨m1,R1,T1,X1⟩:=K1
 obtain⟨m2,R2,T2,X2⟩:=K2
 let g:@D_->@D_:=λr0=>if h:r0∈rs then Classical.choose (K3 r0 h) else []
 have hg:∀r0,r0∈rs->Row n l (g r0)/\∀a b:Int,a∈bN n->b∈bN n->a≠j->b≠j->r0.idxOf (dn j a) < r0.idxOf (dn j b)->(g r0).idxOf a < (g r0).idxOf b:=λr0 h=>by
  have e:g r0=Classical.choose (K3 r0 h):=dif_pos h
  rw[e];exact Q0 (K3 r0 h)
 refine⟨m1 :: m2 :: rs.map g,by rw[O8,O8,OH];rw[O8] at e;omega,λr hr=>?_,λt ht=>?_⟩
 ·rcases OK.mp hr with rfl |hr
  ·exact R1
  rcases OK.mp hr with rfl |hr
  ·exact R2
  obtain⟨r0,h0,rfl⟩:=O3.mp hr
  exact (hg r0 h0).1
 ·obtain⟨hw,hap⟩:=cg.mp (OJ.mp ht).1
  obtain⟨n1,n2,n3⟩:=j9.mp hap
  have ha:=aJ.mpr hw.1
  have hb:=aJ.mpr hw.2
  by_cases ca:t.1=j
  ·have cb:t.2≠j:=λz=>n1 (ca.trans z.symm)
   refine⟨m2,by simp,?_⟩
   unfold Tn
   rw[ca]
   exact X2 _ hb cb (by rw[ca] at n2;exact n2)
  ·by_cases cb:t.2=j
   ·refine⟨m1,by simp,?_⟩
    unfold Tn
    rw[cb]
    exact X1 _ ha ca (by rw[cb] at n2;exact n2)
   ·obtain⟨r,hr,hTn⟩:=hT (dn j t.1,dn j t.2) (cg.mpr ⟨⟨yp hj hw.1 ca,yp hj hw.2 cb⟩,j9.mpr ⟨λz=>n1 (by have z:dn j t.1=dn j t.2:=z;rw[<-kG ca,z,kG cb]),λz=>n2 (by have:=(iH.mp z).2;rw[kG ca,kG cb] at this;exact this),λz=>n3 (by have:=(iH.mp z).2;rw[kG ca,kG cb] at this;exact this)⟩⟩)
    have hTn:r.idxOf (dn j t.2) < r.idxOf (dn j t.1):=hTn
    rcases OK.mp hr with rfl |hr
    ·by_cases z:(t.1,(j:Int))∈l/\(t.2,(j:Int))∉l
     ·exact⟨m2,by simp,T2 _ _ hb ha cb ca hTn λy=>n2 (O.tr _ _ _ z.1 y.1)⟩
     ·exact⟨m1,by simp,T1 _ _ hb ha cb ca hTn z⟩
    ·exact⟨g r,by simp;exact .inr (.inr ⟨r,hr,rfl⟩),(hg r hr).2 _ _ hb ha cb ca hTn⟩
end
def x8 (ds:List D)(h:iD ds≠.bad):aS 1 1 (iI jf) ds=iD ds:=by
 unfold iD at h
 split at h
 ·obtain⟨n,l,rfl,O⟩:=v8 h
  rw[nI O]
  show fin (iI jf [@Db] 0)=_
  exact j6 (KA (fk (fq (aq (ds:=[ag n l]) rfl (t7 O)))) (wc rfl))
 ·exact absurd rfl h
def Gb (n:Nat)(l:@A_):PyData.eqv (ag n l) (ag n l)=true:=by
 show (PyData.eqv (.int n) (.int n) && (PyData.eqvAll (l.map ax) (l.map ax) && true))=true
 rw[vV,OE rfl]
 have:PyData.eqv (.int n) (.int n)=true:=by simp[PyData.eqv]
 rw[this];rfl
def qq (neg:Bool)(n:Nat)(l:@A_):cY neg (ag n l) (ag n l)=some (.bool (!neg)):=by
 unfold cY
 rw[yi,Gb]
 cases neg <;> rfl
section
variable {n j:Nat}{l:@A_}
theorem zU (hj:j < n):∀{r:@D_},(∀x,x∈r->x∈bN n)->pull (n - 1) (up j) r=(r.filter λx=> !decide (x=(j:Int))).map (dn j)
 | [],_=>rfl
 |x :: r,h=>by
  have ih:=zU hj (r:=r) λy hy=>h y (OQ _ hy)
  have hx:=aJ.mp (h x (ON ..))
  by_cases c:x=j
  ·subst c
   have e:(bN (n - 1)).find? (λa=>decide (up j a=(j:Int)))=none:=List.find?_eq_none.mpr λa _=>by simpa using Dg j a
   have e1:pull (n - 1) (up j) ((j:Int) :: r)=pull (n - 1) (up j) r:=by unfold pull;rw[PY,e]
   rw[e1,ih,QS (by simp)]
  ·have e:(bN (n - 1)).find? (λa=>decide (up j a=x))=some (dn j x):=by
    have:=mO (n:=n - 1) (f:=up j) (λa b _ _ e=>Eh e) (aJ.mpr (yp hj hx c))
    rw[kG c] at this;exact this
   have e1:pull (n - 1) (up j) (x :: r)=dn j x :: pull (n - 1) (up j) r:=by unfold pull;rw[PY,e]
   rw[e1,ih,QR (by simpa using c)];rfl
def Mr (O:OM.Ord n l)(h8:n + 1<=8):qY (n + 1) (OM.c9 8 (OM.Mem (kK n l [] ++ oh (n + 1) n n))) n=l:=by
 refine OM.dR (OM.b7 _ (OM.cQ _)) O.ris λp=>?_
 obtain⟨a,b⟩:=p
 rw[iH,OM.cG]
 show _/\_/\(up n a,up n b)∈kK n l [] ++ oh (n + 1) n n↔_
 rw[OT,iQ,lH]
 constructor
 ·rintro⟨hr,_,h⟩
  have ea:up n a=a:=by unfold up;rw[OG (@AT)]
  have eb:up n b=b:=by unfold up;rw[OG (@AT)]
  rw[ea,eb] at h
  rcases h with (h |h) |h
  ·exact h
  ·cases h
  ·omega
 ·intro h
  have hw:=O.wn _ h
  dsimp only at hw
  have ea:up n a=a:=by unfold up;rw[OG (@AT)]
  have eb:up n b=b:=by unfold up;rw[OG (@AT)]
  rw[ea,eb]
  exact⟨@AT,@AT,.inl (.inl h)⟩
def Mf (O:OM.Ord n l):qY (n + 1) (kK n l []) n=l:=by
 refine OM.dR (OM.b7 _ (OM.cQ _)) O.ris λp=>?_
 obtain⟨a,b⟩:=p
 rw[iH,iQ]
 constructor
 ·rintro⟨hr,h⟩
  have ea:up n a=a:=by unfold up;rw[OG (@AT)]
  have eb:up n b=b:=by unfold up;rw[OG (@AT)]
  rw[ea,eb] at h
  rcases h with h |h
  ·exact h
  ·cases h
 ·intro h
  have hw:=O.wn _ h
  dsimp only at hw
  have ea:up n a=a:=by unfold up;rw[OG (@AT)]
  have eb:up n b=b:=by unfold up;rw[OG (@AT)]
  rw[ea,eb]
  exact⟨@AT,.inl h⟩
def Kz (O:OM.Ord n l)(h8:1 + n<=8):qY (1 + n) (OM.c9 8 (OM.Mem (kK 1 [] l ++ oh (1 + n) 1 1))) 0=l:=by
 refine OM.dR (OM.b7 _ (OM.cQ _)) O.ris λp=>?_
 obtain⟨a,b⟩:=p
 rw[iH,OM.cG]
 show _/\_/\(up 0 a,up 0 b)∈kK 1 [] l ++ oh (1 + n) 1 1↔_
 rw[OT,iQ,lH]
 have ea:∀a:Int,0<=a->up 0 a=a + 1:=λa h=>by unfold up;rw[OP (@AT)]
 constructor
 ·rintro⟨hr,_,h⟩
  rw[ea a (@AT),ea b (@AT)] at h
  dsimp only at h
  rw[show a + 1 - ((1:Nat):Int)=a by omega,show b + 1 - ((1:Nat):Int)=b by omega] at h
  rcases h with (h |h) |h
  ·cases h
  ·exact h
  ·omega
 ·intro h
  have hw:=O.wn _ h
  dsimp only at hw
  rw[ea a (@AT),ea b (@AT)]
  dsimp only
  rw[show a + 1 - ((1:Nat):Int)=a by omega,show b + 1 - ((1:Nat):Int)=b by omega]
  exact⟨@AT,@AT,.inl (.inr h)⟩
end
def Fq {n m:Nat}{l k:@A_}(O:OM.Ord n l)(O':OM.Ord m k)(h8:n + m<=8):OM.Ord (n + m) (kK n l k):=by
 refine⟨by have:=O.lo;omega,h8,CQ O O',zD O O',zQ O O',λa b c h g=>?_⟩
 rw[iQ] at h g ⊢
 rcases h with h |h
 ·have w:=O.wn _ h
  rcases g with g |g
  ·exact .inl (O.tr _ _ _ h g)
  ·have:=O'.wn _ g;dsimp only at this w;omega
 ·have w:=O'.wn _ h
  rcases g with g |g
  ·have:=O.wn _ g;dsimp only at this w;omega
  ·exact .inr (O'.tr _ _ _ h g)
def zS {n m:Nat}{l k:@A_}(O:OM.Ord n l)(O':OM.Ord m k)(h8:n + m<=8):OM.Ord (n + m) (OM.c9 8 (OM.Mem (kK n l k ++ oh (n + m) n n))):=by
 have mem:∀a b:Int,(a,b)∈OM.c9 8 (OM.Mem (kK n l k ++ oh (n + m) n n))↔((a,b)∈l\/(a - n,b - n)∈k)\/((0<=a/\a < n)/\((n:Int)<=b/\b < (n + m:Nat))):=λa b=>by
  rw[OM.cG]
  show _/\(a,b)∈kK n l k ++ oh (n + m) n n↔_
  rw[OT,iQ,lH]
  constructor
  ·rintro⟨_,h | ⟨h1,h2,h3⟩⟩
   ·exact .inl h
   ·exact .inr ⟨⟨h1.1.1,h2⟩,h3,h1.2.2⟩
  ·rintro (h | ⟨h1,h2⟩)
   ·refine⟨?_,.inl h⟩
    rcases h with h |h
    ·have:=O.wn _ h
     dsimp only at this ⊢
     omega
    ·have:=O'.wn _ h
     dsimp only at this ⊢
     omega
   ·refine⟨?_,.inr ⟨?_,h1.2,h2.1⟩⟩
    ·dsimp only;omega
    ·dsimp only;omega
 have rg:∀a b:Int,(a,b)∈OM.c9 8 (OM.Mem (kK n l k ++ oh (n + m) n n))->((0<=a/\a < (n + m:Nat))/\(0<=b/\b < (n + m:Nat)))/\((a < n/\b < n/\(a,b)∈l)\/((n:Int)<=a/\(n:Int)<=b/\(a - n,b - n)∈k)\/(a < n/\(n:Int)<=b)):=λa b h=>by
  rcases (mem a b).mp h with (h |h) |h
  ·have:=O.wn _ h;dsimp only at this;exact⟨@AT,.inl ⟨@AT,@AT,h⟩⟩
  ·have:=O'.wn _ h;dsimp only at this;exact⟨@AT,.inr (.inl ⟨@AT,@AT,h⟩)⟩
  ·exact⟨@AT,.inr (.inr ⟨@AT,@AT ⟩)⟩
 refine⟨by have:=O.lo;omega,h8,λp hp=>(rg p.1 p.2 hp).1,OM.gc _ _,λa h=>?_,λa b c h g=>?_⟩
 ·rcases (rg a a h).2 with⟨_,_,z⟩ | ⟨_,_,z⟩ |z
  ·exact O.irr _ z
  ·exact O'.irr _ z
  ·omega
 ·have r1:=rg a b h
  have r2:=rg b c g
  refine (mem a c).mpr ?_
  rcases r1.2 with⟨x1,x2,x3⟩ | ⟨x1,x2,x3⟩ | ⟨x1,x2⟩
  ·rcases r2.2 with⟨y1,y2,y3⟩ | ⟨y1,y2,y3⟩ | ⟨y1,y2⟩
   ·exact .inl (.inl (O.tr _ _ _ x3 y3))
   ·omega
   ·exact .inr (@AT)
  ·rcases r2.2 with⟨y1,y2,y3⟩ | ⟨y1,y2,y3⟩ | ⟨y1,y2⟩
   ·omega
   ·exact .inl (.inr (O'.tr _ _ _ x3 y3))
   ·omega
  ·rcases r2.2 with⟨y1,y2,y3⟩ | ⟨y1,y2,y3⟩ | ⟨y1,y2⟩
   ·omega
   ·exact .inr (@AT)
   ·omega
def gO:OM.Ord 1 []:=⟨@AT,@AT,(λp h=>by cases h),List.Pairwise.nil,(λa h=>by cases h),λa b c h=>by cases h⟩
theorem GJ {l:@A_}(O:OM.Ord 1 l):l= []:=by
 cases l with
 |nil=>rfl
 |cons p l=>
  have hw:=O.wn p (ON ..)
  have:p.1=p.2:=@AT
  exact absurd (ON ..) (by have:=O.irr p.1;rw[show (p.1,p.1)=p from Prod.ext rfl (by assumption)] at this;exact this)
def Kd:OM.c9 8 (OM.Mem (kK 1 [] [] ++ oh (1 + 1) 1 1))= [(0,1)]:=by
 refine OM.dR (OM.gc _ _) (by unfold OM.vh;simp) λp=>?_
 obtain⟨a,b⟩:=p
 rw[OM.cG]
 show _/\(a,b)∈kK 1 [] [] ++ oh (1 + 1) 1 1↔_
 rw[OT,iQ,lH,O7,Prod.mk.injEq]
 constructor
 ·rintro⟨_,(h |h) |h⟩
  ·cases h
  ·cases h
  ·omega
 ·rintro⟨rfl,rfl⟩
  exact⟨@AT,.inr (@AT)⟩
noncomputable def Jj:@Cl:=aS 9 1 (zW Dj Nf Na ME Mw Ia zN JV fA)
abbrev le (ns:@D_)(n:Nat)(l:@A_)(s3 s4 s5 s6 s7 s8:Sl):En:=[.fz (eN ns),.bx,@Db,s3,s4,s5,s6,s7,s8]
def Mq (ns:@D_):Jj [eN ns]=.ok (.bool true) false:=by
 show fin (zW Dj Nf Na ME Mw Ia zN JV fA [.fz (eN ns),.no,.no,.no,.no,.no,.no,.no,.no] 0)=_
 refine j6 ?_
 unfold zW
 obtain⟨z,ez⟩:=JC ns 0
 refine Gu (C5 (ds:=[eN ns,.int ((0:Nat):Int)]) rfl ez) (wp_at [.fz (eN ns),.bx,.no,.no,.no,.no,.no,.no,.no] rfl ?_)
 obtain⟨n,l,β1,e1,O,h6⟩:=FK z
 have n1:=O.lo
 refine fm (d:=ag n l) (β1:=β1) (mq (ds:=[.int ((6:Nat):Int)]) rfl rfl e1) (wp_at (le ns n l .no .no .no .no .no .no) rfl ?_)
 have t1:=dD (neg:=false) (fa:=f2 (gv 2) @E_ bh) (fb:=cst (.int 1)) (vs:=vl (le ns n l .no .no .no .no .no .no)) (β:=β1) (i:=n) (j:=1) (Kq (n:=n) (l:=l) rfl) rfl
 have eone:∀(s3 s4 s5 s6 s7 s8:Sl) (b:Int),bD (aa @Do (aa (bD ah) ah)) (vl (le ns n l s3 s4 s5 s6 s7 s8)) b=.ok (ag 1 []) b:=λ_ _ _ _ _ _ _=>tp (ds:=[.int 1,.tuple []]) (ac rfl (ac (tp (ds:=[]) an) an))
 by_cases h1:n=1
 ·rw[OP OZ,OE (@AT)] at t1
  subst h1
  have:=GJ O
  subst this
  refine qp t1 (vP (d:=.bool true) (β1:=β1) ?_ rfl)
  have b1:=JP gO gO (@AT)
  rw[Kd] at b1
  have b2:=LY gO gO (@AT)
  exact D6 (aE (aq (ds:=[ag 1 [],ag 1 []]) rfl b1) (tp (ds:=[.int 2,.tuple [ax (0,1)]]) (ac rfl (ac (tp (ds:=[ax (0,1)]) (ac (tp (ds:=[.int 0,.int 1]) (ac rfl (ac rfl an))) an)) an))) (qq false 2 [(0,1)])) (aE (aq (ds:=[ag 1 [],ag 1 []]) rfl b2) (tp (ds:=[.int 2,.tuple []]) (ac rfl (ac (tp (ds:=[]) an) an))) (qq false 2 []))
 ·rw[OP OZ,OR (@AT)] at t1
  have h2:2<=n:=@AT
  refine mM t1 (wp_at (le ns n l .no .no .no .no .no .no) rfl ?_)
  obtain⟨j,hj,ej⟩:=n5 (m:=n) n1 (@AT) β1
  generalize β1 / ((n:Nat):Int)=β3 at ej
  refine fm (d:=.int j) (β1:=β3) (mq (ds:=[.int (n:Nat)]) rfl (ac (Kq (n:=n) (l:=l) rfl) an) ej) (wp_at (le ns n l (.fz (.int j)) .no .no .no .no .no) rfl ?_)
  refine fm (d:=ag (n - 1) (qY n l j)) (β1:=β3) (aq (ds:=[ag n l,.int j]) rfl (E7 O hj h2)) (wp_at (le ns n l (.fz (.int j)) (.fz (ag (n - 1) (qY n l j))) .no .no .no .no) rfl ?_)
  have OW:=Dw (j:=j) O h2
  have sh:∀{N:Nat} {L:@A_},N<=6->(AO N L).length<=39:=λ{N L} h=>by have:=Iy (l:=L) h;omega
  obtain⟨rs,er,ew,hF⟩:=Mo O (sh h6)
  obtain⟨qs,_,eq,hG⟩:=Mo OW (sh (@AT))
  refine fm (aq (ds:=[ag n l]) rfl ew) (wp_at (le ns n l (.fz (.int j)) (.fz (ag (n - 1) (qY n l j))) (.fz (.int (rs.length:Nat))) .no .no .no) rfl ?_)
  have hle:qs.length<=rs.length:=(hG.iff OW hF.pos).mp ((CV hj).dm OW O hF.dm)
  have hge:rs.length<=qs.length + 1:=(hF.iff O (@AT)).mp (Fc O hj h2 hG.pos hG.dm)
  have ch:=rO (g':=xG) (fa:=f2 (gv 5) @Do qX) (fb:=av Mw (aa (gv 4) ah)) (fc:=gv 5) (vs:=vl (le ns n l (.fz (.int j)) (.fz (ag (n - 1) (qY n l j))) (.fz (.int (rs.length:Nat))) .no .no .no)) (β:=β3) (lo:=(rs.length:Int) - 1) (i:=(qs.length:Nat)) (n:=(rs.length:Nat)) (q:=decide ((qs.length:Int)<=(rs.length:Nat))) (aE (x:=.int (rs.length:Nat)) (y:=.int 1) rfl rfl rfl) (aq (ds:=[ag (n - 1) (qY n l j)]) rfl eq) rfl rfl
  rw[OE (@AT),OE (@AT)] at ch
  refine mM (fk (dZ _ _ _ _ ch)) (wp_at (le ns n l (.fz (.int j)) (.fz (ag (n - 1) (qY n l j))) (.fz (.int (rs.length:Nat))) .no .no .no) rfl ?_)
  refine zK (lp (ds:=[]) an) (wp_at (le ns n l (.fz (.int j)) (.fz (ag (n - 1) (qY n l j))) (.fz (.int (rs.length:Nat))) (.ow (.list [])) .no .no) rfl ?_)
  have hn:=hF.le O
  have hrow:∀r,r∈rs->∀x,x∈r->x∈bN n:=λr hr x hx=>(hF.row r hr).1.mem_iff.mp hx
  refine CP (ds:=rs.map tupI) (β1:=β3) (λi env β=>β=β3/\∃s7,env=le ns n l (.fz (.int j)) (.fz (ag (n - 1) (qY n l j))) (.fz (.int (rs.length:Nat))) (.ow (.list (((rs.take i).map (pull (n - 1) (up j))).map tupI))) s7 .no) (by unfold bc;rw[aq (ds:=[ag n l]) rfl er];rfl) ⟨rfl,_,rfl⟩ ?_ ?_
  ·rintro i d env β hi ⟨rfl,s7,rfl⟩
   rw[OU] at hi
   cases hr:rs[i]? with
   |none=>rw[hr] at hi;cases hi
   |some r=>
   rw[hr] at hi
   cases hi
   have hm:=O0 hr
   have hlr:r.length=n:=by rw[(hF.row r hm).1.length_eq,cO]
   refine⟨le ns n l (.fz (.int j)) (.fz (ag (n - 1) (qY n l j))) (.fz (.int (rs.length:Nat))) (.ow (.list (((rs.take i).map (pull (n - 1) (up j))).map tupI))) (.fz (tupI r)) .no,rfl,?_⟩
   have ec:f1 (aM 1 [3] (.nm 0) (bc (gv 7)) (cM (f2 (gv 0) (gv 1) (cY true))) (f2 (gv 0) (f1 (f2 (gv 0) (gv 1) Ke) I0) qX)) fT (vl (le ns n l (.fz (.int j)) (.fz (ag (n - 1) (qY n l j))) (.fz (.int (rs.length:Nat))) (.ow (.list (((rs.take i).map (pull (n - 1) (up j))).map tupI))) (.fz (tupI r)) .no)) β=.ok (tupI (pull (n - 1) (up j) r)) β:=by
    rw[zU hj (hrow r hm)]
    refine cU (bQ (l:=r) (e:=int) (λx=> !decide (x=(j:Int))) (λx=>int (dn j x)) rfl (@AT) λx _=>⟨[.da (.int x),.da (.int j)],rfl,?_,λ_=>?_⟩) (by unfold tupI;rw[QE];rfl)
    ·have:=dD (neg:=true) (fa:=gv 0) (fb:=gv 1) (vs:=[.da (.int x),.da (.int j)]) (β:=β) (i:=x) (j:=(j:Int)) rfl rfl
     exact this
    ·refine aE (x:=.int x) (y:=.int (if x > (j:Int) then 1 else 0)) rfl (cU (x:=.bool (decide (x > (j:Int)))) (aE (x:=.int x) (y:=.int j) rfl rfl rfl) ?_) ?_
     ·by_cases c:x > (j:Int)
      ·rw[OE c,OG c];rfl
      ·rw[OR c,OP c];rfl
     ·show some (int (x - (if x > (j:Int) then 1 else 0)))=_
      congr 2
      unfold dn
      split <;> omega
   have htl:((rs.take i).map (pull (n - 1) (up j))).length<=100:=by rw[OH,PH];omega
   refine zf (CH (ds:=((rs.take i).map (pull (n - 1) (up j))).map tupI) rfl ec rfl (by rw[OH];omega) (wc ⟨_,_,rfl,rfl,.fz (tupI r),?_⟩))
   have:rs.take (i + 1)=rs.take i ++ [r]:=by rw[List.take_add_one,hr];rfl
   rw[this,Pn,Pn];rfl
  ·rintro env β ⟨rfl,s7,rfl⟩
   rw[OH,List.take_length]
   have E:=CV (l:=l) hj
   have hRw:∀r',r'∈rs.map (pull (n - 1) (up j))->Row (n - 1) (qY n l j) r':=λr' hr'=>by
    obtain⟨r,hr,rfl⟩:=O3.mp hr'
    exact E.row OW (hF.row r hr)
   have hne:rs.map (pull (n - 1) (up j))≠ []:=by simp;exact hF.ne
   obtain⟨_,_,hTa⟩:=hF.dm.all O
   have hall:∀t,t∈mB n l->∃r,r∈rs/\Tn r t:=λt ht=>by
    obtain⟨q,hq,hs,hu⟩:=ie O _ t (OF _) ht
    obtain⟨r,hr,hT⟩:=hF.tn q (OJ.mpr ⟨hq,hs⟩)
    exact⟨r,hr,oK (hF.row r hr) hu hT⟩
   have htell:zN [.list ((rs.map (pull (n - 1) (up j))).map tupI),ag (n - 1) (qY n l j)]=.ok (.bool true) false:=by
    rw[Jd OW ⟨rfl,λes e=>by
     cases e
     refine⟨by rw[OH,OH];omega,λx hx=>?_⟩
     obtain⟨q,hq,rfl⟩:=O3.mp hx
     obtain⟨hl,hrb⟩:=Lz (@AT) (hRw q hq).1
     exact (ID (@AT) hrb).1⟩]
    rw[tE hne hRw,OE ((Ew OW hne hRw).mpr λt ht=>E.turn hF.row hall (OJ.mp ht).1)]
   refine mM (fk (fq (aq (ds:=[.list ((rs.map (pull (n - 1) (up j))).map tupI),ag (n - 1) (qY n l j)]) rfl htell))) (wp_at (le ns n l (.fz (.int j)) (.fz (ag (n - 1) (qY n l j))) (.fz (.int (rs.length:Nat))) (.fz (.list ((rs.map (pull (n - 1) (up j))).map tupI))) s7 .no) rfl ?_)
   have b1:=JP O gO (@AT)
   have b2:=LY O gO (@AT)
   have b3:=JP gO O (@AT)
   generalize hE:(ag (n + 1) (OM.c9 8 (OM.Mem (kK n l [] ++ oh (n + 1) n n))))=X1 at b1
   generalize hE2:(ag (n + 1) (kK n l []))=X2 at b2
   refine CP (ds:=[X1,X2]) (β1:=β) (λ_ env b=>b=β/\∃s8,env=le ns n l (.fz (.int j)) (.fz (ag (n - 1) (qY n l j))) (.fz (.int (rs.length:Nat))) (.fz (.list ((rs.map (pull (n - 1) (up j))).map tupI))) s7 s8) ?_ ⟨rfl,_,rfl⟩ ?_ ?_
   ·unfold bc
    rw[lp (ds:=[X1,X2]) (ac (aq (ds:=[ag n l,ag 1 []]) (ac rfl (ac (eone _ _ _ _ _ _ _) an)) b1) (ac (aq (ds:=[ag n l,ag 1 []]) (ac rfl (ac (eone _ _ _ _ _ _ _) an)) b2) an))];rfl
   ·rintro i d env b hi ⟨rfl,s8,rfl⟩
    refine⟨le ns n l (.fz (.int j)) (.fz (ag (n - 1) (qY n l j))) (.fz (.int (rs.length:Nat))) (.fz (.list ((rs.map (pull (n - 1) (up j))).map tupI))) s7 (.fz d),rfl,?_⟩
    have hw:ME [d,.int (n:Nat)]=.ok (ag n l) false:=by
     have hd:=O0 hi
     simp only[OK,Pw,Qm] at hd
     rcases hd with rfl |rfl
     ·rw[<-hE]
      have:=E7 (n:=n + 1) (j:=n) (zS O gO (@AT)) (@AT) (@AT)
      rw[show (OM.bP (n + 1 - 1)).filter (EH (OM.c9 8 (OM.Mem (kK n l [] ++ oh (n + 1) n n))) n)=l from Mr O (@AT)] at this
      exact this
     ·rw[<-hE2]
      have:=E7 (n:=n + 1) (j:=n) (Fq O gO (@AT)) (@AT) (@AT)
      rw[show (OM.bP (n + 1 - 1)).filter (EH (kK n l []) n)=l from Mf O] at this
      exact this
    exact KA (dZ _ _ _ _ (aE (x:=ag n l) (y:=ag n l) (aq (ds:=[d,.int (n:Nat)]) (ac rfl (ac (Kq (n:=n) (l:=l) rfl) an)) hw) rfl (qq true n l))) (wc ⟨_,_,rfl,rfl,_,rfl⟩)
   ·rintro env b ⟨rfl,s8,rfl⟩
    have hw:=E7 (n:=1 + n) (j:=0) (zS gO O (@AT)) (@AT) (@AT)
    rw[show (OM.bP (1 + n - 1)).filter (EH (OM.c9 8 (OM.Mem (kK 1 [] l ++ oh (1 + n) 1 1))) 0)=l from Kz O (@AT)] at hw
    rw[show 1 + n - 1=n by omega] at hw
    exact ka (aE (x:=ag n l) (y:=ag n l) (aq (ds:=[ag (1 + n) (OM.c9 8 (OM.Mem (kK 1 [] l ++ oh (1 + n) 1 1))),.int ((0:Nat):Int)]) (ac (aq (ds:=[ag 1 [],ag n l]) (ac (eone _ _ _ _ _ _ _) (ac rfl an)) b3) (ac rfl an)) hw) rfl (qq false n l)) rfl
end RM
namespace RO
open PySem L2
abbrev lu:Stmt:=RQ.fU
abbrev oq:Stmt:=RQ.top 16
abbrev Fn (K:Frag)(mg:@FS)(x:Str)(st:Stmt)(ps:@IN)(f:Addr)(fd:FuncData):Prop:=gr K mg x st ps f fd
abbrev Bt (mg:@FS):Prop:=gR mg
end RO
section
namespace L2
open PySem PySem.Spec PyProof.Rows
section
variable {K:Frag}{H H':Hp}{a:Addr}
theorem bw.snoc {x y:Int}(q:fN K H a [.int x,.int y]):∀{vs:List V} {ps:List (Int×Int)},bw K H vs ps->bw K H (vs ++ [.ref a]) (ps ++ [(x,y)])
 |_,_,.nil=>.cons ⟨a,rfl,q⟩ .nil
 |_,_,.cons r t=>.cons r (bw.snoc q t)
def bw.len {vs:List V}{ps:List (Int×Int)}(h:bw K H vs ps):vs.length=ps.length:=Paired.length h
def bw.same {vs:List V}{ps:List (Int×Int)}(h:bw K H vs ps)(s:aw H H'):bw K H' vs ps:=h.grow s.grow
def bw.at {vs:List V}{ps:List (Int×Int)}{i:Nat}{v:V}(h:bw K H vs ps)(e:vs[i]? =some v):∃p:Int×Int,ps[i]? =some p/\∃b,v=.ref b/\fN K H b [.int p.1,.int p.2]:=Paired.getP h e
def aw.put {o:HO}(s:aw H H')(h:H a=none)(hf:∀x y,H' a≠some (.aW x y)):aw H (L2.upd H' a o):=λb u e=>my (s b u e) (aN e h) hf
def Ho (h:H a=none):∀x y,H a≠some (.aW x y):=λx y z=>by rw[h] at z;cases z
def KJ {xs:List V}(h:H a=some (.lst xs)):∀x y,H a≠some (.aW x y):=λx y z=>by rw[h] at z;cases z
end
end L2
namespace RO
open PySem L2
def C8 (N:@IN)(sc:Scope)(NB:@IN)(own:Nat)(ixs:@IR)(scope:Scope):Bool:=
 decide (scope.kind=.function) && (scope.names.all λy=>decide (scope.names.lookup y.1=some y.2)) &&
 (scope.names.all λy=>decide (y.2=.free->(sc.names.lookup y.1=some .cell\/sc.names.lookup y.1=some .free))) && decide NB.Nodup && decide (NB.length=own + ixs.length) &&
 ((List.range ixs.length).all λk=>decide (NB[own + k]? =N[ixs.getD k 0]?) && (match NB[own + k]? with |some x=>decide ((x,NameKind.free)∈scope.names) |none=>true))
def o8 {X:Cx}{NB:@IN}{own:Nat}{ixs:@IR}{scope:Scope}(h:C8 X.N X.env.scope NB own ixs scope=true):cj X NB own ixs scope:=by
 unfold C8 at h
 simp only[O1,O4,OY,Pp] at h
 obtain⟨⟨⟨⟨⟨h1,h3⟩,h4⟩,h5⟩,h6⟩,h7⟩:=h
 refine⟨h1,h3,h4,h5,h6,λk hk=>⟨(h7 k hk).1,λx hx=>?_⟩⟩
 have:=(h7 k hk).2
 rw[hx] at this
 simpa using this
section
variable {X:Cx}{tg l:Expr}{tl:TE}{K:Frag}{H H1:Hp}{a:Addr}{xs:List V}{σ:St}
def Nj (K:Frag)(tl:TE):TI:=λσ H R=>tl σ H λx H1=>∃a xs,x=.ref a/\((iF K H1 a xs/\R (AR K a) H1)\/(fN K H1 a xs/\R (HJ K a) H1))
end
def Ol (K:Frag){X:Cx}(h:X.K=K:=by rfl):Ed X (JI K):=by subst h;exact i3
def JA (K:Frag)(i j:Nat){X:Cx}{x y:Str}{px py pos:Pos}{k:Nat}(hN:X.N.Nodup)(hi:X.N[i]? =some x)(hj:X.N[j]? =some y)(hx:X.env.scope.names.lookup x=some .local)(hy:X.env.scope.names.lookup y=some .local)(hc:X.calm=true)(hK:X.K=K) :
  PG X (.Tuple [.Name x px,.Name y py] k pos) (EO K 2 (rQ (m9 i) (rQ (m9 j) Fs))):=by
 subst hK
 exact rZ hc (eQ (dE hN hi (Or.inl hx) (Or.inr hx)) (eQ (dE hN hj (Or.inl hy) (Or.inr hy)) nX))
section
open PySem.Spec PyProof.Rows
variable {X:Cx}{tg l:Expr}{tl:TE}
def HY (hl:PE X l tl):PI X tg l (Nj X.K tl):=by
 intro pins s σ H R I h
 refine cI (hl pins s σ H _ I h) λv s1 ⟨x,H1,I1,r1,q1⟩=>?_
 obtain⟨a,xs,e,q⟩:=q1
 subst e
 cases r1
 rcases q with⟨hq,q⟩ | ⟨hq,q⟩
 ·obtain⟨its,rv,p,hz⟩:=I1.list hq
  refine QI p.isList ?_
  refine⟨s1.heap.objs.size,[s1.heap.objs.size],_,_,H1,rfl,I1.kept (t':=s1.toks) λb o e=>OI _ e,oU a _,⟨_,OV _ rfl,rfl,rfl⟩,λb hb=>?_,q⟩
  have e:b=s1.heap.objs.size:=by simpa using hb
  subst e
  exact I1.fpOk (OF _) (I1.hok.fresh (OF _))
 ·obtain⟨its,rv,p,hz⟩:=I1.tuple hq
  refine QU (show s1.heap.IsTuple a its.toArray from p) ?_
  refine⟨s1.heap.objs.size,[s1.heap.objs.size],_,_,H1,rfl,I1.kept (t':=s1.toks) λb o e=>OI _ e,qJ a _,⟨_,OV _ rfl,rfl,rfl⟩,λb hb=>?_,q⟩
  have e:b=s1.heap.objs.size:=by simpa using hb
  subst e
  exact I1.fpOk (OF _) (I1.hok.fresh (OF _))
end
section
variable {K:Frag}{H H1 H':Hp}{a:Addr}{xs:List V}{σ:St}
abbrev KS (J:It)(g:TG)(tb:TS)(D:Ends)(σ:St)(H:Hp):Prop:=∃W:Nat->Nat->St->Hp->Prop,(∃m,W 0 m σ H)/\∀i m σ H,W i m σ H->
   (J.stop i H/\D.nx σ H)\/(J.go i H/\∃N:St->Hp->Prop,(∀σ' H',N σ' H'->∃m',m' < m/\W (i + 1) m' σ' H')/\∀x H',J.yld i H x H'->g x σ H' λσ2 H2=>tb {D with nx:=N,ct:=N,bk:=D.nx} σ2 H2)
def GX (s:aw H1 H')(hq:iF K H1 a xs\/fN K H1 a xs):iF K H' a xs\/fN K H' a xs:=hq.elim (λq=>.inl (s.seq q)) λq=>.inr (q.grow s.grow)
def GI {g:TG}{tb:TS}{D:Ends}(hq:iF K H1 a xs\/fN K H1 a xs)(Pv:Nat->St->Hp->Prop)(h0:Pv 0 σ H)(hl:∀i σ H',Pv i σ H'->aw H1 H')
  (hs:∀i x σ H,xs[i]? =some x->Pv i σ H->g x σ H λσ2 H2=>tb {D with nx:=Pv (i + 1),ct:=Pv (i + 1),bk:=D.nx} σ2 H2) (hd:∀σ H,Pv xs.length σ H->D.nx σ H) :
  (iF K H a xs/\KS (AR K a) g tb D σ H)\/(fN K H a xs/\KS (HJ K a) g tb D σ H):=
 hq.elim (λq=>.inl ⟨(hl _ _ _ h0).seq q,wx Pv h0 (λi σ H' _ p=>(hl i σ H' p).seq q) hs hd⟩) λq=>.inr ⟨q.grow (hl _ _ _ h0).grow,ES Pv h0 (λi σ H' _ p=>q.grow (hl i σ H' p).grow) hs hd⟩
def zA (J:It)(own:Nat)(ixs:@IR)(g:TG)(tt:TT)(te:TE)(Q:VK)(D:Addr)(σ:St)(H:Hp):Prop:=∃W:Nat->Nat->St->Hp->Prop,(∃m,W 0 m (dU own ixs σ) (upd H D (.lst [])))/\∀i m σ' H',W i m σ' H'->
   (J.stop i H'/\(∃acc,H' D=some (.lst acc))/\Q (.ref D) H')\/
   (J.go i H'/\∃N:St->Hp->Prop,(∀σ2 H2,N σ2 H2->∃m',m' < m/\W (i + 1) m' σ2 H2)/\∀x H2,J.yld i H' x H2->fQ g tt te D x σ' H2 N)
structure w9 (own:Nat)(ixs:@IR)(wi:TI)(g:TG)(tt:TT)(te:TE)(σ:St)(H:Hp)(Q:VK):Prop where
 out:wi σ H λJ H1=>∀D,H1 D=none->zA J own ixs g tt te Q D σ H1
def yY {own:Nat}{ixs:@IR}{wi:TI}{g:TG}{tt:TT}{te:TE}{Q:VK}(h:wi σ H λJ H1=>∀D,H1 D=none->zA J own ixs g tt te Q D σ H1):w9 own ixs wi g tt te σ H Q:=⟨h⟩
def uX {X:Cx}{NB:@IN}{own:Nat}{ixs:@IR}{scope:Scope}{tg iter elt:Expr}{ifs:List Expr}{wi:TI}{g:TG}{tt:TT}{te:TE}{pos:Pos}(hc:X.calm=true)(S:cj X NB own ixs scope)(hi:PI X tg iter wi)
  (hg:∀C ex s3 H3 pn,PG @Ix tg g) (ht:∀C ex s3 H3 pn,DH @Ix ifs tt) (he:∀C ex s3 H3 pn,PE @Ix elt te)
  (hs:∀x,foldedSetIterable iter X.env x=pure x:=by intro _;rfl):PE X (.ListComp elt [⟨tg,iter,ifs,0⟩] scope pos) (w9 own ixs wi g tt te):=
 λpins s σ H Q I h=>xl hc S hi hg ht he hs pins s σ H Q I h.out
section
variable {own:Nat}{ixs:@IR}{g:TG}{tt:TT}{te:TE}{Q:VK}{D:Addr}
def Fm (Pv:Nat->St->Hp->Prop)(h0:Pv 0 (dU own ixs σ) (upd H D (.lst [])))(hl:∀i σ H,i<=xs.length->Pv i σ H->iF K H a xs)
  (hs:∀i x σ H,xs[i]? =some x->Pv i σ H->fQ g tt te D x σ H (Pv (i + 1))) (hd:∀σ H,Pv xs.length σ H->(∃acc,H D=some (.lst acc))/\Q (.ref D) H):zA (AR K a) own ixs g tt te Q D σ H:=B7 Pv h0 hl hs hd
def xH {lo:Int}{n:Nat}(Pv:Nat->St->Hp->Prop)(h0:Pv 0 (dU own ixs σ) (upd H D (.lst [])))
  (hs:∀i σ H,i < n->Pv i σ H->fQ g tt te D (.int (lo + i)) σ H (Pv (i + 1))) (hd:∀σ H,Pv n σ H->(∃acc,H D=some (.lst acc))/\Q (.ref D) H):zA (Er lo n) own ixs g tt te Q D σ H:=zb Pv h0 hs hd
end
def xk {i:Nat}{te:TE}{D:Addr}{x:V}{N:St->Hp->Prop}(h:te (σ.set i (some x)) H λv H5=>∃acc,H5 D=some (.lst acc)/\acc.length < sizeLine/\N (σ.set i (some x)) (upd H5 D (.lst (acc ++ [v])))):fQ (m9 i) JF te D x σ H N:=by
 unfold fQ m9 JF
 exact pS h
def CN {i j:Nat}{x y:V}{Q:St->Hp->Prop}(h:fN K H a [x,y])(q:Q ((σ.set i (some x)).set j (some y)) H):EO K 2 (rQ (m9 i) (rQ (m9 j) Fs)) (.ref a) σ H Q:=⟨a,_,rfl,h,rfl,x,_,rfl,y,_,rfl,rfl,q⟩
def NM {c A B:Prop}[Decidable c](h:c)(a:A):if c then A else B:=by rw[OG h];exact a
def M9 {c A B:Prop}[Decidable c](h:¬c)(b:B):if c then A else B:=by rw[OP h];exact b
def take_snoc {α:Type}{l:List α}{i:Nat}{x:α}(h:l[i]? =some x):l.take (i + 1)=l.take i ++ [x]:=by
 rw[List.take_add_one,h];rfl
def take_all {α:Type}(l:List α):l.take l.length=l:=List.take_of_length_le (OF _)
end
def dF (n:Nat):(OM.bP n).length=n * n:=by unfold OM.bP;simp
def E5 {n i:Nat}(h:i < n * n):(OM.bP n)[i]? =some (((i / n:Nat):Int),((i % n:Nat):Int)):=by
 unfold OM.bP
 rw[OU,Qy h];rfl
def N7 {n:Nat}(h:n<=8):n * n<=64:=P4 h h
section
variable {P:Program}{w:World}{K:Frag}{mg:@FS}{base:Heap}
def zL (K:Frag):Sp:=λvs H Q _=>∃n:Nat,vs= [.int n]/\1<=n/\n<=8/\∀H' l ws,aw H H'->H l=none->H' l=some (.lst ws)->bw K H' ws (OM.bP n)->Q (.ref l) H'
def Ff:aF ["many"] ["many"] (ao lu):=@AC
def K6:(["number","many"]:@IN).Nodup:=@FM
def CB {f:Addr}{fd:FuncData}(F:Fn K mg "every_pair" lu ["many"] f fd)(B:Bt mg):fM P w K mg base IE 1 f fd ["many"] (zL K):=by
 refine F.F.ok Ff (λvs H Q E h=>?_) (λcdv A outer s H vs Q E hr h=>?_)
 ·obtain⟨n,rfl,_⟩:=h;rfl
 ·obtain⟨n,rfl,h1,h8,k⟩:=h
  refine⟨_,jE (oD (uX (NB:=["number","many"]) (own:=1) (ixs:=[0]) rfl (o8 (by kernel_rfl)) (mC rfl B.range (a9 (um l9 (pv 0) (pv 0)) b9))
   (λC ex s3 H3 pn=>dE (i:=0) K6 rfl (Or.inl rfl) (hf:=Or.inr rfl)) (λC ex s3 H3 pn=>uJ)
   (λC ex s3 H3 pn=>yU (a9 (um vH (pv 0) (pv 1)) (a9 (um nM (pv 0) (pv 1)) b9))))),?_⟩
  have hn:=N7 h8
  have e0:((n:Int) * (n:Int))=((n * n:Nat):Int):=by rw[Int.natCast_mul]
  refine yY ⟨_,rfl,_,rfl,_,_,rfl,rfl,.inl ⟨@AT,@AT ⟩,_,rfl,by rw[e0];omega,by rw[e0];omega,λD hD=>?_⟩
  rw[e0,Pk]
  refine xH (λi σ' H'=>(∃v,σ'= [v,some (.int n)])/\aw H H'/\∃vs,H' D=some (.lst vs)/\bw K H' vs ((OM.bP n).take i)) ⟨⟨none,rfl⟩,(aw.refl H).put hD (Ho hD),[],aB,.nil⟩ ?_ ?_
  ·rintro i σ' H' hi ⟨⟨v,rfl⟩,s1,vs,hv,hp⟩
   have hn0:(0:Int) < (n:Int):=@AT
   refine xk ⟨_,rfl,_,rfl,_,_,rfl,rfl,⟨hn0,@AT ⟩,_,rfl,_,rfl,_,_,rfl,rfl,hn0,by show 2<=sizeLine;rw[Pq];omega,λp hp0=>?_⟩
   have hpD:D≠p:=aN hv hp0
   have hl:=hp.len
   refine⟨vs,by rw[ay hpD];exact hv,?_,⟨_,rfl⟩,?_,vs ++ [.ref p],aB,?_⟩
   ·rw[hl,PH,Pq];rw[dF];omega
   ·exact (s1.put (s1.free hp0) (Ho hp0)).put hD (KJ (xs:=vs) (by rw[ay hpD];exact hv))
   ·rw[take_snoc (E5 hi)]
    have g1:jn H' (upd H' p (.tup [.int ((0 + (i:Int)) / n),.int ((0 + (i:Int)) % n)])):=jn.new hp0
    have g2:∀o,jn (upd H' p (.tup [.int ((0 + (i:Int)) / n),.int ((0 + (i:Int)) % n)])) (upd (upd H' p (.tup [.int ((0 + (i:Int)) / n),.int ((0 + (i:Int)) % n)])) D o):=λo=>jn.list (by rw[ay hpD];exact hv)
    refine bw.snoc ?_ (hp.grow (g1.trans (g2 _)))
    refine (fN.grow ?_ (g2 _))
    refine .inl (.inl ?_)
    rw[aB,Qp];rfl
  ·rintro σ' H' ⟨_,s1,vs,hv,hp⟩
   refine⟨⟨_,hv⟩,k H' D vs s1 hD hv ?_⟩
   rw[<-dF n,take_all] at hp
   exact hp
end
end RO
end
namespace RO
open PySem L2
structure TabAt (n:Nat)(M:OM.Tb)(L:Addr)(r:Nat->Addr)(H:Hp):Prop where
 top:H L=some (.lst ((List.range n).map λi=>V.ref (r i)))
 row:∀i,i < n->H (r i)=some (.lst ((List.range n).map λj=>V.bl (M i j)))
 inj:∀i j,i < n->j < n->r i=r j->i=j
 ne:∀i,i < n->r i≠L
def Ai {n x:Nat}(h:x < n):uF n (x:Int)=some x:=by
 unfold uF;rw[OG (@AT),OG (@AT)];simp
def Cn {α:Type}{xs:List α}{x:Nat}(h:x < xs.length):l8 xs (x:Int)=xs[x]?:=by
 unfold l8;rw[Ai h];rfl
def iB {f:Nat->V}{n x:Nat}(h:x < n):l8 ((List.range n).map f) (x:Int)=some (f x):=by
 rw[Cn (by simpa using h),OU,Qy h];rfl
def tR {f:Nat->V}{n x:Nat}(h:x < n):uF ((List.range n).map f).length (x:Int)=some x:=by
 rw[OH,P7];exact Ai h
def B9 {f:Nat->V}{n y:Nat}{v:V}:((List.range n).map f).set y v=(List.range n).map λj=>if j=y then v else f j:=by
 apply List.ext_getElem?
 intro i
 by_cases hi:i < n
 ·by_cases e:y=i
  ·subst e;simp[List.getElem?_set,hi]
  ·have e':¬i=y:=λz=>e z.symm
   simp[List.getElem?_set,hi,e,e']
 ·rw[Qg (by simp;omega),Qg (by simp;omega)]
section
variable {n:Nat}{M:OM.Tb}{L:Addr}{r:Nat->Addr}{H H':Hp}
def TabAt.set (T:TabAt n M L r H){x y:Nat}(hx:x < n):TabAt n (M.set x y) L r (upd H (r x) (.lst (((List.range n).map λj=>V.bl (M x j)).set y (.bl true)))):=by
 refine⟨by rw[ay (T.ne x hx).symm];exact T.top,λi hi=>?_,T.inj,T.ne⟩
 by_cases e:i=x
 ·subst e
  rw[aB,B9]
  refine congrArg _ (congrArg _ (Qe λj _=>?_))
  unfold OM.Tb.set
  by_cases c:j=y
  ·simp[c]
  ·simp[c]
 ·rw[ay (λz=>e (T.inj i x hi hx z)),T.row i hi]
  refine congrArg _ (congrArg _ (Qe λj _=>?_))
  unfold OM.Tb.set;simp[e]
def TabAt.same (T:TabAt n M L r H)(s:aw H H'):TabAt n M L r H':=⟨s _ _ T.top,λi hi=>s _ _ (T.row i hi),T.inj,T.ne⟩
end
def uP {n:Nat}{ps:List (Int×Int)}(w:OM.Wn n ps){p:Int×Int}(h:p∈ps):∃u v:Nat,p=((u:Int),(v:Int))/\u < n/\v < n:=by
 obtain⟨x,y⟩:=p
 have q:=w _ h
 simp only at q
 exact⟨x.toNat,y.toNat,by rw[Int.toNat_of_nonneg q.1.1,Int.toNat_of_nonneg q.2.1],@AT,@AT ⟩
def jM {M0 M:OM.Tb}{m:Nat}{D D':Nat->Nat->Prop}(P:OM.Phase M0 M m D)(h:∀a b,D a b↔D' a b):OM.Phase M0 M m D':=λa b=>by rw[P a b,h a b]
def mL {l:List (Int×Int)}{u v a b:Nat}:(((a:Int),(b:Int))∈l\/(a=u/\b=v))↔((a:Int),(b:Int))∈l ++ [((u:Int),(v:Int))]:=by
 rw[OT,O7,Prod.mk.injEq]
 constructor
 ·rintro (h | ⟨h1,h2⟩)
  ·exact .inl h
  ·exact .inr ⟨@AT,@AT ⟩
 ·rintro (h | ⟨h1,h2⟩)
  ·exact .inl h
  ·exact .inr ⟨@AT,@AT ⟩
def FT {M:OM.Tb}{u v a b:Nat}:M.set u v a b=true↔M a b=true\/(a=u/\b=v):=by
 unfold OM.Tb.set
 by_cases c:a=u/\b=v
 ·simp[c]
 ·rw[OP c];exact⟨.inl,λh=>h.resolve_right c⟩
def L9 (n:Nat)(x:V):(List.replicate n [x]).flatten=(List.range n).map λ_=>x:=by
 rw[List.flatten_replicate_singleton,List.map_const',P7]
section
variable {P:Program}{w:World}{K:Frag}{mg:@FS}{base:Heap}
def Dh (K:Frag):Sp:=λvs H Q _=>∃(n:Nat) (a:Addr) (xs:List V) (ps:List (Int×Int)),vs= [.int n,.ref a]/\1<=n/\n<=8/\(iF K H a xs\/fN K H a xs)/\bw K H xs ps/\OM.Wn n ps/\
 ∀H' t ws,aw H H'->H t=none->H' t=some (.tup ws)->bw K H' ws (OM.c9 n (OM.Tr (OM.Mem ps)))->Q (.ref t) H'
def h9:aF ["many","pairs","corners","leads","a","b","middle"] ["many","pairs"] (ao oq):=@AC
def KW:(["start","many"]:@IN).Nodup:=@FM
def Kk:(["a","b","leads"]:@IN).Nodup:=@FM
set_option maxHeartbeats 1000000 in
theorem BX {f g:Addr}{fd gd:FuncData}(F:Fn K mg "closed" oq ["many","pairs"] f fd)(G:Fn K mg "every_pair" lu ["many"] g gd)(GE:fM P w K mg base IE 1 g gd ["many"] (zL K))(B:Bt mg):fM P w K mg base IE 2 f fd ["many","pairs"] (Dh K):=by
 refine F.F.ok h9 (λvs H Q E h=>?_) (λcdv A outer s H vs Q E hr h=>?_)
 ·obtain⟨n,a,xs,ps,rfl,_⟩:=h;rfl
 ·obtain⟨n,a,xs,ps,rfl,h1,h8,hq,hp,wn,k⟩:=h
  refine⟨_,jl (rN (i:=2) h9.nd rfl (Or.inl rfl) (nR GE hr rfl G.mg G.F.kp G.b .nil KH (a9 (pv 0) b9)))
   (jl (rN (i:=3) h9.nd rfl (Or.inr rfl) (uX (NB:=["start","many"]) (own:=1) (ixs:=[0]) rfl (o8 (by kernel_rfl)) (mC rfl B.range (a9 (pv 0) b9))
    (λC ex s3 H3 pn=>dE (i:=0) KW rfl (Or.inl rfl) (hf:=Or.inr rfl)) (λC ex s3 H3 pn=>uJ) (λC ex s3 H3 pn=>um Ci (D9 (a9 Au b9)) (pv 1))))
   (jl (uO PassesOwn.never rfl (HY (pv 1)) (rZ rfl (eQ (dE (i:=4) h9.nd rfl (Or.inl rfl)) (eQ (dE (i:=5) h9.nd rfl (Or.inl rfl)) nX)))
    (jE (rG Au (vg (nh i3 (pv 3) (pv 4) @Ch) (pv 5) set_list))))
   (jl (uO PassesOwn.never rfl (mC rfl B.range (a9 (pv 0) b9)) (dE (i:=6) h9.nd rfl (Or.inl rfl))
    (jE (uO PassesOwn.never rfl (zV (pv 2)) (rZ rfl (eQ (dE (i:=4) h9.nd rfl (Or.inl rfl)) (eQ (dE (i:=5) h9.nd rfl (Or.inl rfl)) nX)))
     (jE (HU (PW.pt (Cv (zv (nh i3 (nh i3 (pv 3) (pv 4) @Ch) (pv 6) @Ch)) (AD (zv (nh i3 (nh i3 (pv 3) (pv 6) @Ch) (pv 5) @Ch)))))
      (jE (rG Au (vg (nh i3 (pv 3) (pv 4) @Ch) (pv 5) set_list))) AJ)))))
   (jE (oD (kC bJ rfl B.tuple (@FM) (a9 (uX (NB:=["a","b","leads"]) (own:=2) (ixs:=[3]) rfl (o8 (by kernel_rfl)) (zV (pv 2))
    (λC ex s3 H3 pn=>JA K 0 1 Kk rfl rfl rfl rfl rfl rfl)
    (λC ex s3 H3 pn=>zX (zv (nh (Ol K) (nh (Ol K) (pv 2) (pv 0) @Ch) (pv 1) @Ch))) (λC ex s3 H3 pn=>yU (a9 (pv 0) (a9 (pv 1) b9)))) b9))))))),?_⟩
  have hn:=N7 h8
  have hn0:(0:Int)<=(n:Int):=@AT
  refine⟨_,rfl,n,rfl,h1,h8,λH1 c ws s1 hc0 hc hw=>?_⟩
  have hwl:ws.length=n * n:=by rw[hw.len,dF]
  have gw:OM.Wn n (OM.bP n):=λp hp=>OM.aZ.mp hp
  refine yY ?_
  refine⟨_,rfl,n,rfl,@AT,@AT,λD hD=>?_⟩
  rw[Pk]
  refine xH (λi σ' H'=>(∃v,σ'= [v,some (.int n)])/\aw H1 H'/\∃r:Nat->Addr,H' D=some (.lst ((List.range i).map λk=>V.ref (r k)))/\
   (∀k,k < i->H' (r k)=some (.lst ((List.range n).map λ_=>V.bl false))/\H1 (r k)=none/\r k≠D)/\∀j k,j < i->k < i->r j=r k->j=k)
   ?_ ?_ ?_
  ·exact⟨⟨none,rfl⟩,(aw.refl H1).put hD (Ho hD),λ_=>0,aB,λk hk=>absurd hk (QV _),λj k hj=>absurd hj (QV _)⟩
  ·rintro i σ' H' hi ⟨⟨v,rfl⟩,s2,r,hr0,hr1,hr2⟩
   refine xk ⟨by show 1<=sizeLine;rw[Pq];omega,λp hp0=>⟨_,rfl,p,n,[.bl false],rfl,rfl,aB,@AT,@AT,by show 1 * (n:Int).toNat<=sizeLine;rw[Pq];omega,λq hq0=>?_⟩⟩
   have hqp:q≠p:=by intro e;subst e;rw[aB] at hq0;cases hq0
   have hq1:H' q=none:=by rw[ay hqp] at hq0;exact hq0
   have hDp:D≠p:=aN hr0 hp0
   have hDq:D≠q:=aN hr0 hq1
   rw[Pk,L9]
   refine⟨_,by rw[ay hDq,ay hDp];exact hr0,by rw[OH,P7,Pq];omega,⟨_,rfl⟩,((s2.put (s2.free hp0) (Ho hp0)).put (s2.free hq1) (Ho hq0)).put hD (KJ (by rw[ay hDq,ay hDp];exact hr0)),λk=>if k=i then q else r k,?_,λk hk=>?_,λj k hj hk e=>?_⟩
   ·have e:(List.range i).map (λk=>V.ref (r k))=(List.range i).map (λk=>V.ref (if k=i then q else r k)):=Qe λk hk=>by
     have:=Pp.mp hk
     rw[OP (@AT)]
    rw[aB,List.range_succ,Pn,e]
    simp
   ·dsimp only
    by_cases e:k=i
    ·rw[OG e]
     exact⟨by rw[ay hDq.symm,aB],s2.free hq1,hDq.symm⟩
    ·rw[OP e]
     obtain⟨a1,a2,a3⟩:=hr1 k (@AT)
     exact⟨by rw[ay a3,ay (aN a1 hq1),ay (aN a1 hp0)];exact a1,a2,a3⟩
   ·dsimp only at e
    by_cases ej:j=i
    ·by_cases ek:k=i
     ·omega
     ·rw[OG ej,OP ek] at e
      exact absurd e.symm (aN (hr1 k (@AT)).1 hq1)
    ·by_cases ek:k=i
     ·rw[OP ej,OG ek] at e
      exact absurd e (aN (hr1 j (@AT)).1 hq1)
     ·rw[OP ej,OP ek] at e
      exact hr2 j k (@AT) (@AT) e
  rintro σ2 H2 ⟨_,s2,r,hr0,hr1,hr2⟩
  refine⟨⟨_,hr0⟩,?_⟩
  have sep:∀i,i < n->H1 (r i)=none:=λi hi=>(hr1 i hi).2.1
  have T0:TabAt n (λ_ _=>false) D r H2:=⟨hr0,λi hi=>(hr1 i hi).1,hr2,λi hi=>(hr1 i hi).2.2⟩
  refine⟨_,rfl,a,xs,rfl,GI (H1:=H1) (GX s1 hq) (λi σ' H'=>(∃x y,σ'= [some (.int n),some (.ref a),some (.ref c),some (.ref D),x,y,none])/\aw H1 H'/\∃M,TabAt n M D r H'/\∀u v:Nat,M u v=true↔((u:Int),(v:Int))∈ps.take i)
   ⟨⟨none,none,rfl⟩,s2,_,T0,λu v=>by simp⟩ (λi σ' H' q=>q.2.1) ?_ ?_⟩
  ·rintro i x σ' H' hx ⟨⟨_,_,rfl⟩,s3,M,T,hM⟩
   obtain⟨p,hpi,b,rfl,hb⟩:=(hp.same (s1.trans s3)).at hx
   obtain⟨u,v,rfl,hu,hv⟩:=uP wn (O0 hpi)
   refine CN hb ?_
   refine⟨_,rfl,_,rfl,D,_,u,_,rfl,rfl,.inl (.inl T.top),iB hu,_,rfl,r u,_,v,v,rfl,rfl,T.row u hu,tR hv,⟨_,_,rfl⟩,s3.put (sep u hu) (KJ (T.row u hu)),_,T.set hu,λx y=>?_⟩
   rw[take_snoc hpi,<-mL,FT,hM]
  rintro σ3 H3 ⟨⟨x3,y3,rfl⟩,s3,M3,T3,hM3⟩
  rw[hp.len,take_all] at hM3
  refine⟨_,rfl,n,rfl,@AT,@AT,?_⟩
  rw[Pk]
  refine Bs (λm σ' H'=>(∃x y z,σ'= [some (.int n),some (.ref a),some (.ref c),some (.ref D),x,y,z])/\aw H1 H'/\∃M,TabAt n M D r H'/\OM.Tab n ps M/\OM.GQ M m)
   ⟨⟨_,_,_,rfl⟩,s3,M3,T3,⟨λa b h=>by have:=wn _ ((hM3 a b).mp h);simp only at this;omega,λa b h=>(hM3 a b).mpr h,λa b h=>.one ((hM3 a b).mp h)⟩,λk a b hk=>absurd hk (QV _)⟩ ?_ ?_
  ·rintro m σ' H' hm ⟨⟨_,_,_,rfl⟩,s4,M,T,TT,Th⟩
   rw[Qp]
   refine⟨_,rfl,c,rfl,⟨ws,.inl (.inl (s4 _ _ hc))⟩,wx (xs:=ws) (λi σ' H'=>(∃x y,σ'= [some (.int n),some (.ref a),some (.ref c),some (.ref D),x,y,some (.int m)])/\aw H1 H'/\∃M',TabAt n M' D r H'/\OM.Phase M M' m λu v=>((u:Int),(v:Int))∈(OM.bP n).take i)
    ⟨⟨_,_,rfl⟩,s4,M,T,jM (OM.Phase.start M m) λa b=>by simp⟩ (λi σ' H' _ q=>.inl (.inl (q.2.1 _ _ hc))) ?_ ?_⟩
   ·rintro i x σ' H' hx ⟨⟨_,_,rfl⟩,s5,M',T',Ph⟩
    obtain⟨p,hpi,b,rfl,hb⟩:=(hw.same s5).at hx
    obtain⟨u,v,rfl,hu,hv⟩:=uP gw (O0 hpi)
    refine CN hb ?_
    have st:=Ph.step u v
    refine⟨_,rfl,_,rfl,D,_,u,_,rfl,rfl,.inl (.inl T'.top),iB hu,_,rfl,r u,_,m,_,rfl,rfl,.inl (.inl (T'.row u hu)),iB hm,_,rfl,?_⟩
    by_cases c1:M' u m=true
    ·refine NM c1 ?_
     refine⟨_,rfl,_,rfl,D,_,m,_,rfl,rfl,.inl (.inl T'.top),iB hm,_,rfl,r m,_,v,_,rfl,rfl,.inl (.inl (T'.row m hm)),iB hv,_,rfl,?_⟩
     by_cases c2:M' m v=true
     ·refine NM c2 ?_
      rw[OG ⟨c1,c2⟩] at st
      refine⟨_,rfl,_,rfl,D,_,u,_,rfl,rfl,.inl (.inl T'.top),iB hu,_,rfl,r u,_,v,v,rfl,rfl,T'.row u hu,tR hv,⟨_,_,rfl⟩,s5.put (sep u hu) (KJ (T'.row u hu)),_,T'.set hu,jM st λa b=>?_⟩
      rw[take_snoc hpi];exact mL
     ·refine M9 c2 ?_
      rw[OP λz=>c2 z.2] at st
      refine⟨⟨_,_,rfl⟩,s5,_,T',jM st λa b=>?_⟩
      rw[take_snoc hpi];exact mL
    ·refine M9 c1 ?_
     rw[OP λz=>c1 z.1] at st
     refine pX ⟨⟨_,_,rfl⟩,s5,_,T',jM st λa b=>?_⟩
     rw[take_snoc hpi];exact mL
   ·rintro σ' H' ⟨⟨_,_,rfl⟩,s5,M',T',Ph⟩
    rw[hw.len,take_all] at Ph
    have dn:=Ph.done (n:=n) (λa b ha hb=>OM.aZ.mpr ⟨⟨by simp,by simp;omega⟩,by simp,by simp;omega⟩) TT.inn Th
    exact⟨⟨_,_,_,rfl⟩,s5,M',T',TT.phase Ph,dn.1⟩
  rintro σ4 H4 ⟨⟨x4,y4,z4,rfl⟩,s4,M,T,TT,Th⟩
  refine yY ⟨_,rfl,c,rfl,⟨ws,.inl (.inl (s4 _ _ hc))⟩,λD' hD'=>Fm (xs:=ws) (λi σ' H'=>(∃x y,σ'= [x,y,some (.ref D)])/\aw H4 H'/\∃vs,H' D'=some (.lst vs)/\bw K H' vs (((OM.bP n).take i).filter λp=>M p.1.toNat p.2.toNat))
   ⟨⟨_,_,rfl⟩,(aw.refl H4).put hD' (Ho hD'),[],aB,.nil⟩ (λi σ' H' _ q=>.inl (.inl (q.2.1 _ _ (s4 _ _ hc)))) ?_ ?_⟩
  ·rintro i x σ' H' hx ⟨⟨_,_,rfl⟩,s5,vs,hv,hpv⟩
   obtain⟨p,hpi,b,rfl,hb⟩:=(hw.same (s4.trans s5)).at hx
   obtain⟨u,v,rfl,hu,hv'⟩:=uP gw (O0 hpi)
   refine CN hb ?_
   have T':=T.same s5
   refine⟨_,rfl,_,rfl,D,_,u,_,rfl,rfl,.inl (.inl T'.top),iB hu,_,rfl,r u,_,v,_,rfl,rfl,.inl (.inl (T'.row u hu)),iB hv',_,rfl,?_⟩
   by_cases c1:M u v=true
   ·refine NM c1 ?_
    refine⟨_,rfl,_,rfl,by show 2<=sizeLine;rw[Pq];omega,λp hp0=>?_⟩
    have hpD:D'≠p:=aN hv hp0
    refine⟨vs,by rw[ay hpD];exact hv,?_,⟨_,_,rfl⟩,(s5.put (s5.free hp0) (Ho hp0)).put hD' (KJ (by rw[ay hpD];exact hv)),_,aB,?_⟩
    ·rw[hpv.len]
     refine Nat.lt_of_le_of_lt (Pu ..) ?_
     rw[PH,dF,Pq];omega
    ·rw[take_snoc hpi,List.filter_append,QR (by simpa using c1),List.filter_nil]
     have g1:jn H' (upd H' p (.tup [.int u,.int v])):=jn.new hp0
     have g2:∀o,jn (upd H' p (.tup [.int u,.int v])) (upd (upd H' p (.tup [.int u,.int v])) D' o):=λo=>jn.list (by rw[ay hpD];exact hv)
     refine bw.snoc ?_ (hpv.grow (g1.trans (g2 _)))
     exact fN.grow (.inl (.inl aB)) (g2 _)
   ·refine M9 c1 ?_
    refine⟨⟨_,_,rfl⟩,s5,vs,hv,?_⟩
    rw[take_snoc hpi,List.filter_append,QS (by simpa using c1),List.filter_nil,Qs]
    exact hpv
  ·rintro σ' H' ⟨_,s5,vs,hv,hpv⟩
   rw[hw.len,take_all] at hpv
   refine⟨⟨_,hv⟩,D',vs,rfl,.inl ⟨.inl (.inl hv),λt ht=>?_⟩⟩
   have sA:aw H H':=(s1.trans s4).trans s5
   refine k _ t vs (sA.put (sA.free ht) (Ho ht)) (sA.free ht) aB ?_
   have e:((OM.bP n).filter λp=>M p.1.toNat p.2.toNat)=OM.c9 n (OM.Tr (OM.Mem ps)):=by
    unfold OM.c9
    refine QX λp hp=>?_
    obtain⟨u,v,rfl,hu,hv⟩:=uP gw hp
    have:=TT.all wn Th u v
    simp only[Pk]
    rw[PM,this]
    simp
   rw[e] at hpv
   exact hpv.grow (jn.new ht)
end
end RO
namespace RO
open PySem L2 RM
section
variable {P:Program}{w:World}{K:Frag}{mg:@FS}{base:Heap}{ca:Str->Addr}
def Ov {k:Nat}{f:Addr}{fd:FuncData}{ps:@IN}{sp:Sp}(F:fM P w K mg base IE k f fd ps sp):fM P w K mg base (o6 P w) k f fd ps sp:=
 ⟨F.len,λA outer s H args us vs Q E hr he hb hv hs=>Rg (F.run A outer s H args us vs Q E hr he hb hv hs) λr s' h=>by
  cases r with
  |ok x=>cases x <;> exact h
  |error e=>exact h.elim⟩
def yD {G H:Hp}(s:aw G H){ws:List V}{ps:@A_}(h:bw K H ws ps):bw K (fP G H) ws ps:=Paired.mapP h λv p ⟨a,e,q⟩=>⟨a,e,nV s q⟩
def sg {ds:List D}(h:dW ds≠.bad):∃(n:Nat) (d:D) (ps:@A_),ds= [.int n,d]/\lV d=some (ps.map ax)/\1<=n/\n<=8/\OM.Wn n ps/\dW ds=.ok (.tuple ((OM.c9 n (OM.Tr (OM.Mem ps))).map ax)) false:=by
 unfold dW at h
 split at h
 ·rename_i n d
  cases q:lV d with
  |none=>rw[q] at h;exact absurd rfl h
  |some es=>
   rw[q] at h
   dsimp only at h
   cases q2:jw es with
   |none=>rw[q2] at h;exact absurd rfl h
   |some ps=>
    rw[q2] at h
    dsimp only at h
    by_cases c:1<=n/\n<=8/\OM.Wn n.toNat ps
    ·have e:((n.toNat:Nat):Int)=n:=@AT
     refine⟨n.toNat,d,ps,by rw[e],by rw[q,mV q2],@AT,@AT,c.2.2,?_⟩
     unfold dW
     dsimp only
     rw[q]
     dsimp only
     rw[q2]
     dsimp only
     rw[OG c]
    ·rw[OP c] at h;exact absurd rfl h
 ·exact absurd rfl h
def zk {f g:Addr}{fd gd:FuncData}(F:gr K mg "closed" oq ["many","pairs"] f fd)(E:gr K mg "every_pair" lu ["many"] g gd)(B:gR mg):bZ P w K mg base ca "closed" ["many","pairs"] 3 dW:=by
 refine⟨⟨f,fd,F.mg,F.F.kp,F.b,((Ov (BX F E (CB E B) B)).mono @F_).imp ?_⟩,λds h=>?_⟩
 ·rintro vs H Q X ⟨G,ds,s,hl,r,h⟩
  have hb:dW ds≠.bad:=λz=>by rw[z] at h;exact h
  obtain⟨n,d,ps,rfl,hd,h1,h8,wn,e⟩:=sg hb
  rw[e] at h
  cases r with
  |cons r1 r=>
   cases r with
   |cons r2 r=>
    cases r
    cases r1
    obtain⟨a,xs,rfl,hq,hr⟩:=(m6.seq (B:=none) (G:=G) (H:=G) (.inl r2) hd (aw.refl _))
    refine⟨n,a,xs,ps,rfl,h1,h8,hq.elim (λq=>.inl (s.seq q)) (λq=>.inr (q.grow s.grow)),(hr.pairs).grow s.grow,wn,λH' t ws hh ht ht' hp=>?_⟩
    have s2:=s.trans hh
    refine h (.ref t) (fP G H') H' hh mT (jt s2) (λb m hb=>by rw[qe hh m];exact hb) ?_
    exact .tup (nV s2 (.inl (.inl ht'))) (bw.rps (yD s2 hp))
 ·obtain⟨n,d,ps,rfl,_⟩:=sg h
  rfl
end
end RO
namespace HD
open PySem PySem.W
noncomputable abbrev C2:=@PySem.W.Fast.tw10156331382660048174
noncomputable abbrev J8:=@PySem.W.Fast.tw11892475500146522536
noncomputable abbrev Nu:=@PySem.W.Fast.tw6613529449190102663
noncomputable abbrev J9:=@PySem.W.Fast.tw14364793385576792824
noncomputable abbrev Hw:=@PySem.W.Fast.tw17154629097778926822
noncomputable abbrev C3:=@PySem.W.Fast.tw12822647523644345616
noncomputable def CZ (p:Program):Thread:=
 ⟨do
  let code <-Hw p.main
  let frame <-C3 code mainNs mainNs
  let _ <-run (.body (behindTheImports p) {scope:=p.main.scope,locals:=mainNs,globals:=mainNs,cells:=[],code,frame:=some frame})
  ret .none,
  .builtin "claim.caller" {},default,[]⟩
def DC (p:Program):topStub p=CZ p:=by
 unfold topStub CZ Hw C3
 rw[<-PySem.W.Fast.te17154629097778926822,<-PySem.W.Fast.te12822647523644345616]
noncomputable def p6 (p:Program)(w:World)(n₀:Nat)(ann:Option Value):Nat->SharedT->Thread->Option SharedT
 | 0,_,_=>none
 |n + 1,s,t=>match through t with
  |true=>some s
  |false=>match Nu n₀ ann t with
   |false=>none
   |true=>match C2 (J8 J9) p w s t with
    |some (s',t')=>p6 p w n₀ ann n s' t'
    |none=>none
theorem tL {p:Program}{w:World}{n₀:Nat}{ann:Option Value}:∀{n:Nat} {s s':SharedT} {t:Thread},p6 p w n₀ ann n s t=some s'->topRun treeTable p w n₀ ann n s.abs t=some s'.abs
 | 0,_,_,_,h=>by cases h
 |n + 1,s,s',t,h=>by
  unfold p6 at h
  unfold topRun
  cases ht:through t with
  |true=>rw[ht] at h;cases h;rfl
  |false=>
   rw[ht] at h
   have hq:Nu n₀ ann t=stepOk n₀ ann t:=by unfold Nu;rw[<-PySem.W.Fast.te6613529449190102663]
   dsimp only at h
   rw[hq] at h
   cases hk:stepOk n₀ ann t with
   |false=>rw[hk] at h;cases h
   |true=>
    rw[hk] at h
    have hq:C2 (J8 J9) p w s t=stepT (denote treeTable) p w s t:=by unfold C2 J8 J9;rw[<-PySem.W.Fast.te10156331382660048174,<-PySem.W.Fast.te11892475500146522536,<-PySem.W.Fast.te14364793385576792824]
    dsimp only at h
    rw[hq] at h
    cases hs:stepT (denote treeTable) p w s t with
    |none=>rw[hs] at h;cases h
    |some r=>obtain⟨s₂,t₂⟩:=r;rw[hs] at h;rw[stepT_spec hs];exact tL h
def treeOf (l:List Obj):BT:=(l.foldl (λ(x:BT×Nat) o=>(x.1.ins x.2 o,x.2 + 1)) (.nil,0)).1
noncomputable def Cy (P:Params):BT:=treeOf (boot_heap P).objs.toList
abbrev xV:Nat:=11
abbrev Dp:Life:={}
def boot_abs (P:Params):absHeap (Cy P) xV Dp=boot_heap P:=by kernel_rfl
def B5 (w:World):((boot_heap w.params).isNs mainGlobals && (Array.mk ([]:List GenState)).size == 0,(boot_heap w.params).objs.size,(boot_heap w.params).nsMap mainGlobals "__annotations__")=(true,xV,some (.ref 6)):=by kernel_rfl
noncomputable def DW (w:World)(os:OsState):SharedT:=⟨Cy w.params,xV,Dp,Array.mk [],boot_drawn,boot_toks,os⟩
noncomputable def HN (p:Program)(w:World)(s:Shared):Bool:=staticsOk (importedModules p.main.body) (boot_heap w.params) s.heap && namesBound p s.heap && gensDone s && laidKept (boot_heap w.params) s.heap
def Fd {p q:Program}{loose:@IN}{Xt:Shared->Bool}{α:Type}{Yf:Shared->α}{Ya:World->α}{N:Nat}{g0:Bool}
  (e:opening p=plainProg p.main.scope.names) (hN:Nat.ble 600 N=true) (f:∀s,fenceModules? p s=some s)
  (run:∀(w:World) (os:OsState),(p6 p w xV (some (.ref 6)) N (DW w os) (CZ p)).map (λs=>(HN p w s.abs,openSeen q loose (importedModules p.main.body) Xt g0 s.abs,Yf s.abs))=some (true,openGood q loose,Ya w)):LeftO p q loose Xt Yf Ya N g0:=λw=>by
 obtain⟨⟨h,gs,d,k,os⟩,e,e'⟩:=Option.map_eq_some_iff.mp (boot_open e hN f w)
 obtain⟨rfl,rfl,rfl,rfl⟩:h=boot_heap w.params/\gs=Array.mk []/\d=boot_drawn/\k=boot_toks:=by simpa using e'
 obtain⟨z1,z2,z3⟩:_/\_/\_:=by simpa only [Prod.mk.injEq] using B5 w
 obtain⟨s',r,ls⟩:=Option.map_eq_some_iff.mp (run w os)
 obtain⟨l1,l2,l3⟩:_/\_/\_:=by simpa only [Prod.mk.injEq] using ls
 have r:=tL r
 have ha:(DW w os).abs=⟨boot_heap w.params,Array.mk [],boot_drawn,boot_toks,os⟩:=by
  show Shared.mk (absHeap (Cy w.params) xV Dp) _ _ _ _=_
  rw[boot_abs]
  rfl
 rw[ha,<-DC] at r
 have t:topFrom treeTable p w N ⟨boot_heap w.params,Array.mk [],boot_drawn,boot_toks,os⟩=some s'.abs:=by
  unfold topFrom
  dsimp only
  rw[z1,z2,z3,r]
  show (match HN p w s'.abs with |true=>_ |false=>_)=_
  rw[l1]
 unfold openEnds
 rw[e]
 show (topFrom treeTable p w N _).map _=_
 rw[t]
 exact congrArg some (Prod.ext l2 l3)
end HD
section
namespace RO
open PySem L2 RM
def JO {T:Addr}{K:Frag}{ca:Str->Addr}(vs:List V)(H:Hp)(Q:VK)(E:XK)(h:vt T K vs H Q E):spT T K ca 1 Jj vs H Q E:=by
 obtain⟨a,ns,rfl,hT,hS,q⟩:=h
 refine⟨H,[eN ns],NX hT,aw.refl _,rfl,.cons (.scr hS) .nil,?_⟩
 rw[Mq]
 intro v G' H' s1 s2 s3 s4 fv
 have fv:Rp K G' v (.bool true):=fv
 cases fv
 exact q H' s1
def yE:aQ "is_whole" RQ.lM ["thing"]:=λ_ _ _ _ _ _=>Ax λ_=>rfl
def yP:aQ "is_below" RQ.kY ["thing","bound"]:=@Fr
def A1:aQ "is_many" RQ.mJ ["thing"]:=λ_ _ _ _ _ _=>Ax λ_=>rfl
def Bo:aQ "is_pair" RQ.mQ ["thing","many"]:=@Fr
def Bi:aQ "is_line" RQ.mG ["thing","many"]:=@Fr
def uK:aQ "every_pair" RQ.fU ["many"]:=λ_ _ _ _ _ _=>Ax λ_=>rfl
def DX:aQ "closed" oq ["many","pairs"]:=@Fr
def zg:aQ "has_ring" RQ.lr ["pairs"]:=λ_ _ _ _ _ _=>Ax λ_=>rfl
def za:aQ "is_order" RQ.lC ["thing"]:=λ_ _ _ _ _ _=>Ax λ_=>rfl
def vM:aQ "need_order" RQ.i4 ["thing"]:=λ_ _ _ _ _ _=>Ax λ_=>rfl
def kT:aQ "need_order_and_thing" RQ.cw ["order","thing"]:=@Fr
def xi:aQ "are_apart" RQ.jN ["order","a","b"]:=λ_ _ _ _ _ _=>HQ λ_ _ _=>rfl
def CL:aQ "places" RQ.n8 ["row"]:=λ_ _ _ _ _ _=>Ax λ_=>rfl
def sP:aQ "keeps_order" RQ.gZ ["thing","order"]:=@Fr
def vf:aQ "with_thing" RQ.iX ["placed","thing"]:=@Fr
def tv:aQ "masks_ahead" RQ.g8 ["order"]:=λ_ _ _ _ _ _=>Ax λ_=>rfl
def sC:aQ "free_things" RQ.gM ["masks","placed"]:=@Fr
def xx:aQ "row_along" RQ.jz ["masks","late"]:=@Fr
def qH:aQ "stands_ahead" RQ.fO ["tables","a","b"]:=λ_ _ _ _ _ _=>HQ λ_ _ _=>rfl
def rM:aQ "shared_pairs" RQ.gk ["many","rows"]:=@Fr
def yO:aQ "are_rows" RQ.lD ["thing","order"]:=@Fr
def IH:aQ "tell" RQ.vR ["thing","order"]:=@Fr
def xR:aQ "need_both" RQ.jU ["one","other"]:=@Fr
def xA:aQ "need_room" RQ.jD ["many"]:=λ_ _ _ _ _ _=>Ax λ_=>rfl
def sR:aQ "need_joined" RQ.hX ["one","other"]:=@Fr
def q8:aQ "raised_pairs" RQ.gp ["order","step"]:=@Fr
def we:aQ "behind_of" RQ.jO ["one","other"]:=@Fr
def wb:aQ "beside_of" RQ.jA ["one","other"]:=@Fr
def G8:aQ "moved" RQ.qm ["old","thing","step"]:=λ_ _ _ _ _ _=>HQ λ_ _ _=>rfl
def Bx:aQ "without" RQ.mW ["order","thing"]:=@Fr
def GH:aQ "turns" RQ.qu ["order"]:=λ_ _ _ _ _ _=>Ax λ_=>rfl
def ze:aQ "is_sharp" RQ.k7 ["order","a","b"]:=λ_ _ _ _ _ _=>HQ λ_ _ _=>rfl
def sF:aQ "sharp_turns" RQ.gQ ["order"]:=λ_ _ _ _ _ _=>Ax λ_=>rfl
def ye:aQ "leads_on" RQ.kS ["order","turn","other"]:=λ_ _ _ _ _ _=>HQ λ_ _ _=>rfl
def yV:aQ "is_ahead" RQ.ly ["masks","a","b"]:=λ_ _ _ _ _ _=>HQ λ_ _ _=>rfl
def wH:aQ "is_turned" RQ.jT ["masks","turn"]:=@Fr
def wu:aQ "is_barred" RQ.jQ ["masks","turn"]:=@Fr
def yJ:aQ "put_turn" RQ.kW ["masks","turn"]:=@Fr
def wW:aQ "ring_with" RQ.jL ["order","put","turn"]:=λ_ _ _ _ _ _=>HQ λ_ _ _=>rfl
def B3:aQ "case_of" RQ.mH ["order","left","rows","number","turn"]:=λ_ _ _ _ _ _=>Oy λ_ _ _ _ _=>rfl
def xt:aQ "free_rows" RQ.jS ["rows","turn"]:=@Fr
def zl:aQ "cases_on" RQ.lA ["order","left","rows"]:=λ_ _ _ _ _ _=>HQ λ_ _ _=>rfl
def Fy:aQ "cases" RQ.pZ ["order","count"]:=@Fr
def tj:aQ "fewest_rows" RQ.hJ ["order"]:=λ_ _ _ _ _ _=>Ax λ_=>rfl
def Ea:aQ "fewest" RQ.om ["order"]:=λ_ _ _ _ _ _=>Ax λ_=>rfl
def ym:aQ "_law_box" RQ.kQ ["script","k"]:=@Fr
def v5:aQ "_law_take" RQ.jR ["box","many"]:=@Fr
def pU:aQ "_law_shuffled" RQ.eS ["box","some"]:=@Fr
def wR:aQ "_law_told" RQ.jF ["many","rows"]:=@Fr
def vK:aQ "_law_order" RQ.iW ["box","most"]:=@Fr
def all_mk {T c0:Addr}{l:PySem.W.OpenLaw}{w:World}{K:Frag}{h:Heap}{mg:@FS}{fa f51:Addr}(X:K.In h)(G:h.Ns mainGlobals mg)(hfa:mg "law"=some (.ref fa))
  {od51 an51:@Is} {sl51:Array (Option Value)} {oc51 kV51 dc51 pm51 cd51 ct51:Value} {tMOST_THINGS:Tok}
  (F1:Fo K mg "is_whole" RQ.lM ["thing"])
  (F2:Fo K mg "is_below" RQ.kY ["thing","bound"])
  (F3:Fo K mg "is_many" RQ.mJ ["thing"])
  (F4:Fo K mg "is_pair" RQ.mQ ["thing","many"])
  (F5:Fo K mg "is_line" RQ.mG ["thing","many"])
  (F6:Fo K mg "every_pair" RQ.fU ["many"])
  (F7:Fo K mg "closed" oq ["many","pairs"])
  (F8:Fo K mg "has_ring" RQ.lr ["pairs"])
  (F9:Fo K mg "is_order" RQ.lC ["thing"])
  (F10:Fo K mg "need_order" RQ.i4 ["thing"])
  (F11:Fo K mg "need_order_and_thing" RQ.cw ["order","thing"])
  (F12:Fo K mg "are_apart" RQ.jN ["order","a","b"])
  (F13:Fo K mg "places" RQ.n8 ["row"])
  (F14:Fo K mg "keeps_order" RQ.gZ ["thing","order"])
  (F15:Fo K mg "with_thing" RQ.iX ["placed","thing"])
  (F16:Fo K mg "masks_ahead" RQ.g8 ["order"])
  (F17:Fo K mg "free_things" RQ.gM ["masks","placed"])
  (F18:Fo K mg "row_along" RQ.jz ["masks","late"])
  (F19:Fo K mg "stands_ahead" RQ.fO ["tables","a","b"])
  (F20:Fo K mg "shared_pairs" RQ.gk ["many","rows"])
  (F21:Fo K mg "are_rows" RQ.lD ["thing","order"])
  (F22:Fo K mg "tell" RQ.vR ["thing","order"])
  (F23:Fo K mg "need_both" RQ.jU ["one","other"])
  (F24:Fo K mg "need_room" RQ.jD ["many"])
  (F25:Fo K mg "need_joined" RQ.hX ["one","other"])
  (F26:Fo K mg "raised_pairs" RQ.gp ["order","step"])
  (F27:Fo K mg "behind_of" RQ.jO ["one","other"])
  (F28:Fo K mg "beside_of" RQ.jA ["one","other"])
  (F29:Fo K mg "moved" RQ.qm ["old","thing","step"])
  (F30:Fo K mg "without" RQ.mW ["order","thing"])
  (F31:Fo K mg "turns" RQ.qu ["order"])
  (F32:Fo K mg "is_sharp" RQ.k7 ["order","a","b"])
  (F33:Fo K mg "sharp_turns" RQ.gQ ["order"])
  (F34:Fo K mg "leads_on" RQ.kS ["order","turn","other"])
  (F35:Fo K mg "is_ahead" RQ.ly ["masks","a","b"])
  (F36:Fo K mg "is_turned" RQ.jT ["masks","turn"])
  (F37:Fo K mg "is_barred" RQ.jQ ["masks","turn"])
  (F38:Fo K mg "put_turn" RQ.kW ["masks","turn"])
  (F39:Fo K mg "ring_with" RQ.jL ["order","put","turn"])
  (F40:Fo K mg "case_of" RQ.mH ["order","left","rows","number","turn"])
  (F41:Fo K mg "free_rows" RQ.jS ["rows","turn"])
  (F42:Oc K mg "cases_on" RQ.lA ["order","left","rows"] c0)
  (F43:Fo K mg "cases" RQ.pZ ["order","count"])
  (F44:Fo K mg "fewest_rows" RQ.hJ ["order"])
  (F45:Fo K mg "fewest" RQ.om ["order"])
  (F46:Fo K mg "_law_box" RQ.kQ ["script","k"])
  (F47:Fo K mg "_law_take" RQ.jR ["box","many"])
  (F48:Fo K mg "_law_shuffled" RQ.eS ["box","some"])
  (F49:Fo K mg "_law_told" RQ.jF ["many","rows"])
  (F50:Fo K mg "_law_order" RQ.iW ["box","most"])
  (a51:PySem.W.nsIn K mainGlobals "law"=some (some (.ref f51))) (l51:K.lookup f51=some ⟨oc51,od51,.func (PySem.W.fnOf "law" "law" (i5 RQ.ng) (c3 RQ.ng) (ao RQ.ng) .none kV51 dc51 pm51 an51 cd51 ct51),sl51⟩) (c51:PySem.W.codeIn K cd51 "law"=true) (k51:PySem.W.keepIn K (.ref f51)=true)
  (zB:NU K=true)
  (yMOST_THINGS:PySem.W.nsIn K mainGlobals "MOST_THINGS"=some (some (.int 8 tMOST_THINGS)))
  :∃fd:FuncData,(∀(s:Shared) (v:Value),BindsTo s fd ⟨[v],[]⟩ [("script",v)])/\∀base:Heap,K.In base->base.Ns mainGlobals mg->A5 mg base c0 T->fM l.prog w K mg base (o6 l.prog w) 91 fa fd ["script"] (vt T K):=by
 have e:=hfa.symm.trans (PySem.W.mg_of X G a51)
 cases e
 have B:gR mg:=KY X G zB
 have dv:=PySem.W.mg_of X G yMOST_THINGS
 obtain⟨f1,d1,cx⟩:=F1.ex
 obtain⟨f2,d2,bB⟩:=F2.ex
 obtain⟨f3,d3,i9⟩:=F3.ex
 obtain⟨f4,d4,i8⟩:=F4.ex
 obtain⟨f5,d5,i7⟩:=F5.ex
 obtain⟨f6,d6,aV⟩:=F6.ex
 obtain⟨f7,d7,kE⟩:=F7.ex
 obtain⟨f8,d8,gJ⟩:=F8.ex
 obtain⟨f9,d9,gG⟩:=F9.ex
 obtain⟨f10,d10,aI⟩:=F10.ex
 obtain⟨f11,d11,bE⟩:=F11.ex
 obtain⟨f12,d12,fC⟩:=F12.ex
 obtain⟨f13,d13,dH⟩:=F13.ex
 obtain⟨f14,d14,de⟩:=F14.ex
 obtain⟨f15,d15,aK⟩:=F15.ex
 obtain⟨f16,d16,dq⟩:=F16.ex
 obtain⟨f17,d17,df⟩:=F17.ex
 obtain⟨f18,d18,fH⟩:=F18.ex
 obtain⟨f19,d19,cR⟩:=F19.ex
 obtain⟨f20,d20,cT⟩:=F20.ex
 obtain⟨f21,d21,gy⟩:=F21.ex
 obtain⟨f22,d22,o4⟩:=F22.ex
 obtain⟨f23,d23,fG⟩:=F23.ex
 obtain⟨f24,d24,fE⟩:=F24.ex
 obtain⟨f25,d25,bI⟩:=F25.ex
 obtain⟨f26,d26,bC⟩:=F26.ex
 obtain⟨f27,d27,cV⟩:=F27.ex
 obtain⟨f28,d28,dG⟩:=F28.ex
 obtain⟨f29,d29,lh⟩:=F29.ex
 obtain⟨f30,d30,fo⟩:=F30.ex
 obtain⟨f31,d31,mU⟩:=F31.ex
 obtain⟨f32,d32,gA⟩:=F32.ex
 obtain⟨f33,d33,du⟩:=F33.ex
 obtain⟨f34,d34,fj⟩:=F34.ex
 obtain⟨f35,d35,bH⟩:=F35.ex
 obtain⟨f36,d36,fF⟩:=F36.ex
 obtain⟨f37,d37,cc⟩:=F37.ex
 obtain⟨f38,d38,gC⟩:=F38.ex
 obtain⟨f39,d39,fD⟩:=F39.ex
 obtain⟨f40,d40,ja⟩:=F40.ex
 obtain⟨f41,d41,fJ⟩:=F41.ex
 obtain⟨f42,d42,cm,hcode⟩:=F42.ex
 obtain⟨f43,d43,k6⟩:=F43.ex
 obtain⟨f44,d44,bM⟩:=F44.ex
 obtain⟨f45,d45,jd⟩:=F45.ex
 obtain⟨f46,d46,gF⟩:=F46.ex
 obtain⟨f47,d47,aX⟩:=F47.ex
 obtain⟨f48,d48,cn⟩:=F48.ex
 obtain⟨f49,d49,fy⟩:=F49.ex
 obtain⟨f50,d50,dX⟩:=F50.ex
 have U51:=qQ (st:=RQ.ng) l51 c51 k51
 have L6:gr K mg "law" RQ.ng ["script"] fa _:=⟨PySem.W.mg_of X G a51,U51,U51.binds (ps:=["script"]) λ_ _ _ _ _ _=>Ax λ_=>rfl⟩
 obtain⟨ca,hca⟩:∃ca:Str->Addr,True:=⟨λ_=>0,trivial⟩
 refine⟨PySem.W.fnOf "law" "law" (i5 RQ.ng) (c3 RQ.ng) (ao RQ.ng) .none kV51 dc51 pm51 an51 cd51 ct51,λs v=>.of_eq rfl,λbase _ _ LT=>?_⟩
 have gH:=(RQ.uQ (P:=l.prog) (w:=w) (base:=base) (ca:=ca) cx B).imp Gn
 have cL:=(RQ.vS (P:=l.prog) (w:=w) (base:=base) (ca:=ca) bB B gH).imp Hn
 have oZ:=(RQ.xD (P:=l.prog) (w:=w) (base:=base) (ca:=ca) i9 B gH dv).imp Jk
 have o5:=(RQ.wG (P:=l.prog) (w:=w) (base:=base) (ca:=ca) i8 B cL).imp JQ
 have oQ:=RQ.xM (P:=l.prog) (w:=w) (base:=base) (ca:=ca) i7 B cL
 have cq:=RQ.sf (P:=l.prog) (w:=w) (base:=base) (ca:=ca) aV B
 have qy:=zk (P:=l.prog) (w:=w) (base:=base) (ca:=ca) kE aV B
 have nJ:=(RQ.vm (P:=l.prog) (w:=w) (base:=base) (ca:=ca) gJ B).imp Il
 have nv:=(RQ.vT (P:=l.prog) (w:=w) (base:=base) (ca:=ca) gG B oZ o5 qy nJ).imp yc
 have aY:=(RQ.qA (P:=l.prog) (w:=w) (base:=base) (ca:=ca) aI B nv).imp x8
 have c6:=RQ.kb (P:=l.prog) (w:=w) (base:=base) (ca:=ca) bE B aY cL
 have mw:=RQ.td (P:=l.prog) (w:=w) (base:=base) (ca:=ca) fC B
 have kB:=RQ.yq (P:=l.prog) (w:=w) (base:=base) (ca:=ca) dH B
 have j4:=RQ.pR (P:=l.prog) (w:=w) (base:=base) (ca:=ca) de B oQ kB
 have ba:=RQ.qS (P:=l.prog) (w:=w) (base:=base) (ca:=ca) aK B
 have kh:=RQ.pP (P:=l.prog) (w:=w) (base:=base) (ca:=ca) dq B ba
 have kj:=RQ.pQ (P:=l.prog) (w:=w) (base:=base) (ca:=ca) df B ba
 have lY:=RQ.sS (P:=l.prog) (w:=w) (base:=base) (ca:=ca) fH B kj ba
 have jh:=RQ.oM (P:=l.prog) (w:=w) (base:=base) (ca:=ca) cR B
 have ju:=RQ.oO (P:=l.prog) (w:=w) (base:=base) (ca:=ca) cT B kB cq jh
 have nH:=RQ.vC (P:=l.prog) (w:=w) (base:=base) (ca:=ca) gy B j4
 have yG:=RQ.DM (P:=l.prog) (w:=w) (base:=base) (ca:=ca) o4 B aY nH ju
 have ml:=RQ.sY (P:=l.prog) (w:=w) (base:=base) (ca:=ca) fG B aY
 have lX:=RQ.sN (P:=l.prog) (w:=w) (base:=base) (ca:=ca) fE B dv
 have dg:=RQ.pJ (P:=l.prog) (w:=w) (base:=base) (ca:=ca) bI B ml lX
 have cS:=RQ.oJ (P:=l.prog) (w:=w) (base:=base) (ca:=ca) bC B
 have ig:=RQ.sJ (P:=l.prog) (w:=w) (base:=base) (ca:=ca) cV B dg cq cS
 have jY:=RQ.tf (P:=l.prog) (w:=w) (base:=base) (ca:=ca) dG B dg cS
 have p9:=RQ.A9 (P:=l.prog) (w:=w) (base:=base) (ca:=ca) lh B
 have kq:=RQ.xo (P:=l.prog) (w:=w) (base:=base) (ca:=ca) fo B c6 p9
 have vJ:=RQ.BM (P:=l.prog) (w:=w) (base:=base) (ca:=ca) mU B aY cq mw
 have nA:=RQ.uS (P:=l.prog) (w:=w) (base:=base) (ca:=ca) gA B
 have j5:=RQ.pG (P:=l.prog) (w:=w) (base:=base) (ca:=ca) du B vJ nA
 have lL:=RQ.vU (P:=l.prog) (w:=w) (base:=base) (ca:=ca) fj B
 have c8:=RQ.uR (P:=l.prog) (w:=w) (base:=base) (ca:=ca) bH B ba
 have l0:=RQ.tw (P:=l.prog) (w:=w) (base:=base) (ca:=ca) fF B c8
 have fx:=RQ.sU (P:=l.prog) (w:=w) (base:=base) (ca:=ca) cc B c8
 have nE:=RQ.vq (P:=l.prog) (w:=w) (base:=base) (ca:=ca) gC B c8 ba
 have lW:=RQ.sy (P:=l.prog) (w:=w) (base:=base) (ca:=ca) fD B lL
 have mz:=RQ.sv (P:=l.prog) (w:=w) (base:=base) (ca:=ca) fJ B fx
 have jg:=wg (T:=T) (P:=l.prog) (w:=w) (base:=base) (ca:=ca) (j:=7) cm (λk F' hk h=>RQ.uB (@AT) cm B hcode LT (RQ.wX (@AT) ja B h fx lW nE) l0 lY mz) 40
 have qt:=RQ.Bd (P:=l.prog) (w:=w) (base:=base) (ca:=ca) k6 B kh jg j5
 have dh:=RQ.pV (P:=l.prog) (w:=w) (base:=base) (ca:=ca) bM B aY qt
 have n0:=RQ.zo (P:=l.prog) (w:=w) (base:=base) (ca:=ca) jd B dh
 have nr:=RQ.vL (P:=l.prog) (w:=w) (base:=base) (ca:=ca) gF B
 have cf:=RQ.sQ (P:=l.prog) (w:=w) (base:=base) aX B
 have eR:=RQ.ox (P:=l.prog) (w:=w) (base:=base) cn B cf
 have mi:=RQ.sV (P:=l.prog) (w:=w) (base:=base) (ca:=ca) fy B
 have kR:=RQ.qG (P:=l.prog) (w:=w) (base:=base) (ca:=ca) dX B mi cf eR
 have Mh:=RQ.Hh (P:=l.prog) (w:=w) (base:=base) (ca:=ca) L6 B nr ig jY kq n0 dh yG kR cf
 exact fM.imp (sp:=spT T K ca 1 Jj) Mh JO
def walk {l:PySem.W.OpenLaw}{q:Program}{loose:@IN}{XP:(@FS)->Heap->Prop}{YP:World->Heap->Prop}{d:DefRec}{K:Params->Frag}(hn:l.most=some 63)(hdf:d.params.defaults= [])(hi:PyProof.Rows.importsNone q=true)
  {T c:Addr} (hY:∀(w:World) (h:Heap),YP w h->(K w.params).In h) (hYT:∀(w:World) (h:Heap),YP w h->h.get? T=some (PySem.W.tabObj #[])) (hKT:∀p,(K p).lookup T=none) (hcd:∀p,PySem.W.codeHdIn (K p) c T=true)
  (F:∀(w:World) (mg:@FS) (fa:Addr) (h:Heap),(K w.params).In h->h.Ns mainGlobals mg->mg d.name=some (.ref fa)->
   ∃fd:FuncData,(∀(s:Shared) (u:Value),BindsTo s fd ⟨[u],[]⟩ [("script",u)])/\∀base:Heap,(K w.params).In base->base.Ns mainGlobals mg->A5 mg base c T->fM l.prog w (K w.params) mg base (o6 l.prog w) 91 fa fd ["script"] (vt T (K w.params))) :
  PySem.W.WalkO q loose XP YP l.row.toRowW d [] (λf vs=>PySem.call f vs):=
 L2.D4 (n:=63) (k:=91) hn @F_ hdf hi ⟨rfl,by decide,by decide,rfl⟩ hY hYT hKT hcd F
end RO
namespace HD
noncomputable def vw:PySem.Program:=PySem.W.view PySem.Challenge.pw_rowsorder_k66_whole_without_a_thing [1,2,3,4,5,6,7,9,10,11,12,13,15,16,17,18,19,20,22,23,24,25,26,27,28,29,30,31,33,34,35,36,37,38,39,40,42,43,44,45,46,47,48,49,50,52,53,54,55,56,57,59,60,61,62,63,64]
def Lx:PySem.Challenge.rw_rowsorder_k66_whole_without_a_thing.wellSaid=true:=by kernel_rfl
end HD
local macro_rules | `(tactic|o_head $H)=>`(tactic| (
 refine PySem.W.holds_open (q:=HD.vw) (loose:=[]) (Xt:=λs=>PySem.W.xlAt HD.vw [] s && PySem.W.recOk (PySem.W.RowW.records _) s) (XP:=PySem.W.XL HD.vw []) (Yf:=PySem.W.Hook.obs $H) (Ya:=PySem.W.Hook.val $H) (YP:=PySem.W.Hook.says $H) (N:=5282) ?hl (PySem.W.Hook.of $H) (PySem.W.Hook.keeps $H) (λs e=>PySem.W.xl_of s (Bool.and_eq_true_iff.mp e).1) PySem.W.XL.keeps (by rfl) (by rfl) (by rfl) (λs e=>PySem.W.recFacts_of (Bool.and_eq_true_iff.mp e).2) (by rfl) (by first |assumption |decide +kernel) (@FM) ⟨rfl,rfl,rfl,rfl,rfl,@FM ⟩ ?hw ?hc
 case hl=>exact HD.Fd (by kernel_rfl) (by kernel_rfl) (λs=>by kernel_rfl) (λw os=>by kernel_rfl)))
open PySem PySem.W PyProof.Rows L2
set_option maxRecDepth 100000 in
set_option maxHeartbeats 0 in
theorem PySem.Challenge.cw_rowsorder_k66_whole_without_a_thing_holds : PySem.Challenge.rw_rowsorder_k66_whole_without_a_thing.Holds := by
 w_on;(refine holds_law HD.Lx λLx=>?_);k_head;(case hw=>w_witness2)
 k_fill
 refine RO.walk (l:=PySem.Challenge.rw_rowsorder_k66_whole_without_a_thing) (c:=337) (T:=335) rfl rfl ?hi (λw h Y=>PySem.W.km_in_of Y) (λw h Y=>PySem.W.km_tabs_of Y _ (ON ..)) ?hKT ?hcd ?F
 case hi=>kernel_rfl
 case hKT=>exact λp=>by kernel_rfl
 case hcd=>exact λp=>by kernel_rfl
 case F=>
  intro w mg fa h KX G hmg
  refine' RO.all_mk KX G hmg ?F1 ?F2 ?F3 ?F4 ?F5 ?F6 ?F7 ?F8 ?F9 ?F10 ?F11 ?F12 ?F13 ?F14 ?F15 ?F16 ?F17 ?F18 ?F19 ?F20 ?F21 ?F22 ?F23 ?F24 ?F25 ?F26 ?F27 ?F28 ?F29 ?F30 ?F31 ?F32 ?F33 ?F34 ?F35 ?F36 ?F37 ?F38 ?F39 ?F40 ?F41 ?F42 ?F43 ?F44 ?F45 ?F46 ?F47 ?F48 ?F49 ?F50 ?a51 ?l51 ?c51 ?k51 ?zB ?yMOST_THINGS
  case F1=>refine' bu KX G RO.yE ?a ?l ?c ?k;(case a=>k_is);(case l=>k_is);(case c=>k_is);(case k=>k_is)
  case F2=>refine' bu KX G RO.yP ?a ?l ?c ?k;(case a=>k_is);(case l=>k_is);(case c=>k_is);(case k=>k_is)
  case F3=>refine' bu KX G RO.A1 ?a ?l ?c ?k;(case a=>k_is);(case l=>k_is);(case c=>k_is);(case k=>k_is)
  case F4=>refine' bu KX G RO.Bo ?a ?l ?c ?k;(case a=>k_is);(case l=>k_is);(case c=>k_is);(case k=>k_is)
  case F5=>refine' bu KX G RO.Bi ?a ?l ?c ?k;(case a=>k_is);(case l=>k_is);(case c=>k_is);(case k=>k_is)
  case F6=>refine' bu KX G RO.uK ?a ?l ?c ?k;(case a=>k_is);(case l=>k_is);(case c=>k_is);(case k=>k_is)
  case F7=>refine' bu KX G RO.DX ?a ?l ?c ?k;(case a=>k_is);(case l=>k_is);(case c=>k_is);(case k=>k_is)
  case F8=>refine' bu KX G RO.zg ?a ?l ?c ?k;(case a=>k_is);(case l=>k_is);(case c=>k_is);(case k=>k_is)
  case F9=>refine' bu KX G RO.za ?a ?l ?c ?k;(case a=>k_is);(case l=>k_is);(case c=>k_is);(case k=>k_is)
  case F10=>refine' bu KX G RO.vM ?a ?l ?c ?k;(case a=>k_is);(case l=>k_is);(case c=>k_is);(case k=>k_is)
  case F11=>refine' bu KX G RO.kT ?a ?l ?c ?k;(case a=>k_is);(case l=>k_is);(case c=>k_is);(case k=>k_is)
  case F12=>refine' bu KX G RO.xi ?a ?l ?c ?k;(case a=>k_is);(case l=>k_is);(case c=>k_is);(case k=>k_is)
  case F13=>refine' bu KX G RO.CL ?a ?l ?c ?k;(case a=>k_is);(case l=>k_is);(case c=>k_is);(case k=>k_is)
  case F14=>refine' bu KX G RO.sP ?a ?l ?c ?k;(case a=>k_is);(case l=>k_is);(case c=>k_is);(case k=>k_is)
  case F15=>refine' bu KX G RO.vf ?a ?l ?c ?k;(case a=>k_is);(case l=>k_is);(case c=>k_is);(case k=>k_is)
  case F16=>refine' bu KX G RO.tv ?a ?l ?c ?k;(case a=>k_is);(case l=>k_is);(case c=>k_is);(case k=>k_is)
  case F17=>refine' bu KX G RO.sC ?a ?l ?c ?k;(case a=>k_is);(case l=>k_is);(case c=>k_is);(case k=>k_is)
  case F18=>refine' bu KX G RO.xx ?a ?l ?c ?k;(case a=>k_is);(case l=>k_is);(case c=>k_is);(case k=>k_is)
  case F19=>refine' bu KX G RO.qH ?a ?l ?c ?k;(case a=>k_is);(case l=>k_is);(case c=>k_is);(case k=>k_is)
  case F20=>refine' bu KX G RO.rM ?a ?l ?c ?k;(case a=>k_is);(case l=>k_is);(case c=>k_is);(case k=>k_is)
  case F21=>refine' bu KX G RO.yO ?a ?l ?c ?k;(case a=>k_is);(case l=>k_is);(case c=>k_is);(case k=>k_is)
  case F22=>refine' bu KX G RO.IH ?a ?l ?c ?k;(case a=>k_is);(case l=>k_is);(case c=>k_is);(case k=>k_is)
  case F23=>refine' bu KX G RO.xR ?a ?l ?c ?k;(case a=>k_is);(case l=>k_is);(case c=>k_is);(case k=>k_is)
  case F24=>refine' bu KX G RO.xA ?a ?l ?c ?k;(case a=>k_is);(case l=>k_is);(case c=>k_is);(case k=>k_is)
  case F25=>refine' bu KX G RO.sR ?a ?l ?c ?k;(case a=>k_is);(case l=>k_is);(case c=>k_is);(case k=>k_is)
  case F26=>refine' bu KX G RO.q8 ?a ?l ?c ?k;(case a=>k_is);(case l=>k_is);(case c=>k_is);(case k=>k_is)
  case F27=>refine' bu KX G RO.we ?a ?l ?c ?k;(case a=>k_is);(case l=>k_is);(case c=>k_is);(case k=>k_is)
  case F28=>refine' bu KX G RO.wb ?a ?l ?c ?k;(case a=>k_is);(case l=>k_is);(case c=>k_is);(case k=>k_is)
  case F29=>refine' bu KX G RO.G8 ?a ?l ?c ?k;(case a=>k_is);(case l=>k_is);(case c=>k_is);(case k=>k_is)
  case F30=>refine' bu KX G RO.Bx ?a ?l ?c ?k;(case a=>k_is);(case l=>k_is);(case c=>k_is);(case k=>k_is)
  case F31=>refine' bu KX G RO.GH ?a ?l ?c ?k;(case a=>k_is);(case l=>k_is);(case c=>k_is);(case k=>k_is)
  case F32=>refine' bu KX G RO.ze ?a ?l ?c ?k;(case a=>k_is);(case l=>k_is);(case c=>k_is);(case k=>k_is)
  case F33=>refine' bu KX G RO.sF ?a ?l ?c ?k;(case a=>k_is);(case l=>k_is);(case c=>k_is);(case k=>k_is)
  case F34=>refine' bu KX G RO.ye ?a ?l ?c ?k;(case a=>k_is);(case l=>k_is);(case c=>k_is);(case k=>k_is)
  case F35=>refine' bu KX G RO.yV ?a ?l ?c ?k;(case a=>k_is);(case l=>k_is);(case c=>k_is);(case k=>k_is)
  case F36=>refine' bu KX G RO.wH ?a ?l ?c ?k;(case a=>k_is);(case l=>k_is);(case c=>k_is);(case k=>k_is)
  case F37=>refine' bu KX G RO.wu ?a ?l ?c ?k;(case a=>k_is);(case l=>k_is);(case c=>k_is);(case k=>k_is)
  case F38=>refine' bu KX G RO.yJ ?a ?l ?c ?k;(case a=>k_is);(case l=>k_is);(case c=>k_is);(case k=>k_is)
  case F39=>refine' bu KX G RO.wW ?a ?l ?c ?k;(case a=>k_is);(case l=>k_is);(case c=>k_is);(case k=>k_is)
  case F40=>refine' bu KX G RO.B3 ?a ?l ?c ?k;(case a=>k_is);(case l=>k_is);(case c=>k_is);(case k=>k_is)
  case F41=>refine' bu KX G RO.xt ?a ?l ?c ?k;(case a=>k_is);(case l=>k_is);(case c=>k_is);(case k=>k_is)
  case F42=>refine' IW KX G RO.zl ?a ?l ?c ?k;(case a=>k_is);(case l=>k_is);(case c=>k_is);(case k=>k_is)
  case F43=>refine' bu KX G RO.Fy ?a ?l ?c ?k;(case a=>k_is);(case l=>k_is);(case c=>k_is);(case k=>k_is)
  case F44=>refine' bu KX G RO.tj ?a ?l ?c ?k;(case a=>k_is);(case l=>k_is);(case c=>k_is);(case k=>k_is)
  case F45=>refine' bu KX G RO.Ea ?a ?l ?c ?k;(case a=>k_is);(case l=>k_is);(case c=>k_is);(case k=>k_is)
  case F46=>refine' bu KX G RO.ym ?a ?l ?c ?k;(case a=>k_is);(case l=>k_is);(case c=>k_is);(case k=>k_is)
  case F47=>refine' bu KX G RO.v5 ?a ?l ?c ?k;(case a=>k_is);(case l=>k_is);(case c=>k_is);(case k=>k_is)
  case F48=>refine' bu KX G RO.pU ?a ?l ?c ?k;(case a=>k_is);(case l=>k_is);(case c=>k_is);(case k=>k_is)
  case F49=>refine' bu KX G RO.wR ?a ?l ?c ?k;(case a=>k_is);(case l=>k_is);(case c=>k_is);(case k=>k_is)
  case F50=>refine' bu KX G RO.vK ?a ?l ?c ?k;(case a=>k_is);(case l=>k_is);(case c=>k_is);(case k=>k_is)
  case a51=>k_is
  case l51=>k_is
  case c51=>k_is
  case k51=>k_is
  case zB=>kernel_rfl
  case yMOST_THINGS=>k_is
end
