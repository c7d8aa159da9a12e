import PyProof.Rows.All
import KE.KSortTup
import KE.KDictOf
import KE.KNestM
import KE.KFromBytes
import KE.KIsAll
import KE.KLam
import KE.KMinKey
import KE.KStateDown
import Wide.FinOn
import PySem.Challenge.RW_rowsorder_k65_whole_fewest_of_builds
set_option Elab.async false
set_option linter.all false
set_option maxRecDepth 100000
set_option maxHeartbeats 1000000
set_option hygiene false
local macro_rules|`(@AC)=>`(⟨rfl,rfl,rfl,by decide +kernel,rfl,by decide +kernel,by decide +kernel⟩)|`(@AT)=>`(by omega)|`(@At)=>`((hr.mono (by decide)))|`(@A_)=>`(List Pr)|`(@B_)=>`(Inv X pins σ H s)|`(@Ch)=>`((λ_ _=>rfl))|`(@Cl)=>`(List D->FR)|`(@C_)=>`(.fz (ag n l))|`(@Db)=>`(List Int)|`(@Do)=>`(List (Addr×Obj))|`(@D_)=>`(.list (rs.map tupI))|`(@EQ)=>`(Value->Shared->Prop)|`(@Ev)=>`((model X.prog X.w))|`(@E_)=>`((by decide))|`(@FM)=>`((cst (.int 0)))|`(@FS)=>`(by decide +kernel)|`(@Fa)=>`((cst (.int 1)))|`(@Fk)=>`((aa (gv 0) (aa (gv 1) ao)))|`(@Fr)=>`(Str->Option Value)|`(@F_)=>`(λ_ _ _ _ _ _=>ln2 λ_ _=>rfl)|`(@GM)=>`([@C_,.fz left,.fz (fk n l pts),.fz (.int (i:Int)),.fz (aA t),.fz (cG n (bQ (putAll n l put))),.fz (.tuple (put.map aA))])|`(@GT)=>`(([] ++ []))|`(@Go)=>`((x == ("__debug__":Str))=false)|`(@G_)=>`(List Value)|`(@H_)=>`((λH0 G0 par br bx C ex s3 H3 pn hB1=>cp))|`(@IN)=>`((bG (by kernel_rfl)))|`(@IO)=>`(λds h=>aF ds h)|`(@IR)=>`(["one","other","rows","others"])|`(@Id)=>`(List Str)|`(@Is)=>`(SR Γ B G H σ env β)
local macro_rules|`(@Ix)=>`(List Nat)|`(@I_)=>`(.fz (cG n (bQ l)))|`(@J_)=>`(Option Addr)|`(@KB)=>`((j9 X NB scope C ex s3 H3 pn))|`(@KF)=>`(λd β'=>∀v G' H',SR Γ B G' H' σ (a8 L env) β'->aw G G'->jh B H H'->VO Γ.K B H G' H' (if wv=true then .w else .v) d v->Q v H')|`(@KK)=>`(OM.Ord n l)|`(@KM)=>`(by simp)|`(@KT)=>`(.list (qs.map tupI))|`(@K_)=>`((aa (gv 0) ao))|`(@LE)=>`(List (@Db))|`(@L_)=>`((aU aI bA (ae 0) ax @Ch))|`(@M2)=>`([@C_,.fz (.tuple (put.map aA)),.fz (aA t),.ow (.list (ph.map pD)),.fz (q4 (left.map aA)),.fz (.int ((k:Nat):Int)),s6])|`(@M_)=>`(starEach [a] X.env=(false,eval a X.env) :: starEach [] X.env)|`(@NE)=>`(putAll n l put)|`(@No)=>`(X.env.cells.lookup x=some c)|`(@N_)=>`((PySem.W.kla_obj "<lambda>" (X.env.qual ++ "<lambda>") params body scope (jc X.env.cells scope.names []) ((X.mg "__name__").getD .none) c' ctv))|`(@On)=>`(X.env.scope.names.lookup x=some .local)|`(@Op)=>`(.fz (.list (rows.map tupI)))|`(@Os)=>`((.ListComp elt [⟨tg,iter,ifs,0⟩] scope pos))|`(@O_)=>`(["one","other"])|`(@PP)=>`((vl env))|`(@Pi)=>`(D->Option D)|`(@Ps)=>`((af 0 (hB1 0 @E_)))|`(@P3)=>`(Hp->Prop)|`(@P_)=>`(Hp->VK->Prop)|`(@Q_)=>`(max rs.length qs.length)|`(@Re)=>`((.int n))|`(@Rs)=>`(.fz (ag m k))|`(@R_)=>`((f2 (gv 0) @FM bB))|`(@SB)=>`(.fz (.list (late.map int)))
local macro_rules|`(@SC)=>`(SE X Γ E a fa La ma)|`(@SL)=>`((Classical.propDecidable _))|`(@SZ)=>`((aU aI bA (ae 1) ax @Ch))|`(@Sc)=>`(.fz (mI (eY r) n))|`(@S_)=>`(.tuple (l.map aA))|`(@TD)=>`(.tuple (put.map aA))|`(@TW)=>`((model prog w))|`(@Tk)=>`(VF (List D))|`(@Tl)=>`((i3 (f1 (aN 1 [3,4] (.nm 0) (bH (gv 1)) i7 (f2 (pj (gv 0) (gv 1)) (pj (gv 0) (gv 2)) qG)) (bY λbs=>bs.all id))))|`(@Tm)=>`(fa vs β)|`(@Ty)=>`(.ref s.heap.objs.size)|`(@T_)=>`(starEach es X.env)
def Ra:=@PySem.wpAny_bind
def Rb:=@List.length_map
def Rf:=@List.getElem?_eq_getElem
def Rg:=@if_pos
def Rh:=@Nat.le_refl
def Ri:=@PySem.Heap.get?_push_of_some
def Rj:=@if_neg
def Rk:=@decide_eq_true
def Rl:=@List.mem_filter
def Rm:=@List.mem_cons
def Rn:=@List.getElem?_eq_some_iff
def Ro:=@List.mem_cons_self
def Rq:=@decide_eq_true_eq
def Rt:=@decide_eq_false
def Ru:=@List.mem_cons_of_mem
def Rv:=@PySem.wpAny_pure
def Rw:=@List.mem_append
def Rx:=@PySem.Heap.lt_size
def Ry:=@List.size_toArray
def Rz:=@List.mem_map
def RA:=@List.getElem?_map
def RB:=@PySem.Heap.get?_push_size
def RC:=@Bool.and_eq_true
def RD:=@List.length_append
def RE:=@List.mem_singleton
def RF:=@List.getElem?_set_ne
def RG:=@List.getElem?_set_self
def RH:=@List.all_eq_true
def RJ:=@List.mem_append_right
def RK:=@Bool.false_ne_true
def RL:=@List.length_cons
def RN:=@List.mem_of_getElem?
def RP:=@List.getD_eq_getElem?_getD
def RS:=@List.map_append
def RT:=@Int.toNat_natCast
def RU:=@Nat.lt_irrefl
def RW:=@List.mem_range
def RX:=@List.getElem?_append_left
def RY:=@Nat.lt_of_lt_of_le
def RZ:=@of_decide_eq_true
def R0:=@PySem.boot_len
def R1:=@List.length_singleton
def R3:=@List.getElem?_append_right
def R4:=@List.length_range
def R5:=@List.nodup_cons
def R6:=@Nat.ne_of_lt
def R7:=@PySem.sizeLine_eq
def R8:=@List.replicate_succ
def R9:=@List.length_take
def Sa:=@List.not_mem_nil
def Sb:=@Nat.zero_le
def Sd:=@Nat.le_trans
def Se:=@List.length_filter_le
def Sf:=@Bool.eq_iff_iff
def Sg:=@List.mem_append_left
def Sh:=@List.idxOf_lt_length_iff
def Si:=@PySem.W.kia_one
def Sj:=@List.length_replicate
def Sk:=@PySem.mem_of_lookup
def Sn:=@PySem.wpAny_truthy_bool
def So:=@PySem.Heap.get?_update_other
def Sr:=@Bool.false_eq_true
def Ss:=@Nat.mul_le_mul
def Su:=@List.mem_iff_getElem?
def Sv:=@PyProof.Rows.slot_tuple_getitem
def Sw:=@List.getElem?_replicate
def Sx:=@List.map_cons
def Sy:=@PySem.wpAny_mono
def Sz:=@List.map_map
def SD:=@decide_eq_decide
def SH:=@List.map_congr_left
def SJ:=@List.length_pos_iff
def SK:=@if_true
def SM:=@List.length_set
def SN:=@PySem.F.plain_min_loop
def SQ:=@List.flatten_cons
def SU:=@List.filterMap_cons
def SV:=@Bool.or_eq_true
def SW:=@List.getElem?_eq_none
def SX:=@if_false
def SY:=@List.getElem_mem
def S0:=@List.eq_of_mem_replicate
def S1:=@PySem.wpAny_holding
def S2:=@PySem.Heap.size_push
def S3:=@PySem.wpAny_newObj_type
def S4:=@List.append_assoc
def S5:=@List.filter_congr
def S6:=@List.getElem?_range
def S7:=@Nat.zero_add
def S8:=@Nat.lt_or_ge
def S9:=@PySem.SeqAt.canLay_of_shaped
def Ta:=@List.any_cons
def Tc:=@or_false
def Td:=@List.append_nil
def Te:=@List.set_eq_of_length_le
def Tf:=@List.nodup_append
def Ti:=@decide_eq_false_iff_not
def Tj:=@Array.toList_append
def To:=@List.length_drop
def Tp:=@List.take_of_length_le
def Tq:=@Nat.le_of_lt
def Ts:=@PyProof.Rows.callWith_type1
def Tt:=@Int.emod_lt_of_pos
def Tu:=@Array.getD_eq_getD_getElem?
def Tv:=@Int.zero_add
def Tw:=@PySem.wpAny_passesOwn
def Tx:=@Int.emod_nonneg
def Tz:=@Nat.le_max_left
def TB:=@List.nodup_iff_pairwise_ne
def TC:=@PySem.Value.isInt_shape
def TF:=@PySem.wpAny_pyIter_list
def TH:=@List.pairwise_map
def TJ:=@List.mem_iff_getElem
def TK:=@List.drop_eq_getElem_cons
def TL:=@PySem.wpAny_field
def TM:=@PySem.F.called_set
def TN:=@List.ext_getElem
def TQ:=@PySem.F.plainAttrs_list
def TR:=@Nat.add_lt_add_iff_left
def TU:=@List.mem_filterMap
def TV:=@PySem.wpAny_pyIter_tuple
def TX:=@Nat.not_lt_zero
def TY:=@List.getElem_idxOf
def TZ:=@Nat.min_eq_left
def T1:=@PySem.wpAny_pyIter_enum
def T2:=@Bool.not_eq_true'
def T4:=@List.idxOf_append
def T5:=@PySem.Heap.get?_update_self
def T6:=@List.all_map
def T7:=@PySem.wpAny_tryCatch
def T8:=@PySem.Around.under_plainId
def T9:=@List.drop_length
def Ua:=@List.getElem?_mapIdx
def Ub:=@Nat.eq_of_testBit_eq
def Uc:=@List.idxOf_cons_self
def Ud:=@List.all_cons
def Ue:=@Array.getElem?_eq_some_iff
def Ug:=@List.foldl_cons
def Uh:=@PySem.codeAny_builtin
def Ui:=@List.pairwise_iff_getElem
def Uj:=@List.getLast?_eq_getElem?
def Uk:=@List.idxOf_cons
def Ul:=@PySem.codeAny_mono
def Um:=@PySem.wpAny_Call_Name_kw
def Uo:=@PySem.F.args_tuple_add_2
def Uq:=@List.length_erase_of_mem
def Ur:=@Nat.lt_trans
def Us:=@PySem.Obj.data_mapFields
def Ut:=@PySem.AutoSeq1.wpAny_loadPart'
def Uu:=@PySem.wpAny_setField
def Uv:=@List.nodup_nil
open List (lookup_cons set_set)
open PySem.W (Frag)
open PySem.PyData (int)
section
set_option Elab.async false
namespace L2
open PySem PySem.Spec PyProof.Rows
abbrev Key:=Sum Int Str
def J5:Key->Value->Bool
 | .inl k,v=>Value.isInt k v
 | .inr x,v=>Value.isStrOf x v
def PM (w:World):Key->Int
 | .inl k=>hashInt k
 | .inr x=>hashStr w x
theorem cU:∀{k:Key} {v:Value},J5 k v=true->(∃i t,k=Sum.inl i/\v=Value.int i t)\/(∃x t,k=Sum.inr x/\v=Value.str x t)
 | .inl i,v,h=>by
  obtain⟨t,e⟩:=TC (k:=i) (v:=v) h
  exact .inl ⟨i,t,rfl,e⟩
 | .inr x,v,h=>by
  obtain⟨t,e⟩:=Value.isStrOf_shape (x:=x) (v:=v) h
  exact .inr ⟨x,t,rfl,e⟩
def KG (a b:Int):decide ((Sum.inl a:Key)=Sum.inl b)=(a == b):=by
 by_cases e:a=b
 ·subst e;simp
 ·have h:¬(Sum.inl a:Key)=Sum.inl b:=λq=>e (Sum.inl.inj q)
  rw[Rt h]
  exact (beq_eq_false_iff_ne.mpr e).symm
def LJ (a b:Str):decide ((Sum.inr a:Key)=Sum.inr b)=decide (a=b):=by
 by_cases e:a=b
 ·subst e;simp
 ·have h:¬(Sum.inr a:Key)=Sum.inr b:=λq=>e (Sum.inr.inj q)
  rw[Rt h,Rt e]
def Ln (a:Int)(b:Str):decide ((Sum.inl a:Key)=Sum.inr b)=false:=Rt (λq=>nomatch q)
def KZ (a:Str)(b:Int):decide ((Sum.inr a:Key)=Sum.inl b)=false:=Rt (λq=>nomatch q)
def xf (prog:Program)(w:World):PySem.KeyKind prog w Key where
 is:=J5
 hash:=PM w
 inj:=λv a b ha hb=>by
  rcases cU ha with⟨i,t,rfl,rfl⟩ | ⟨x,t,rfl,rfl⟩
  ·rcases cU hb with⟨j,u,rfl,e⟩ | ⟨y,u,rfl,e⟩
   ·injection e with e1 _;rw[e1]
   ·exact nomatch e
  ·rcases cU hb with⟨j,u,rfl,e⟩ | ⟨y,u,rfl,e⟩
   ·exact nomatch e
   ·injection e with e1 _;rw[e1]
 byValue:=λk v h=>by
  rcases cU h with⟨i,t,rfl,rfl⟩ | ⟨x,t,rfl,rfl⟩ <;> rfl
 pyHash:=λhv h=>by
  rcases cU hv with⟨i,t,rfl,rfl⟩ | ⟨x,t,rfl,rfl⟩
  ·exact wpAny_pyHash_int h
  ·exact wpAny_pyHash_str h
 eqBool:=λhu hv h=>by
  rcases cU hu with⟨i,t,rfl,rfl⟩ | ⟨x,t,rfl,rfl⟩
  ·rcases cU hv with⟨j,u,rfl,rfl⟩ | ⟨y,u,rfl,rfl⟩
   ·rw[KG] at h;exact wpAny_eqBool_int h
   ·rw[Ln] at h;exact SeqAt.EqAt.int_str i t y u _ _ _ _ h
  ·rcases cU hv with⟨j,u,rfl,rfl⟩ | ⟨y,u,rfl,rfl⟩
   ·rw[KZ] at h;exact SeqAt.EqAt.str_int x t j u _ _ _ _ h
   ·rw[LJ] at h;exact wpAny_eqBool_str h
 «strs»:=λk x t v h=>by
  rcases cU h with⟨i,u,rfl,e⟩ | ⟨y,u,rfl,e⟩
  ·exact nomatch e
  ·injection e with e1 _
   subst e1
   cases v <;> rfl
inductive V where
 |non |bl (b:Bool) |int (i:Int) |str (x:Str) |byt (b:Array UInt8) |flt (b:UInt64) |ref (a:Addr) |ty (n:String)
 deriving DecidableEq
def RelV:V->Value->Prop
 | .non,u=>u=Value.none
 | .bl b,u=>u=Value.bool b
 | .int i,u=>∃t,u=Value.int i t
 | .str x,u=>∃t,u=Value.str x t
 | .byt b,u=>∃t,u=Value.bytes b t
 | .flt b,u=>∃t,u=Value.float b t
 | .ref a,u=>u=Value.ref a
 | .ty n,u=>u=Value.type n
abbrev Vals:List V->@G_->Prop:=Paired RelV
def Vals.length {xs:List V}{us:@G_}(r:Vals xs us):xs.length=us.length:=Paired.length r
theorem Vals.get:∀{xs:List V} {us:@G_} {i:Nat} {x:V},Vals xs us->xs[i]? =some x->∃u,us[i]? =some u/\RelV x u
 |_,_,_,_,.nil,e=>by simp at e
 |_,_,0,_,.cons r _,e=>by simp at e;subst e;exact⟨_,rfl,r⟩
 |_,_,i + 1,x,.cons _ t,e=>by
  obtain⟨u,h1,h2⟩:=Vals.get (i:=i) (x:=x) t (by simpa using e)
  exact⟨u,by simpa using h1,h2⟩
theorem Vals.set {x:V}{u:Value}(r:RelV x u):∀{xs:List V} {us:@G_} (i:Nat),Vals xs us->Vals (xs.set i x) (us.set i u)
 |_,_,_,.nil=>.nil
 |_,_,0,.cons _ t=>.cons r t
 |_,_,i + 1,.cons q t=>.cons q (Vals.set r i t)
theorem Vals.append:∀{xs ys:List V} {us ws:@G_},Vals xs us->Vals ys ws->Vals (xs ++ ys) (us ++ ws)
 |_,_,_,_,.nil,s=>s
 |_,_,_,_,.cons r t,s=>.cons r (Vals.append t s)
theorem Vals.take:∀{xs:List V} {us:@G_} (n:Nat),Vals xs us->Vals (xs.take n) (us.take n)
 |_,_,0,_=>.nil
 |_,_,_ + 1,.nil=>.nil
 |_,_,n + 1,.cons r t=>.cons r (Vals.take n t)
theorem Vals.drop:∀{xs:List V} {us:@G_} (n:Nat),Vals xs us->Vals (xs.drop n) (us.drop n)
 |_,_,0,r=>r
 |_,_,_ + 1,.nil=>.nil
 |_,_,n + 1,.cons _ t=>Vals.drop n t
def Fi:Option V->Option Value->Prop
 |some v,some u=>RelV v u
 |none,none=>True
 |_,_=>False
def KV {κ:Type}:List (κ×V)->List (κ×Value)->Prop:=Paired λ(p:κ×V) (q:κ×Value)=>p.1=q.1/\RelV p.2 q.2
def kV:Key->V
 | .inl i=>.int i
 | .inr x=>.str x
inductive HO where
 |lst (xs:List V)
 |tup (xs:List V)
 |dK (kvs:List (Key×V)) |dT (kvs:List (List Key×V))
 |set (S:Int->Bool) (n:Nat)
 |ins (C dx:Addr) (fs:List (Str×V))
 |own (x:Addr)
 |xd (fs:List (Str×V))
 |met (f x:Addr)
 |bD (lo hi:Int)
 |a8 (o:Obj) (u:HO)
 |tbl (ps:Array Value)
 |ext (φ:Heap->Prop)
abbrev Hp:=Addr->Option HO
def upd (H:Hp)(a:Addr)(o:HO):Hp:=λb=>if b=a then some o else H b
def aE {H:Hp}{a:Addr}{o:HO}:upd H a o a=some o:=by unfold upd;rw[Rg rfl]
def aC {H:Hp}{a b:Addr}{o:HO}(h:b≠a):upd H a o b=H b:=by unfold upd;rw[Rj h]
def J8 {H:Hp}{a b:Addr}{o u:HO}(h:H a=some o)(h':H b=some u)(d:o≠u):a≠b:=by
 intro e;subst e;rw[h] at h';exact d (Option.some.inj h')
def aR {H:Hp}{a b:Addr}{o:HO}(h:H a=some o)(h':H b=none):a≠b:=by
 intro e;subst e;rw[h] at h';cases h'
section
variable (P:Program)(w:World)
def tw (h:Heap)(a:Addr)(items:Array Value):Prop:=∃o,h.get? a=some o/\o.cls=.type "tuple"/\∃n,o.data=.seq items n/\o.dict=none
def tw.isTup {h:Heap}{a:Addr}{items:Array Value}(x:tw h a items):IsTup h a items:=let ⟨o,e,c,n,d,_⟩:=x;⟨o,e,c,n,d⟩
def tw.new (h:Heap)(items:Array Value):tw (h.push {cls:=.type "tuple",data:=.seq items}) h.objs.size items:=⟨_,RB _ rfl,rfl,_,rfl,rfl⟩
def dZ (H:Hp)(h:Heap)(a:Addr):HO->Prop
 | .lst xs=>xs.length<=sizeLine/\∃(its:@G_) (n:Nat),Vals xs its/\h.get? a=some {cls:=.type "list",data:=.seq its.toArray n}
 | .tup xs=>xs.length<=sizeLine/\∃its:@G_,Vals xs its/\tw h a its.toArray
 | .dK kvs=>kvs.length<=sizeLine/\(a == sysModules)=false/\∃vs,KV kvs vs/\h.DictOf (xf P w) a vs
 | .dT kvs=>kvs.length<=sizeLine/\(a == sysModules)=false/\∃xs:List (List Key×Addr×Value),
   Paired (λ(p:List Key×V) (q:List Key×Addr×Value)=>p.1=q.1/\(H q.2.1=some (.tup (p.1.map kV))\/∃o,H q.2.1=some (.a8 o (.tup (p.1.map kV))))/\RelV p.2 q.2.2) kvs xs/\
   ∃o es ep,h.get? a=some o/\o.ExactDict/\o.data=.dict es ep/\es.toList=xs.map (entryOfKey (tupleKind (xf P w)))/\(xs.map (·.1)).Nodup
 | .set S n=>h.SetOf (intKind P w) a S n
 | .ins C dx fs=>H dx=some (.own a)/\fs.length<=1000/\dx≠a/\h.get? a=some (PySem.W.instObj C dx)/\
   ∃mA,h.Ns1 dx mA/\(∀f,Fi (fs.lookup f) (mA f))/\PySem.Within mA (fs.map (·.1))
 | .own _=>∃o,h.get? a=some o
 | .xd fs=>∃mA,h.Ns1 a mA/\∀f,Fi (fs.lookup f) (mA f)
 | .bD lo hi=>∃t u v,h.get? a=some {cls:=.type "range",data:=.fields #[.int lo t,.int hi u,.int 1 v]}
 | .a8 o u=>h.get? a=some o/\dZ H h a u
 | .tbl ps=>h.get? a=some {cls:=.none,data:=.fields ps}
 | .met f x=>h.get? a=some (PySem.W.methodObj (.ref f) (.ref x))
 | .ext φ=>φ h/\(∃o,h.get? a=some o)/\∀h1 h2:Heap,φ h1->(∀o,h1.get? a=some o->h2.get? a=some o)->φ h2
def pK (H:Hp)(h:Heap):Prop:=∀a o,H a=some o->dZ P w H h a o
end
section
variable {P:Program}{w:World}{H H':Hp}{h h':Heap}{a:Addr}{o:HO}
theorem dZ.lt (x:dZ P w H h a o):a < h.objs.size:=by
 cases o with
 |lst xs=>obtain⟨_,_,_,_,e⟩:=x;exact Rx e
 |tup xs=>obtain⟨_,_,_,p⟩:=x;exact p.isTup.lt
 |dK kvs=>obtain⟨_,_,_,_,o,_,_,e,_⟩:=x;exact Rx e
 |dT kvs=>obtain⟨_,_,_,_,o,_,_,e,_⟩:=x;exact Rx e
 |set S n=>obtain⟨o,_,_,_,e,_⟩:=x;exact Rx e
 |ins C dx fs=>obtain⟨_,_,_,e,_⟩:=x;exact Rx e
 |own y=>obtain⟨_,e⟩:=x;exact Rx e
 |xd fs=>obtain⟨_,⟨_,_,_,e,_⟩,_⟩:=x;exact Rx e
 |bD lo hi=>obtain⟨_,_,_,e⟩:=x;exact Rx e
 |a8 ob u=>obtain⟨e,_⟩:=x;exact Rx e
 |tbl ps=>exact Rx (show h.get? a=some _ from x)
 |met f y=>exact Rx (show h.get? a=some _ from x)
 |ext φ=>obtain⟨_,⟨_,e⟩,_⟩:=x;exact Rx e
theorem Paired.mapP {α β:Type}{F G:α->β->Prop}:∀{l₁:List α} {l₂:List β},Paired F l₁ l₂->(∀a b,F a b->G a b)->Paired G l₁ l₂
 |_,_,.nil,_=>.nil
 |_,_,.cons r t,f=>.cons (f _ _ r) (Paired.mapP t f)
theorem dZ.stay (x:dZ P w H h a o)(k:∀b u,(b=a\/H b=some (.own a))->h.get? b=some u->h'.get? b=some u)
  (ho:∀b,H b=some (.own a)->H' b=some (.own a)) (ht:∀b xs,(H b=some (.tup xs)\/∃o,H b=some (.a8 o (.tup xs)))->(H' b=some (.tup xs)\/∃o,H' b=some (.a8 o (.tup xs)))):dZ P w H' h' a o:=by
 induction o with
 |lst xs=>obtain⟨z,its,n,r,e⟩:=x;exact⟨z,its,n,r,k _ _ (.inl rfl) e⟩
 |tup xs=>obtain⟨z,its,r,ob,e,c⟩:=x;exact⟨z,its,r,ob,k _ _ (.inl rfl) e,c⟩
 |dK kvs=>obtain⟨z,y,vs,r,ob,es,ep,e,c⟩:=x;exact⟨z,y,vs,r,ob,es,ep,k _ _ (.inl rfl) e,c⟩
 |dT kvs=>
  obtain⟨z,y,xs,r,ob,es,ep,e,c⟩:=x
  exact⟨z,y,xs,Paired.mapP r λp q z=>⟨z.1,ht _ _ z.2.1,z.2.2⟩,ob,es,ep,k _ _ (.inl rfl) e,c⟩
 |set S n=>obtain⟨ob,es,ep,t,e,c⟩:=x;exact⟨ob,es,ep,t,k _ _ (.inl rfl) e,c⟩
 |ins C dx fs=>
  obtain⟨d,z,ne,e,mA,⟨od,es,ep,e2,c⟩,r⟩:=x
  exact⟨ho _ d,z,ne,k _ _ (.inl rfl) e,mA,⟨od,es,ep,k _ _ (.inr d) e2,c⟩,r⟩
 |own y=>obtain⟨ob,e⟩:=x;exact⟨ob,k _ _ (.inl rfl) e⟩
 |xd fs=>obtain⟨mA,⟨od,es,ep,e,c⟩,r⟩:=x;exact⟨mA,⟨od,es,ep,k _ _ (.inl rfl) e,c⟩,r⟩
 |bD lo hi=>obtain⟨t,u,v,e⟩:=x;exact⟨t,u,v,k _ _ (.inl rfl) e⟩
 |a8 ob u ih=>obtain⟨e,q⟩:=x;exact⟨k _ _ (.inl rfl) e,ih q⟩
 |tbl ps=>
  have e:h.get? a=some {cls:=.none,data:=.fields ps}:=x
  show h'.get? a=some {cls:=.none,data:=.fields ps}
  exact k a _ (.inl rfl) e
 |met f y=>
  have e:h.get? a=some (PySem.W.methodObj (.ref f) (.ref y)):=x
  show h'.get? a=some (PySem.W.methodObj (.ref f) (.ref y))
  exact k a _ (.inl rfl) e
 |ext φ=>obtain⟨p,⟨o,e⟩,st⟩:=x;exact⟨st _ _ p λo q=>k _ _ (.inl rfl) q,⟨o,k _ _ (.inl rfl) e⟩,st⟩
def pK.lt (x:pK P w H h)(e:H a=some o):a < h.objs.size:=(x a o e).lt
theorem pK.fresh (x:pK P w H h)(e:h.objs.size<=a):H a=none:=by
 cases q:H a with
 |none=>rfl
 |some u=>exact absurd (RY (x.lt q) e) (RU _)
def pK.kept (x:pK P w H h)(k:∀b u,h.get? b=some u->h'.get? b=some u):pK P w H h':=λa o e=>
 (x a o e).stay (λb u _ q=>k b u q) (λ_ q=>q) λ_ _ q=>q
def pK.laid (x:pK P w H h)(k:∀b u,h.get? b=some u->h'.get? b=some u)(hp:h.objs.size<=a)(new:dZ P w (upd H a o) h' a o):pK P w (upd H a o) h':=λb u e=>by
 have hn:=x.fresh hp
 by_cases hb:b=a
 ·subst hb;rw[aE] at e;cases e;exact new
 ·rw[aC hb] at e
  exact (x b u e).stay (λc v _ q=>k c v q) (λc q=>by rw[aC (aR q hn)];exact q) λc xs q=>q.imp (λq=>by rw[aC (aR q hn)];exact q) λ⟨o,q⟩=>⟨o,by rw[aC (aR q hn)];exact q⟩
end
def Rd (H:Hp)(a:Addr)(u:HO):Prop:=H a=some u\/∃o,H a=some (.a8 o u)
def Rd.ok {P:Program}{w:World}{H:Hp}{h:Heap}{a:Addr}{u:HO}(r:Rd H a u)(x:pK P w H h):dZ P w H h a u:=by
 rcases r with r | ⟨o,r⟩
 ·exact x a u r
 ·obtain⟨_,q⟩:=x a _ r
  exact q
def OU:Option HO->Prop
 |some (.lst _)=>True
 |some (.dK _)=>True
 |some (.dT _)=>True
 |some (.set _ _)=>True
 |some (.ins _ _ _)=>True
 |some (.ext _)=>True
 |_=>False
section
variable {P:Program}{w:World}{H:Hp}{h h':Heap}{x e:Addr}{o':HO}
def pK.write (ok:pK P w H h)(mu:OU (H x))(he:e=x\/H e=some (.own x))(k:∀b u,b≠e->h.get? b=some u->h'.get? b=some u)(heo:∃u,h'.get? e=some u)
  (new:dZ P w (upd H x o') h' x o'):pK P w (upd H x o') h':=λb u q=>by
 have nown:∀c y,H c=some (.own y)->c≠x:=λc y r z=>by subst z;rw[r] at mu;exact mu
 have ntup:∀c xs,H c=some (.tup xs)->c≠x:=λc xs r z=>by subst z;rw[r] at mu;exact mu
 by_cases hb:b=x
 ·subst hb;rw[aE] at q;cases q;exact new
 ·rw[aC hb] at q
  by_cases hbe:b=e
  ·have q':H b=some (.own x):=by
    rcases he with z |z
    ·exact absurd (hbe.trans z) hb
    ·rw[hbe];exact z
   rw[q] at q';cases q'
   obtain⟨v,hv⟩:=heo
   exact⟨v,by rw[hbe];exact hv⟩
  ·refine (ok b u q).stay (λc v hc r=>k c v ?_ r) (λc r=>by rw[aC (nown c b r)];exact r) λc xs r=>r.imp (λr=>by rw[aC (ntup c xs r)];exact r) λ⟨o,r⟩=>⟨o,by rw[aC (λz=>by subst z;rw[r] at mu;exact mu)];exact r⟩
   rcases hc with rfl |hc
   ·exact hbe
   ·rintro rfl
    rcases he with z |z
    ·exact nown c b hc z
    ·rw[hc] at z;cases z;exact hb rfl
end
structure Un (fs ex:List Addr)(H H':Hp)(h h':Heap):Prop where
 keep:∀b o,h.get? b=some o->H b=none->b∉fs->b∉ex->h'.get? b=some o
 slot:∀b o,h.get? b=some o->H b=none->b∈fs->b∉ex->∃sl,h'.get? b=some {o with slots:=sl}
 free:∀b o,h.get? b=some o->H b=none->b∉ex->H' b=none
 there:∀b o,h.get? b=some o->b∉ex->∃o',h'.get? b=some o'
 tups:∀b xs,H b=some (.tup xs)->H' b=some (.tup xs)
 frzs:∀b o u,H b=some (.a8 o u)->H' b=some (.a8 o u)
 tbls:∀b ps,H b=some (.tbl ps)->∃more,H' b=some (.tbl (ps ++ more))
section
variable {fs fs' ex ex':List Addr}{H H1 H2:Hp}{h h1 h2 h':Heap}{a x e:Addr}{o:HO}
def Un.any (u:Un fs ex H H1 h h1){b:Addr}{ob:Obj}(q:h.get? b=some ob)(n:H b=none)(hx:b∉ex):∃sl,h1.get? b=some {ob with slots:=sl}:=by
 by_cases hb:b∈fs
 ·exact u.slot b ob q n hb hx
 ·exact⟨ob.slots,u.keep b ob q n hb hx⟩
def Un.kept (k:∀b u,h.get? b=some u->h'.get? b=some u):Un fs ex H H h h':=
 ⟨λb ob q _ _ _=>k b ob q,λb ob q _ _ _=>⟨ob.slots,k b ob q⟩,λ_ _ _ n _=>n,λb ob q _=>⟨ob,k b ob q⟩,λ_ _ q=>q,λ_ _ _ q=>q,λ_ ps q=>⟨#[],by rw[q];simp⟩⟩
def Un.refl:Un fs ex H H h h:=Un.kept λ_ _ q=>q
def Un.laid (k:∀b u,h.get? b=some u->h'.get? b=some u)(hp:h.objs.size<=a)(hn:H a=none):Un fs ex H (upd H a o) h h' where
 keep:=λb u q _ _ _=>k b u q
 slot:=λb u q _ _ _=>⟨u.slots,k b u q⟩
 free:=λb u q n _=>by rw[aC (R6 (RY (Rx q) hp))];exact n
 there:=λb u q _=>⟨u,k b u q⟩
 tups:=λb xs q=>by rw[aC (aR q hn)];exact q
 frzs:=λb u xs q=>by rw[aC (aR q hn)];exact q
 tbls:=λb ps q=>⟨#[],by rw[aC (aR q hn),q];simp⟩
def Un.write (mu:OU (H x))(he:e=x\/H e=some (.own x))(k:∀b u,b≠e->h.get? b=some u->h'.get? b=some u)(heo:∃u,h'.get? e=some u):Un fs ex H (upd H x o) h h':=by
 have hx:∀b,H b=none->b≠x:=λb n z=>by subst z;rw[n] at mu;exact mu
 have hb:∀b,H b=none->b≠e:=λb n z=>by
  subst z
  rcases he with r |r
  ·exact hx b n r
  ·rw[n] at r;cases r
 have hm:∀b u,H b=some u->¬OU (some u)->b≠x:=λb u q nm z=>by subst z;rw[q] at mu;exact nm mu
 refine⟨λb u q n _ _=>k b u (hb b n) q,λb u q n _ _=>⟨u.slots,k b u (hb b n) q⟩,λb u q n _=>by rw[aC (hx b n)];exact n,λb u q _=>?_,
  λb xs q=>by rw[aC (hm b _ q λz=>z)];exact q,λb u xs q=>by rw[aC (hm b _ q λz=>z)];exact q,λb ps q=>⟨#[],by rw[aC (hm b _ q λz=>z),q];simp⟩⟩
 by_cases hbe:b=e
 ·subst hbe;exact heo
 ·exact⟨u,k b u hbe q⟩
end
def OR (h:Heap)(H:Hp):List Addr:=(List.range h.objs.size).filter λa=>(H a).isSome
def uF (h:Heap)(H:Hp):Heap:=PySem.W.hideAll h (OR h H)
def Dj (h:Heap)(H:Hp):(uF h H).objs.size=h.objs.size:=PySem.W.hideAll_size _ _
def Ex {h:Heap}{H:Hp}{b:Addr}{o:Obj}(e:h.get? b=some o)(n:H b=none):(uF h H).get? b=some o:=
 PySem.W.hideAll_get _ e λhm=>by
  have q:(H b).isSome=true:=(Rl.mp hm).2
  rw[n] at q;simp at q
theorem Hg {h:Heap}{H:Hp}{b:Addr}{o:Obj}(e:(uF h H).get? b=some o):h.get? b=some o/\H b=none:=by
 have e':h.get? b=some o:=PySem.W.of_hideAll (OR h H) e
 refine⟨e',?_⟩
 cases q:H b with
 |none=>rfl
 |some x=>
  have hm:b∈OR h H:=Rl.mpr ⟨RW.mpr (Rx e'),by simp[q]⟩
  have z:(uF h H).get? b=none:=PySem.W.hideAll_none (OR h H) hm
  rw[z] at e;cases e
def Il (g h:Heap)(L:Addr):@Do:=(List.range h.objs.size).filterMap λa=>if a=L\/(g.get? a).isSome=true then none else (h.get? a).map λo=>(a,o)
def rest (g h:Heap)(L d:Addr):@Do:=(Il g h L).filter λp=>decide (p.1≠d)
structure Mod (K:Frag)(mg:@Fr)(base:Heap):Prop where
 kin:K.In base
 glob:base.Ns mainGlobals mg
 blt:∃mb,base.Ns builtinsNs mb/\∀x:Str,x≠"__name__"->mb x=bootBuiltins x
 nolimit:base.NoLimit
 sys:∃mm,base.Ns sysModules mm
structure Cx where
 prog:Program
 w:World
 K:Frag
 mg:@Fr
 base:Heap
 A:Around
 N:@Id
 s₀:Shared
 H₀:Hp
 env:Env
 outer:List Env
 stack:List Env
 ex:List Addr
 fn:Str->Bool
 calm:Bool
 pn:@Do
 xe:@EQ
def pf (l:List Env):List Addr:=l.filterMap (·.frame)
abbrev Cx.fs (X:Cx):List Addr:=pf X.outer
def BN (sc:Scope)(x:Str):Prop:=sc.names.lookup x=some .local\/sc.names.lookup x=some .cell\/sc.names.lookup x=some .free
def Loc (sc:Scope)(x:Str):Prop:=sc.names.lookup x=some .local\/sc.names.lookup x=some .cell
def Look (env:Env)(h:Heap)(m:@Fr)(x:Str)(u:Value):Prop:=
 (env.kindOf x=some .local/\m x=some u)\/((env.kindOf x=some .cell\/env.kindOf x=some .free)/\∃c,env.cells.lookup x=some c/\h.IsCell c (some u))
structure Cx.Ok (X:Cx):Prop where
 mod:Mod X.K X.mg X.base
 kind:X.env.scope.kind=.function
 glob:X.env.globals=mainGlobals
 blt:X.env.builtins=builtinsNs
 above:X.s₀.heap.objs.size<=X.env.locals
 inj:∀x y c,@No->X.env.cells.lookup y=some c->x=y
 has:∀x,(X.env.kindOf x=some .cell\/X.env.kindOf x=some .free)->∃c,@No
 cab:∀x c,X.fn x=true->@No->X.s₀.heap.objs.size<=c
 hd:X.calm=true->X.A.handled=none
 frames:X.A.frames=some X.stack
 stk:X.stack=X.outer\/(X.stack=X.env :: X.outer/\X.env.frame=some X.env.locals)
 exf:∀b∈X.ex,b≠X.env.locals/\∀x c,@No->c≠b
 bs:∀b o,X.base.get? b=some o->X.s₀.heap.get? b=some o/\X.H₀ b=none
 bsz:X.base.objs.size<=X.s₀.heap.objs.size
 noex:∀b o,X.base.get? b=some o->b∉X.ex
 exfs:∀b∈X.ex,b∉X.fs
 funs:X.s₀.heap.FunFrames X.base X.outer
 frf:∀b∈X.fs,X.H₀ b=none
structure Inv (X:Cx)(pins:@Do)(σ:List (Option V))(H:Hp)(s:Shared):Prop where
 ok:X.Ok
 os:s.os=X.s₀.os
 bare:AllBare s.gens
 base:Un X.fs X.ex X.H₀ H X.s₀.heap s.heap
 loc:∃m,s.heap.Ns X.env.locals m/\∀(i:Nat) (x:Str) (v:V),X.N[i]? =some x->σ[i]? =some (some v)->BN X.env.scope x->∃u,RelV v u/\Look X.env s.heap m x u
 cell:∀x c,@No->∃v,s.heap.IsCell c v
 free:H X.env.locals=none
 freeC:∀x c,@No->H c=none
 pin:∀p∈X.pn ++ pins,s.heap.get? p.1=some p.2/\H p.1=none/\p.1≠X.env.locals/\p.1∉X.fs/\∀v,p.2.data≠.cell v
 hok:pK X.prog X.w H s.heap
 len:σ.length=X.N.length
section
variable {X:Cx}{pins:@Do}{σ:List (Option V)}{H H':Hp}{s:Shared}{h':Heap}
def Cx.Ok.nofr (ok:X.Ok){b:Addr}{o:Obj}(e:X.base.get? b=some o):b∉X.fs:=λhb=>by
 have:=(ok.funs.mem hb).1
 rw[e] at this;cases this
def Inv.bs (I:@B_):∀b o,X.base.get? b=some o->s.heap.get? b=some o/\H b=none:=λb o e=>
 ⟨I.base.keep b o (I.ok.bs b o e).1 (I.ok.bs b o e).2 (I.ok.nofr e) (I.ok.noex b o e),I.base.free b o (I.ok.bs b o e).1 (I.ok.bs b o e).2 (I.ok.noex b o e)⟩
def Inv.bk (I:@B_):∀b o,X.base.get? b=some o->s.heap.get? b=some o:=λb o e=>(I.bs b o e).1
def Inv.mod (I:@B_):Mod X.K X.mg X.base:=I.ok.mod
def Inv.kIn (I:@B_):X.K.In s.heap:=I.ok.mod.kin.keeps I.bk
def Inv.lt (I:@B_):X.env.locals < s.heap.objs.size:=let ⟨_,hn,_⟩:=I.loc;hn.lt
def Inv.sz (I:@B_):X.s₀.heap.objs.size<=s.heap.objs.size:=Sd I.ok.above (Tq I.lt)
def Inv.nofs (I:@B_){a:Addr}(h:s.heap.objs.size<=a):a∉X.fs:=λhb=>by
 obtain⟨_,o,ho,_⟩:=I.ok.funs.mem hb
 exact absurd (RY (Rx ho) (Sd I.sz h)) (RU _)
def Inv.cne (I:@B_):∀x c,@No->c≠X.env.locals:=λx c e z=>by
 obtain⟨v,o,ho,hd⟩:=I.cell x c e
 obtain⟨m,⟨o',es,ep,ho',hd',_⟩,_⟩:=I.loc
 rw[z,ho'] at ho;cases ho;rw[hd'] at hd;cases hd
def Inv.funs (I:@B_):s.heap.FunFrames X.base X.outer:=by
 have all:∀(l:List Env),(∀b∈pf l,b∈X.fs)->X.s₀.heap.FunFrames X.base l->s.heap.FunFrames X.base l:=by
  intro l
  induction l with
  |nil=>intro _ _;trivial
  |cons env r ih=>
   intro hs hl
   obtain⟨hk,⟨L,o,hf,hn,ho,hd⟩,hr⟩:=hl
   have hL:L∈X.fs:=hs L (by unfold pf;rw[SU,hf];exact Ro)
   obtain⟨sl,e⟩:=I.base.slot L o ho (I.ok.frf L hL) hL λz=>I.ok.exfs L z hL
   exact⟨hk,⟨L,_,hf,hn,e,hd⟩,ih (λb hb=>hs b (by unfold pf;rw[SU,hf];exact Ru _ hb)) hr⟩
 exact all X.outer (λ_ hb=>hb) I.ok.funs
def Inv.stack (I:@B_):s.heap.FunFrames X.base X.stack:=by
 rcases I.ok.stk with e | ⟨e,hf⟩
 ·rw[e];exact I.funs
 ·rw[e]
  obtain⟨m,hn,_⟩:=I.loc
  refine .cons (by rw[I.ok.kind];decide) hf hn ?_ I.funs
  exact Heap.get?_none_of_le (Sd I.ok.bsz I.ok.above)
def Inv.stkSub (I:@B_):∀b∈pf X.stack,b∈X.env.locals :: X.fs:=λb hb=>by
 rcases I.ok.stk with e | ⟨e,hf⟩
 ·rw[e] at hb;exact Ru _ hb
 ·rw[e] at hb
  unfold pf at hb
  rw[SU,hf] at hb
  exact hb
def Inv.stkFree (I:@B_):∀b∈pf X.stack,H b=none:=λb hb=>by
 rcases Rm.mp (I.stkSub b hb) with e |hb
 ·rw[e];exact I.free
 ·obtain⟨_,o,ho,_⟩:=I.ok.funs.mem hb
  exact I.base.free b o ho (I.ok.frf b hb) λz=>I.ok.exfs b z hb
def Inv.step {g':Array GenState}{t':Nat}{d':Drawn}{ch:List Addr}(I:@B_)
  (hch:∀b∈ch,(b∈X.ex\/X.s₀.heap.objs.size<=b)/\b≠X.env.locals/\(∀x c,@No->c≠b)/\∀p∈X.pn ++ pins,p.1≠b)
  (keep:∀b o,b≠X.env.locals->b∉X.fs->b∉ch->s.heap.get? b=some o->H b=none->h'.get? b=some o)
  (slot:∀b o,b≠X.env.locals->b∈X.fs->b∉ch->s.heap.get? b=some o->H b=none->∃sl,h'.get? b=some {o with slots:=sl}) (free:∀b o,b∉ch->s.heap.get? b=some o->H b=none->H' b=none)
  (there:∀b o,b∉ch->s.heap.get? b=some o->∃o',h'.get? b=some o')
  (tups:∀b xs,H b=some (.tup xs)->H' b=some (.tup xs)) (frzs:∀b o u,H b=some (.a8 o u)->H' b=some (.a8 o u)) (tbls:∀b ps,H b=some (.tbl ps)->∃more,H' b=some (.tbl (ps ++ more)))
  (ns:∀m,s.heap.Ns X.env.locals m->h'.Ns X.env.locals m) (hok:pK X.prog X.w H' h') (hg:AllBare g') :
  Inv X pins σ H' {s with heap:=h',gens:=g',drawn:=d',toks:=t'}:=by
 have neL:∀b o,X.s₀.heap.get? b=some o->b≠X.env.locals:=λb o e=>R6 (RY (Rx e) I.ok.above)
 have neC:∀b o,X.s₀.heap.get? b=some o->b∉X.ex->b∉ch:=λb o e hx hb=>by
  rcases (hch b hb).1 with z |z
  ·exact hx z
  ·exact absurd (RY (Rx e) z) (RU _)
 have cellK:∀x c,@No->∀v,s.heap.IsCell c v->h'.IsCell c v:=λx c e v ⟨o,ho,hd⟩=>by
  have nch:c∉ch:=λz=>(hch c z).2.2.1 x c e rfl
  by_cases hc:c∈X.fs
  ·obtain⟨sl,q⟩:=slot c o (I.cne x c e) hc nch ho (I.freeC x c e)
   exact⟨_,q,hd⟩
  ·exact⟨o,keep c o (I.cne x c e) hc nch ho (I.freeC x c e),hd⟩
 refine⟨I.ok,I.os,hg,⟨λb o e n hb hx=>?_,λb o e n hb hx=>?_,λb o e n hx=>?_,λb o e hx=>?_,λb xs e=>tups b xs (I.base.tups b xs e),λb o xs e=>frzs b o xs (I.base.frzs b o xs e),λb ps e=>?_⟩,?_,λx c e=>?_,?_,λx c e=>?_,λp hp=>?_,hok,I.len⟩
 ·exact keep b o (neL b o e) hb (neC b o e hx) (I.base.keep b o e n hb hx) (I.base.free b o e n hx)
 ·obtain⟨sl,e1⟩:=I.base.slot b o e n hb hx
  obtain⟨sl',e2⟩:=slot b _ (neL b o e) hb (neC b o e hx) e1 (I.base.free b o e n hx)
  exact⟨sl',e2⟩
 ·obtain⟨o',e1⟩:=I.base.there b o e hx
  exact free b o' (neC b o e hx) e1 (I.base.free b o e n hx)
 ·obtain⟨o',e1⟩:=I.base.there b o e hx
  exact there b o' (neC b o e hx) e1
 ·obtain⟨m1,e1⟩:=I.base.tbls b ps e
  obtain⟨m2,e2⟩:=tbls b _ e1
  exact⟨m1 ++ m2,by rw[e2,Array.append_assoc]⟩
 ·obtain⟨m,hn,hl⟩:=I.loc
  refine⟨m,ns m hn,λi x v e1 e2 e3=>?_⟩
  obtain⟨u,r,l⟩:=hl i x v e1 e2 e3
  refine⟨u,r,?_⟩
  rcases l with l | ⟨k,c,e,z⟩
  ·exact .inl l
  ·exact .inr ⟨k,c,e,cellK x c e _ z⟩
 ·obtain⟨v,z⟩:=I.cell x c e
  exact⟨v,cellK x c e v z⟩
 ·obtain⟨m,⟨o,_,_,ho,_⟩,_⟩:=I.loc
  exact free _ o (λz=>(hch _ z).2.1 rfl) ho I.free
 ·obtain⟨v,o,ho,hd⟩:=I.cell x c e
  exact free c o (λz=>(hch c z).2.2.1 x c e rfl) ho (I.freeC x c e)
 ·obtain⟨e,n,ne,nf,d⟩:=I.pin p hp
  have nch:p.1∉ch:=λz=>(hch p.1 z).2.2.2 p hp rfl
  exact⟨keep p.1 p.2 ne nf nch e n,free p.1 p.2 nch e n,ne,nf,d⟩
def Inv.un {t':Nat}(I:@B_)(u:Un X.fs [] H H' s.heap h')(hok:pK X.prog X.w H' h'):Inv X pins σ H' {s with heap:=h',toks:=t'}:=by
 obtain⟨m,⟨o,es,ep,ho,r⟩,_⟩:=id I.loc
 obtain⟨sl,hL⟩:=u.any ho I.free (@KM)
 exact I.step (g':=s.gens) (d':=s.drawn) (ch:=[]) (λ_ z=>nomatch z) (λb o _ hb _ e n=>u.keep b o e n hb (@KM)) (λb o _ hb _ e n=>u.slot b o e n hb (@KM)) (λb o _ e n=>u.free b o e n (@KM)) (λb o _ e=>u.there b o e (@KM)) u.tups u.frzs u.tbls (λm' hm=>by
  obtain⟨o',es',ep',ho',r'⟩:=hm
  rw[ho] at ho';cases ho'
  exact⟨_,es',ep',hL,r'⟩) hok I.bare
def Inv.call {g':Array GenState}{t':Nat}{d':Drawn}{ch:List Addr}(I:@B_)(u:Un (pf X.stack) ch H H' s.heap h')(hok:pK X.prog X.w H' h')(hg:AllBare g')
  (hch:∀b∈ch,(b∈X.ex\/X.s₀.heap.objs.size<=b)/\b≠X.env.locals/\(∀x c,@No->c≠b)/\∀p∈X.pn ++ pins,p.1≠b) :
  Inv X pins σ H' {s with heap:=h',gens:=g',drawn:=d',toks:=t'}:=by
 obtain⟨m,⟨o,es,ep,ho,r⟩,_⟩:=id I.loc
 obtain⟨sl,hL⟩:=u.any ho I.free λz=>(hch _ z).2.1 rfl
 exact I.step (ch:=ch) hch (λb o hL hb hc e n=>u.keep b o e n (λz=>(Rm.mp (I.stkSub b z)).elim hL hb) hc) (λb o _ _ hc e n=>u.any e n hc) (λb o hc e n=>u.free b o e n hc) (λb o hc e=>u.there b o e hc) u.tups u.frzs u.tbls (λm' hm=>by
  obtain⟨o',es',ep',ho',r'⟩:=hm
  rw[ho] at ho';cases ho'
  exact⟨_,es',ep',hL,r'⟩) hok hg
def Inv.turned {t':Nat}{it:Addr}(I:@B_)(k:∀b o,b≠it->s.heap.get? b=some o->h'.get? b=some o)(hn:H it=none)(hL:it≠X.env.locals)
  (h1:it∈X.ex\/X.s₀.heap.objs.size<=it) (h2:∀x c,@No->c≠it) (h3:∀p∈X.pn ++ pins,p.1≠it):Inv X pins σ H {s with heap:=h',toks:=t'}:=by
 have nit:∀b u,H b=some u->b≠it:=λb u e z=>by rw[z,hn] at e;cases e
 refine I.step (g':=s.gens) (d':=s.drawn) (ch:=[it]) (λb hb=>?_) (λb o _ _ hc e _=>k b o (λz=>hc (by simp[z])) e) (λb o _ _ hc e _=>⟨o.slots,k b o (λz=>hc (by simp[z])) e⟩) (λ_ _ _ _ n=>n)
  (λb o hc e=>⟨o,k b o (λz=>hc (by simp[z])) e⟩) (λ_ _ e=>e) (λ_ _ _ e=>e) (λb ps e=>⟨#[],by rw[e];simp⟩) (λm hm=>?_) (λb u e=>?_) I.bare
 ·have e:b=it:=by simpa using hb
  subst e
  exact⟨h1,hL,h2,h3⟩
 ·obtain⟨o,es,ep,ho,r⟩:=hm
  exact⟨o,es,ep,k _ o (Ne.symm hL) ho,r⟩
 ·refine (I.hok b u e).stay (λc v hc q=>k c v ?_ q) (λ_ q=>q) λ_ _ q=>q
  rcases hc with z |z
  ·rw[z];exact nit b u e
  ·exact nit c _ z
def Inv.tok (I:@B_)(t:Nat):Inv X pins σ H {s with toks:=t}:=I.un (h':=s.heap) (t':=t) Un.refl I.hok
def Inv.kept {t':Nat}(I:@B_)(k:∀b u,s.heap.get? b=some u->h'.get? b=some u):Inv X pins σ H {s with heap:=h',toks:=t'}:=I.un (Un.kept k) (I.hok.kept k)
def Inv.laid {a:Addr}{o:HO}{t':Nat}(I:@B_)(k:∀b u,s.heap.get? b=some u->h'.get? b=some u)(hp:s.heap.objs.size<=a)(new:dZ X.prog X.w (upd H a o) h' a o) :
  Inv X pins σ (upd H a o) {s with heap:=h',toks:=t'}:=I.un (Un.laid k hp (I.hok.fresh hp)) (I.hok.laid k hp new)
def Inv.write {x e:Addr}{o:HO}{t':Nat}(I:@B_)(mu:OU (H x))(he:e=x\/H e=some (.own x))(k:∀b u,b≠e->s.heap.get? b=some u->h'.get? b=some u)(heo:∃u,h'.get? e=some u)
  (new:dZ X.prog X.w (upd H x o) h' x o):Inv X pins σ (upd H x o) {s with heap:=h',toks:=t'}:=I.un (Un.write mu he k heo) (I.hok.write mu he k heo new)
def Inv.pins_of {pins':@Do}(I:@B_)(h:∀p∈pins',s.heap.get? p.1=some p.2/\H p.1=none/\p.1≠X.env.locals/\p.1∉X.fs/\∀v,p.2.data≠.cell v):Inv X pins' σ H s:=
 ⟨I.ok,I.os,I.bare,I.base,I.loc,I.cell,I.free,I.freeC,λp hp=>(Rw.mp hp).elim (λz=>I.pin p (Sg _ z)) (h p),I.hok,I.len⟩
def yp {N:@Id}(hN:N.Nodup){i j:Nat}{x:Str}(a:N[i]? =some x)(b:N[j]? =some x):i=j:=by
 obtain⟨h1,e1⟩:=Rn.mp a
 obtain⟨h2,e2⟩:=Rn.mp b
 exact (List.getElem_inj hN).mp (e1.trans e2.symm)
def vO {M:Model}{A:Around}{E:@EQ}{i:Nat}{x:Str}{v:V}{u:Value}{Q:Unit->Shared->Prop}(I:@B_)(hN:X.N.Nodup)(hi:X.N[i]? =some x)(hx:Loc X.env.scope x)(r:RelV v u)
  (h:∀s',Inv X pins (σ.set i (some v)) H s'->(∃a,Heap.SameBut a s.heap s'.heap/\(a=X.env.locals\/X.env.cells.lookup x=some a))->Q () s') (hf:X.fn x=true\/@On:=by first |exact .inl rfl |exact .inr rfl |assumption):wpAny M A (storeName X.env x u) Q E s:=by
 obtain⟨m,hn,hl⟩:=id I.loc
 have hcls:(X.env.scope.kind == .class || (X.env.scope.kind == .module && X.env.locals != X.env.globals))=false:=by rw[I.ok.kind];rfl
 have hiσ:i < σ.length:=by rw[I.len];exact (Rn.mp hi).1
 have cne:=I.cne
 have tracked:∀{a:Addr} {h':Heap},(∃o,s.heap.get? a=some o/\H a=none)->Heap.SameBut a s.heap h'->pK X.prog X.w H h':=λ{a h'} ha hs b ob e=>by
  obtain⟨_,_,hfree⟩:=ha
  refine (I.hok b ob e).stay (λc w' hc q=>(hs.2 c ?_).trans q) (λ_ q=>q) λ_ _ q=>q
  rintro rfl
  rcases hc with rfl |hc
  ·rw[hfree] at e;cases e
  ·rw[hfree] at hc;cases hc
 rcases hx with hk |hk
 ·refine wpAny_storeName_local hk hn (λh' hn' hs=>?_) hcls
  obtain⟨oL,_,_,hoL,_⟩:=id hn
  refine h _ ⟨I.ok,I.os,I.bare,⟨λb o e n hb hx=>?_,λb o e n hb hx=>?_,I.base.free,λb o e hx=>?_,I.base.tups,I.base.frzs,I.base.tbls⟩,⟨_,hn',λj y v' e1 e2 e3=>?_⟩,λy c e=>?_,I.free,I.freeC,λp hp=>?_,tracked ⟨oL,hoL,I.free⟩ hs,by simpa using I.len⟩ ⟨_,hs,.inl rfl⟩
  ·exact (hs.2 b (R6 (RY (Rx e) I.ok.above))).trans (I.base.keep b o e n hb hx)
  ·obtain⟨sl,e1⟩:=I.base.slot b o e n hb hx
   exact⟨sl,(hs.2 b (R6 (RY (Rx e) I.ok.above))).trans e1⟩
  ·obtain⟨o',e1⟩:=I.base.there b o e hx
   exact⟨o',(hs.2 b (R6 (RY (Rx e) I.ok.above))).trans e1⟩
  ·by_cases hj:j=i
   ·subst hj
    rw[hi] at e1;cases e1
    rw[RG hiσ] at e2
    cases e2
    exact⟨u,r,.inl ⟨hk,@KM ⟩⟩
   ·rw[RF (Ne.symm hj)] at e2
    obtain⟨u',r',q⟩:=hl j y v' e1 e2 e3
    refine⟨u',r',?_⟩
    rcases q with⟨k,e⟩ | ⟨k,c,e,z⟩
    ·refine .inl ⟨k,?_⟩
     have:y≠x:=λe=>hj (yp hN e1 (e▸hi))
     simp[this,e]
    ·exact .inr ⟨k,c,e,z.sameBut hs (cne y c e)⟩
  ·obtain⟨w',z⟩:=I.cell y c e
   exact⟨w',z.sameBut hs (cne y c e)⟩
  ·obtain⟨e,n,ne,nf,d⟩:=I.pin p hp
   exact⟨(hs.2 p.1 ne).trans e,n,ne,nf,d⟩
 ·have hfn:X.fn x=true:=by
   rcases hf with z |z
   ·exact z
   ·rw[z] at hk;cases hk
  obtain⟨c,hc⟩:=I.ok.has x (.inl hk)
  obtain⟨w',z⟩:=I.cell x c hc
  refine wpAny_storeName_cell I.ok.kind hk hc z (λh' hc' hs=>?_)
  obtain⟨oc,hoc,hocd⟩:=id z
  refine h {s with heap:=h'} ⟨I.ok,I.os,I.bare,⟨λb o e n hb hx=>?_,λb o e n hb hx=>?_,I.base.free,λb o e hx=>?_,I.base.tups,I.base.frzs,I.base.tbls⟩,⟨m,hn.sameBut hs (Ne.symm (cne x c hc)),λj y v' e1 e2 e3=>?_⟩,λy c' e=>?_,I.free,I.freeC,λp hp=>?_,tracked ⟨oc,hoc,I.freeC x c hc⟩ hs,by simpa using I.len⟩ ⟨c,hs,.inr hc⟩
  ·exact (hs.2 b (R6 (RY (Rx e) (I.ok.cab x c hfn hc)))).trans (I.base.keep b o e n hb hx)
  ·obtain⟨sl,e1⟩:=I.base.slot b o e n hb hx
   exact⟨sl,(hs.2 b (R6 (RY (Rx e) (I.ok.cab x c hfn hc)))).trans e1⟩
  ·obtain⟨o',e1⟩:=I.base.there b o e hx
   exact⟨o',(hs.2 b (R6 (RY (Rx e) (I.ok.cab x c hfn hc)))).trans e1⟩
  ·by_cases hj:j=i
   ·subst hj
    rw[hi] at e1;cases e1
    rw[RG hiσ] at e2
    cases e2
    exact⟨u,r,.inr ⟨.inl hk,c,hc,hc'⟩⟩
   ·rw[RF (Ne.symm hj)] at e2
    obtain⟨u',r',q⟩:=hl j y v' e1 e2 e3
    refine⟨u',r',?_⟩
    rcases q with q | ⟨k,c',e,z'⟩
    ·exact .inl q
    ·refine .inr ⟨k,c',e,z'.sameBut hs ?_⟩
     rintro rfl
     exact hj (yp hN e1 (I.ok.inj _ _ _ e hc▸hi))
  ·by_cases hcc:c'=c
   ·subst hcc;exact⟨_,hc'⟩
   ·obtain⟨w2,z2⟩:=I.cell y c' e
    exact⟨w2,z2.sameBut hs hcc⟩
  ·obtain⟨e,n,ne,nf,d⟩:=I.pin p hp
   refine⟨(hs.2 p.1 ?_).trans e,n,ne,nf,d⟩
   intro q
   rw[q,hoc] at e
   have q':oc=p.2:=Option.some.inj e
   exact d w' (by rw[<-q'];exact hocd)
def pU {M:Model}{A:Around}{E:@EQ}{i:Nat}{x:Str}{v:V}{u:Value}{Q:Unit->Shared->Prop}(I:@B_)(hN:X.N.Nodup)(hi:X.N[i]? =some x)(hx:Loc X.env.scope x)(r:RelV v u)
  (h:∀s',Inv X pins (σ.set i (some v)) H s'->Q () s') (hf:X.fn x=true\/@On:=by first |exact .inl rfl |exact .inr rfl |assumption):wpAny M A (storeName X.env x u) Q E s:=
 vO I hN hi hx r (λs' I' _=>h s' I') hf
def Inv.call' {s':Shared}{ch:List Addr}(I:@B_)(ho:s'.os=s.os)(u:Un (pf X.stack) ch H H' s.heap s'.heap)(hok:pK X.prog X.w H' s'.heap)(hg:AllBare s'.gens)
  (hch:∀b∈ch,(b∈X.ex\/X.s₀.heap.objs.size<=b)/\b≠X.env.locals/\(∀x c,@No->c≠b)/\∀p∈X.pn ++ pins,p.1≠b):Inv X pins σ H' s':=by
 obtain⟨h',g',d',t',o'⟩:=s'
 have e:o'=s.os:=ho
 subst e
 exact I.call (g':=g') (t':=t') (d':=d') u hok hg hch
end
abbrev XK:=Value->@J_->@P3
abbrev St:=List (Option V)
abbrev VK:=V->@P3
abbrev TE:=St->@P_
abbrev TT:=St->Hp->(Bool->@P3)->Prop
abbrev TA:=St->Hp->(List V->@P3)->Prop
structure Ends where
 nx:St->@P3
 rt:VK
 bk:St->@P3:=λ_ _=>False
 ct:St->@P3:=λ_ _=>False
abbrev TS:=Ends->St->@P3
def EP (X:Cx)(pins:@Do)(σ:St)(Q:VK)(u:Value)(s':Shared):Prop:=∃v H',Inv X pins σ H' s'/\RelV v u/\Q v H'
def TP (X:Cx)(pins:@Do)(σ:St)(Q:Bool->@P3)(b:Bool)(s':Shared):Prop:=∃H',Inv X pins σ H' s'/\Q b H'
def AP (X:Cx)(pins:@Do)(σ:St)(Q:List V->@P3)(us:@G_)(s':Shared):Prop:=∃vs H',Inv X pins σ H' s'/\Vals vs us/\Q vs H'
def SP (X:Cx)(pins:@Do)(D:Ends)(f:Flow)(s':Shared):Prop:=
 match f with
 | .next=>∃σ' H',Inv X pins σ' H' s'/\D.nx σ' H'
 | .brk=>∃σ' H',Inv X pins σ' H' s'/\D.bk σ' H'
 | .cont=>∃σ' H',Inv X pins σ' H' s'/\D.ct σ' H'
 | .ret u=>∃v σ' H',Inv X pins σ' H' s'/\RelV v u/\D.rt v H'
def PE (X:Cx)(e:Expr)(t:TE):Prop:=
 ∀(pins:@Do) (s:Shared) (σ:St) (H:Hp) (Q:VK),@B_->t σ H Q->wpAny @Ev X.A (eval e X.env) (EP X pins σ Q) X.xe s
def PT (X:Cx)(e:Expr)(t:TT):Prop:=
 ∀(pins:@Do) (s:Shared) (σ:St) (H:Hp) (Q:Bool->@P3),@B_->t σ H Q->wpAny @Ev X.A (isTrue e X.env (eval e X.env)) (TP X pins σ Q) X.xe s
def PW (X:Cx)(e:Expr)(t:TT):Prop:=
 ∀(whole:Sem Value) (pins:@Do) (s:Shared) (σ:St) (H:Hp) (Q:Bool->@P3),@B_->t σ H Q->wpAny @Ev X.A (isTrue e X.env whole) (TP X pins σ Q) X.xe s
def PW.pt {X:Cx}{e:Expr}{t:TT}(h:PW X e t):PT X e t:=h _
def PA (X:Cx)(es:List Expr)(t:TA):Prop:=
 ∀(pos:Pos) (pins:@Do) (s:Shared) (σ:St) (H:Hp) (Q:List V->@P3),@B_->t σ H Q->wpAny @Ev X.A (spliced (backTo pos (@T_))) (AP X pins σ Q) X.xe s
def PS (X:Cx)(st:Stmt)(t:TS):Prop:=
 ∀(pins:@Do) (s:Shared) (σ:St) (H:Hp) (D:Ends),@B_->t D σ H->wpAny @Ev X.A (exec st X.env) (SP X pins D) X.xe s
def u6 (X:Cx)(st:List Stmt)(t:TS):Prop:=
 ∀(pins:@Do) (s:Shared) (σ:St) (H:Hp) (D:Ends),@B_->t D σ H->wpAny @Ev X.A (execs st X.env) (SP X pins D) X.xe s
def cZ {α:Type}{t:Sem α}{Q Q':α->Shared->Prop}{M:Model}{A:Around}{E:@EQ}{s:Shared}(h:wpAny M A t Q E s)(hQ:∀a s,Q a s->Q' a s):wpAny M A t Q' E s:=Sy h hQ λ_ _ x=>x
section
variable {X:Cx}
def bin {a b:Expr}{ta tb:TE}(ha:PE X a ta)(hb:PE X b tb){pins:@Do}{s:Shared}{σ:St}{H:Hp}{R:V->V->@P3}(I:@B_)(h:ta σ H λx H1=>tb σ H1 λy H2=>R x y H2)
  {α:Type} {Q:α->Shared->Prop} {f:Value->Value->Sem α}
  (hf:∀v u s2 x y H2,Inv X pins σ H2 s2->RelV x v->RelV y u->R x y H2->wpAny @Ev X.A (f v u) Q X.xe s2) :
  wpAny @Ev X.A (eval a X.env) (λv s₁=>wpAny @Ev X.A (eval b X.env) (λu s₂=>wpAny @Ev X.A (f v u) Q X.xe s₂) X.xe s₁) X.xe s:=by
 refine cZ (ha pins s σ H _ I h) λv s1 ⟨x,H1,I1,r1,q1⟩=>?_
 refine cZ (hb pins s1 σ H1 _ I1 q1) λu s2 ⟨y,H2,I2,r2,q2⟩=>?_
 exact hf v u s2 x y H2 I2 r1 r2 q2
def HI (i:Nat):TE:=λσ H Q=>∃v,σ[i]? =some (some v)/\Q v H
def tC (v:V):TE:=λ_ H Q=>Q v H
def kU {i:Nat}{x:Str}{pos:Pos}(hN:X.N[i]? =some x)(hv:BN X.env.scope x)(hd:@Go:=by decide)(hcd:(x == ("__classdict__":Str))=false:=by decide):PE X (.Name x pos) (HI i):=by
 intro pins s σ H Q I h
 obtain⟨v,e,h⟩:=h
 obtain⟨m,hn,hl⟩:=I.loc
 obtain⟨u,r,l⟩:=hl i x v hN e hv
 have fin:EP X pins σ Q u s:=⟨v,H,I,r,h⟩
 rcases l with⟨hk,hm⟩ | ⟨hk,c,hc,hcell⟩
 ·exact wpAny_Name (wpAny_loadName_local I.ok.kind hk hn hm fin) hd
 ·rcases hk with hk |hk
  ·exact wpAny_Name (wpAny_loadName_cell I.ok.kind hk hc hcell fin) hd
  ·exact wpAny_Name (wpAny_loadName_free I.ok.kind hk hc hcell fin hcd) hd
def zF {i j pos}:PE X (.Constant (.int i) j pos) (tC (.int i)):=λ_ _ _ H _ I h=>wpAny_Constant_int ⟨.int i,H,I.tok _,⟨_,rfl⟩,h⟩
def Co {b j pos}:PE X (.Constant (.bool b) j pos) (tC (.bl b)):=λ_ _ _ H _ I h=>Constant_bool ⟨.bl b,H,I,rfl,h⟩
def KL {x j pos}:PE X (.Constant (.str x) j pos) (tC (.str x)):=λ_ _ _ H _ I h=>Calls.Constant_str ⟨.str x,H,I.tok _,⟨_,rfl⟩,h⟩
def Gl (X:Cx)(x:Str):Prop:=X.env.kindOf x=some .globalImplicit
def Bw {E:@EQ}{pins:@Do}{s:Shared}{σ:St}{H:Hp}{x:Str}{u:Value}{pos:Pos}{Q:@EQ}(I:@B_)(hg:Gl X x)(hm:X.mg x=some u)(h:Q u s)
  (hd:@Go:=by decide):wpAny @Ev X.A (eval (.Name x pos) X.env) Q E s:=
 Calls.Name_function_global I.ok.kind hg (Calls.loadGlobal_global (by rw[I.ok.glob];exact I.mod.glob.keeps I.bk) hm h) hd
def oK {E:@EQ}{pins:@Do}{s:Shared}{σ:St}{H:Hp}{x:Str}{u:Value}{pos:Pos}{Q:@EQ}(I:@B_)(hg:Gl X x)(hm:X.mg x=none)(hv:bootBuiltins x=some u)(h:Q u s)
  (hn:x≠"__name__":=by decide) (hd:@Go:=by decide):wpAny @Ev X.A (eval (.Name x pos) X.env) Q E s:=by
 obtain⟨mb,h1,h2⟩:=I.mod.blt
 exact Calls.Name_function_global I.ok.kind hg (Calls.loadGlobal_builtin (by rw[I.ok.glob];exact I.mod.glob.keeps I.bk) hm (by rw[I.ok.blt];exact h1.keeps I.bk) ((h2 x hn).trans hv) h) hd
def HR {x:Str}{v:V}{u:Value}{pos:Pos}(hg:Gl X x)(hm:X.mg x=some u)(r:RelV v u)(hd:@Go:=by decide):PE X (.Name x pos) (tC v):=
 λ_ _ _ H _ I h=>Bw I hg hm ⟨v,H,I,r,h⟩ hd
def Jh {x:Str}{v:V}{u:Value}{pos:Pos}(hg:Gl X x)(hm:X.mg x=none)(hv:bootBuiltins x=some u)(r:RelV v u)(hn:x≠"__name__":=by decide)(hd:@Go:=by decide):PE X (.Name x pos) (tC v):=
 λ_ _ _ H _ I h=>oK I hg hm hv ⟨v,H,I,r,h⟩ hn hd
variable {a b:Expr}{ta tb:TE}{pos:Pos}
def PC (X:Cx)(op:CmpOp)(a b:Expr)(t:TE):Prop:=
 ∀(pins:@Do) (s:Shared) (σ:St) (H:Hp) (Q:VK),@B_->t σ H Q->
  wpAny @Ev X.A (eval a X.env) (λv s₁=>wpAny @Ev X.A (eval b X.env) (λu s₂=>wpAny @Ev X.A (compareOp op v u) (EP X pins σ Q) X.xe s₂) X.xe s₁) X.xe s
def GJ (b:Expr){op:CmpOp}(h:op≠.In)(h2:op≠.NotIn):behindInMarks op b=false:=by
 have e1:(op == CmpOp.In)=false:=by cases op <;> first |rfl |exact absurd rfl h
 have e2:(op == CmpOp.NotIn)=false:=by cases op <;> first |rfl |exact absurd rfl h2
 cases b <;> simp[behindInMarks,e1,e2]
def tB (t:TE):TT:=λσ H Q=>t σ H λx H1=>∃c,x=.bl c/\Q c H1
def Pg {op:CmpOp}{t:TE}(h:PC X op a b t)(h1:behindInMarks op b=false:=by first |exact GJ _ @E_ @E_ |rfl):PT X (.Compare a [op] [b] pos) (tB t):=by
 intro pins s σ H Q I hw
 refine wpAny_isTrue_Compare1 (cZ (h pins s σ H _ I hw) λv s1 h1=>cZ h1 λu s2 h2=>cZ h2 λc s3 ⟨x,H1,I1,r1,q1⟩=>?_) h1
 obtain⟨d,rfl,q⟩:=q1
 cases r1
 exact Sn ⟨H1,I1,q⟩
def AI {e:Expr}{t:TE}(h:PE X e t)(he:∀whole,isTrue e X.env whole=(do let v <-whole;standAt e.pos;holding [v] (truthy v)):=by intro _;rfl):PT X e (tB t):=by
 intro pins s σ H Q I hw
 refine isTrue_plain (cZ (h pins s σ H _ I hw) λv s1 ⟨x,H1,I1,r1,q1⟩=>?_) (he _)
 obtain⟨d,rfl,q⟩:=q1
 cases r1
 exact Sn ⟨H1,I1,q⟩
variable {tA tB':TT}{rest:List Expr}
def PD (t u:TT):TT:=λσ H Q=>t σ H λc H1=>if c=true then u σ H1 Q else Q false H1
def Q6 (t u:TT):TT:=λσ H Q=>t σ H λc H1=>if c=true then Q true H1 else u σ H1 Q
def Pu (t:TT):TT:=λσ H Q=>t σ H λc H1=>Q (!c) H1
theorem Ci (ha:PT X a tA):PW X (.BoolOp .And [a] pos) tA:=by
 intro wh pins s σ H Q I h
 refine isTrue_and (cZ (ha pins s σ H Q I h) λc s1 e=>?_)
 cases c with
 |true=>exact isTrue_and_nil e
 |false=>exact e
theorem Mz (ha:PT X a tA):PW X (.BoolOp .Or [a] pos) tA:=by
 intro wh pins s σ H Q I h
 refine isTrue_or (cZ (ha pins s σ H Q I h) λc s1 e=>?_)
 cases c with
 |false=>exact isTrue_or_nil e
 |true=>exact e
theorem EV (ha:PT X a tA)(hb:PW X (.BoolOp .And (b :: rest) pos) tB'):PW X (.BoolOp .And (a :: b :: rest) pos) (PD tA tB'):=by
 intro wh pins s σ H Q I h
 refine isTrue_and (cZ (ha pins s σ H _ I h) λc s1 ⟨H1,I1,q1⟩=>?_)
 cases c with
 |true=>exact hb wh pins s1 σ H1 Q I1 q1
 |false=>exact⟨H1,I1,q1⟩
theorem Og (ha:PT X a tA)(hb:PW X (.BoolOp .Or (b :: rest) pos) tB'):PW X (.BoolOp .Or (a :: b :: rest) pos) (Q6 tA tB'):=by
 intro wh pins s σ H Q I h
 refine isTrue_or (cZ (ha pins s σ H _ I h) λc s1 ⟨H1,I1,q1⟩=>?_)
 cases c with
 |true=>exact⟨H1,I1,q1⟩
 |false=>exact hb wh pins s1 σ H1 Q I1 q1
def MC (ha:PT X a tA):PT X (.UnaryOp .Not a pos) (Pu tA):=by
 intro pins s σ H Q I h
 exact isTrue_not (ha pins s σ H (λc H1=>Q (!c) H1) I h)
def Nn (ta tb:TE):TE:=λσ H Q=>ta σ H λx H1=>∃c,x=.bl c/\if c=true then tb σ H1 Q else Q (.bl false) H1
def PQ (ta tb:TE):TE:=λσ H Q=>ta σ H λx H1=>∃c,x=.bl c/\if c=true then Q (.bl true) H1 else tb σ H1 Q
def Nq (ta:TE):TE:=λσ H Q=>ta σ H λx H1=>∃c,x=.bl c/\Q (.bl (!c)) H1
def Mo {op}{t:TE}(h:PE X a t):PE X (.BoolOp op [a] pos) t:=λpins s σ H Q I hw=>BoolOp_one (h pins s σ H Q I hw)
theorem Kl (ha:PE X a ta)(hb:PE X (.BoolOp .And (b :: rest) pos) tb):PE X (.BoolOp .And (a :: b :: rest) pos) (Nn ta tb):=by
 intro pins s σ H Q I h
 refine BoolOp_and (cZ (ha pins s σ H _ I h) λv s1 ⟨x,H1,I1,r1,q1⟩=>?_)
 obtain⟨c,rfl,q1⟩:=q1
 cases r1
 refine Sn ?_
 cases c with
 |true=>exact hb pins s1 σ H1 Q I1 q1
 |false=>exact⟨.bl false,H1,I1,rfl,q1⟩
theorem Np (ha:PE X a ta)(hb:PE X (.BoolOp .Or (b :: rest) pos) tb):PE X (.BoolOp .Or (a :: b :: rest) pos) (PQ ta tb):=by
 intro pins s σ H Q I h
 refine BoolOp_or (cZ (ha pins s σ H _ I h) λv s1 ⟨x,H1,I1,r1,q1⟩=>?_)
 obtain⟨c,rfl,q1⟩:=q1
 cases r1
 refine Sn ?_
 cases c with
 |false=>exact hb pins s1 σ H1 Q I1 q1
 |true=>exact⟨.bl true,H1,I1,rfl,q1⟩
def K6 (ha:PE X a ta):PE X (.UnaryOp .Not a pos) (Nq ta):=by
 intro pins s σ H Q I h
 refine UnaryOp_ (cZ (ha pins s σ H _ I h) λv s1 ⟨x,H1,I1,r1,q1⟩=>?_)
 obtain⟨c,rfl,q1⟩:=q1
 cases r1
 exact not_of (Sn ⟨.bl (!c),H1,I1,rfl,q1⟩)
def QX (t:TT)(ta tb:TE):TE:=λσ H Q=>t σ H λc H1=>if c=true then ta σ H1 Q else tb σ H1 Q
theorem Ek {c:Expr}(hc:PT X c tA)(ha:PE X a ta)(hb:PE X b tb):PE X (.IfExp c a b pos) (QX tA ta tb):=by
 intro pins s σ H Q I h
 refine wpAny_IfExp (cZ (hc pins s σ H _ I h) λd s1 ⟨H1,I1,q1⟩=>?_)
 cases d with
 |true=>exact ha pins s1 σ H1 Q I1 q1
 |false=>exact hb pins s1 σ H1 Q I1 q1
end
def ji (K:Frag)(H:Hp)(a:Addr)(xs:List V):Prop:=
 Rd H a (.lst xs)\/
  ∃(o:Obj) (its:Array Value) (n:Nat),K.lookup a=some o/\o.cls=.type "list"/\o.dict=none/\o.data=.seq its n/\its.size<=sizeLine/\Vals xs its.toList
def gr (K:Frag)(H:Hp)(a:Addr)(xs:List V):Prop:=
 Rd H a (.tup xs)\/
  ∃(o:Obj) (its:Array Value) (n:Nat),K.lookup a=some o/\o.cls=.type "tuple"/\o.data=.seq its n/\its.size<=sizeLine/\Vals xs its.toList/\o.dict=none
def Pf:Value->Option V
 | .none=>some .non
 | .bool b=>some (.bl b)
 | .int i _=>some (.int i)
 | .str x _=>some (.str x)
 | .bytes b _=>some (.byt b)
 | .float b _=>some (.flt b)
 | .ref a=>some (.ref a)
 | .type n=>some (.ty n)
 |_=>none
theorem RelV.abs {x:V}{u:Value}(r:RelV x u):Pf u=some x:=by
 cases x with
 |non=>cases r;rfl
 |bl _=>cases r;rfl
 |int _=>obtain⟨t,rfl⟩:=r;rfl
 |str _=>obtain⟨t,rfl⟩:=r;rfl
 |byt _=>obtain⟨t,rfl⟩:=r;rfl
 |flt _=>obtain⟨t,rfl⟩:=r;rfl
 |ref _=>cases r;rfl
 |ty _=>cases r;rfl
def RelV.inj {x y:V}{u:Value}(r:RelV x u)(q:RelV y u):x=y:=Option.some.inj (r.abs.symm.trans q.abs)
theorem Vals.inj:∀{xs ys:List V} {us:@G_},Vals xs us->Vals ys us->xs=ys
 |_,_,_,.nil,.nil=>rfl
 |_,_,_,.cons r t,.cons r' t'=>by rw[r.inj r',Vals.inj t t']
section
variable {X:Cx}{pins:@Do}{σ:St}{H:Hp}{s:Shared}{a:Addr}{xs ys:List V}
def Inv.list (I:@B_)(h:ji X.K H a xs):∃its:@G_,Vals xs its/\PlainL s.heap a its.toArray/\xs.length<=sizeLine:=by
 rcases h with h | ⟨o,its,n,hk,hc,hd,hs,hz,r⟩
 ·obtain⟨z,its,n,r,e⟩:=h.ok I.hok
  exact⟨its,r,⟨_,n,e,rfl,rfl,rfl⟩,z⟩
 ·refine⟨its.toList,r,⟨o,n,I.kIn a o hk,hc,hd,by simpa using hs⟩,?_⟩
  have e:=r.length
  simp only[Array.length_toList] at e
  omega
def Inv.tuple (I:@B_)(h:gr X.K H a xs):∃its:@G_,Vals xs its/\IsTup s.heap a its.toArray/\xs.length<=sizeLine:=by
 rcases h with h | ⟨o,its,n,hk,hc,hs,hz,r,_⟩
 ·obtain⟨z,its,r,p⟩:=h.ok I.hok
  exact⟨its,r,p.isTup,z⟩
 ·refine⟨its.toList,r,⟨o,I.kIn a o hk,hc,n,by simpa using hs⟩,?_⟩
  have e:=r.length
  simp only[Array.length_toList] at e
  omega
def Inv.list_inj (I:@B_)(h:ji X.K H a xs)(h':ji X.K H a ys):xs=ys:=by
 obtain⟨its,r,⟨o,n,e,_,_,d⟩,_⟩:=I.list h
 obtain⟨its',r',⟨o',n',e',_,_,d'⟩,_⟩:=I.list h'
 rw[e] at e';cases e'
 rw[d] at d'
 injection d' with d1 _
 have:its=its':=by simpa using congrArg Array.toList d1
 subst this
 exact r.inj r'
def Inv.tuple_inj (I:@B_)(h:gr X.K H a xs)(h':gr X.K H a ys):xs=ys:=by
 obtain⟨its,r,⟨o,e,_,n,d⟩,_⟩:=I.tuple h
 obtain⟨its',r',⟨o',e',_,n',d'⟩,_⟩:=I.tuple h'
 rw[e] at e';cases e'
 rw[d] at d'
 injection d' with d1 _
 have:its=its':=by simpa using congrArg Array.toList d1
 subst this
 exact r.inj r'
end
abbrev Cx.wish (X:Cx)(E:@EQ):Cx:={X with xe:=E}
abbrev Cx.nox (X:Cx):Cx:=X.wish λ_ _=>False
def Cx.Ok.wish {X:Cx}(ok:X.Ok)(E:@EQ):(X.wish E).Ok:=
 ⟨ok.mod,ok.kind,ok.glob,ok.blt,ok.above,ok.inj,ok.has,ok.cab,ok.hd,ok.frames,ok.stk,ok.exf,ok.bs,ok.bsz,ok.noex,ok.exfs,ok.funs,ok.frf⟩
def Cx.Ok.unwish {X:Cx}{E:@EQ}(ok:(X.wish E).Ok):X.Ok:=
 ⟨ok.mod,ok.kind,ok.glob,ok.blt,ok.above,ok.inj,ok.has,ok.cab,ok.hd,ok.frames,ok.stk,ok.exf,ok.bs,ok.bsz,ok.noex,ok.exfs,ok.funs,ok.frf⟩
section
variable {X:Cx}{pins:@Do}{σ:St}{H:Hp}{s:Shared}{E:@EQ}
def Inv.wish (I:@B_)(E:@EQ):Inv (X.wish E) pins σ H s:=⟨I.ok.wish E,I.os,I.bare,I.base,I.loc,I.cell,I.free,I.freeC,I.pin,I.hok,I.len⟩
def Inv.unwish (I:Inv (X.wish E) pins σ H s):@B_:=⟨I.ok.unwish,I.os,I.bare,I.base,I.loc,I.cell,I.free,I.freeC,I.pin,I.hok,I.len⟩
theorem SP.unwish {D:Ends}{f:Flow}{s':Shared}(h:SP (X.wish E) pins D f s'):SP X pins D f s':=by
 cases f with
 |next=>obtain⟨σ',H',I,q⟩:=h;exact⟨σ',H',I.unwish,q⟩
 |brk=>obtain⟨σ',H',I,q⟩:=h;exact⟨σ',H',I.unwish,q⟩
 |cont=>obtain⟨σ',H',I,q⟩:=h;exact⟨σ',H',I.unwish,q⟩
 |ret u=>obtain⟨v,σ',H',I,r,q⟩:=h;exact⟨v,σ',H',I.unwish,r,q⟩
def u6.nox {st:List Stmt}{t:TS}(h:u6 X.nox st t):u6 X st t:=λpins s σ H D I hw=>
 Sy (h pins s σ H D (I.wish _) hw) (λ_ _ q=>q.unwish) λ_ _ z=>False.elim z
end
section
variable {X:Cx}{st:Stmt}{rest:List Stmt}{t u:TS}{e:Expr}{te:TE}{pos:Pos}
def MV:TS:=λD σ H=>D.nx σ H
def Py (t u:TS):TS:=λD σ H=>t {D with nx:=u D} σ H
def BU:u6 X [] MV:=λ_ _ σ H _ I h=>wpAny_execs_nil ⟨σ,H,I,h⟩
theorem jY (h1:PS X st t)(h2:u6 X rest u):u6 X (st :: rest) (Py t u):=by
 intro pins s σ H D I h
 refine wpAny_execs_cons (cZ (h1 pins s σ H {D with nx:=u D} I h) λf s1 q=>?_)
 cases f with
 |next=>
  obtain⟨σ',H',I',q⟩:=q
  exact h2 pins s1 σ' H' D I' q
 |ret v=>exact q
 |brk=>exact q
 |cont=>exact q
theorem ko (h1:PS X st t):u6 X [st] t:=by
 intro pins s σ H D I h
 refine wpAny_execs_cons (cZ (h1 pins s σ H D I h) λf s1 q=>?_)
 cases f with
 |next=>exact wpAny_execs_nil q
 |ret v=>exact q
 |brk=>exact q
 |cont=>exact q
def Inv.quiet {pins:@Do}{σ:St}{H:Hp}{s:Shared}(I:@B_):interactive X.env=false:=by simp[interactive,I.ok.kind]
def Oz (te:TE):TS:=λD σ H=>te σ H λ_ H1=>D.nx σ H1
def rK (he:PE X e te)(hs:swapsWith e none pos.line X.env=pure false:=by rfl):PS X (.Expr e pos) (Oz te):=by
 intro pins s σ H D I h
 exact wpAny_Expr_any (cZ (he pins s σ H _ I h) λv s1 ⟨x,H1,I1,r1,q1⟩=>⟨σ,H1,I1,q1⟩) I.quiet hs
def Qj (te:TE):TS:=λD σ H=>te σ H D.rt
def qb (he:PE X e te):PS X (.Return (some e) pos) (Qj te):=by
 intro pins s σ H D I h
 exact wpAny_Return_some (cZ (he pins s σ H _ I h) λv s1 ⟨x,H1,I1,r1,q1⟩=>⟨x,σ,H1,I1,r1,q1⟩)
def O9 (c:TT)(t u:TS):TS:=λD σ H=>c σ H λb H1=>if b=true then t D σ H1 else u D σ H1
theorem Kh {c:Expr}{a b:List Stmt}{tc:TT}(hc:PT X c tc)(ha:u6 X a t)(hb:u6 X b u):PS X (.If c a b pos) (O9 tc t u):=by
 intro pins s σ H D I h
 refine wpAny_If (cZ (hc pins s σ H _ I h) λd s1 ⟨H1,I1,q1⟩=>?_)
 cases d with
 |true=>exact ha pins s1 σ H1 D I1 q1
 |false=>exact hb pins s1 σ H1 D I1 q1
end
abbrev TG:=V->St->Hp->(St->@P3)->Prop
abbrev L9:=List V->St->Hp->(St->@P3)->Prop
def PG (X:Cx)(target:Expr)(t:TG):Prop:=
 ∀(pins:@Do) (s:Shared) (σ:St) (H:Hp) (v:V) (u:Value) (Q:St->@P3),@B_->RelV v u->t v σ H Q->
  wpAny @Ev X.A (assign target X.env u) (λ_ s'=>∃σ' H',Inv X pins σ' H' s'/\Q σ' H') X.xe s
def OP (X:Cx)(ts:List Expr)(t:L9):Prop:=
 ∀(pins:@Do) (s:Shared) (σ:St) (H:Hp) (vs:List V) (us:@G_) (Q:St->@P3),@B_->Vals vs us->t vs σ H Q->
  wpAny @Ev X.A (assignInOrder ((assignEach ts X.env).map (·.2)) us) (λ_ s'=>∃σ' H',Inv X pins σ' H' s'/\Q σ' H') X.xe s
abbrev MK:=V->V->V->Hp->(@P3)->Prop
def Gj (X:Cx)(t:MK):Prop:=
 ∀(pins:@Do) (s:Shared) (σ:St) (H:Hp) (o i v:V) (ov iv u:Value) (Q:@P3),@B_->RelV o ov->RelV i iv->RelV v u->t o i v H Q->
  wpAny @Ev X.A (setItem ov iv u) (λ_ s'=>∃H',Inv X pins σ H' s'/\Q H') X.xe s
section
variable {X:Cx}{pos:Pos}
def oz (i:Nat):TG:=λv σ H Q=>Q (σ.set i (some v)) H
def dX {i:Nat}{x:Str}(hN:X.N.Nodup)(hi:X.N[i]? =some x)(hx:Loc X.env.scope x)(hf:X.fn x=true\/@On:=by first |exact .inl rfl |exact .inr rfl |assumption):PG X (.Name x pos) (oz i):=by
 intro pins s σ H v u Q I r h
 exact wpAny_assign_Name (pU I hN hi hx r (λs' I'=>⟨_,H,I',h⟩) hf)
def Hq:L9:=λvs σ H Q=>vs= []/\Q σ H
def sf (t:TG)(u:L9):L9:=λvs σ H Q=>∃v r,vs=v :: r/\t v σ H λσ' H'=>u r σ' H' Q
def pG:OP X [] Hq:=by
 intro pins s σ H vs us Q I r h
 obtain⟨e,h⟩:=h
 subst e
 cases r
 exact assignInOrder_nil ⟨σ,H,I,h⟩
theorem fB {e:Expr}{es:List Expr}{t:TG}{u:L9}(h1:PG X e t)(h2:OP X es u)
  (hs:(assignEach (e :: es) X.env).map (·.2)=assign e X.env :: (assignEach es X.env).map (·.2):=by rfl):OP X (e :: es) (sf t u):=by
 intro pins s σ H vs us Q I r h
 obtain⟨v,vr,e1,h⟩:=h
 subst e1
 cases r with
 |cons r rr=>
  rw[hs]
  refine assignInOrder_cons (cZ (h1 pins s σ H _ _ _ I r h) λ_ s1 ⟨σ1,H1,I1,q1⟩=>?_)
  exact h2 pins s1 σ1 H1 _ _ Q I1 rr q1
def IW (K:Frag)(n:Nat)(t:L9):TG:=λv σ H Q=>∃a xs,v=.ref a/\gr K H a xs/\xs.length=n/\t xs σ H Q
def sV {es:List Expr}{k:Nat}{t:L9}{n:Nat}(hc:X.calm=true)(h:OP X es t)
  (hn:(assignEach es X.env).length=n:=by rfl) (hst:(assignEach es X.env).findIdx? (·.1)=none:=by rfl):PG X (.Tuple es k pos) (IW X.K n t):=by
 intro pins s σ H v u Q I r hw
 obtain⟨a,xs,e1,hq,hl,hw⟩:=hw
 subst e1
 cases r
 obtain⟨its,rv,ht,hz⟩:=I.tuple hq
 refine assign_Tuple_tuple (I.ok.hd hc) ht (by simp[hn,<-hl,rv.length]) hst λh' hx=>?_
 have I1:Inv X pins σ H {s with heap:=h'}:=I.kept (t':=s.toks) λb o e=>hx b o (R6 (Rx e)) e
 exact h pins _ σ H xs _ Q I1 (by simpa using rv) hw
def Ql (to ti:TE)(t:MK):TG:=λv σ H Q=>to σ H λo H1=>ti σ H1 λi H2=>t o i v H2 λH3=>Q σ H3
def wM {o i:Expr}{to ti:TE}{t:MK}(ho:PE X o to)(hi:PE X i ti)(hs:Gj X t)
  (ha:∀v,assign (.Subscript o i pos) X.env v=(do
   let ov <-holding [v] (eval o X.env)
   let iv <-holding [v,ov] (eval i X.env)
   standAt pos
   holding [v,ov,iv] (setItem ov iv v)
   release [v,ov,iv] []):=by intro _;rfl):PG X (.Subscript o i pos) (Ql to ti t):=by
 intro pins s σ H v u Q I r h
 rw[ha]
 refine Ra (S1 (cZ (ho pins s σ H _ I h) λov s1 ⟨x,H1,I1,r1,q1⟩=>?_))
 refine Ra (S1 (cZ (hi pins s1 σ H1 _ I1 q1) λiv s2 ⟨y,H2,I2,r2,q2⟩=>?_))
 refine Ra (wpAny_standAt (Ra (S1 (cZ (hs pins s2 σ H2 x y v ov iv u _ I2 r1 r2 r q2) λ_ s3 ⟨H3,I3,q3⟩=>?_))))
 exact wpAny_release ⟨σ,H3,I3,q3⟩
def NG (te:TE)(g:TG):TS:=λD σ H=>te σ H λx H1=>g x σ H1 D.nx
def tY {tg e:Expr}{te:TE}{g:TG}(he:PE X e te)(hg:PG X tg g)(hs:swapsWithSole [tg] e pos.line X.env=pure false:=by rfl)(hw:swappedStores [tg] e X.env=pure none:=by rfl)
  (h1:(assignEach [tg] X.env).map (·.2)= [assign tg X.env]:=by rfl):PS X (.Assign [tg] e pos) (NG te g):=by
 intro pins s σ H D I h
 refine wpAny_Assign_stores (cZ (he pins s σ H _ I h) λv s1 ⟨x,H1,I1,r1,q1⟩=>?_) hs hw
 rw[h1]
 exact cZ (hg pins s1 σ H1 x v _ I1 r1 q1) λ_ s2 q=>q
def tV {i:Nat}{x:Str}{e:Expr}{te:TE}{pos':Pos}(hN:X.N.Nodup)(hi:X.N[i]? =some x)(hx:Loc X.env.scope x)(he:PE X e te)(hs:swapsWith e (some (.Name x pos')) pos.line X.env=pure false:=by rfl)(hf:X.fn x=true\/@On:=by first |exact .inl rfl |exact .inr rfl |assumption) :
  PS X (.Assign [.Name x pos'] e pos) (NG te (oz i)):=by
 intro pins s σ H D I h
 refine wpAny_Assign_Name (cZ (he pins s σ H _ I h) λv s1 ⟨y,H1,I1,r1,q1⟩=>?_) hs
 exact pU I1 hN hi hx r1 (λs2 I2=>⟨_,H1,I2,q1⟩) hf
def Pz (i j:Nat)(ta:TA):TS:=λD σ H=>ta σ H λvs H1=>∃v w,vs= [v,w]/\D.nx ((σ.set i (some v)).set j (some w)) H1
def KO {i j:Nat}{x y:Str}{a b:Expr}{ta:TA}{px py pt:Pos}{kt k2 pt2}(hc:X.calm=true)(hN:X.N.Nodup)(hi:X.N[i]? =some x)(hj:X.N[j]? =some y)(hij:i≠j)
  (hx:@On) (hy:X.env.scope.names.lookup y=some .local) (ha:PA X [a,b] ta)
  (hw:swappedStores [.Tuple [.Name x px,.Name y py] kt pt] (.Tuple [a,b] k2 pt2) X.env=pure (some [x,y]))
  (hs:swapsWithSole [.Tuple [.Name x px,.Name y py] kt pt] (.Tuple [a,b] k2 pt2) pos.line X.env=pure false:=by rfl) :
  PS X (.Assign [.Tuple [.Name x px,.Name y py] kt pt] (.Tuple [a,b] k2 pt2) pos) (Pz i j ta):=by
 intro pins s σ H D I h
 rw[exec_Assign_arm]
 refine Ra (wpAny_standAt ?_)
 rw[hs]
 refine Ra (Rv ?_)
 rw[Rj @E_]
 refine Ra (Tuple_ (cZ (ha _ pins s σ H _ I h) λus s1 ⟨vs,H1,I1,r1,q1⟩=>?_))
 obtain⟨v,w,e1,q1⟩:=q1
 subst e1
 obtain⟨u1,u2,rfl,rv,rw'⟩:∃u1 u2,us= [u1,u2]/\RelV v u1/\RelV w u2:=by
  cases r1 with
  |cons p q=>
   cases q with
   |cons p' q'=>
    cases q'
    exact⟨_,_,rfl,p,p'⟩
 refine S3 ?_ (by show 2<=sizeLine;decide)
 have I2:Inv X pins σ H1 {s1 with heap:=s1.heap.push {cls:=.type "tuple",data:=.seq [u1,u2].toArray}}:=I1.kept (t':=s1.toks) λb o e=>Ri _ e
 rw[hw]
 refine Ra (Rv ?_)
 show wpAny @Ev X.A (do rule "assign.swapped-stores";let items <-unpackItems (.ref s1.heap.objs.size) 2 none;assignInOrder [λv=>bindName X.env y v,λv=>bindName X.env x v] items.reverse;pure Flow.next) _ _ _
 refine Ra (wpAny_rule (Ra (unpackItems_tuple (items:=#[u1,u2]) (I.ok.hd hc) (IsTup.new s1.heap _) λh' hx'=>?_)))
 have I3:=I2.kept (h':=h') (t':=s1.toks) λb o e=>hx' b o (R6 (Rx e)) e
 show wpAny _ _ (assignInOrder [λv=>bindName X.env y v,λv=>bindName X.env x v] [u2,u1] >>= λ_=>pure Flow.next) _ _ _
 refine Ra (assignInOrder_cons (wpAny_bindName (pU I3 hN hj (.inl hy) rw' (λs2 I4=>?_) (.inr hy))))
 refine assignInOrder_cons (wpAny_bindName (pU I4 hN hi (.inl hx) rv (λs3 I5=>assignInOrder_nil (Rv ?_)) (.inr hx)))
 rw[List.set_comm _ _ (Ne.symm hij)] at I5
 exact⟨_,H1,I5,q1⟩
end
section
variable {X:Cx}{pos:Pos}
def MF (c:TT)(tb:TS):TS:=λD σ H=>∃W:Nat->St->@P3,(∃m,W m σ H)/\∀m σ H,W m σ H->
 c σ H λb H1=>if b=true then ∃N:St->@P3,(∀σ' H',N σ' H'->∃m',m' < m/\W m' σ' H')/\tb {D with nx:=N,ct:=N,bk:=D.nx} σ H1 else D.nx σ H1
theorem FA {c:Expr}{body:List Stmt}{tc:TT}{tb:TS}(hp:PassesOwn @Ev X.A X.env X.xe)(hc:PT X c tc)(hb:u6 X body tb):PS X (.While c body [] pos) (MF tc tb):=by
 intro pins s σ H D I h
 obtain⟨W,⟨m0,w0⟩,turn⟩:=h
 refine wpAny_While (codeAny_whileLoop (λn s'=>∃σ' H',Inv X pins σ' H' s'/\W n σ' H') ?_ m0 ⟨σ,H,I,w0⟩)
 rintro n s1 ⟨σ1,H1,I1,w1⟩
 refine Tw hp (cZ (hc pins s1 σ1 H1 _ I1 (turn n σ1 H1 w1)) λb s2 ⟨H2,I2,q2⟩=>?_)
 cases b with
 |true=>
  obtain⟨N,hN,q2⟩:=q2
  rw[Rg rfl]
  refine Tw hp (cZ (hb pins s2 σ1 H2 _ I2 q2) λf s3 q3=>?_)
  cases f with
  |next=>
   obtain⟨σ3,H3,I3,n3⟩:=q3
   obtain⟨m',hm,w3⟩:=hN σ3 H3 n3
   exact⟨m',hm,σ3,H3,I3,w3⟩
  |cont=>
   obtain⟨σ3,H3,I3,n3⟩:=q3
   obtain⟨m',hm,w3⟩:=hN σ3 H3 n3
   exact⟨m',hm,σ3,H3,I3,w3⟩
  |brk=>exact q3
  |ret v=>exact q3
 |false=>
  rw[Rj RK]
  exact wpAny_execs_nil ⟨σ1,H2,I2,q2⟩
end
structure It where
 go:Nat->@P3
 yld:Nat->Hp->V->@P3
 stop:Nat->@P3
def lg (X:Cx)(pins:@Do)(H:Hp)(b:Addr):Prop:=
 H b=none/\b≠X.env.locals/\b∉X.fs/\(b∈X.ex\/X.s₀.heap.objs.size<=b)/\(∀x c,@No->c≠b)/\∀p∈X.pn ++ pins,p.1≠b
def Inv.fpOk {X:Cx}{pins:@Do}{σ:St}{H H':Hp}{s:Shared}{b:Addr}(I:@B_)(hb:s.heap.objs.size<=b)(hn:H' b=none):lg X pins H' b:=by
 refine⟨hn,Nat.ne_of_gt (RY I.lt hb),I.nofs hb,.inr (Sd I.sz hb),λx c e z=>?_,λp hp z=>?_⟩
 ·obtain⟨v,q⟩:=I.cell x c e
  exact absurd (RY q.lt (by rw[z];exact hb)) (RU _)
 ·exact absurd (RY (Rx (I.pin p hp).1) (by rw[z];exact hb)) (RU _)
structure Turn (P:Program)(w:World)(K:Frag)(tg:Expr)(J:It)(fp:List Addr)(it:Addr)(tn:Nat->Heap->Prop):Prop where
 mem:it∈fp
 obj:∀i h,tn i h->∀b∈fp,∃o,h.get? b=some o/\∀v,o.data≠.cell v
 keep:∀i h h',tn i h->(∀b∈fp,∀o,h.get? b=some o->h'.get? b=some o)->tn i h'
 item:∀(X:Cx),X.prog=P->X.w=w->X.K=K->X.calm=true->∀(i:Nat) (pins:@Do) (s:Shared) (σ:St) (H:Hp) (E:@EQ),@B_->(∀b∈fp,lg X pins H b)->tn i s.heap->J.go i H->
  wpAny (model P w) X.A (pyNext (.ref it)) (λr s1=>∃u,r=some u/\
   wpAny (model P w) X.A (letOwnedTupleGo tg (.ref it) u) (λ_ s2=>∃x H',Inv X pins σ H' s2/\RelV x u/\J.yld i H x H'/\tn (i + 1) s2.heap/\∀b∈fp,H' b=none) E s1) E s
 done:∀(X:Cx),X.prog=P->X.w=w->X.K=K->X.calm=true->∀(i:Nat) (pins:@Do) (s:Shared) (σ:St) (H:Hp) (E:@EQ),@B_->(∀b∈fp,lg X pins H b)->tn i s.heap->J.stop i H->
  wpAny (model P w) X.A (pyNext (.ref it)) (λr s1=>r=none/\Inv X pins σ H s1) E s
 self:∀(A:Around) (i:Nat) (s:Shared) (Q:@EQ) (E:@EQ),tn i s.heap->Q (.ref it) s->wpAny (model P w) A (pyIter (.ref it)) Q E s
abbrev TI:=St->Hp->(It->@P3)->Prop
def QM (X:Cx)(pins:@Do)(σ:St)(tg:Expr)(R:It->@P3)(itv:Value)(s2:Shared):Prop:=
 ∃(it:Addr) (fp:List Addr) (tn:Nat->Heap->Prop) (J:It) (H':Hp),itv=.ref it/\Inv X pins σ H' s2/\Turn X.prog X.w X.K tg J fp it tn/\tn 0 s2.heap/\(∀b∈fp,lg X pins H' b)/\R J H'
def PI (X:Cx)(tg iter:Expr)(wi:TI):Prop:=
 ∀(pins:@Do) (s:Shared) (σ:St) (H:Hp) (R:It->@P3),@B_->wi σ H R->
  wpAny @Ev X.A (eval iter X.env) (λv s1=>wpAny @Ev X.A (pyIter v) (QM X pins σ tg R) X.xe s1) X.xe s
def Fu {M:Model}{A:Around}{E:@EQ}{s:Shared}{tg:Expr}{it:Addr}{u:Value}{o:Obj}{n:String}{vs:Array Value}{Q:Unit->Shared->Prop}(ho:s.heap.get? it=some o)(hc:o.cls=.type n)(hd:o.data=.fields vs)
  (hn: ["enumerate","zip","dict_itemiterator","dict_reverseitemiterator","odict_iterator","itertools.zip_longest","itertools.pairwise"].contains n=false) (hQ:Q () s):wpAny M A (letOwnedTupleGo tg (.ref it) u) Q E s:=by
 unfold letOwnedTupleGo
 cases tg <;> first
  |exact Rv hQ
  | (cases u <;> first
    |exact Rv hQ
    | (refine Ra (wpAny_load ho ?_)
       rw[hc,hd]
       show wpAny M A (if (["enumerate","zip","dict_itemiterator","dict_reverseitemiterator","odict_iterator","itertools.zip_longest","itertools.pairwise"].contains n && vs[0]? == some (rawInt _))=true then _ else _) Q E s
       rw[Rj (by intro h;rw[hn,Bool.false_and] at h;cases h)]
       exact Rv hQ))
def DA (K:Frag)(a:Addr):It:=
 ⟨λi H=>∃xs x,ji K H a xs/\xs[i]? =some x,λi H x H'=>H'=H/\∀xs,ji K H a xs->xs[i]? =some x,λi H=>∃xs,ji K H a xs/\xs.length<=i⟩
def JX (K:Frag)(a:Addr):It:=
 ⟨λi H=>∃xs x,gr K H a xs/\xs[i]? =some x,λi H x H'=>H'=H/\∀xs,gr K H a xs->xs[i]? =some x,λi H=>∃xs,gr K H a xs/\xs.length<=i⟩
def El (lo:Int)(n:Nat):It:=⟨λi _=>i < n,λi H x H'=>H'=H/\x=.int (lo + i),λi _=>n<=i⟩
def p9 {P:Program}{w:World}{K:Frag}{tg:Expr}(a it:Addr):Turn P w K tg (DA K a) [it] it (λi h=>h.IsListIter it a i) where
 mem:=@KM
 obj:=λi h st b hb=>by
  have e:b=it:=by simpa using hb
  subst e
  obtain⟨o,e,c,d⟩:=st
  exact⟨o,e,λv z=>by rw[d] at z;cases z⟩
 keep:=λi h h' st k=>st.at λo e=>k it (@KM) o e
 item:=by
  intro X hP hw hK hc i pins s σ H E I hf st hg
  subst hP hw hK
  obtain⟨xs,x,hq,hx⟩:=hg
  obtain⟨its,rv,p,hz⟩:=I.list hq
  obtain⟨u,hu,ru⟩:=rv.get hx
  obtain⟨f0,f1,f2,f3,f4,f5⟩:=hf it (@KM)
  refine wpAny_pyNext_list_item st p.isList (x:=u) (by simpa using hu) λh' st' sb=>?_
  have I1:Inv X pins σ H {s with heap:=h'}:=I.turned (t':=s.toks) (λb o hb e=>(sb.2 b hb).trans e) f0 f1 f3 f4 f5
  obtain⟨o,e,c,d⟩:=id st'
  exact⟨u,rfl,Fu (s:={s with heap:=h'}) e c d @E_ ⟨x,H,I1,ru,⟨rfl,λys hy=>by rw[I.list_inj hy hq];exact hx⟩,st',λb hb=>(hf b hb).1⟩⟩
 done:=by
  intro X hP hw hK hc i pins s σ H E I hf st hg
  subst hP hw hK
  obtain⟨xs,hq,hx⟩:=hg
  obtain⟨its,rv,p,hz⟩:=I.list hq
  obtain⟨f0,f1,f2,f3,f4,f5⟩:=hf it (@KM)
  have hl:=rv.length
  exact wpAny_pyNext_list_end (I.ok.hd hc) st p.isList (by simp;omega) λh' eb=>⟨rfl,I.turned (t':=s.toks) (λb o hb e=>eb b o hb e) f0 f1 f3 f4 f5⟩
 self:=λ_ _ _ _ _ st h=>wpAny_pyIter_listiter st h
def tK {P:Program}{w:World}{K:Frag}{tg:Expr}(a it:Addr):Turn P w K tg (JX K a) [it] it (λi h=>h.IsTupleIter it a i) where
 mem:=@KM
 obj:=λi h st b hb=>by
  have e:b=it:=by simpa using hb
  subst e
  obtain⟨o,e,c,d⟩:=st
  exact⟨o,e,λv z=>by rw[d] at z;cases z⟩
 keep:=λi h h' st k=>st.at λo e=>k it (@KM) o e
 item:=by
  intro X hP hw hK hc i pins s σ H E I hf st hg
  subst hP hw hK
  obtain⟨xs,x,hq,hx⟩:=hg
  obtain⟨its,rv,p,hz⟩:=I.tuple hq
  obtain⟨u,hu,ru⟩:=rv.get hx
  obtain⟨f0,f1,f2,f3,f4,f5⟩:=hf it (@KM)
  refine wpAny_pyNext_tuple_item st (show s.heap.IsTuple a its.toArray from p) (x:=u) (by simpa using hu) λh' st' sb=>?_
  have I1:Inv X pins σ H {s with heap:=h'}:=I.turned (t':=s.toks) (λb o hb e=>(sb.2 b hb).trans e) f0 f1 f3 f4 f5
  obtain⟨o,e,c,d⟩:=id st'
  exact⟨u,rfl,Fu (s:={s with heap:=h'}) e c d @E_ ⟨x,H,I1,ru,⟨rfl,λys hy=>by rw[I.tuple_inj hy hq];exact hx⟩,st',λb hb=>(hf b hb).1⟩⟩
 done:=by
  intro X hP hw hK hc i pins s σ H E I hf st hg
  subst hP hw hK
  obtain⟨xs,hq,hx⟩:=hg
  obtain⟨its,rv,p,hz⟩:=I.tuple hq
  obtain⟨f0,f1,f2,f3,f4,f5⟩:=hf it (@KM)
  have hl:=rv.length
  exact wpAny_pyNext_tuple_end (I.ok.hd hc) st (show s.heap.IsTuple a its.toArray from p) (by simp;omega) λh' eb=>⟨rfl,I.turned (t':=s.toks) (λb o hb e=>eb b o hb e) f0 f1 f3 f4 f5⟩
 self:=λ_ _ _ _ _ st h=>wpAny_pyIter_tupleiter st h
def zJ {P:Program}{w:World}{K:Frag}{tg:Expr}(it:Addr)(lo:Int)(n:Nat):Turn P w K tg (El lo n) [it] it (λi h=>IsRangeIter h it (lo + (i:Nat) * 1) ((n:Int) - (i:Nat)) 1) where
 mem:=@KM
 obj:=λi h st b hb=>by
  have e:b=it:=by simpa using hb
  subst e
  exact⟨_,st,λv z=>by
   have z':Data.fields _=Data.cell v:=z
   cases z'⟩
 keep:=λi h h' st k=>k it (@KM) _ st
 item:=by
  intro X hP hw hK hc i pins s σ H E I hf st hg
  subst hP hw hK
  obtain⟨f0,f1,f2,f3,f4,f5⟩:=hf it (@KM)
  have W:=Walks.range (prog:=X.prog) (w:=X.w) (I.ok.hd hc) it lo 1 n
  refine W.item i s _ _ hg st λv h' tk hv st' kk=>?_
  obtain⟨t,rfl⟩:=hv
  have I1:Inv X pins σ H {s with heap:=h',toks:=tk}:=I.turned (λb o hb e=>kk b o (by simpa using hb) e) f0 f1 f3 f4 f5
  refine⟨_,rfl,Fu (s:={s with heap:=h',toks:=tk}) (n:="range_iterator") st' rfl rfl @E_ ⟨.int (lo + i),H,I1,⟨t,?_⟩,⟨rfl,rfl⟩,st',λb hb=>(hf b hb).1⟩⟩
  rw[Int.mul_one]
 done:=by
  intro X hP hw hK hc i pins s σ H E I hf st hg
  subst hP hw hK
  obtain⟨f0,f1,f2,f3,f4,f5⟩:=hf it (@KM)
  exact wpAny_pyNext_range_end (I.ok.hd hc) st (by have:n<=i:=hg;omega) λh' eb=>⟨rfl,I.turned (t':=s.toks) (λb o hb e=>eb b o hb e) f0 f1 f3 f4 f5⟩
 self:=λ_ _ _ _ _ st h=>wpAny_pyIter_rangeiter st h
section
variable {X:Cx}{tg:Expr}
def Oh (K:Frag)(tl:TE):TI:=λσ H R=>tl σ H λx H1=>∃a,x=.ref a/\(∃xs,ji K H1 a xs)/\R (DA K a) H1
def BX {l:Expr}{tl:TE}(hl:PE X l tl):PI X tg l (Oh X.K tl):=by
 intro pins s σ H R I h
 refine cZ (hl pins s σ H _ I h) λv s1 ⟨x,H1,I1,r1,q1⟩=>?_
 obtain⟨a,e,⟨xs,hq⟩,q⟩:=q1
 subst e
 cases r1
 obtain⟨its,rv,p,hz⟩:=I1.list hq
 refine TF p.isList ?_
 refine⟨s1.heap.objs.size,[s1.heap.objs.size],_,_,H1,rfl,I1.kept (t':=s1.toks) λb o e=>Ri _ e,p9 a _,⟨_,RB _ rfl,rfl,rfl⟩,λb hb=>?_,q⟩
 have e:b=s1.heap.objs.size:=by simpa using hb
 subst e
 exact I1.fpOk (Rh _) (I1.hok.fresh (Rh _))
def D6 {pins:@Do}{σ:St}{H:Hp}{s:Shared}{R:It->@P3}{E:@EQ}{lo hi:Int}{t u v:Tok}{tk:Nat}(I:@B_)(h1: -(2 ^ 62)<=lo)(h2:lo < 2 ^ 62)(h3: -(2 ^ 62)<=hi)(h4:hi < 2 ^ 62)
  (q:R (El lo (hi - lo).toNat) H):wpAny @Ev X.A (pyIter (@Ty)) (QM X pins σ tg R) E {s with heap:=s.heap.push {cls:=.type "range",data:=.fields #[.int lo t,.int hi u,.int 1 v]},toks:=tk}:=by
 refine wpAny_pyIter_range (IsRange.new ..) (small_one h1 h2 h3 h4) ?_
 have I1:Inv X pins σ H {s with heap:=s.heap.push {cls:=.type "range",data:=.fields #[.int lo t,.int hi u,.int 1 v]},toks:=tk}:=I.kept λb o e=>Ri _ e
 refine⟨(s.heap.push {cls:=.type "range",data:=.fields #[.int lo t,.int hi u,.int 1 v]}).objs.size,[(s.heap.push {cls:=.type "range",data:=.fields #[.int lo t,.int hi u,.int 1 v]}).objs.size],_,_,H,rfl,
  I1.kept (t':=tk) λb o e=>Ri _ e,zJ _ lo (hi - lo).toNat,?_,λb hb=>?_,q⟩
 ·have e1:lo + ((0:Nat):Int) * 1=lo:=@KM
  have e2:(((hi - lo).toNat:Nat):Int) - ((0:Nat):Int)=Builtin.Range.rangeSize lo hi 1:=by rw[rangeSize_one];split <;> omega
  show IsRangeIter _ _ (lo + ((0:Nat):Int) * 1) ((((hi - lo).toNat:Nat):Int) - ((0:Nat):Int)) 1
  rw[e1,e2]
  exact RB _ rfl
 ·have e:b=(s.heap.push {cls:=.type "range",data:=.fields #[.int lo t,.int hi u,.int 1 v]}).objs.size:=by simpa using hb
  subst e
  exact I1.fpOk (Rh _) (I1.hok.fresh (Rh _))
def ND (ta:TA):TI:=λσ H R=>ta σ H λvs H1=>∃j:Int,vs= [.int j]/\ -(2 ^ 62)<=j/\j < 2 ^ 62/\R (El 0 j.toNat) H1
theorem nN {a:Expr}{ta:TA}{p pos:Pos}(hg:Gl X "range")(hm:X.mg "range"=none)(ha:PA X [a] ta)(hs:starEach [a] X.env= [(false,eval a X.env)]:=by rfl):PI X tg (.Call (.Name "range" p) [a] [] pos) (ND ta):=by
 intro pins s σ H R I h
 refine Call_ (oK I hg hm boot_range (Ts (cZ (ha pos pins s σ H _ I h) λus s1 ⟨vs,H1,I1,r1,q1⟩=>?_) hs rfl))
 obtain⟨j,e,q1,q2,q⟩:=q1
 subst e
 cases r1 with
 |cons r rr=>
  cases rr
  obtain⟨t,rfl⟩:=r
  exact call_range_1 (D6 I1 (@AT) (@AT) q1 q2 (by simpa using q))
def Px (wi:TI)(g:TG)(tb:TS):TS:=λD σ H=>wi σ H λJ H1=>∃W:Nat->Nat->St->@P3,(∃m,W 0 m σ H1)/\∀i m σ H,W i m σ H->
 (J.stop i H/\D.nx σ H)\/(J.go i H/\∃N:St->@P3,(∀σ' H',N σ' H'->∃m',m' < m/\W (i + 1) m' σ' H')/\∀x H',J.yld i H x H'->g x σ H' λσ2 H2=>tb {D with nx:=N,ct:=N,bk:=D.nx} σ2 H2)
def rX (fp:List Addr)(h:Heap):@Do:=fp.filterMap λb=>(h.get? b).map λo=>(b,o)
def ml {fp:List Addr}{h:Heap}{b:Addr}{o:Obj}(hb:b∈fp)(e:h.get? b=some o):(b,o)∈rX fp h:=TU.mpr ⟨b,hb,by rw[e];rfl⟩
theorem CT {fp:List Addr}{h:Heap}{p:Addr×Obj}(hp:p∈rX fp h):p.1∈fp/\h.get? p.1=some p.2:=by
 obtain⟨b,hb,e⟩:=TU.mp hp
 cases q:h.get? b with
 |none=>rw[q] at e;cases e
 |some o=>
  rw[q] at e
  have e':(b,o)=p:=Option.some.inj e
  subst e'
  exact⟨hb,q⟩
def Inv.pinned {pins:@Do}{σ:St}{H:Hp}{s:Shared}{fp:List Addr}(I:@B_)(hf:∀b∈fp,lg X pins H b)(ho:∀b∈fp,∃o,s.heap.get? b=some o/\∀v,o.data≠.cell v):Inv X (pins ++ rX fp s.heap) σ H s:=
 I.pins_of λp hp=>(Rw.mp hp).elim (λz=>I.pin p (RJ _ z)) λz=>by
  obtain⟨hb,e⟩:=CT z
  obtain⟨f0,f1,f2,_⟩:=hf p.1 hb
  obtain⟨o,e',d⟩:=ho p.1 hb
  rw[e] at e';cases e'
  exact⟨e,f0,f1,f2,d⟩
def Inv.unpinned {pins pl:@Do}{σ:St}{H:Hp}{s:Shared}(I:Inv X (pins ++ pl) σ H s):@B_:=I.pins_of λp hp=>I.pin p (RJ _ (Sg _ hp))
def wx {iter:Expr}{body:List Stmt}{wi:TI}{g:TG}{tb:TS}{pos:Pos}(hp:PassesOwn @Ev X.A X.env X.xe)(hc:X.calm=true)(hi:PI X tg iter wi)(hg:PG X tg g)(hb:u6 X body tb)
  (hs:∀x,foldedSetIterable iter X.env x=pure x:=by intro _;rfl):PS X (.For tg iter body [] pos) (Px wi g tb):=by
 intro pins s σ H D I h
 refine wpAny_For (cZ (hi pins s σ H _ I h) λv s1 h1=>cZ h1 λitv s2 h2=>?_) hs
 obtain⟨it,fp,tn,J,H2,e,I2,T,st2,f2,W,⟨m0,w0⟩,turn⟩:=h2
 subst e
 have stat:∀{H':Hp},(∀b∈fp,H' b=none)->∀b∈fp,lg X pins H' b:=λhn b hb=>⟨hn b hb,(f2 b hb).2⟩
 refine codeAny_forLoop_any (λn s'=>∃i σ' H',Inv X pins σ' H' s'/\tn i s'.heap/\(∀b∈fp,H' b=none)/\W i n σ' H') ?_ m0 ⟨0,σ,H2,I2,st2,λb hb=>(f2 b hb).1,w0⟩
 rintro n s3 ⟨i,σ3,H3,I3,st3,fr3,w3⟩
 rcases turn i n σ3 H3 w3 with⟨stop,qn⟩ | ⟨go,N,hN,step⟩
 ·refine Tw hp (cZ (T.done X rfl rfl rfl hc i pins s3 σ3 H3 X.xe I3 (stat fr3) st3 stop) λr s4 ⟨hr,I4⟩=>?_)
  subst hr
  exact wpAny_execs_nil ⟨σ3,H3,I4,qn⟩
 ·refine Tw hp (cZ (T.item X rfl rfl rfl hc i pins s3 σ3 H3 X.xe I3 (stat fr3) st3 go) λr s4 ⟨u,hr,h4⟩=>?_)
  subst hr
  refine Tw hp (cZ h4 λ_ s5 ⟨x,H5,I5,r5,y5,st5,fr5⟩=>?_)
  have I5':=I5.pinned (stat fr5) (T.obj _ _ st5)
  refine Tw hp (cZ (hg _ s5 σ3 H5 x u _ I5' r5 (step x H5 y5)) λ_ s6 ⟨σ6,H6,I6,q6⟩=>?_)
  refine Tw hp (cZ (hb _ s6 σ6 H6 _ I6 q6) λf s7 q7=>?_)
  have again:∀{σ7:St} {H7:Hp},Inv X (pins ++ rX fp s5.heap) σ7 H7 s7->N σ7 H7->∃m,m < n/\∃i σ' H',Inv X pins σ' H' s7/\tn i s7.heap/\(∀b∈fp,H' b=none)/\W i m σ' H':=λ{σ7 H7} I7 n7=>by
   obtain⟨m',hm,w7⟩:=hN σ7 H7 n7
   refine⟨m',hm,i + 1,σ7,H7,I7.unpinned,T.keep _ _ _ st5 λb hb o e=>(I7.pin (b,o) (RJ _ (RJ _ (ml hb e)))).1,λb hb=>?_,w7⟩
   obtain⟨o,e,d⟩:=T.obj _ _ st5 b hb
   exact (I7.pin (b,o) (RJ _ (RJ _ (ml hb e)))).2.1
  cases f with
  |next=>obtain⟨σ7,H7,I7,n7⟩:=q7;exact again I7 n7
  |cont=>obtain⟨σ7,H7,I7,n7⟩:=q7;exact again I7 n7
  |brk=>obtain⟨σ7,H7,I7,q7⟩:=q7;exact⟨σ7,H7,I7.unpinned,q7⟩
  |ret v=>obtain⟨x7,σ7,H7,I7,r7,q7⟩:=q7;exact⟨x7,σ7,H7,I7.unpinned,r7,q7⟩
end
def zw {K:Frag}{a:Addr}{xs:List V}{g:TG}{tb:TS}{D:Ends}{σ:St}{H:Hp}(Pv:Nat->St->@P3)(h0:Pv 0 σ H)(hl:∀i σ H,i<=xs.length->Pv i σ H->ji K H a xs)
  (hs:∀i x σ H,xs[i]? =some x->Pv i σ H->g x σ H λσ2 H2=>tb {D with nx:=Pv (i + 1),ct:=Pv (i + 1),bk:=D.nx} σ2 H2) (hd:∀σ H,Pv xs.length σ H->D.nx σ H) :
  ∃W:Nat->Nat->St->@P3,(∃m,W 0 m σ H)/\∀i m σ H,W i m σ H->
   ((DA K a).stop i H/\D.nx σ H)\/((DA K a).go i H/\∃N:St->@P3,(∀σ' H',N σ' H'->∃m',m' < m/\W (i + 1) m' σ' H')/\∀x H',(DA K a).yld i H x H'->g x σ H' λσ2 H2=>tb {D with nx:=N,ct:=N,bk:=D.nx} σ2 H2):=by
 refine⟨λi m σ H=>m=xs.length - i/\i<=xs.length/\Pv i σ H,⟨xs.length,@KM,Sb _,h0⟩,?_⟩
 rintro i m σ H ⟨rfl,hi,p⟩
 have q:=hl i σ H hi p
 by_cases hlt:i < xs.length
 ·refine .inr ⟨⟨xs,xs[i],q,by simp[hlt]⟩,Pv (i + 1),λσ' H' p'=>⟨xs.length - (i + 1),@AT,rfl,hlt,p'⟩,λx H' y=>?_⟩
  obtain⟨e,y⟩:=y
  subst e
  exact hs i x σ _ (y xs q) p
 ·have e:i=xs.length:=@AT
  subst e
  exact .inl ⟨⟨xs,q,Rh _⟩,hd σ H p⟩
def Jo {K:Frag}{a:Addr}{xs:List V}{g:TG}{tb:TS}{D:Ends}{σ:St}{H:Hp}(Pv:Nat->St->@P3)(h0:Pv 0 σ H)(hl:∀i σ H,i<=xs.length->Pv i σ H->gr K H a xs)
  (hs:∀i x σ H,xs[i]? =some x->Pv i σ H->g x σ H λσ2 H2=>tb {D with nx:=Pv (i + 1),ct:=Pv (i + 1),bk:=D.nx} σ2 H2) (hd:∀σ H,Pv xs.length σ H->D.nx σ H) :
  ∃W:Nat->Nat->St->@P3,(∃m,W 0 m σ H)/\∀i m σ H,W i m σ H->
   ((JX K a).stop i H/\D.nx σ H)\/((JX K a).go i H/\∃N:St->@P3,(∀σ' H',N σ' H'->∃m',m' < m/\W (i + 1) m' σ' H')/\∀x H',(JX K a).yld i H x H'->g x σ H' λσ2 H2=>tb {D with nx:=N,ct:=N,bk:=D.nx} σ2 H2):=by
 refine⟨λi m σ H=>m=xs.length - i/\i<=xs.length/\Pv i σ H,⟨xs.length,@KM,Sb _,h0⟩,?_⟩
 rintro i m σ H ⟨rfl,hi,p⟩
 have q:=hl i σ H hi p
 by_cases hlt:i < xs.length
 ·refine .inr ⟨⟨xs,xs[i],q,by simp[hlt]⟩,Pv (i + 1),λσ' H' p'=>⟨xs.length - (i + 1),@AT,rfl,hlt,p'⟩,λx H' y=>?_⟩
  obtain⟨e,y⟩:=y
  subst e
  exact hs i x σ _ (y xs q) p
 ·have e:i=xs.length:=@AT
  subst e
  exact .inl ⟨⟨xs,q,Rh _⟩,hd σ H p⟩
def De {lo:Int}{n:Nat}{g:TG}{tb:TS}{D:Ends}{σ:St}{H:Hp}(Pv:Nat->St->@P3)(h0:Pv 0 σ H)
  (hs:∀i σ H,i < n->Pv i σ H->g (.int (lo + i)) σ H λσ2 H2=>tb {D with nx:=Pv (i + 1),ct:=Pv (i + 1),bk:=D.nx} σ2 H2) (hd:∀σ H,Pv n σ H->D.nx σ H) :
  ∃W:Nat->Nat->St->@P3,(∃m,W 0 m σ H)/\∀i m σ H,W i m σ H->
   ((El lo n).stop i H/\D.nx σ H)\/((El lo n).go i H/\∃N:St->@P3,(∀σ' H',N σ' H'->∃m',m' < m/\W (i + 1) m' σ' H')/\∀x H',(El lo n).yld i H x H'->g x σ H' λσ2 H2=>tb {D with nx:=N,ct:=N,bk:=D.nx} σ2 H2):=by
 refine⟨λi m σ H=>m=n - i/\i<=n/\Pv i σ H,⟨n,@KM,Sb _,h0⟩,?_⟩
 rintro i m σ H ⟨rfl,hi,p⟩
 by_cases hlt:i < n
 ·refine .inr ⟨hlt,Pv (i + 1),λσ' H' p'=>⟨n - (i + 1),@AT,rfl,hlt,p'⟩,λx H' y=>?_⟩
  obtain⟨e,y⟩:=y
  subst e y
  exact hs i σ _ hlt p
 ·have e:i=n:=@AT
  subst e
  exact .inl ⟨Rh _,hd σ H p⟩
abbrev R2:=V->V->@P_
def m6 (X:Cx)(f:Value->Value->Sem Value)(r:R2):Prop:=
 ∀(pins:@Do) (s:Shared) (σ:St) (H:Hp) (x y:V) (v u:Value) (Q:VK),@B_->RelV x v->RelV y u->r x y H Q->
  wpAny @Ev X.A (f v u) (EP X pins σ Q) X.xe s
def OO (X:Cx)(f:Value->Sem Value)(r:V->@P_):Prop:=
 ∀(pins:@Do) (s:Shared) (σ:St) (H:Hp) (x:V) (v:Value) (Q:VK),@B_->RelV x v->r x H Q->
  wpAny @Ev X.A (f v) (EP X pins σ Q) X.xe s
def fC (X:Cx)(f:Value)(r:List V->@P_):Prop:=
 ∀(pins:@Do) (s:Shared) (σ:St) (H:Hp) (xs:List V) (us:@G_) (Q:VK),@B_->Vals xs us->r xs H Q->
  wpAny @Ev X.A (call f us) (EP X pins σ Q) X.xe s
def Qc (X:Cx)(r:V->Hp->(Bool->@P3)->Prop):Prop:=
 ∀(pins:@Do) (s:Shared) (σ:St) (H:Hp) (x:V) (v:Value) (Q:Bool->@P3),@B_->RelV x v->r x H Q->
  wpAny @Ev X.A (truthy v) (TP X pins σ Q) X.xe s
def O2 (r:R2)(ta tb:TE):TE:=λσ H Q=>ta σ H λx H1=>tb σ H1 λy H2=>r x y H2 Q
def Q4 (r:V->@P_)(ta:TE):TE:=λσ H Q=>ta σ H λx H1=>r x H1 Q
def rI (C:Int->Int->Prop)(g:Int->Int->V):R2:=λx y H Q=>∃i j,x=.int i/\y=.int j/\C i j/\Q (g i j) H
def ye (g:Int->Int->V):R2:=λx y H Q=>∃i j,x=.int i/\y=.int j/\Q (g i j) H
def rU (g:Int->V):V->@P_:=λx H Q=>∃i,x=.int i/\Q (g i) H
section
variable {X:Cx}{a b c:Expr}{ta tb tc:TE}{pos:Pos}
def MB (ha:PE X a ta)(hb:PE X b tb){pins:@Do}{s:Shared}{σ:St}{H:Hp}{R:V->V->@P3}(I:@B_)
  (h:ta σ H λx H1=>tb σ H1 λy H2=>R x y H2) {Q:@EQ} {f:Value->Value->Sem Value}
  (hf:∀v u s2 x y H2,Inv X pins σ H2 s2->RelV x v->RelV y u->R x y H2->wpAny @Ev X.A (f v u) Q X.xe s2) :
  wpAny @Ev X.A (eval a X.env) (λv s₁=>wpAny @Ev X.A (eval b X.env) (λu s₂=>wpAny @Ev X.A (f v u) Q X.xe s₂) X.xe s₁) X.xe s:=by
 refine cZ (ha pins s σ H _ I h) λv s1 ⟨x,H1,I1,r1,q1⟩=>?_
 refine cZ (hb pins s1 σ H1 _ I1 q1) λu s2 ⟨y,H2,I2,r2,q2⟩=>?_
 exact hf v u s2 x y H2 I2 r1 r2 q2
def vp {op:Operator}{r:R2}(ho:m6 X (binaryOp op) r)(ha:PE X a ta)(hb:PE X b tb):PE X (.BinOp a op b pos) (O2 r ta tb):=by
 intro pins s σ H Q I h
 exact wpAny_BinOp (MB ha hb I h λv u s2 x y H2 I2 rx ry q=>ho pins s2 σ H2 x y v u Q I2 rx ry q)
def OI {op:UnaryOp}{r:V->@P_}(ho:OO X (unaryOp op) r)(ha:PE X a ta):PE X (.UnaryOp op a pos) (Q4 r ta):=by
 intro pins s σ H Q I h
 exact UnaryOp_ (cZ (ha pins s σ H _ I h) λv s1 ⟨x,H1,I1,r1,q1⟩=>ho pins s1 σ H1 x v Q I1 r1 q1)
def O4 {f:Value->Value->Sem Value}{C:Int->Int->Prop}{g:Int->Int->Int}
  (rule:∀(i j:Int) (t u:Tok) (s:Shared) (Q:@EQ) (E:@EQ),C i j->Q (.int (g i j) s.toks) {s with toks:=s.toks + 1}->wpAny @Ev X.A (f (.int i t) (.int j u)) Q E s) :
  m6 X f (rI C λi j=>.int (g i j)):=by
 intro pins s σ H x y v u Q I rx ry h
 obtain⟨i,j,rfl,rfl,hc,q⟩:=h
 obtain⟨t,rfl⟩:=rx
 obtain⟨t',rfl⟩:=ry
 exact rule i j t t' s _ _ hc ⟨.int (g i j),H,I.tok _,⟨_,rfl⟩,q⟩
def IC {f:Value->Value->Sem Value}{g:Int->Int->Int}
  (rule:∀(i j:Int) (t u:Tok) (s:Shared) (Q:@EQ) (E:@EQ),Q (.int (g i j) s.toks) {s with toks:=s.toks + 1}->wpAny @Ev X.A (f (.int i t) (.int j u)) Q E s) :
  m6 X f (ye λi j=>.int (g i j)):=by
 intro pins s σ H x y v u Q I rx ry h
 obtain⟨i,j,rfl,rfl,q⟩:=h
 obtain⟨t,rfl⟩:=rx
 obtain⟨t',rfl⟩:=ry
 exact rule i j t t' s _ _ ⟨.int (g i j),H,I.tok _,⟨_,rfl⟩,q⟩
def Ku {f:Value->Value->Sem Value}{g:Int->Int->Bool}
  (rule:∀(i j:Int) (t u:Tok) (s:Shared) (Q:@EQ) (E:@EQ),Q (.bool (g i j)) s->wpAny @Ev X.A (f (.int i t) (.int j u)) Q E s) :
  m6 X f (ye λi j=>.bl (g i j)):=by
 intro pins s σ H x y v u Q I rx ry h
 obtain⟨i,j,rfl,rfl,q⟩:=h
 obtain⟨t,rfl⟩:=rx
 obtain⟨t',rfl⟩:=ry
 exact rule i j t t' s _ _ ⟨.bl (g i j),H,I,rfl,q⟩
def Ip (i j:Int):Prop:=0 < j/\j < 1073741824
def Mb (i j:Int):Prop:=0<=j/\j<=1000000/\i.natAbs < 2 ^ 64
def Gp (i j:Int):Prop:=(-(2 ^ 64) < i/\i < 2 ^ 64)\/(-(2 ^ 64) < j/\j < 2 ^ 64)
def Gp.ok {i j:Int}(h:Gp i j):IntMulOk i j:=by
 rcases h with⟨h1,h2⟩ | ⟨h1,h2⟩
 ·exact .of_left (intBits_le_64 h1 h2)
 ·exact .of_right (intBits_le_64 h1 h2)
def c6:m6 X (binaryOp .Add) (ye λi j=>.int (i + j)):=IC λ_ _ _ _ _ _ _ q=>add_int q
def qp:m6 X (binaryOp .Sub) (ye λi j=>.int (i - j)):=IC λ_ _ _ _ _ _ _ q=>sub_int q
def nI:m6 X (binaryOp .Mult) (rI Gp λi j=>.int (i * j)):=O4 λ_ _ _ _ _ _ _ hc q=>mul_int q hc.ok
def wR:m6 X (binaryOp .FloorDiv) (rI Ip λi j=>.int (i / j)):=O4 λi j _ _ _ _ _ hc q=>by
 have h1:(0:Int) < j:=hc.1
 have h2:j < 1073741824:=hc.2
 exact floordiv_int (@AT) (by rw[Int.fdiv_eq_ediv_of_nonneg i (@AT)];exact q) (.inl (PyProof.noPylong_small (@AT)))
def o9:m6 X (binaryOp .Mod) (rI (λ_ j=>0 < j) λi j=>.int (i % j)):=O4 λi j _ _ _ _ _ hc q=>by
 have h1:(0:Int) < j:=hc
 exact mod_int' (@AT) (by rw[Int.fmod_eq_emod_of_nonneg i (@AT)];exact q)
def LW:m6 X (binaryOp .LShift) (rI Mb λi j=>.int (i * 2 ^ j.toNat)):=O4 λ_ _ _ _ _ _ _ hc q=>lshift_int_small hc.1 hc.2.1 hc.2.2 q
def Mr:m6 X (binaryOp .BitAnd) (ye λi j=>.int (Builtin.bitAnd i j)):=IC λ_ _ _ _ _ _ _ q=>and_int q
def JL:m6 X (binaryOp .BitOr) (ye λi j=>.int (Builtin.bitOr i j)):=IC λ_ _ _ _ _ _ _ q=>or_int q
def Q2 {f:Value->Sem Value}{g:Int->Int}
  (rule:∀(i:Int) (t:Tok) (s:Shared) (Q:@EQ) (E:@EQ),Q (.int (g i) s.toks) {s with toks:=s.toks + 1}->wpAny @Ev X.A (f (.int i t)) Q E s) :
  OO X f (rU λi=>.int (g i)):=by
 intro pins s σ H x v Q I rx h
 obtain⟨i,rfl,q⟩:=h
 obtain⟨t,rfl⟩:=rx
 exact rule i t s _ _ ⟨.int (g i),H,I.tok _,⟨_,rfl⟩,q⟩
def Aa:OO X (unaryOp .USub) (rU λi=>.int (-i)):=Q2 λ_ _ _ _ _ q=>neg_int q
end
section
variable {X:Cx}{a b c:Expr}{ta tb tc:TE}{pos:Pos}
def qN:m6 X (compareOp .Lt) (ye λi j=>.bl (decide (i < j))):=Ku λ_ _ _ _ _ _ _ q=>lt_int q
def By:m6 X (compareOp .LtE) (ye λi j=>.bl (decide (i<=j))):=Ku λ_ _ _ _ _ _ _ q=>le_int q
def J3:m6 X (compareOp .Gt) (ye λi j=>.bl (decide (j < i))):=Ku λ_ _ _ _ _ _ _ q=>gt_int q
def bV (b:Expr){op:CmpOp}(h:op≠.In:=by decide)(h2:op≠.NotIn:=by decide):behindInMarks op b=false:=by
 have e1:(op == CmpOp.In)=false:=by cases op <;> first |rfl |exact absurd rfl h
 have e2:(op == CmpOp.NotIn)=false:=by cases op <;> first |rfl |exact absurd rfl h2
 cases b <;> simp[behindInMarks,e1,e2]
def HU {op:CmpOp}{r:R2}(ho:m6 X (compareOp op) r)(ha:PE X a ta)(hb:PE X b tb)(hm:behindInMarks op b=false):PE X (.Compare a [op] [b] pos) (O2 r ta tb):=by
 intro pins s σ H Q I h
 exact wpAny_Compare1 (MB ha hb I h λv u s2 x y H2 I2 rx ry q=>ho pins s2 σ H2 x y v u Q I2 rx ry q) hm
def Kc (t:TE):TT:=λσ H Q=>t σ H λx H'=>∃k,x=.bl k/\Q k H'
def Jt {op:CmpOp}{r:R2}(ho:m6 X (compareOp op) r)(ha:PE X a ta)(hb:PE X b tb)(hm:behindInMarks op b=false):PT X (.Compare a [op] [b] pos) (Kc (O2 r ta tb)):=by
 intro pins s σ H Q I h
 refine wpAny_isTrue_Compare1 (cZ (ha pins s σ H _ I h) λv s1 ⟨x,H1,I1,r1,q1⟩=>cZ (hb pins s1 σ H1 _ I1 q1) λu s2 ⟨y,H2,I2,r2,q2⟩=>
  cZ (ho pins s2 σ H2 x y v u _ I2 r1 r2 q2) λc s3 ⟨z,H3,I3,r3,k,e,q3⟩=>?_) hm
 subst e
 cases r3
 exact Sn ⟨H3,I3,q3⟩
def Gh (r r':R2)(ta tb tc:TE):TE:=λσ H Q=>ta σ H λx H1=>tb σ H1 λy H2=>r x y H2 λz H3=>∃k,z=.bl k/\
 (if k=true then tc σ H3 λw' H4=>r' y w' H4 Q else Q (.bl false) H3)
theorem ES {op op':CmpOp}{r r':R2}(ho:m6 X (compareOp op) r)(ho':m6 X (compareOp op') r')(ha:PE X a ta)(hb:PE X b tb)(hc:PE X c tc)
  (hm:lastMarks [op,op'] [b,c]=false:=by with_unfolding_all rfl):PE X (.Compare a [op,op'] [b,c] pos) (Gh r r' ta tb tc):=by
 intro pins s σ H Q I h
 refine Compare_chain (cZ (ha pins s σ H _ I h) λv s1 ⟨x,H1,I1,r1,q1⟩=>chain_link (cZ (hb pins s1 σ H1 _ I1 q1) λu s2 ⟨y,H2,I2,r2,q2⟩=>
  cZ (ho pins s2 σ H2 x y v u _ I2 r1 r2 q2) λd s3 ⟨z,H3,I3,r3,k,e,q3⟩=>?_)) hm
 subst e
 cases r3
 refine Sn ?_
 cases k with
 |false=>exact ite_ff ⟨.bl false,H3,I3,rfl,q3⟩
 |true=>exact ite_tt (chain_last (cZ (hc pins s3 σ H3 _ I3 q3) λw' s4 ⟨z',H4,I4,r4,q4⟩=>ho' pins s4 σ H4 y z' u w' Q I4 r2 r4 q4))
theorem Ef {op op':CmpOp}{r r':R2}(ho:m6 X (compareOp op) r)(ho':m6 X (compareOp op') r')(ha:PE X a ta)(hb:PE X b tb)(hc:PE X c tc)
  (hm:lastMarks [op,op'] [b,c]=false:=by with_unfolding_all rfl):PT X (.Compare a [op,op'] [b,c] pos) (Kc (Gh r r' ta tb tc)):=by
 intro pins s σ H Q I h
 refine isTrue_chain (cZ (ha pins s σ H _ I h) λv s1 ⟨x,H1,I1,r1,q1⟩=>test_link (cZ (hb pins s1 σ H1 _ I1 q1) λu s2 ⟨y,H2,I2,r2,q2⟩=>
  cZ (ho pins s2 σ H2 x y v u _ I2 r1 r2 q2) λd s3 ⟨z,H3,I3,r3,k,e,q3⟩=>?_)) hm
 subst e
 cases r3
 refine Sn ?_
 cases k with
 |false=>
  obtain⟨k',e',q'⟩:=q3
  cases e'
  exact ite_ff ⟨H3,I3,q'⟩
 |true=>
  refine ite_tt (test_last (cZ (hc pins s3 σ H3 _ I3 q3) λw' s4 ⟨z',H4,I4,r4,q4⟩=>cZ (ho' pins s4 σ H4 y z' u w' _ I4 r2 r4 q4) λd' s5 ⟨z2,H5,I5,r5,k2,e2,q5⟩=>?_))
  subst e2
  cases r5
  exact Sn ⟨H5,I5,q5⟩
def N3 (K:Frag)(x:V)(H:Hp)(k:Bool):Prop:=
 match x with
 | .non=>k=false
 | .bl b=>k=b
 | .int i=>k=(i != 0)
 | .str y=>y.length<=sizeLine/\k=((y.length:Int) != 0)
 | .byt y=>y.size<=sizeLine/\k=((y.size:Int) != 0)
 | .ref p=>(∃xs,ji K H p xs/\k= !xs.isEmpty)\/(∃xs,gr K H p xs/\k= !xs.isEmpty)\/∃kvs,H p=some (.dK kvs)/\k= !kvs.isEmpty
 |_=>False
def Ab {κ:Type}{kvs:List (κ×V)}{vs:List (κ×Value)}(r:KV kvs vs):(!vs.isEmpty)= !kvs.isEmpty:=by
 cases r <;> rfl
def rY {xs:List V}{its:@G_}(r:Vals xs its):(!its.toArray.isEmpty)= !xs.isEmpty:=by
 cases r <;> simp
def qz:(sizeLine:Nat) < 2 ^ 63:=by rw[R7];decide
theorem Lp:Qc X (λx H Q=>∃k,N3 X.K x H k/\Q k H):=by
 intro pins s σ H x v Q I rx h
 obtain⟨k,e,q⟩:=h
 have hl:=qz
 have hs:sizeLine=16777216:=R7
 cases x with
 |non=>
  cases rx
  have e':k=false:=e
  subst e'
  exact truthy_none ⟨H,I,q⟩
 |bl b=>
  cases rx
  have e':k=b:=e
  subst e'
  exact Sn ⟨H,I,q⟩
 |int i=>
  obtain⟨t,rfl⟩:=rx
  have e':k=(i != 0):=e
  subst e'
  exact PySem.P.truthy_int ⟨H,I,q⟩
 |str y=>
  obtain⟨t,rfl⟩:=rx
  obtain⟨hy,e'⟩:y.length<=sizeLine/\k=((y.length:Int) != 0):=e
  subst e'
  exact PySem.P.truthy_str (@AT) ⟨H,I.tok _,q⟩
 |byt y=>
  obtain⟨t,rfl⟩:=rx
  obtain⟨hy,e'⟩:y.size<=sizeLine/\k=((y.size:Int) != 0):=e
  subst e'
  exact PySem.W.truthy_bytes (@AT) ⟨H,I.tok _,q⟩
 |ref p=>
  cases rx
  have e':(∃xs,ji X.K H p xs/\k= !xs.isEmpty)\/(∃xs,gr X.K H p xs/\k= !xs.isEmpty)\/∃kvs,H p=some (.dK kvs)/\k= !kvs.isEmpty:=e
  rcases e' with⟨xs,hx,e'⟩ | ⟨xs,hx,e'⟩ | ⟨kvs,hx,e'⟩
  ·subst e'
   obtain⟨its,r,pl,hz⟩:=I.list hx
   have hlen:=r.length
   exact wpAny_truthy_list pl.isList (by simp only[Ry];omega) ⟨H,I.tok _,by rw[rY r];exact q⟩
  ·subst e'
   obtain⟨its,r,pl,hz⟩:=I.tuple hx
   have hlen:=r.length
   exact truthy_tuple pl (by simp only[Ry];omega) ⟨H,I.tok _,by rw[rY r];exact q⟩
  ·subst e'
   obtain⟨hz,hS,vs,r,m⟩:kvs.length<=sizeLine/\(p == sysModules)=false/\∃vs,KV kvs vs/\s.heap.DictOf (xf X.prog X.w) p vs:=I.hok p _ hx
   have hlen:kvs.length=vs.length:=Paired.length r
   exact wpAny_truthy_dict hS m (@AT) ⟨H,I.tok _,by rw[Ab r];exact q⟩
 |_=>exact (show False from e).elim
def F0 (ha:PE X a ta)(he:∀whole,isTrue a X.env whole=(do let v <-whole;standAt a.pos;holding [v] (truthy v))) :
  PT X a (λσ H Q=>ta σ H λx H'=>∃k,N3 X.K x H' k/\Q k H'):=by
 intro pins s σ H Q I h
 exact isTrue_plain (cZ (ha pins s σ H _ I h) λv s1 ⟨x,H1,I1,r1,q1⟩=>Lp pins s1 σ H1 x v Q I1 r1 q1) (he _)
theorem vals1 {x:V}{us:@G_}(r:Vals [x] us):∃u,us= [u]/\RelV x u:=by
 cases r with
 |cons r1 r2=>cases r2;exact⟨_,rfl,r1⟩
theorem vals2 {x y:V}{us:@G_}(r:Vals [x,y] us):∃u w',us= [u,w']/\RelV x u/\RelV y w':=by
 cases r with
 |cons r1 r2=>
  cases r2 with
  |cons r3 r4=>cases r4;exact⟨_,_,rfl,r1,r3⟩
def lr (hc:X.calm=true):fC X (.builtin "max") (λxs H Q=>∃i j,xs= [.int i,.int j]/\Q (.int (if j > i then j else i)) H):=by
 intro pins s σ H xs us Q I r h
 obtain⟨i,j,rfl,q⟩:=h
 obtain⟨u,w',rfl,⟨t,rfl⟩,⟨t',rfl⟩⟩:=vals2 r
 refine max_two_ints (I.ok.hd hc) λh' tk k=>⟨_,H,I.kept k,?_,q⟩
 by_cases hj:j > i
 ·rw[Rg hj,Rg hj];exact⟨_,rfl⟩
 ·rw[Rj hj,Rj hj];exact⟨_,rfl⟩
def Dv (hc:X.calm=true):fC X (.builtin "min") (λxs H Q=>∃i j,xs= [.int i,.int j]/\Q (.int (if j < i then j else i)) H):=by
 intro pins s σ H xs us Q I r h
 obtain⟨i,j,rfl,q⟩:=h
 obtain⟨u,w',rfl,⟨t,rfl⟩,⟨t',rfl⟩⟩:=vals2 r
 refine min_two_ints (I.ok.hd hc) λh' tk k=>⟨_,H,I.kept k,?_,q⟩
 by_cases hj:j < i
 ·rw[Rg hj,Rg hj];exact⟨_,rfl⟩
 ·rw[Rj hj,Rj hj];exact⟨_,rfl⟩
def OF (K:Frag)(x:V)(H:Hp)(n:Nat):Prop:=
 match x with
 | .str y=>y.length<=sizeLine/\n=y.length
 | .byt y=>y.size<=sizeLine/\n=y.size
 | .ref p=>(∃xs,ji K H p xs/\n=xs.length)\/∃xs,gr K H p xs/\n=xs.length
 |_=>False
theorem bE:fC X (.builtin "len") (λxs H Q=>∃x n,xs= [x]/\OF X.K x H n/\Q @Re H):=by
 intro pins s σ H xs us Q I r h
 obtain⟨x,n,rfl,e,q⟩:=h
 obtain⟨u,rfl,rx⟩:=vals1 r
 have hl:=qz
 have hs:sizeLine=16777216:=R7
 cases x with
 |str y=>
  obtain⟨t,rfl⟩:=rx
  obtain⟨hy,e'⟩:y.length<=sizeLine/\n=y.length:=e
  subst e'
  exact len_str (@AT) ⟨.int _,H,I.tok _,⟨_,rfl⟩,q⟩
 |byt y=>
  obtain⟨t,rfl⟩:=rx
  obtain⟨hy,e'⟩:y.size<=sizeLine/\n=y.size:=e
  subst e'
  exact PySem.W.len_bytes (@AT) ⟨.int _,H,I.tok _,⟨_,rfl⟩,q⟩
 |ref p=>
  cases rx
  have e':(∃xs,ji X.K H p xs/\n=xs.length)\/∃xs,gr X.K H p xs/\n=xs.length:=e
  rcases e' with⟨xs,hx,e'⟩ | ⟨xs,hx,e'⟩
  ·subst e'
   obtain⟨its,r',pl,hz⟩:=I.list hx
   have hlen:=r'.length
   exact Calls.call_len_list pl.isList (by simp only[Ry];omega) ⟨.int xs.length,H,I.tok _,⟨_,by simp only[Ry];rw[hlen]⟩,q⟩
  ·subst e'
   obtain⟨its,r',pl,hz⟩:=I.tuple hx
   have hlen:=r'.length
   exact len_tuple pl (by simp only[Ry];omega) ⟨.int xs.length,H,I.tok _,⟨_,by simp only[Ry];rw[hlen]⟩,q⟩
 |_=>exact (show False from e).elim
def za:fC X (.builtin "divmod") (λxs H Q=>∃i j,xs= [.int i,.int j]/\Ip i j/\∀p,H p=none->Q (.ref p) (upd H p (.tup [.int (i / j),.int (i % j)]))):=by
 intro pins s σ H xs us Q I r h
 obtain⟨i,j,rfl,⟨h1,h2⟩,q⟩:=h
 obtain⟨u,w',rfl,⟨t,rfl⟩,⟨t',rfl⟩⟩:=vals2 r
 refine divmod_int (@AT) ?_ (.inl (PyProof.noPylong_small (@AT)))
 rw[Int.fdiv_eq_ediv_of_nonneg i (@AT),Int.fmod_eq_emod_of_nonneg i (@AT)]
 have hn:H s.heap.objs.size=none:=I.hok.fresh (Rh _)
 refine⟨@Ty,_,?_,rfl,q _ hn⟩
 refine I.laid (λb o e=>Ri _ e) (Rh _) ⟨by simp only[RL,List.length_nil];rw[R7];decide,[.int (i / j) s.toks,.int (i % j) (s.toks + 1)],.cons ⟨_,rfl⟩ (.cons ⟨_,rfl⟩ .nil),?_⟩
 exact⟨_,RB s.heap rfl,rfl,0,rfl,rfl⟩
end
structure Ls (h:Heap)(x dx C:Addr)(mA:@Fr):Prop where
 obj:h.get? x=some (PySem.W.instObj C dx)
 ns:h.Ns1 dx mA
 ne:dx≠x
def Du {h:Heap}{dx:Addr}{mA:@Fr}(n:h.Ns1 dx mA):∃od,h.get? dx=some od/\∀name,PySem.W.lookIn name od=some (mA name):=by
 obtain⟨o,es,ep,ho,hd,hk,_,hm⟩:=n
 refine⟨o,ho,λname=>?_⟩
 have e:=hm name
 unfold nsFind findBy at e
 rw[<-Array.find?_toList] at e
 unfold PySem.W.lookIn
 rw[hd]
 dsimp only
 split
 ·rename_i y q
  rw[q] at e
  exact congrArg some e
 ·rename_i q
  rw[q] at e
  have a:es.toList.any (·.refKey)=false:=by
   rw[List.any_eq_false]
   intro y hy
   obtain⟨z,t,hkey⟩:=hk y (Array.mem_toList_iff.mp hy)
   simp[DictEntry.refKey,hkey]
  have a':¬es.toList.any (·.refKey)=true:=by rw[a];exact RK
  rw[Rj a']
  exact congrArg some e
def Ls.look {h:Heap}{x dx C:Addr}{mA:@Fr}(I:Ls h x dx C mA):∃od,PySem.W.InstAt h x (PySem.W.instObj C dx) C (some od)/\∀name,PySem.W.lookIn name od=some (mA name):=
 let ⟨od,ho,hl⟩:=Du I.ns
 ⟨od,⟨I.obj,rfl,rfl,ho⟩,hl⟩
section
variable {P:Program}{w:World}{H H':Hp}{h h':Heap}{a C dx:Addr}{fs fs':List (Str×V)}
def HK (hok:pK P w H h)(e:H a=some (.ins C dx fs)):∃mA,Ls h a dx C mA/\(∀f,Fi (fs.lookup f) (mA f))/\PySem.Within mA (fs.map (·.1))/\fs.length<=1000/\H dx=some (.own a):=by
 obtain⟨d,z,ne,ob,mA,n,r,q⟩:=(show dZ P w H h a (.ins C dx fs) from hok a _ e)
 exact⟨mA,⟨ob,n,ne⟩,r,q,z,d⟩
end
structure Qy (K:Frag)(C:Addr):Prop where
 pg:PySem.W.plainGet K C Str.empty=true
 hd:PySem.W.hasDictIn K C=true
 po:PySem.W.plainOver K C=true
 sa:PySem.W.findIn K (.ref C) "__setattr__"=some (some (.builtin "object.__setattr__"))
def Qy.get {K:Frag}{C:Addr}(c:Qy K C)(f:Str):PySem.W.plainGet K C f=true:=c.pg
section
variable {X:Cx}{pins:@Do}{σ:St}{H:Hp}{s:Shared}{A:Around}{E:@EQ}{Q:@EQ}{c:Value}{b:Bool}
inductive rj (K:Frag)(H:Hp):V->Value->Prop where
 |non:rj K H .non (.type "NoneType")
 |bl (x:Bool):rj K H (.bl x) (.type "bool")
 |int (i:Int):rj K H (.int i) (.type "int")
 |str (x:Str):rj K H (.str x) (.type "str")
 |flt (x:UInt64):rj K H (.flt x) (.type "float")
 |lst {a:Addr} {xs:List V} (e:H a=some (.lst xs)):rj K H (.ref a) (.type "list")
 |a8 {a:Addr} {o:Obj} {xs:List V} (e:H a=some (.a8 o (.lst xs))):rj K H (.ref a) (.type "list")
 |tup {a:Addr} {xs:List V} (e:H a=some (.tup xs)):rj K H (.ref a) (.type "tuple")
 |dK {a:Addr} {kvs:List (Key×V)} (e:H a=some (.dK kvs)):rj K H (.ref a) (.type "dict")
 |dT {a:Addr} {kvs:List (List Key×V)} (e:H a=some (.dT kvs)):rj K H (.ref a) (.type "dict")
 |ins {a C dx:Addr} {fs:List (Str×V)} (e:H a=some (.ins C dx fs)) (cl:Qy K C) (ha:PySem.W.findIn K (.ref C) "__class__"=some (some (.builtin "object.__class__")))
   (hn:PySem.W.specialIn K (.builtin "object.__class__") "__get__"=some (some (.builtin "getset_descriptor.__get__"))) (htk:PySem.W.takesIn K (.builtin "object.__class__")=some true)
   (hm:PySem.W.mroIn K C (.type "object")=some true):rj K H (.ref a) (.ref C)
theorem lE {x:V}{u t:Value}(I:@B_)(rx:RelV x u)(ty:rj X.K H x t)(e:PySem.W.kitOne X.K t c=some b)(h:∀tk,Q (.bool b) {s with toks:=tk}) :
  wpAny @Ev A (call (.builtin "isinstance") [u,c]) Q E s:=by
 cases ty with
 |non=>cases (show u=Value.none from rx);exact Si PySem.W.kitx_none I.kIn True.intro e (λz=>nomatch z) h
 |bl y=>cases (show u=Value.bool y from rx);exact Si PySem.W.kitx_bool I.kIn True.intro e (λz=>nomatch z) h
 |int i=>obtain⟨t,q⟩:=(show ∃t,u=Value.int i t from rx);cases q;exact Si PySem.W.kitx_int I.kIn True.intro e (λz=>nomatch z) h
 |str y=>obtain⟨t,q⟩:=(show ∃t,u=Value.str y t from rx);cases q;exact Si PySem.W.kitx_str I.kIn True.intro e (λz=>nomatch z) h
 |flt y=>obtain⟨t,q⟩:=(show ∃t,u=Value.float y t from rx);cases q;exact Si PySem.W.kitx_float I.kIn True.intro e (λz=>nomatch z) h
 | @lst a xs ea=>
  cases (show u=Value.ref a from rx)
  obtain⟨_,_,n,_,h1⟩:=(show dZ X.prog X.w H s.heap a (.lst xs) from I.hok a _ ea)
  exact Si PySem.W.kitx_list I.kIn ⟨_,h1,rfl⟩ e (λz=>nomatch z) h
 | @a8 a ob xs ea=>
  cases (show u=Value.ref a from rx)
  obtain⟨_,_,_,n,_,h1⟩:=(show dZ X.prog X.w H s.heap a (.a8 ob (.lst xs)) from I.hok a _ ea)
  exact Si PySem.W.kitx_list I.kIn ⟨_,h1,rfl⟩ e (λz=>nomatch z) h
 | @tup a xs ea=>
  cases (show u=Value.ref a from rx)
  obtain⟨_,_,_,p⟩:=(show dZ X.prog X.w H s.heap a (.tup xs) from I.hok a _ ea)
  obtain⟨o,h1,h2,_⟩:=p
  exact Si PySem.W.kitx_tuple I.kIn ⟨o,h1,h2⟩ e (λz=>nomatch z) h
 | @dK a kvs ea=>
  cases (show u=Value.ref a from rx)
  obtain⟨_,_,vs,_,p⟩:=(show dZ X.prog X.w H s.heap a (.dK kvs) from I.hok a _ ea)
  obtain⟨o,es,ep,h1,h2,_⟩:=p
  exact Si PySem.W.kitx_dict I.kIn ⟨o,h1,h2.1⟩ e (λz=>nomatch z) h
 | @dT a kvs ea=>
  cases (show u=Value.ref a from rx)
  obtain⟨_,_,xs,_,o,es,ep,h1,h2,_⟩:=(show dZ X.prog X.w H s.heap a (.dT kvs) from I.hok a _ ea)
  exact Si PySem.W.kitx_dict I.kIn ⟨o,h1,h2.1⟩ e (λz=>nomatch z) h
 | @ins a C dx fs ea cl ha hn htk hm=>
  cases (show u=Value.ref a from rx)
  obtain⟨mA,O,_⟩:=HK I.hok ea
  obtain⟨od,J,_⟩:=O.look
  exact Si (PySem.W.kitx_own (cl.get _) cl.hd ha hn htk hm) I.kIn J e (λz=>nomatch z) h
end
structure fm (k:Nat)(A:Around):Prop where
 hd:A.handled=none
 dp:A.depth + 3 * k + 5 < recursionLimit
 un:A.units + 16 * k + 200 < cLine
 gd:A.guards=some []
def fm.mono {j k:Nat}{A:Around}(r:fm k A)(h:j<=k):fm j A:=⟨r.hd,by have:=r.dp;omega,by have:=r.un;omega,r.gd⟩
def fm.deeper {k:Nat}{A:Around}(r:fm (k + 1) A)(env:Env):fm k (A.deeper env):=
 ⟨r.hd,by have:=r.dp;show A.depth + 1 + 3 * k + 5 < _;omega,by have:=r.un;show A.units + 3 + 16 * k + 200 < _;omega,r.gd⟩
def fm.in1 {k:Nat}{A:Around}(r:fm (k + 1) A):fm k A.in1:=
 ⟨r.hd,by have:=r.dp;show A.depth + 3 * k + 5 < _;omega,by have:=r.un;show A.units + 1 + 16 * k + 200 < _;omega,r.gd⟩
def fm.depth {k:Nat}{A:Around}(r:fm k A):A.depth < recursionLimit:=by have:=r.dp;omega
def fm.units {k:Nat}{A:Around}(r:fm k A):A.units + 64 < cLine:=by have:=r.un;omega
def Jn:TA:=λ_ H Q=>Q [] H
def B3 (ta:TE)(tr:TA):TA:=λσ H Q=>ta σ H λx H1=>tr σ H1 λxs H2=>Q (x :: xs) H2
section
variable {X:Cx}{e:Expr}{es:List Expr}{te:TE}{t:TA}{pos:Pos}
def cf:PA X [] Jn:=λ_ _ _ _ H Q I h=>Calls.spliced_nil ⟨[],H,I,.nil,h⟩
def ba (ha:PE X e te)(hr:PA X es t)(hs:starEach (e :: es) X.env=(false,eval e X.env) :: @T_:=by rfl):PA X (e :: es) (B3 te t):=by
 intro pos pins s σ H Q I h
 rw[hs]
 show wpAny _ _ (spliced ((false,eval e X.env) :: backTo pos (@T_))) _ _ s
 refine Calls.spliced_cons (cZ (ha pins s σ H _ I h) λu s1 ⟨x,H1,I1,r1,q1⟩=>?_)
 exact cZ (hr pos pins s1 σ H1 _ I1 q1) λus s2 ⟨xs,H2,I2,r2,q2⟩=>⟨x :: xs,H2,I2,.cons r1 r2,q2⟩
def QB (t:TA):TE:=λσ H Q=>t σ H λxs H1=>xs.length<=sizeLine/\∀p,H1 p=none->Q (.ref p) (upd H1 p (.tup xs))
def Qz (t:TA):TE:=λσ H Q=>t σ H λxs H1=>xs.length<=sizeLine/\∀p,H1 p=none->Q (.ref p) (upd H1 p (.lst xs))
def Ac {x1}(h:PA X es t):PE X (.Tuple es x1 pos) (QB t):=by
 intro pins s σ H Q I hq
 refine wpAny_Tuple_spliced (cZ (h pos pins s σ H _ I hq) λus s1 ⟨xs,H1,I1,r,z,q⟩=>⟨by rw[<-r.length];exact z,?_⟩)
 have hf:H1 s1.heap.objs.size=none:=I1.hok.fresh (Rh _)
 refine⟨.ref s1.heap.objs.size,upd H1 s1.heap.objs.size (.tup xs),I1.laid (t':=s1.toks) (λb u e=>Ri _ e) (Rh _) ?_,rfl,q _ hf⟩
 exact⟨z,us,r,tw.new _ _⟩
def Ga (h:PA X es t):PE X (.List es pos) (Qz t):=by
 intro pins s σ H Q I hq
 refine wpAny_List_spliced (cZ (h pos pins s σ H _ I hq) λus s1 ⟨xs,H1,I1,r,z,q⟩=>⟨by rw[<-r.length];exact z,?_⟩)
 have hf:H1 s1.heap.objs.size=none:=I1.hok.fresh (Rh _)
 refine⟨.ref s1.heap.objs.size,upd H1 s1.heap.objs.size (.lst xs),I1.laid (t':=s1.toks) (λb u e=>Ri _ e) (Rh _) ?_,rfl,q _ hf⟩
 exact⟨z,us,0,r,RB _ rfl⟩
end
abbrev Sp:=List V->Hp->VK->XK->Prop
abbrev Dw:=List Env->Hp->Shared->XK->@EQ
structure Ao (P:Program)(w:World)(K:Frag)(mg:@Fr)(base:Heap)(A:Around)(outer:List Env)(s:Shared)(H:Hp):Prop where
 frames:A.frames=some outer
 mod:Mod K mg base
 bs:∀b o,base.get? b=some o->s.heap.get? b=some o/\H b=none
 bsz:base.objs.size<=s.heap.objs.size
 funs:s.heap.FunFrames base outer
 frf:∀b∈pf outer,H b=none
 hok:pK P w H s.heap
 bare:AllBare s.gens
def CE (outer:List Env)(P:Program)(w:World)(H:Hp)(s:Shared)(Q:VK)(u:Value)(s':Shared):Prop:=
 ∃v H',s'.os=s.os/\AllBare s'.gens/\Un (pf outer) [] H H' s.heap s'.heap/\pK P w H' s'.heap/\RelV v u/\Q v H'
def CR (CX:Dw)(outer:List Env)(P:Program)(w:World)(H:Hp)(s:Shared)(Q:VK)(E:XK)(r:Result)(s':Shared):Prop:=
 match r with
 | .ok (.ret u)=>CE outer P w H s Q u s'
 | .ok _=>False
 | .error e=>CX outer H s E e s'
structure gp (P:Program)(w:World)(K:Frag)(mg:@Fr)(base:Heap)(CX:Dw)(k:Nat)(f:Addr)(fd:FuncData)(ps:@Id)(sp:Sp):Prop where
 len:∀vs H Q E,sp vs H Q E->vs.length=ps.length
 run:∀(A:Around) (outer:List Env) (s:Shared) (H:Hp) (args:Args) (us:@G_) (vs:List V) (Q:VK) (E:XK),fm k A->Ao P w K mg base A outer s H->BindsTo s fd args (ps.zip us)->Vals vs us->sp vs H Q E->
  codeAny (model P w) A (.call (.ref f) args) (CR CX outer P w H s Q E) s
def gp.mono {P:Program}{w:World}{K:Frag}{mg:@Fr}{base:Heap}{CX:Dw}{j k:Nat}{f:Addr}{fd:FuncData}{ps:@Id}{sp:Sp}(F:gp P w K mg base CX j f fd ps sp)(h:j<=k) :
  gp P w K mg base CX k f fd ps sp:=⟨F.len,λA outer s H args us vs Q E hr=>F.run A outer s H args us vs Q E (hr.mono h)⟩
def gp.imp {P:Program}{w:World}{K:Frag}{mg:@Fr}{base:Heap}{CX:Dw}{k:Nat}{f:Addr}{fd:FuncData}{ps:@Id}{sp sp':Sp}(F:gp P w K mg base CX k f fd ps sp)
  (h:∀vs H Q E,sp' vs H Q E->sp vs H Q E):gp P w K mg base CX k f fd ps sp':=
 ⟨λvs H Q E q=>F.len vs H Q E (h _ _ _ _ q),λA outer s H args us vs Q E hr he hb hv hs=>F.run A outer s H args us vs Q E hr he hb hv (h _ _ _ _ hs)⟩
def Ao.in1 {P:Program}{w:World}{K:Frag}{mg:@Fr}{base:Heap}{A:Around}{outer:List Env}{s:Shared}{H:Hp}(e:Ao P w K mg base A outer s H) :
  Ao P w K mg base A.in1 outer s H:=⟨e.frames,e.mod,e.bs,e.bsz,e.funs,e.frf,e.hok,e.bare⟩
section
variable {X:Cx}{pins:@Do}{σ:St}{H:Hp}{s s':Shared}
def Inv.env0 (I:@B_):Ao X.prog X.w X.K X.mg X.base X.A X.stack s H:=
 ⟨I.ok.frames,I.ok.mod,I.bs,Sd I.ok.bsz I.sz,I.stack,I.stkFree,I.hok,I.bare⟩
def Inv.after {Q:VK}{u:Value}(I:@B_)(h:CE X.stack X.prog X.w H s Q u s'):EP X pins σ Q u s':=by
 obtain⟨v,H',os,bare,un,hok,r,q⟩:=h
 obtain⟨hh,g,d,t,os'⟩:=s'
 obtain rfl:os'=s.os:=os
 exact⟨v,H',I.call (h':=hh) (g':=g) (d':=d) (t':=t) (ch:=[]) un hok bare (λb z=>absurd z (@KM)),r,q⟩
end
def NS (sp:Sp)(dvs:List V)(E:XK)(t:TA):TE:=λσ H Q=>t σ H λvs H1=>sp (vs ++ dvs) H1 Q E
def Binds (K:Frag)(fd:FuncData)(ps:@Id)(ds:@G_):Prop:=
 ∀(s:Shared) (us:@G_),K.In s.heap->(us ++ ds).length=ps.length->BindsTo s fd ⟨us,[]⟩ (ps.zip (us ++ ds))
def Binds.all {K:Frag}{fd:FuncData}{ps:@Id}(h:∀us:@G_,us.length=ps.length->bindArgs fd ⟨us,[]⟩=pure (ps.zip us)):Binds K fd ps []:=λs us _ hl=>by
 rw[Td] at hl ⊢
 exact .of_eq (h us hl)
def Passes (CX:Dw)(X:Cx)(E:XK):Prop:=∀(pins:@Do) (σ:St) (H:Hp) (s:Shared) (e:Value) (s':Shared),@B_->CX X.stack H s E e s'->X.xe e s'
section
variable {X:Cx}{CX:Dw}{k:Nat}{f C:Addr}{fd:FuncData}{ps:@Id}{sp:Sp}{dvs:List V}{ds:@G_}{E:XK}{x m:Str}{p pos apos:Pos}{e o:Expr}{es:List Expr}{ta:TE}{t:TA}
theorem LF {pins:@Do}{σ:St}{H:Hp}{s:Shared}{Q:VK}{us:@G_}{vs:List V}(F:gp X.prog X.w X.K X.mg X.base CX k f fd ps sp)(hr:fm k X.A)(hb:Binds X.K fd ps ds)(hd:Vals dvs ds)(hx:Passes CX X E)
  (I:@B_) (r:Vals vs us) (h:sp (vs ++ dvs) H Q E):wpAny @Ev X.A (call (.ref f) us) (EP X pins σ Q) X.xe s:=by
 have r2:Vals (vs ++ dvs) (us ++ ds):=r.append hd
 have hl:(us ++ ds).length=ps.length:=by rw[<-r2.length];exact F.len _ _ _ _ h
 refine wpAny_call (Ul (F.run X.A X.stack s H ⟨us,[]⟩ (us ++ ds) (vs ++ dvs) Q E hr I.env0 (hb s us I.kIn hl) r2 h) λr s' hq=>?_)
 cases r with
 |error e=>exact hx pins σ H s e s' I hq
 |ok fl=>
  cases fl with
  |ret u=>exact I.after hq
  |next=>exact False.elim hq
  |brk=>exact False.elim hq
  |cont=>exact False.elim hq
def pH (F:gp X.prog X.w X.K X.mg X.base CX k f fd ps sp)(hr:fm k X.A)(hg:Gl X x)(hm:X.mg x=some (.ref f))(hk:PySem.W.keepIn X.K (.ref f)=true)(hb:Binds X.K fd ps ds)(hd:Vals dvs ds)(hx:Passes CX X E)
  (ha:PA X (e :: es) t) (hdb:@Go:=by decide) (he:starEach (e :: es) X.env=(false,eval e X.env) :: @T_:=by rfl) (hpl:(backTo pos (@T_)).any (·.1)=false:=by rfl) :
  PE X (.Call (.Name x p) (e :: es) [] pos) (NS sp dvs E t):=by
 intro pins s σ H Q I h
 refine Um (Bw I hg hm ?_ hdb)
 refine PySem.W.callWith_K (h₀:=X.base) I.ok.mod.kin hk (cZ (ha pos pins s σ H _ I h) λus s1 ⟨vs,H1,I1,r,q⟩=>⟨I1.kIn,?_⟩) he hpl
 exact LF F hr hb hd hx I1 r q
end
def PK (X:Cx)(kws:List Keyword)(t:TA):Prop:=
 ∀(pos:Pos) (pins:@Do) (s:Shared) (σ:St) (H:Hp) (Q:List V->@P3),@B_->t σ H Q->wpAny @Ev X.A (evalAll ((backToKw pos (keywordEach kws X.env)).map (·.2))) (AP X pins σ Q) X.xe s
section
variable {X:Cx}{CX:Dw}{k:Nat}{f C:Addr}{fd:FuncData}{ps ks:@Id}{sp:Sp}{E:XK}{x m:Str}{p pos apos kpos:Pos}{e o:Expr}{es:List Expr}{kws:List Keyword}{te ta:TE}{t tk:TA}{nm:Option Str}
def LD:PK X [] Jn:=λ_ _ _ _ H Q I h=>wpAny_evalAll_nil ⟨[],H,I,.nil,h⟩
def He (ha:PE X e te)(hr:PK X kws t):PK X (⟨nm,e,kpos⟩ :: kws) (B3 te t):=by
 intro pos pins s σ H Q I h
 show wpAny _ _ (evalAll ((do let v <-eval e X.env;standAt pos;pure v) :: (backToKw pos (keywordEach kws X.env)).map (·.2))) _ _ s
 refine wpAny_evalAll_cons (Ra (cZ (ha pins s σ H _ I h) λu s1 ⟨x,H1,I1,r1,q1⟩=>Ra (wpAny_standAt (Rv ?_))))
 exact cZ (hr pos pins s1 σ H1 _ I1 q1) λus s2 ⟨xs,H2,I2,r2,q2⟩=>⟨x :: xs,H2,I2,.cons r1 r2,q2⟩
variable {g:@G_->@G_->@G_}{gV:List V->List V->List V}
end
structure aB (N P:@Id)(sc:Scope):Prop where
 kind:sc.kind=.function
 co:sc.isCoroutine=false
 gen:sc.isGenerator=false
 nd:N.Nodup
 pre:N.take P.length=P
 par:∀x∈P,sc.names.lookup x=some .local\/sc.names.lookup x=some .cell
 nofree:∀y∈sc.names,y.2≠.free
theorem vj {kindOf:Str->Option NameKind}{x:Str}:∀{binds:List (Str×Value)} {m:@Fr},(∀v,(x,v)∉binds)->bindL kindOf binds m x=m x
 | [],_,_=>rfl
 | (n,v) :: r,m,h=>by
  unfold bindL
  rw[vj λw hw=>h w (Ru _ hw)]
  split
  ·have:x≠n:=by rintro rfl;exact h v Ro
   simp[this]
  ·rfl
theorem vA {kindOf:Str->Option NameKind}{x:Str}:∀{binds:List (Str×Value)} {m:@Fr},(∀v,(x,v)∉binds)->bindC kindOf binds m x=m x
 | [],_,_=>rfl
 | (n,v) :: r,m,h=>by
  unfold bindC
  rw[vA λw hw=>h w (Ru _ hw)]
  split
  ·rfl
  ·have:x≠n:=by rintro rfl;exact h v Ro
   simp[this]
theorem vW {kindOf:Str->Option NameKind}{x:Str}{v:Value}:∀{P:@Id} {vs:@G_} {i:Nat} {m:@Fr},P.Nodup->P[i]? =some x->vs[i]? =some v->kindOf x=some .local->
  bindL kindOf (P.zip vs) m x=some v
 | [],_,_,_,_,h,_,_=>by simp at h
 |_ :: _,[],_,_,_,_,h,_=>by simp at h
 |p :: P,w :: vs,0,m,nd,h1,h2,hk=>by
  simp at h1 h2;subst h1;subst h2
  show bindL kindOf ((p,w) :: P.zip vs) m p=_
  unfold bindL
  rw[vj λv hv=>(R5.mp nd).1 (List.of_mem_zip hv).1,Rg hk]
  simp
 |p :: P,w :: vs,i + 1,m,nd,h1,h2,hk=>by
  show bindL kindOf ((p,w) :: P.zip vs) m x=_
  unfold bindL
  exact vW (i:=i) (R5.mp nd).2 (by simpa using h1) (by simpa using h2) hk
theorem vF {kindOf:Str->Option NameKind}{x:Str}{v:Value}:∀{P:@Id} {vs:@G_} {i:Nat} {m:@Fr},P.Nodup->P[i]? =some x->vs[i]? =some v->kindOf x≠some .local->
  bindC kindOf (P.zip vs) m x=some v
 | [],_,_,_,_,h,_,_=>by simp at h
 |_ :: _,[],_,_,_,_,h,_=>by simp at h
 |p :: P,w :: vs,0,m,nd,h1,h2,hk=>by
  simp at h1 h2;subst h1;subst h2
  show bindC kindOf ((p,w) :: P.zip vs) m p=_
  unfold bindC
  rw[vA λv hv=>(R5.mp nd).1 (List.of_mem_zip hv).1,Rj hk]
  simp
 |p :: P,w :: vs,i + 1,m,nd,h1,h2,hk=>by
  show bindC kindOf ((p,w) :: P.zip vs) m x=_
  unfold bindC
  exact vF (i:=i) (R5.mp nd).2 (by simpa using h1) (by simpa using h2) hk
def start (N:@Id)(vs:List V):St:=vs.map some ++ List.replicate (N.length - vs.length) none
def ra (CX:Dw)(P:Program)(w:World)(K:Frag)(mg:@Fr)(base:Heap)(N:@Id)(qual:Str)(scope:Scope)(f:Addr)(cd:Value)(A:Around)(outer:List Env)(s:Shared)(H:Hp)(E:XK):Cx where
 prog:=P
 w:=w
 K:=K
 mg:=mg
 base:=base
 A:=A.deeper (envOfC qual scope s.heap.objs.size f cd)
 N:=N
 s₀:=s
 H₀:=H
 env:=envOfC qual scope s.heap.objs.size f cd
 outer:=outer
 stack:=envOfC qual scope s.heap.objs.size f cd :: outer
 ex:=[]
 calm:=true
 fn:=λ_=>true
 pn:=[]
 xe:=λe s'=>wpAny (model P w) (A.deeper (envOfC qual scope s.heap.objs.size f cd)) (leaving (envOfC qual scope s.heap.objs.size f cd) e) (λ_ s''=>CX outer H s E e s'') (λe' s''=>CX outer H s E e' s'') s'
def yZ {sc:Scope}{n:Nat}{x:Str}(h:sc.names.lookup x=some .cell):∃c,(cellsFrom n sc.names []).lookup x=some c:=by
 have q:=PySem.W.cellsFrom_some sc.names n [] (.inl h)
 exact Option.isSome_iff_exists.mp q
def DM {CX:Dw}{P:Program}{w:World}{K:Frag}{mg:@Fr}{base:Heap}{N ps:@Id}{qual:Str}{scope:Scope}{f:Addr}{cd:Value}{A:Around}{outer:List Env}{s s1:Shared}{H:Hp}{E:XK}{us:@G_}{vs:List V}
  (S:aB N ps scope) (hd:A.handled=none) (e0:Ao P w K mg base A outer s H) (hl:vs.length=ps.length) (r:Vals vs us)
  (x:InCallC s s.heap.objs.size (bindL (envOfC qual scope s.heap.objs.size f cd).kindOf (ps.zip us) λ_=>none) (cellsFrom (s.heap.objs.size + 1) scope.names []) (bindC (envOfC qual scope s.heap.objs.size f cd).kindOf (ps.zip us) λ_=>none) s1) :
  Inv (ra CX P w K mg base N qual scope f cd A outer s H E) [] (start N vs) H s1:=by
 have hpl:ps.length<=N.length:=by have:=congrArg List.length S.pre;rw[R9] at this;omega
 obtain⟨h1,tk,rfl,hk⟩:=x.done
 have noA:∀b:Addr,b∉(ra CX P w K mg base N qual scope f cd A outer s H E).ex:=λb z=>absurd (show b∈([]:List Addr) from z) (@KM)
 refine⟨⟨e0.mod,S.kind,rfl,rfl,Rh _,λy z c h1 h2=>?_,λy hy=>?_,λy c _ h=>?_,λ_=>hd,Around.frames_deeper e0.frames,.inr ⟨rfl,rfl⟩,λb z=>absurd z (noA b),e0.bs,e0.bsz,λb _ _=>noA b,λb z=>absurd z (noA b),e0.funs,e0.frf⟩,
  rfl,e0.bare,Un.kept hk,⟨_,x.toInCall.ns,λi y v h1 h2 h3=>?_⟩,λy c h=>⟨_,x.cell y c h⟩,e0.hok.fresh (Rh _),λy c h=>?_,λp hp=>absurd (show p∈([]:@Do) from hp) (@KM),e0.hok.kept hk,?_⟩
 ·exact name_of_addr x.apart (Sk h1) (Sk h2)
 ·have hy:scope.names.lookup y=some .cell\/scope.names.lookup y=some .free:=hy
  rcases hy with hy |hy
  ·exact yZ hy
  ·exact absurd rfl (S.nofree _ (Sk hy))
 ·exact Tq (x.above y c (Sk h))
 ·have hi:i < vs.length:=by
   unfold start at h2
   by_cases hi:i < vs.length
   ·exact hi
   ·rw[R3 (by simpa using hi)] at h2
    rw[Sw] at h2
    split at h2 <;> cases h2
  have ha:vs[i]? =some v:=by
   unfold start at h2
   rw[RX (by simpa using hi),RA] at h2
   cases e:vs[i]? with
   |none=>rw[e] at h2;cases h2
   |some a=>rw[e] at h2;cases h2;rfl
  obtain⟨u,hu,rv⟩:=r.get ha
  have hp:ps[i]? =some y:=by
   rw[<-S.pre,List.getElem?_take_of_lt (@AT)];exact h1
  have ndP:ps.Nodup:=by rw[<-S.pre];exact S.nd.sublist (List.take_sublist _ _)
  refine⟨u,rv,?_⟩
  rcases S.par y (RN hp) with k |k
  ·exact .inl ⟨k,vW ndP hp hu k⟩
  ·obtain⟨c,e⟩:=yZ (n:=s.heap.objs.size + 1) k
   refine .inr ⟨.inl k,c,e,?_⟩
   have q:=x.cell y c e
   rw[vF ndP hp hu (by show scope.names.lookup y≠_;rw[k];decide)] at q
   exact q
 ·exact e0.hok.fresh (Tq (x.above y c (Sk h)))
 ·unfold start
  show _=N.length
  rw[RD,Rb,Sj]
  omega
theorem EU {CX:Dw}{P:Program}{w:World}{K:Frag}{mg:@Fr}{base:Heap}{k:Nat}{f:Addr}{name qual:Str}{params:Arguments}{body:List Stmt}{scope:Scope}{dV kV doc pm cdv ct oc:Value}{an od:@J_}
  {osl:Array (Option Value)} {N ps:@Id} {sp:Sp} (lk:K.lookup f=some ⟨oc,od,.func (PySem.W.fnOf name qual params body scope dV kV doc pm an cdv ct),osl⟩) (hcd:PySem.W.codeIn K cdv qual=true) (S:aB N ps scope)
  (len:∀vs H Q E,sp vs H Q E->vs.length=ps.length)
  (hbody:∀(A:Around) (outer:List Env) (s:Shared) (H:Hp) (vs:List V) (Q:VK) (E:XK),fm k (A.deeper (envOfC qual scope s.heap.objs.size f cdv))->sp vs H Q E->
   ∃t,u6 (ra CX P w K mg base N qual scope f cdv A outer s H E) body t/\t {nx:=λ_ H'=>Q .non H',rt:=Q} (start N vs) H) :
  gp P w K mg base CX (k + 1) f (PySem.W.fnOf name qual params body scope dV kV doc pm an cdv ct) ps sp:=by
 refine⟨len,λA outer s H args us vs Q E hr e0 hb r hsp=>?_⟩
 have hl:=len _ _ _ _ hsp
 have KX:K.In s.heap:=e0.mod.kin.keeps λb o e=>(e0.bs b o e).1
 have lim:s.heap.NoLimit:=e0.mod.nolimit.keeps λb o e=>(e0.bs b o e).1
 have hkind:∀y∈ps.zip us,scope.names.lookup y.1=some .local\/(scope.names.lookup y.1=some .cell/\((cellsFrom (s.heap.objs.size + 1) scope.names []).lookup y.1).isSome=true):=λ⟨n,v⟩ hy=>by
  rcases S.par n (List.of_mem_zip hy).1 with q |q
  ·exact .inl q
  ·exact .inr ⟨q,PySem.W.cellsFrom_some _ _ _ (.inl q)⟩
 refine codeAny_call_function hr.depth (KX _ _ lk) rfl S.co S.gen rfl (PySem.W.codeRec_of KX hcd) (hb _ _ _ _ ?_)
 refine wpAny_newFunctionEnv_cells S.kind hkind λenv he s1 x=>?_
 subst he
 refine⟨lim.keeps x.toInCall.keep,codeAny_func ?_⟩
 obtain⟨t,ht,hq⟩:=hbody A outer s H vs Q E (hr.deeper _) hsp
 have I:Inv (ra CX P w K mg base N qual scope f cdv A outer s H E) [] (start N vs) H s1:=DM S hr.hd e0 hl r x
 refine Sy (ht [] s1 (start N vs) H _ I hq) (λfl s' hs=>?_) λe s' hs=>hs
 have fin:∀{σ':St} {H':Hp} {v:V} {u:Value},Inv (ra CX P w K mg base N qual scope f cdv A outer s H E) [] σ' H' s'->RelV v u->Q v H'->CE outer P w H s Q u s':=
  λ{σ' H' v u} J rv q=>⟨v,H',J.os,J.bare,J.base,J.hok,rv,q⟩
 cases fl with
 |ret u=>
  obtain⟨v,σ',H',J,rv,q⟩:=hs
  exact fin J rv q
 |next=>
  obtain⟨σ',H',J,q⟩:=hs
  exact fin (v:=V.non) (u:=Value.none) J rfl q
 |brk=>
  obtain⟨_,_,_,q⟩:=hs
  exact False.elim q
 |cont=>
  obtain⟨_,_,_,q⟩:=hs
  exact False.elim q
section
variable {X:Cx}{x:Str}{p pos:Pos}{e:Expr}{es:List Expr}{t:TA}{id T:String}{r:List V->@P_}
def QS (r:List V->@P_)(t:TA):TE:=λσ H Q=>t σ H λvs H1=>r vs H1 Q
def lG (hc:fC X (.builtin id) r)(hg:Gl X x)(hm:X.mg x=none)(hv:bootBuiltins x=some (.builtin id))(ha:PA X (e :: es) t)(hn:x≠"__name__":=by decide)(hdb:@Go:=by decide)
  (he:starEach (e :: es) X.env=(false,eval e X.env) :: @T_:=by rfl) (hpl:(backTo pos (@T_)).any (·.1)=false:=by rfl):PE X (.Call (.Name x p) (e :: es) [] pos) (QS r t):=by
 intro pins s σ H Q I h
 refine Um (oK I hg hm hv ?_ hn hdb)
 exact PyProof.Rows.callWith_builtin1 (cZ (ha pos pins s σ H _ I h) λus s1 ⟨vs,H1,I1,r1,q1⟩=>hc pins s1 σ H1 vs us Q I1 r1 q1) he hpl
def lF (hc:fC X (.type T) r)(hg:Gl X x)(hm:X.mg x=none)(hv:bootBuiltins x=some (.type T))(ha:PA X (e :: es) t)(hn:x≠"__name__":=by decide)(hdb:@Go:=by decide)
  (he:starEach (e :: es) X.env=(false,eval e X.env) :: @T_:=by rfl) (hpl:(backTo pos (@T_)).any (·.1)=false:=by rfl):PE X (.Call (.Name x p) (e :: es) [] pos) (QS r t):=by
 intro pins s σ H Q I h
 refine Um (oK I hg hm hv ?_ hn hdb)
 exact Ts (cZ (ha pos pins s σ H _ I h) λus s1 ⟨vs,H1,I1,r1,q1⟩=>hc pins s1 σ H1 vs us Q I1 r1 q1) he hpl
end
end L2
namespace HT
open PySem PyProof.Rows
section
open PySem.SeqAt
open PySem.AutoSeq1 (wpAny_loadPart')
open PySem.MeetsSeq PySem.MeetsSeq2 PySem.MeetsSeq3
end
section
variable {prog:Program}{w:World}{A:Around}{E:@EQ}{s:Shared}
def Hj {t b:Addr}{vs ws:@G_}{Q:@EQ}(ht:IsTup s.heap t vs.toArray)(hb:IsTup s.heap b ws.toArray)(hv:vs≠ [])
  (h1:ws= []->Q (.ref t) s) (h2:ws≠ []->Q (@Ty) {s with heap:=s.heap.push {cls:=.type "tuple",data:=.seq (vs ++ ws).toArray}})
  (hsz:vs.length + ws.length<=sizeLine):wpAny @TW A (binaryOp .Add (.ref t) (.ref b)) Q E s:=by
 obtain⟨⟨cls,dd,data,sl⟩,ho,hc,n,hd⟩:=id ht
 obtain⟨⟨cls2,dd2,data2,sl2⟩,ho2,hc2,n2,hd2⟩:=id hb
 simp only at hc hd hc2 hd2
 subst hc hd hc2 hd2
 have e:vs.toArray ++ ws.toArray=(vs ++ ws).toArray:=@KM
 by_cases hw:ws= []
 ·exact concat_meets ⟨_,ho,rfl⟩ ⟨_,ho2,rfl⟩ noFill_tuple_add seq_tuple_add PySem.F.slot_tuple_add PySem.F.entry_tuple_add (Uo _ _)
   (tuple_addW1 t b vs.toArray ws.toArray n n2 dd dd2 sl sl2 (by simpa using hv) (by simp[hw])) ⟨ho,ho2,h1 hw⟩
 ·refine concat_meets ⟨_,ho,rfl⟩ ⟨_,ho2,rfl⟩ noFill_tuple_add seq_tuple_add PySem.F.slot_tuple_add PySem.F.entry_tuple_add (Uo _ _)
   (tuple_addW2 t b vs.toArray ws.toArray n n2 dd dd2 sl sl2 (by simpa using hv) (by simpa using hw) (by rw[Ry,Ry];exact hsz)) ⟨ho,ho2,?_⟩
  rw[e]
  exact h2 hw
def fu (n d:Nat):Option Int->Nat
 |none=>d
 |some v=>if v < 0 then (v + (n:Int)).toNat else min v.toNat n
def p0 (n d:Nat):fu n d none=d:=rfl
def rN (n d k:Nat):fu n d (some (k:Int))=min k n:=by
 show (if (k:Int) < 0 then ((k:Int) + (n:Int)).toNat else min (k:Int).toNat n)=min k n
 rw[Rj (@AT),RT]
theorem LL (n d:Nat)(hd:d<=n)(o:Option Int):fu n d o<=n:=by
 cases o with
 |none=>exact hd
 |some v=>
  show (if v < 0 then (v + (n:Int)).toNat else min v.toNat n)<=n
  by_cases hv:v < 0
  ·rw[Rg hv];omega
  ·rw[Rj hv];exact Nat.min_le_right _ _
def Cr (v:Int)(n d:Nat):(if v < 0 then max (v + (n:Int)) 0 else min v (n:Int))=((fu n d (some v):Nat):Int):=by
 show (if v < 0 then max (v + (n:Int)) 0 else min v (n:Int))=(((if v < 0 then (v + (n:Int)).toNat else min v.toNat n):Nat):Int)
 by_cases hv:v < 0
 ·simp only[Rg hv];omega
 ·simp only[Rj hv];omega
def AY (lo hi:Option Int)(n:Nat):Builtin.Slice.sliceAdjust lo hi 1 (n:Int)=(((fu n 0 lo:Nat):Int),((fu n n hi:Nat):Int)):=by
 have h1:¬((1:Int) < 0):=@AT
 unfold Builtin.Slice.sliceAdjust
 simp only[h1,SX]
 refine Prod.ext ?_ ?_
 ·cases lo with
  |none=>rfl
  |some v=>exact Cr v n 0
 ·cases hi with
  |none=>rfl
  |some v=>exact Cr v n n
def z8 (i j:Nat):Builtin.Slice.slicePlaces (i:Int) (j:Int) 1=j - i:=by
 unfold Builtin.Slice.slicePlaces
 have h1:(1:Int) > 0:=@AT
 simp only[h1,SK,Int.ediv_one]
 split <;> omega
theorem rZ {v:Value}{o:Option Int}{Q:Option Int->Shared->Prop}(p:IsPart v o)(h:Q o s):wpAny @TW A (Builtin.Slice.slicePartIndex v) Q E s:=by
 cases p with
 |none=>exact slicePart_none h
 |int i t=>exact slicePart_int h
def ly {sl:Addr}{vl vu:Value}{lo hi:Option Int}{n:Nat}{Q:Int×Int×Nat->Shared->Prop}(hs:s.heap.IsSliceOf sl vl vu .none)(pl:IsPart vl lo)(pu:IsPart vu hi)
  (h:Q (((fu n 0 lo:Nat):Int),1,fu n n hi - fu n 0 lo) s):wpAny @TW A (Builtin.Slice.sliceApplied (.ref sl) (pure (n:Int))) Q E s:=by
 obtain⟨os,hos,hcs,hds⟩:=id hs
 unfold Builtin.Slice.sliceApplied Builtin.Slice.sliceFields
 refine Ra (Ra (TL hos hds (x:=vl) rfl (Ra (TL hos hds (x:=vu) rfl (Ra (TL hos hds (x:=.none) rfl (Rv ?_)))))))
 refine Ra (slicePart_none ?_)
 show wpAny _ _ (if ((1:Int) == 0)=true then _ else _) _ _ s
 rw[Rj @E_]
 refine Ra (rZ pl (Ra (rZ pu (Ra (Rv ?_)))))
 show wpAny _ _ (match Builtin.Slice.sliceAdjust lo hi 1 (n:Int) with | (lo,hi)=>pure (lo,(1:Int),Builtin.Slice.slicePlaces lo hi 1)) _ _ s
 rw[AY lo hi n]
 show wpAny _ _ (pure (((fu n 0 lo:Nat):Int),(1:Int),Builtin.Slice.slicePlaces ((fu n 0 lo:Nat):Int) ((fu n n hi:Nat):Int) 1)) _ _ s
 rw[z8]
 exact Rv h
def Gk (xs:Array Value)(i k:Nat):((List.range k).filterMap λ(m:Nat)=>xs[((i:Int) + (m:Int) * 1).toNat]?).toArray=((xs.toList.drop i).take k).toArray:=by
 have e:(λ(m:Nat)=>xs[((i:Int) + (m:Int) * 1).toNat]?)=λm=>xs[i + m]?:=by
  funext m
  have:((i:Int) + (m:Int) * 1).toNat=i + m:=@AT
  rw[this]
 rw[e]
 have:=pick_run xs i k
 rw[List.filterMap_map] at this
 have e2:((λx=>xs[x]?) ∘ λx=>i + x)=λm=>xs[i + m]?:=rfl
 rw[e2] at this
 rw[this]
def pW {t sl:Addr}{items:Array Value}{vl vu:Value}{lo hi:Option Int}{Q:@EQ}(ht:IsTup s.heap t items)(hs:s.heap.IsSliceOf sl vl vu .none)(pl:IsPart vl lo)(pu:IsPart vu hi)
  (hw:¬(fu items.size 0 lo=0/\fu items.size items.size hi=items.size))
  (h:Q (@Ty) {s with heap:=s.heap.push {cls:=.type "tuple",data:=.seq ((items.toList.drop (fu items.size 0 lo)).take (fu items.size items.size hi - fu items.size 0 lo)).toArray}})
  (hsz:items.size<=sizeLine):wpAny @TW A (getItem (.ref t) (.ref sl)) Q E s:=by
 have htake:sizeOk (.seq ((items.toList.drop (fu items.size 0 lo)).take (fu items.size items.size hi - fu items.size 0 lo)).toArray):=by
  show ((items.toList.drop (fu items.size 0 lo)).take (fu items.size items.size hi - fu items.size 0 lo)).toArray.size<=sizeLine
  rw[Ry,R9,To,Array.length_toList]
  omega
 have hj:fu items.size items.size hi<=items.size:=LL _ _ (Rh _) hi
 obtain⟨os,hos,hcs,hds⟩:=id hs
 have hTs:s.TypeIs (.ref sl) "slice":=⟨os,hos,hcs⟩
 unfold getItem
 try with_reducible refine S1 ?_
 first |refine Ra (Rv ?_) |skip
 refine Ra (wpAny_sequenceKey ht.typeIs @E_ ?_)
 refine Ra (wpAny_callSpecial?_slot (name:=Str.ofString "__getitem__") ht.typeIs Sv
  (wpAny_call_entry Sv ht.typeIs entry_tuple_getitem ?_ (args_tuple_getitem _ _)))
 show wpAny _ _ (Builtin.Tuple.tupleItemsOf (.ref t) >>= _) _ _ s
 refine Ra (tupleItemsOf_ ht ?_)
 refine Ra (wpAny_typeOf hTs ?_)
 rw[Rg @E_]
 refine Ra (ly hs pl pu ?_)
 have hno:¬((((fu items.size 0 lo:Nat):Int) == 0 && (1:Int) == 1 && (fu items.size items.size hi - fu items.size 0 lo) == items.size)=true):=by
  intro q
  rw[RC,RC] at q
  have q1:((fu items.size 0 lo:Nat):Int)=0:=eq_of_beq q.1.1
  have q2:fu items.size items.size hi - fu items.size 0 lo=items.size:=eq_of_beq q.2
  exact hw ⟨@AT,@AT ⟩
 show wpAny _ _ (if (((fu items.size 0 lo:Nat):Int) == 0 && (1:Int) == 1 && (fu items.size items.size hi - fu items.size 0 lo) == items.size)=true then _ else _) _ _ s
 rw[Rj hno,Gk]
 first
  |exact Ra (m:=Builtin.Tuple.tupleExact _) (S3 (Rv ⟨_,rfl,Rv h⟩) htake)
  |exact Ra (m:=Builtin.Tuple.tupleExact _) (S3 (Ra (Rv (Rv ⟨_,rfl,Rv h⟩))) htake)
  |exact Ra (Ra (m:=Builtin.Tuple.tupleExact _) (S3 (Rv (Rv ⟨_,rfl,Rv h⟩)) htake))
  |exact Ra (Ra (m:=Builtin.Tuple.tupleExact _) (S3 (Rv ⟨_,rfl,Rv h⟩) htake))
end
end HT
namespace L2
open PySem PySem.Spec PyProof.Rows
abbrev TO:=St->Hp->(Option Int->@P3)->Prop
def PO (X:Cx)(e:Option Expr)(t:TO):Prop:=
 ∀(pins:@Do) (s:Shared) (σ:St) (H:Hp) (Q:Option Int->@P3),@B_->t σ H Q->
  wpAny @Ev X.A (evalPart e X.env) (λu s'=>∃o H',Inv X pins σ H' s'/\IsPart u o/\Q o H') X.xe s
def HY:TO:=λ_ H Q=>Q none H
def NU (t:TE):TO:=λσ H Q=>t σ H λx H1=>∃i,x=.int i/\Q (some i) H1
theorem intsAre_of {ns:@Db}:∀{us:@G_},Vals (ns.map V.int) us->IntsAre us ns:=by
 induction ns with
 |nil=>intro us r;rw[List.map_nil] at r;cases r;exact .nil
 |cons n ns ih=>
  intro us r
  rw[Sx] at r
  cases r with
  |cons r1 r2=>
   obtain⟨t,e⟩:=r1
   subst e
   exact .cons n t (ih r2)
section
variable {X:Cx}{e:Expr}{te:TE}{lo hi:Option Expr}{tl th:TO}{pos p2:Pos}
def Hs:PO X none HY:=by
 intro pins s σ H Q I h
 rw[evalPart_none]
 exact Rv ⟨none,H,I,.none,h⟩
def Js (h:PE X e te):PO X (some e) (NU te):=by
 intro pins s σ H Q I hw
 rw[evalPart_some]
 refine cZ (h pins s σ H _ I hw) λu s1 ⟨x,H1,I1,r1,q1⟩=>?_
 obtain⟨i,rfl,q⟩:=q1
 obtain⟨t,rfl⟩:=r1
 exact⟨some i,H1,I1,.int i t,q⟩
def OX (X:Cx)(r:V->Option Int->Option Int->@P_):Prop:=
 ∀(pins:@Do) (s:Shared) (σ:St) (H:Hp) (x:V) (v vl vu:Value) (lo hi:Option Int) (sl:Addr) (Q:VK),@B_->RelV x v->s.heap.IsSliceOf sl vl vu .none->IsPart vl lo->IsPart vu hi->r x lo hi H Q->
  ∃T id,typeLookup (.type T) "__getitem__"=pure (some (.builtin id))/\s.TypeIs v T/\wpAny @Ev X.A (getItem v (.ref sl)) (EP X pins σ Q) X.xe s
def Q8 (r:V->Option Int->Option Int->@P_)(te:TE)(tl th:TO):TE:=λσ H Q=>te σ H λx H1=>tl σ H1 λl H2=>th σ H2 λu H3=>r x l u H3 Q
def yF {r:V->Option Int->Option Int->@P_}(hr:OX X r)(he:PE X e te)(hl:PO X lo tl)(hu:PO X hi th):PE X (.Subscript e (.Slice lo hi none p2) pos) (Q8 r te tl th):=by
 intro pins s σ H Q I h
 refine Subscript_ (cZ (he pins s σ H _ I h) λv s1 ⟨x,H1,I1,r1,q1⟩=>?_)
 refine wpAny_Slice (cZ (hl pins s1 σ H1 _ I1 q1) λvl s2 ⟨l,H2,I2,pl,q2⟩=>cZ (hu pins s2 σ H2 _ I2 q2) λvu s3 ⟨u,H3,I3,pu,q3⟩=>?_)
 rw[evalPart_none]
 refine Rv ?_
 have I4:Inv X pins σ H3 {s3 with heap:=s3.heap.push {cls:=.type "slice",data:=.fields #[vl,vu,.none]}}:=I3.kept (t':=s3.toks) λb ob q=>Ri _ q
 obtain⟨T,id,hT,ht,hg⟩:=hr pins {s3 with heap:=s3.heap.push {cls:=.type "slice",data:=.fields #[vl,vu,.none]}} σ H3 x v vl vu l u s3.heap.objs.size Q I4 r1 (Heap.IsSliceOf.new ..) pl pu q3
 show wpAny @Ev X.A (subscriptTail e (.Slice lo hi none p2) v (.ref s3.heap.objs.size)) (EP X pins σ Q) X.xe {s3 with heap:=s3.heap.push {cls:=.type "slice",data:=.fields #[vl,vu,.none]}}
 exact tail_any (ops:=[.ref s3.heap.objs.size,v]) ht hT hg (by with_unfolding_all rfl)
def tE (xs:List V)(lo hi:Option Int):List V:=(xs.drop (HT.fu xs.length 0 lo)).take (HT.fu xs.length xs.length hi - HT.fu xs.length 0 lo)
def qI (xs:List V)(lo hi:Option Int):(tE xs lo hi).length<=xs.length:=by
 unfold tE
 rw[R9,To]
 omega
def Qq (K:Frag):V->Option Int->Option Int->@P_:=λx lo hi H Q=>∃a xs,x=.ref a/\gr K H a xs/\
 ¬(HT.fu xs.length 0 lo=0/\HT.fu xs.length xs.length hi=xs.length)/\∀p,H p=none->Q (.ref p) (upd H p (.tup (tE xs lo hi)))
def KS:OX X (Qq X.K):=by
 intro pins s σ H x v vl vu lo hi sl Q I rx hs pl pu h
 obtain⟨a,xs,rfl,hx,hw,q⟩:=h
 cases rx
 obtain⟨its,r,ht,hz⟩:=I.tuple hx
 have hlen:its.toArray.size=xs.length:=by rw[Ry];exact r.length.symm
 refine⟨"tuple",_,Sv.lookup,ht.typeIs,?_⟩
 refine HT.pW ht hs pl pu (by rw[hlen];exact hw) ?_ (by rw[hlen];exact hz)
 rw[hlen]
 refine⟨@Ty,_,I.laid (t':=s.toks) (o:=.tup (tE xs lo hi)) (λb ob q=>Ri _ q) (Rh _) ?_,rfl,q _ (I.hok.fresh (Rh _))⟩
 exact⟨Sd (qI xs lo hi) hz,_,(r.drop (HT.fu xs.length 0 lo)).take (HT.fu xs.length xs.length hi - HT.fu xs.length 0 lo),tw.new _ _⟩
def MY (K:Frag):R2:=λx y H Q=>∃a b xs ys,x=.ref a/\y=.ref b/\gr K H a xs/\gr K H b ys/\xs≠ []/\xs.length + ys.length<=sizeLine/\
 (ys= []->Q (.ref a) H)/\(ys≠ []->∀p,H p=none->Q (.ref p) (upd H p (.tup (xs ++ ys))))
theorem Vals.nil_iff {xs:List V}{us:@G_}(r:Vals xs us):us= []↔xs= []:=by
 cases r with
 |nil=>simp
 |cons _ _=>simp
def Jp:m6 X (binaryOp .Add) (MY X.K):=by
 intro pins s σ H x y v u Q I rx ry h
 obtain⟨a,b,xs,ys,rfl,rfl,ha,hb,hx,hz,q1,q2⟩:=h
 cases rx
 cases ry
 obtain⟨its,r1,p1,_⟩:=I.tuple ha
 obtain⟨its2,r2,p2,_⟩:=I.tuple hb
 refine HT.Hj p1 p2 (λz=>hx (r1.nil_iff.mp z)) (λz=>⟨.ref a,H,I,rfl,q1 (r2.nil_iff.mp z)⟩) (λz=>?_) (by rw[<-r1.length,<-r2.length];exact hz)
 refine⟨@Ty,_,I.laid (t':=s.toks) (o:=.tup (xs ++ ys)) (λb ob q=>Ri _ q) (Rh _) ?_,rfl,q2 (λw=>z (r2.nil_iff.mpr w)) _ (I.hok.fresh (Rh _))⟩
 exact⟨by rw[RD];exact hz,_,r1.append r2,tw.new _ _⟩
end
def xR (n:Nat)(i:Int):Option Nat:=if 0<=i then (if i < n then some i.toNat else none) else if -(n:Int)<=i then some (i + n).toNat else none
def m9 {α:Type}(xs:List α)(i:Int):Option α:=(xR xs.length i).bind λj=>xs[j]?
def BY {n:Nat}{i:Int}{j:Nat}(h:xR n i=some j):seqIndex? i n=some j/\j < n/\ -(n:Int)<=i/\i < n:=by
 unfold xR at h
 by_cases h0:0<=i
 ·rw[Rg h0] at h
  by_cases h1:i < n
  ·rw[Rg h1] at h
   have e:i.toNat=j:=Option.some.inj h
   exact⟨by rw[seqIndex_of h0 h1,e],@AT,@AT,h1⟩
  ·rw[Rj h1] at h;cases h
 ·rw[Rj h0] at h
  by_cases h1: -(n:Int)<=i
  ·rw[Rg h1] at h
   have e:(i + n).toNat=j:=Option.some.inj h
   exact⟨by rw[seqIndex_neg (@AT) h1,e],@AT,h1,@AT ⟩
  ·rw[Rj h1] at h;cases h
theorem xj {α:Type}{xs:List α}{i:Int}{v:α}(h:m9 xs i=some v):∃j,seqIndex? i xs.length=some j/\xs[j]? =some v/\j < xs.length/\ -(xs.length:Int)<=i/\i < xs.length:=by
 unfold m9 at h
 cases e:xR xs.length i with
 |none=>rw[e] at h;cases h
 |some j=>
  rw[e] at h
  obtain⟨h1,h2,h3,h4⟩:=BY e
  exact⟨j,h1,h,h2,h3,h4⟩
def kM {α:Type}{xs:List α}{j:Nat}{v:α}(h:xs[j]? =some v):m9 xs (j:Int)=some v:=by
 have hj:j < xs.length:=(Rn.mp h).1
 have e:xR xs.length (j:Int)=some j:=by
  unfold xR
  rw[Rg (@AT),Rg (@AT)];simp
 unfold m9;rw[e];exact h
def Cb (b:Expr):Prop:=∀o i,subscripted b false o i=operate [o,i] (getItem o i)
def E2 (X:Cx)(r:R2):Prop:=
 ∀(value slice:Expr) (pins:@Do) (s:Shared) (σ:St) (H:Hp) (x y:V) (v u:Value) (Q:VK),@B_->RelV x v->RelV y u->r x y H Q->
  subscripted slice false v u=operate [v,u] (getItem v u)->wpAny @Ev X.A (subscriptTail value slice v u) (EP X pins σ Q) X.xe s
def QY (X:Cx)(id:String)(r:V->List V->@P_):Prop:=
 ∀(pins:@Do) (s:Shared) (σ:St) (H:Hp) (x:V) (xs:List V) (v:Value) (us:@G_) (Q:VK),@B_->RelV x v->Vals xs us->r x xs H Q->
  wpAny @Ev X.A (call (.builtin id) (v :: us)) (EP X pins σ Q) X.xe s
section
variable {X:Cx}{a b:Expr}{ta tb:TE}{pos:Pos}
def E2.or {r r':R2}(h:E2 X r)(h':E2 X r'):E2 X (λx y H Q=>r x y H Q\/r' x y H Q):=by
 intro value slice pins s σ H x y v u Q I rx ry q hs
 rcases q with q |q
 ·exact h value slice pins s σ H x y v u Q I rx ry q hs
 ·exact h' value slice pins s σ H x y v u Q I rx ry q hs
def oF {r:R2}(hr:E2 X r)(ha:PE X a ta)(hb:PE X b tb)(hs:Cb b):PE X (.Subscript a b pos) (O2 r ta tb):=by
 intro pins s σ H Q I h
 exact Subscript_ (MB ha hb I h λv u s2 x y H2 I2 rx ry q=>hr a b pins s2 σ H2 x y v u Q I2 rx ry q (hs _ _))
def Mi (K:Frag):R2:=λx y H Q=>∃p xs i v,x=.ref p/\y=.int i/\ji K H p xs/\m9 xs i=some v/\Q v H
def Nu (K:Frag):R2:=λx y H Q=>∃p xs i v,x=.ref p/\y=.int i/\gr K H p xs/\m9 xs i=some v/\Q v H
def NM:R2:=λx y H Q=>∃z i c,x=.str z/\y=.int i/\z.length<=sizeLine/\m9 z.cps.toList i=some c/\Q (.str ⟨#[c]⟩) H
def jy:E2 X (Mi X.K):=by
 intro value slice pins s σ H x y v u Q I rx ry h hs
 obtain⟨p,xs,i,z,rfl,rfl,hq,he,q⟩:=h
 cases rx
 obtain⟨t,rfl⟩:=ry
 obtain⟨its,r,pl,hz⟩:=I.list hq
 obtain⟨j,h1,h2,h3,h4,h5⟩:=xj he
 obtain⟨w,ew,rw'⟩:=r.get h2
 have hl:=r.length
 have hn:=qz
 have fin:EP X pins σ Q w s:=⟨z,H,I,rw',q⟩
 by_cases h0:0<=i
 ·have hj:i.toNat=j:=by
   rw[seqIndex_of h0 h5] at h1
   exact Option.some.inj h1
  exact item_listR pl.isList h0 (@AT) (by rw[hj];simpa using ew) fin hs
 ·have hj:(i + (its.toArray.size:Int)).toNat=j:=by
   rw[seqIndex_neg (@AT) h4] at h1
   rw[Ry,<-hl]
   exact Option.some.inj h1
  exact subscriptTail_builtinR (x:=w) pl.isList.typeIs slot_list_getitem.lookup
   (wpAny_getItem_list_neg (Q:=λr s'=>r=w/\EP X pins σ Q r s') pl.isList (@AT) (by rw[Ry] <;> omega) (@AT) (by rw[hj];simpa using ew) ⟨rfl,fin⟩) hs
def Kq:E2 X (Nu X.K):=by
 intro value slice pins s σ H x y v u Q I rx ry h hs
 obtain⟨p,xs,i,z,rfl,rfl,hq,he,q⟩:=h
 cases rx
 obtain⟨t,rfl⟩:=ry
 obtain⟨its,r,pl,hz⟩:=I.tuple hq
 obtain⟨j,h1,h2,h3,h4,h5⟩:=xj he
 obtain⟨w,ew,rw'⟩:=r.get h2
 have hl:=r.length
 have hn:=qz
 have fin:EP X pins σ Q w s:=⟨z,H,I,rw',q⟩
 exact subscriptTail_builtinR (x:=w) pl.typeIs slot_tuple_getitem.lookup
  (getItem_tuple (j:=j) (Q:=λr s'=>r=w/\EP X pins σ Q r s') pl (@AT) (@AT) (by rw[Ry,<-hl];exact h1) (by simpa using ew) ⟨rfl,fin⟩) hs
def Mp:E2 X NM:=by
 intro value slice pins s σ H x y v u Q I rx ry h hs
 obtain⟨z,i,c,rfl,rfl,hz,he,q⟩:=h
 obtain⟨t,rfl⟩:=rx
 obtain⟨t',rfl⟩:=ry
 obtain⟨j,h1,h2,h3,h4,h5⟩:=xj he
 have hl:z.cps.toList.length=z.length:=by simp[Str.length]
 rw[hl] at h1 h4 h5
 have hn:=qz
 exact tail_any (typeIs_str s z t) slot_str_getitem.lookup (getItem_str (c:=c) (by
  have e1:decide (i < -(2 ^ 63:Int))=false:=Rt (@AT)
  have e2:decide (i>=2 ^ 63)=false:=Rt (@AT)
  rw[e1,e2,Bool.or_false]) (by rw[h1];simpa using h2) ⟨.str ⟨#[c]⟩,H,I.tok _,⟨_,rfl⟩,q⟩) hs
def QO (K:Frag):R2:=λx y H Q=>Mi K x y H Q\/Nu K x y H Q\/NM x y H Q
def aI:E2 X (QO X.K):=jy.or (Kq.or Mp)
def An (its:@G_)(n j:Nat)(u:Value):Obj.mapSeq (·.setIfInBounds j u) {cls:=.type "list",data:=.seq its.toArray n}={cls:=.type "list",data:=.seq (its.set j u).toArray n}:=by
 simp[Obj.mapSeq]
def Inv.lst {pins:@Do}{σ:St}{H:Hp}{s:Shared}{p:Addr}{xs:List V}(I:@B_)(h:H p=some (.lst xs)) :
  ∃(its:@G_) (n:Nat),Vals xs its/\s.heap.get? p=some {cls:=.type "list",data:=.seq its.toArray n}/\xs.length<=sizeLine:=by
 obtain⟨z,its,n,r,e⟩:=I.hok p _ h
 exact⟨its,n,r,e,z⟩
def Inv.lstUpd {pins:@Do}{σ:St}{H:Hp}{s:Shared}{p:Addr}{xs ys:List V}{its its':@G_}{n n':Nat}{f:Obj->Obj}(I:@B_)(h:H p=some (.lst xs))
  (ho:s.heap.get? p=some {cls:=.type "list",data:=.seq its.toArray n}) (hf:f {cls:=.type "list",data:=.seq its.toArray n}={cls:=.type "list",data:=.seq its'.toArray n'}) (r:Vals ys its') (hz:ys.length<=sizeLine) (t:Nat) :
  Inv X pins σ (upd H p (.lst ys)) {s with heap:=s.heap.update p f,toks:=t}:=by
 have e:(s.heap.update p f).get? p=some {cls:=.type "list",data:=.seq its'.toArray n'}:=by
  rw[T5 f ho (by rw[hf] <;> rfl),hf]
 refine I.write (x:=p) (e:=p) (by rw[h];trivial) (.inl rfl) (λb u hb q=>(So _ _ (Ne.symm hb)).trans q) ⟨_,e⟩ ?_
 exact⟨hz,its',n',r,e⟩
def Nz:V->V->V->Hp->(@P3)->Prop:=λo i v H Q=>∃p xs k j,o=.ref p/\i=.int k/\H p=some (.lst xs)/\xR xs.length k=some j/\Q (upd H p (.lst (xs.set j v)))
def set_list:Gj X Nz:=by
 intro pins s σ H o i v ov iv u Q I ro ri rv h
 obtain⟨p,xs,k,j,rfl,rfl,hp,hj,q⟩:=h
 cases ro
 obtain⟨t,rfl⟩:=ri
 obtain⟨its,n,r,ho,hz⟩:=I.lst hp
 obtain⟨h1,h2,h3,h4⟩:=BY hj
 have hl:=r.length
 have hn:=qz
 have I':Inv X pins σ (upd H p (.lst (xs.set j v))) {s with heap:=s.heap.update p (Obj.mapSeq (·.setIfInBounds j u))}:=
  I.lstUpd hp ho (An its n j u) (r.set rv j) (by rw[SM];exact hz) s.toks
 by_cases h0:0<=k
 ·have hk:k.toNat=j:=by
   rw[seqIndex_of h0 h4] at h1
   exact Option.some.inj h1
  exact PySem.W.ki_setAt ho h0 (@AT) (by rw[Ry,<-hl];exact h4) (by rw[hk];exact⟨_,I',q⟩)
 ·have hk:(k + (its.toArray.size:Int)).toNat=j:=by
   rw[seqIndex_neg (@AT) h3] at h1
   rw[Ry,<-hl]
   exact Option.some.inj h1
  exact PySem.W.ki_setBack ho (@AT) (by rw[Ry,<-hl];exact h3) (@AT) (by rw[hk];exact⟨_,I',q⟩)
def xl (lo hi:Option Int)(n:Nat):(sliceBounds lo hi none n).1=((HT.fu n 0 lo:Nat):Int)/\(sliceBounds lo hi none n).2.1=((HT.fu n n hi:Nat):Int)/\(sliceBounds lo hi none n).2.2=1:=by
 refine⟨?_,?_,rfl⟩
 ·cases lo with
  |none=>simp[sliceBounds,HT.fu]
  |some i=>
   simp only[sliceBounds,HT.fu,Option.getD_none,show (1:Int) > 0 by decide,SK]
   by_cases h:i < 0
   ·simp only[h,SK] <;> omega
   ·simp only[h,SX] <;> omega
 ·cases hi with
  |none=>simp[sliceBounds,HT.fu]
  |some i=>
   simp only[sliceBounds,HT.fu,Option.getD_none,show (1:Int) > 0 by decide,SK]
   by_cases h:i < 0
   ·simp only[h,SK] <;> omega
   ·simp only[h,SX] <;> omega
def uy (its:@G_)(lo hi:Option Int):slicePick its.toArray lo hi none=((its.drop (HT.fu its.length 0 lo)).take (HT.fu its.length its.length hi - HT.fu its.length 0 lo)).toArray:=by
 obtain⟨h1,h2,h3⟩:=xl lo hi its.toArray.size
 unfold slicePick
 rw[h1,h2,h3]
 simp only[sliceRange_one,pick_run,Ry] <;> rfl
def P8 (K:Frag):V->Option Int->Option Int->@P_:=λx lo hi H Q=>∃a xs,x=.ref a/\ji K H a xs/\∀p,H p=none->Q (.ref p) (upd H p (.lst (tE xs lo hi)))
def Hz:OX X (P8 X.K):=by
 intro pins s σ H x v vl vu lo hi sl Q I rx hs pl pu h
 obtain⟨a,xs,rfl,hx,q⟩:=h
 cases rx
 obtain⟨its,r,ht,hz⟩:=I.list hx
 have hlen:=r.length
 refine⟨"list",_,slot_list_getitem.lookup,ht.isList.typeIs,?_⟩
 refine wpAny_getItem_list_slice ht.isList hs pl pu .none (@KM) ?_ (by rw[Ry] <;> omega)
 rw[uy,<-hlen]
 refine⟨@Ty,_,I.laid (t':=s.toks) (o:=.lst (tE xs lo hi)) (λb ob q=>Ri _ q) (Rh _) ?_,rfl,q _ (I.hok.fresh (Rh _))⟩
 exact⟨Sd (qI xs lo hi) hz,_,0,(r.drop (HT.fu xs.length 0 lo)).take (HT.fu xs.length xs.length hi - HT.fu xs.length 0 lo),RB _ rfl⟩
def mE:fC X (.type "list") (λxs H Q=>∃p ys,xs= [.ref p]/\(ji X.K H p ys\/gr X.K H p ys)/\∀l,H l=none->Q (.ref l) (upd H l (.lst ys))):=by
 intro pins s σ H xs us Q I r h
 obtain⟨p,ys,rfl,hq,q⟩:=h
 obtain⟨u,rfl,rx⟩:=vals1 r
 cases rx
 have fin:∀(its:@G_),Vals ys its->ys.length<=sizeLine->∀(h':Heap) (c':Nat),(∀b o',s.heap.get? b=some o'->h'.get? b=some o')->
   h'.get? s.heap.objs.size=some {cls:=.type "list",dict:=none,data:=.seq its.toArray c',slots:=#[]}->EP X pins σ Q (@Ty) {s with heap:=h'}:=λits r' hz h' c' kp e=>
  ⟨@Ty,_,I.laid (t':=s.toks) kp (Rh _) (show dZ X.prog X.w _ h' _ (.lst ys) from⟨hz,its,c',r',e⟩),rfl,q _ (I.hok.fresh (Rh _))⟩
 rcases hq with hq |hq
 ·obtain⟨its,r',pl,hz⟩:=I.list hq
  have hlen:=r'.length
  obtain⟨o,ho,hc,n,hd⟩:=pl.isList
  exact call_list_seq p (.inl rfl) ho hc hd (λh' c' kp e=>fin its r' hz h' c' kp e) (by simp only[Ry] <;> omega)
 ·obtain⟨its,r',pl,hz⟩:=I.tuple hq
  have hlen:=r'.length
  obtain⟨o,ho,hc,n,hd⟩:=pl
  exact call_list_seq p (.inr rfl) ho hc hd (λh' c' kp e=>fin its r' hz h' c' kp e) (by simp only[Ry] <;> omega)
def bW:fC X (.type "tuple") (λxs H Q=>∃p ys,xs= [.ref p]/\((ji X.K H p ys/\∀l,H l=none->Q (.ref l) (upd H l (.tup ys)))\/(gr X.K H p ys/\Q (.ref p) H))):=by
 intro pins s σ H xs us Q I r h
 obtain⟨p,ys,rfl,h⟩:=h
 obtain⟨u,rfl,rx⟩:=vals1 r
 cases rx
 rcases h with⟨hq,q⟩ | ⟨hq,q⟩
 ·obtain⟨its,r',pl,hz⟩:=I.list hq
  have hlen:=r'.length
  refine call_tuple_list pl.isList (λh' kp=>?_) (by simp only[Ry] <;> omega)
  have I1:Inv X pins σ H {s with heap:=h'}:=I.kept (t':=s.toks) kp
  have I2:Inv X pins σ (upd H h'.objs.size (.tup ys)) {s with heap:=h'.push {cls:=.type "tuple",data:=.seq its.toArray}}:=
   I1.laid (t':=s.toks) (λb o e=>Ri _ e) (Rh _) (show dZ X.prog X.w _ _ _ (.tup ys) from⟨hz,its,r',tw.new _ _⟩)
  exact⟨.ref h'.objs.size,_,I2,rfl,q _ (I1.hok.fresh (Rh _))⟩
 ·obtain⟨its,r',pl,hz⟩:=I.tuple hq
  exact call_tuple_same pl ⟨.ref p,H,I,rfl,q⟩
def QT (K:Frag)(T:String)(x:V)(H:Hp):Prop:=match x with
 | .str _=>T="str"
 | .int _=>T="int"
 | .ref p=>(T="list"/\∃xs,ji K H p xs)\/(T="tuple"/\∃o,K.lookup p=some o/\o.cls=.type "tuple"/\o.dict=none)\/
   (T="dict"/\((∃kvs,H p=some (.dK kvs))\/∃kvs,H p=some (.dT kvs)))\/(T="set"/\∃S n,H p=some (.set S n))
 |_=>False
theorem LK {pins:@Do}{σ:St}{H:Hp}{s:Shared}{T:String}{x:V}{v:Value}(I:@B_)(r:RelV x v)(ty:QT X.K T x H) :
  s.TypeIs v T/\∀a,v=.ref a->∃ob,s.heap.get? a=some ob/\ob.dict=none:=by
 cases x with
 |str z=>
  obtain⟨t,rfl⟩:=r
  cases (show T="str" from ty)
  exact⟨typeIs_str s z t,λ_ e=>nomatch e⟩
 |int i=>
  obtain⟨t,rfl⟩:=r
  cases (show T="int" from ty)
  exact⟨typeIs_int s i t,λ_ e=>nomatch e⟩
 |ref p=>
  cases r
  rcases ty with⟨rfl,xs,hq⟩ | ⟨rfl,o,hk,hc,hd⟩ | ⟨rfl,hk⟩ | ⟨rfl,S,n,hk⟩
  ·obtain⟨its,_,pl,_⟩:=I.list hq
   refine⟨pl.isList.typeIs,λa e=>?_⟩
   cases e
   obtain⟨o,n,e,c,hd,_⟩:=pl
   exact⟨o,e,hd⟩
  ·refine⟨⟨o,I.kIn p o hk,hc⟩,λa e=>?_⟩
   cases e
   exact⟨o,I.kIn _ o hk,hd⟩
  ·have z:∃o,s.heap.get? p=some o/\o.ExactDict:=by
    rcases hk with⟨kvs,hk⟩ | ⟨kvs,hk⟩
    ·obtain⟨_,_,_,_,o,_,_,e,ex,_⟩:=I.hok p _ hk
     exact⟨o,e,ex⟩
    ·obtain⟨_,_,_,_,o,_,_,e,ex,_⟩:=I.hok p _ hk
     exact⟨o,e,ex⟩
   obtain⟨o,e,ex⟩:=z
   refine⟨⟨o,e,ex.1⟩,λa e2=>?_⟩
   cases e2
   exact⟨o,e,ex.2.1⟩
  ·obtain⟨o,_,_,_,e,ex,_⟩:=I.hok p _ hk
   refine⟨⟨o,e,ex.1⟩,λa e2=>?_⟩
   cases e2
   exact⟨o,e,ex.2.1⟩
 |_=>exact False.elim ty
def Q3 (K:Frag)(T:String)(r:V->List V->@P_)(to:TE)(t:TA):TE:=λσ H Q=>to σ H λx H1=>QT K T x H1/\t σ H1 λxs H2=>r x xs H2 Q
variable {o e:Expr}{es:List Expr}{to:TE}{t:TA}{name:Str}{apos cpos:Pos}{T id:String}{r:V->List V->@P_}
def Ct (pa:PlainAttrs T)(slot:Slot T name id)(hty:typeOf (.builtin id)=pure (.type "method_descriptor"))(hm:QY X id r)(ho:PE X o to)(ha:PA X (e :: es) t)
  (hbase:attributeBase o name X.env (eval o X.env)=eval o X.env:=by rfl)
  (hfew:((backTo cpos (starEach (e :: es) X.env)).all (λx=> !x.1) && (backToKw cpos (keywordEach [] X.env)).all (λx=>x.1.isSome)
   && decide ((e :: es).length + ([]:List Keyword).length + (if ([]:List Keyword).isEmpty then 0 else 1) < 30))=true:=by rfl)
  (hline:(apos.endLine == cpos.line)=true:=by rfl) (hs:starEach (e :: es) X.env=(false,eval e X.env) :: @T_:=by rfl) (hplain:(backTo cpos (@T_)).any (·.1)=false:=by rfl) :
  PE X (.Call (.Attribute o name apos) (e :: es) [] cpos) (Q3 X.K T r to t):=by
 intro pins s σ H Q I h
 refine wpAny_Call_method_late hbase hfew hline rfl (cZ (ho pins s σ H _ I h) λv s1 ⟨x,H1,I1,r1,ty,q1⟩=>?_)
 obtain⟨h1,h2⟩:=LK I1 r1 ty
 refine⟨T,id,pa,slot,hty,h1,h2,?_⟩
 have hA:=ha cpos pins s1 σ H1 _ I1 q1
 rw[hs] at hA ⊢
 refine Calls.callWith_builtin (by show (false || (backTo cpos (@T_)).any (·.1))=false;rw[hplain] <;> rfl) (Calls.evalArgs_plain ?_)
 exact cZ hA λus s2 ⟨vs,H2,I2,r2,q2⟩=>hm pins s2 σ H2 x vs v us Q I2 r1 r2 q2
end
def M7 (X:Cx)(id:String)(r:V->List V->@P_):Prop:=
 ∀(pins:@Do) (s:Shared) (σ:St) (H:Hp) (x:V) (xs:List V) (v:Value) (us:@G_) (Q:VK),@B_->RelV x v->Vals xs us->r x xs H Q->
  wpAny @Ev X.A (call (.builtin id) (v :: us)) (EP X pins σ Q) X.xe s
theorem Vals.one:∀{x:V} {us:@G_},Vals [x] us->∃u,us= [u]/\RelV x u
 |_,_,.cons r .nil=>⟨_,rfl,r⟩
theorem Vals.eraseIdx:∀{xs:List V} {us:@G_} (i:Nat),Vals xs us->Vals (xs.eraseIdx i) (us.eraseIdx i)
 |_,_,_,.nil=>.nil
 |_,_,0,.cons _ t=>t
 |_,_,i + 1,.cons r t=>.cons r (Vals.eraseIdx i t)
theorem Vals.rep {xs:List V}{us:@G_}(h:Vals xs us):∀k:Nat,Vals (List.replicate k xs).flatten (List.replicate k us).flatten
 | 0=>.nil
 |k + 1=>by
  rw[R8,R8,SQ,SQ]
  exact Vals.append h (Vals.rep h k)
theorem vS {α:Type}:∀(l:List α) (i:Nat),(l.eraseIdx i).length<=l.length
 | [],_=>Rh _
 |_ :: _,0=>Nat.le_succ _
 |_ :: r,i + 1=>Nat.succ_le_succ (vS r i)
theorem foldl_rep (its:@G_):∀(k:Nat) (acc:@G_),
  List.foldl (λx1 x2=>x1 ++ x2) acc.toArray (List.replicate k its.toArray)=(acc ++ (List.replicate k its).flatten).toArray
 | 0,acc=>@KM
 |k + 1,acc=>by
  have e:acc.toArray ++ its.toArray=(acc ++ its).toArray:=@KM
  have e2:(acc ++ its) ++ (List.replicate k its).flatten=acc ++ (List.replicate (k + 1) its).flatten:=by
   rw[R8,SQ,S4]
  rw[<-e2,<-foldl_rep its k (acc ++ its),<-e,R8,Ug]
section
variable {X:Cx}{pins:@Do}{σ:St}{H:Hp}{s:Shared}{l b:Addr}{xs ys zs:List V}
def Inv.lset {its its':@G_}{n:Nat}{f:Array Value->Array Value}{t':Nat}(I:@B_)(hH:H l=some (.lst xs))
  (e:s.heap.get? l=some {cls:=.type "list",data:=.seq its.toArray n}) (hf:f its.toArray=its'.toArray) (hv:Vals ys its') (hz:ys.length<=sizeLine) :
  Inv X pins σ (upd H l (.lst ys)) {s with heap:=s.heap.update l (Obj.mapSeq f),toks:=t'}:=by
 have q:=PySem.IsL.update e f
 rw[hf] at q
 refine I.write (x:=l) (e:=l) (by rw[hH];exact trivial) (.inl rfl) (λb' u hb hu=>(So s.heap (Obj.mapSeq f) (Ne.symm hb)).trans hu) ⟨_,q⟩ ?_
 exact⟨hz,its',_,hv,q⟩
def Inv.lnew {its:@G_}{t':Nat}(I:@B_)(hv:Vals ys its)(hz:ys.length<=sizeLine) :
  Inv X pins σ (upd H s.heap.objs.size (.lst ys)) {s with heap:=s.heap.push {cls:=.type "list",data:=.seq its.toArray},toks:=t'}:=
 I.laid (λ_ _ q=>Ri _ q) (Rh _) ⟨hz,its,0,hv,RB _ rfl⟩
def Inv.fresh (I:@B_):H s.heap.objs.size=none:=I.hok.fresh (Rh _)
def Inv.lstM (I:@B_)(hH:H l=some (.lst xs)):xs.length<=sizeLine/\∃(its:@G_) (n:Nat),Vals xs its/\xs.length=its.length/\s.heap.get? l=some {cls:=.type "list",data:=.seq its.toArray n}:=by
 obtain⟨z,its,n,r,e⟩:=I.hok l _ hH
 exact⟨z,its,n,r,r.length,e⟩
def yt {n:Nat}(h:n<=sizeLine):Builtin.List.listTooLong n=false:=by
 unfold Builtin.List.listTooLong
 exact Rt (@AT)
end
section
variable {X:Cx}
def IM:V->List V->@P_:=λx vs H Q=>∃l xs y,x=.ref l/\vs= [y]/\H l=some (.lst xs)/\xs.length < sizeLine/\Q .non (upd H l (.lst (xs ++ [y])))
def qu:M7 X "list.append" IM:=by
 intro pins s σ H x vs v us Q I rx rv h
 obtain⟨l,xs,y,rfl,rfl,hH,hz,q⟩:=h
 cases rx
 obtain⟨u,rfl,ru⟩:=rv.one
 obtain⟨z,its,n,r,hl,e⟩:=I.lstM hH
 refine call_meets F.slot_list_append ⟨_,e,rfl⟩ F.entry_list_append (F.args_list_append_2 _ _) (PySem.list_append l its.toArray n u (by rw[Ry];omega)) ⟨e,?_⟩
 refine⟨.non,_,I.lset (its':=its ++ [u]) hH e (@KM) (r.append (.cons ru .nil)) ?_,rfl,q⟩
 rw[RD,R1]
 omega
def Mg:V->List V->@P_:=λx vs H Q=>∃l xs i k y,x=.ref l/\vs= [.int i]/\H l=some (.lst xs)/\ -(2 ^ 63)<=i/\i < 2 ^ 63/\seqIndex? i xs.length=some k/\xs[k]? =some y/\Q y (upd H l (.lst (xs.eraseIdx k)))
def Gq:M7 X "list.pop" Mg:=by
 intro pins s σ H x vs v us Q I rx rv h
 obtain⟨l,xs,i,k,y,rfl,rfl,hH,h1,h2,hk,hy,q⟩:=h
 cases rx
 obtain⟨u,rfl,ru⟩:=rv.one
 obtain⟨t,rfl⟩:=ru
 obtain⟨z,its,n,r,hl,e⟩:=I.lstM hH
 obtain⟨w,hw,rw'⟩:=r.get hy
 refine call_meets F.slot_list_pop ⟨_,e,rfl⟩ F.entry_list_pop (F.args_list_pop_2 _ _)
  (MeetsSeq.list_pop_at l its.toArray n i t k w (fitsIndex_both h1 h2) (by rw[Ry,<-hl];exact hk) (by rw[<-Array.getElem?_toList];exact hw) (by rw[Ry];omega)) ⟨e,?_⟩
 refine⟨y,_,I.lset (its':=its.eraseIdx k) hH e ?_ (r.eraseIdx k) ?_,rw',q⟩
 ·show its.toArray.eraseIdxIfInBounds k=(its.eraseIdx k).toArray
  rw[List.eraseIdxIfInBounds_toArray]
 ·have:=vS xs k
  omega
def PJ:R2:=λx y H Q=>∃l k xs,x=.ref l/\y=.int k/\H l=some (.lst xs)/\ -(2 ^ 63)<=k/\k < 2 ^ 63/\xs.length * k.toNat<=sizeLine/\
 ∀p,H p=none->Q (.ref p) (upd H p (.lst (List.replicate k.toNat xs).flatten))
theorem len_rep {α:Type}(xs:List α)(k:Nat):(List.replicate k xs).flatten.length=k * xs.length:=by
 induction k with
 |zero=>simp
 |succ k ih=>rw[R8,SQ,RD,ih,Nat.succ_mul,Nat.add_comm]
def Er:m6 X (binaryOp .Mult) PJ:=by
 intro pins s σ H x y v u Q I rx ry h
 obtain⟨l,k,xs,rfl,rfl,hH,h1,h2,hz,q⟩:=h
 cases rx
 obtain⟨t,rfl⟩:=ry
 obtain⟨z,its,n,r,hl,e⟩:=I.lstM hH
 have hlen:its.toArray.size * k.toNat<=sizeLine:=by rw[Ry,<-hl];exact hz
 have hcap:¬its.toArray.size * k.toNat > (2 ^ 63 - 1) / 8:=by
  have:(sizeLine:Nat)<=(2 ^ 63 - 1) / 8:=by decide
  omega
 have hfit:¬(!Builtin.List.listFitsIndex k)=true:=by
  rw[fitsIndex_both h1 h2]
  exact RK
 have hlong:¬Builtin.List.listTooLong (its.toArray.size * k.toNat)=true:=by
  rw[yt hlen]
  exact RK
 have hnew:List.foldl (λx1 x2=>x1 ++ x2) #[] (List.replicate (if its.toArray.isEmpty=true then 0 else k.toNat) its.toArray)=(List.replicate k.toNat its).flatten.toArray:=by
  have f0:∀m:Nat,List.foldl (λx1 x2=>x1 ++ x2) #[] (List.replicate m its.toArray)=(List.replicate m its).flatten.toArray:=λm=>by
   have:=foldl_rep its m []
   rw[List.nil_append] at this
   exact this
  rw[f0]
  cases its with
  |nil=>simp
  |cons a r'=>rw[Rj (@KM)]
 refine wpAny_binaryOp_repeat_ref (T:="list") (U:="int") @E_ ⟨_,e,rfl⟩ (λs'=>typeIs_int s' k t) noFill_list_mul F.fills_int_mul F.slot_int_rmul repeat_list F.slot_int_index.lookup
  (call_meets F.slot_int_rmul (typeIs_int s k t) F.entry_int_rmul (F.args_int_rmul_2 _ _) (int___rmul___int_list k t l its.toArray n)
   ⟨e,rfl,⟨_,e,rfl⟩,call_meets F.slot_list_mul ⟨_,e,rfl⟩ F.entry_list_mul (F.args_list_mul_2 _ _) (AutoListH.list___mul___list_int_3 l its.toArray n k t hfit hcap hlong) ⟨e,?_⟩⟩)
 rw[hnew]
 exact⟨.ref _,_,I.lnew (t':=s.toks) (r.rep k.toNat) (by rw[len_rep,Nat.mul_comm];exact hz),rfl,q _ I.fresh⟩
end
end L2
namespace Att
open PySem PySem.W PySem.Calls PyProof.Rows
theorem qZ {P:Params}{h:Heap}:∀(ns:@Db) (vs:@G_),WellAll P h vs (ns.map WData.int)->IntsAre vs ns:=by
 intro ns
 induction ns with
 |nil=>
  intro vs w
  rw[List.map_nil] at w
  cases w
  exact .nil
 |cons n ns ih=>
  intro vs w
  rw[Sx] at w
  cases w with
  |cons a b=>
   cases a
   exact .cons _ _ (ih _ b)
theorem CH {l:OpenLaw}{n:Nat}(hn:l.most=some n){P:Params}{h:Heap}{args:List WData}{vals:@G_}
  (hpre:l.row.toRowW.claim.pre args=true) (hwl:WellAll P h vals args) :
  ∃a vs ns,vals= [Value.ref a]/\args= [WData.list (ns.map WData.int)]/\h.get? a=some {cls:=.type "list",data:=.seq vs.toArray}/\IntsAre vs ns/\ns.length<=n:=by
 have hsh:WShape.hasAll [] args [.list .int]=true:=(pre_splitW hpre).1
 have hc:l.pre.holds [] {args:=args}=true:=(pre_splitW hpre).2
 obtain⟨d,r,rfl,h1,h2⟩:=hasAllW_cons hsh
 obtain rfl:=hasAllW_nil h2
 obtain⟨xs,rfl,h3⟩:=hasW_list h1
 obtain⟨ns,rfl⟩:=items_int h3
 have hlen:ns.length<=n:=by
  unfold OpenLaw.pre at hc
  have h4:(WTm.not (.lt (.lit (.int (n:Int))) (.len (.arg 0)))).holds [] {args:=[.list (ns.map .int)]}=true:=by
   have h4:=(holds_andW hc).1
   rw[hn] at h4
   exact h4
  have h5:=condW_of h4 (w_not (w_lt w_lit (w_len_list (w_arg rfl))))
  rw[Rb] at h5
  refine Nat.le_of_not_lt λq=>?_
  have q':(n:Int) < ((ns.length:Nat):Int):=@AT
  first
   | (rw[Rk q'] at h5;exact absurd h5 @E_)
   | (simp at h5;omega)
 cases hwl with
 |cons w1 w2=>
  cases w2
  cases w1 with
  |list ho hall=>exact⟨_,_,ns,rfl,rfl,ho,qZ ns _ hall,hlen⟩
def CC (l:OpenLaw)(args:List WData):l.row.toRowW.claim.post args (.bool true) args=true:=
 postW_of (r:=l.row.toRowW) (X:=(true == true))
  (show WShape.has [] (.bool true) .bool=true by first |rfl |decide |simp[WShape.has,WShape.arms,WShape.armsAll])
  (show (WTm.eq .res (.lit (.bool true))).value [] {args:=args,res:=some (.bool true),after:=args}=some (.bool (true == true)) from w_eq_bool (w_res rfl) w_lit) rfl
def y6 {l:OpenLaw}{n:Nat}{q:Program}{loose:@Id}{XP:(@Fr)->Heap->Prop}{YP:World->Heap->Prop}{d:DefRec}
  (hn:l.most=some n) (hdf:d.params.defaults= [])
  (call:∀(w:World) (s₀ s₁:Shared) (mg mb:@Fr) (fa:Addr) (o:Obj) (pm cd doc:Value) (a:Addr) (vs:@G_) (ns:@Db),
   Ground q loose [] XP w s₀ mg mb s₁.heap->YP w s₁.heap->
   s₁.heap.get? fa=some o->o.data=.func (docDef d.name d.params d.body d.scope pm cd doc)->s₁.heap.CodeRec cd d.name->mg d.name=some (.ref fa)->
   s₁.heap.get? a=some {cls:=.type "list",data:=.seq vs.toArray}->IntsAre vs ns->ns.length<=n->s₁.gens=#[]->
   codeAny (model l.prog w) callerA (.call (.ref fa) ⟨[.ref a],[]⟩) (λr s'=>r=.ok (.ret (.bool true))/\OldK s₁.heap s'.heap/\s'.os=s₁.os/\AllBare s'.gens) s₁) :
  WalkO q loose XP YP l.row.toRowW d [] (λf vs=>PySem.call f vs):=by
 intro w s₀ s₁ mg mb G Y fa o pm cd doc dV kV ho hd hcd hD hmg hg args vals as hpre hlay hrd hwl hlo
 obtain rfl:dV=.none:=Dflts.none hD hdf
 obtain rfl:kV=.none:=Dflts.noKw hD
 obtain⟨a,vs,ns,rfl,rfl,hobj,hints,hlen⟩:=CH hn hpre hwl
 refine enter_call (Ul (call w s₀ s₁ mg mb fa o pm cd doc a vs ns G Y ho (fd_plain hd) hcd hmg hobj hints hlen hg) λr s' hq=>?_)
 obtain⟨rfl,h2,h3,h4⟩:=hq
 exact⟨.inl ⟨.bool true,.bool true,[],rfl,λ_=>rfl,.bool true,CC l _,λ_=>⟨List.Pairwise.nil,λ_ hm=>(nomatch hm)⟩⟩,h2,h3,h4⟩
end Att
namespace L2
open PySem PySem.Spec PyProof.Rows
theorem vn:∀{vs:@G_} {ns:@Db},IntsAre vs ns->Vals (ns.map V.int) vs
 |_,_,.nil=>.nil
 |_,_,.cons n t h=>.cons ⟨t,rfl⟩ (vn h)
def jw (s:Stmt):Arguments:=match s with
 | .FunctionDef _ a _ _ _ _ _ _ _ _=>a
 |_=>{posonlyargs:=[],args:=[],vararg:=none,kwonlyargs:=[],kw_defaults:=[],kwarg:=none,defaults:=[]}
def dw (s:Stmt):List Stmt:=match s with
 | .FunctionDef _ _ b _ _ _ _ _ _ _=>b
 |_=>[]
def ar (s:Stmt):Scope:=match s with
 | .FunctionDef _ _ _ _ _ _ sc _ _ _=>sc
 |_=>{kind:=.function,names:=[],isGenerator:=false,isCoroutine:=false}
abbrev K4:Dw:=λ_ _ _ _ _ _=>False
abbrev E0:XK:=λ_ _ _=>False
def Nk {X:Cx}:Passes K4 X E0:=λ_ _ _ _ _ _ _ h=>h.elim
structure DV (K:Frag)(x qual:Str)(st:Stmt)(f:Addr)(fd:FuncData):Prop where
 ex:∃(oc:Value) (od:@J_) (kV doc pm:Value) (an:@J_) (cdv ct:Value) (osl:Array (Option Value)),
  fd=PySem.W.fnOf x qual (jw st) (dw st) (ar st) .none kV doc pm an cdv ct/\K.lookup f=some ⟨oc,od,.func fd,osl⟩/\PySem.W.codeIn K cdv qual=true
 kp:PySem.W.keepIn K (.ref f)=true
section
variable {P:Program}{w:World}{K:Frag}{mg:@Fr}{base:Heap}
def DV.ok {x qual:Str}{st:Stmt}{f:Addr}{fd:FuncData}{N ps:@Id}{k:Nat}{sp:Sp}(F:DV K x qual st f fd)(S:aB N ps (ar st))(len:∀vs H Q E,sp vs H Q E->vs.length=ps.length)
  (hbody:∀(cdv:Value) (A:Around) (outer:List Env) (s:Shared) (H:Hp) (vs:List V) (Q:VK) (E:XK),fm k (A.deeper (envOfC qual (ar st) s.heap.objs.size f cdv))->sp vs H Q E->
   ∃t,u6 (ra K4 P w K mg base N qual (ar st) f cdv A outer s H E).nox (dw st) t/\t {nx:=λ_ H'=>Q .non H',rt:=Q} (start N vs) H):gp P w K mg base K4 (k + 1) f fd ps sp:=by
 obtain⟨oc,od,kV,doc,pm,an,cdv,ct,osl,rfl,lk,hcd⟩:=F.ex
 refine EU lk hcd S len λA outer s H vs Q E hr hsp=>?_
 obtain⟨t,h,q⟩:=hbody cdv A outer s H vs Q E hr hsp
 exact⟨t,h.nox,q⟩
def DV.binds {x qual:Str}{st:Stmt}{f:Addr}{fd:FuncData}{ps:@Id}(F:DV K x qual st f fd)
  (h:∀(kV doc pm:Value) (an:@J_) (cdv ct:Value) (us:@G_),us.length=ps.length->bindArgs (PySem.W.fnOf x qual (jw st) (dw st) (ar st) .none kV doc pm an cdv ct) ⟨us,[]⟩=pure (ps.zip us)):Binds K fd ps []:=by
 obtain⟨oc,od,kV,doc,pm,an,cdv,ct,osl,rfl,lk,hcd⟩:=F.ex
 exact .all (h kV doc pm an cdv ct)
def tX {x qual:Str}{st:Stmt}{f:Addr}{oc:Value}{od an:@J_}{osl:Array (Option Value)}{kV doc pm cdv ct:Value}(l:K.lookup f=some ⟨oc,od,.func (PySem.W.fnOf x qual (jw st) (dw st) (ar st) .none kV doc pm an cdv ct),osl⟩)
  (c:PySem.W.codeIn K cdv qual=true) (k:PySem.W.keepIn K (.ref f)=true):DV K x qual st f (PySem.W.fnOf x qual (jw st) (dw st) (ar st) .none kV doc pm an cdv ct):=⟨⟨oc,od,kV,doc,pm,an,cdv,ct,osl,rfl,l,c⟩,k⟩
end
section
variable {X:Cx}
def pv (i:Nat){x:Str}{pos:Pos}(hN:X.N[i]? =some x:=by rfl)(hv:BN X.env.scope x:=by first |exact Or.inl rfl |exact Or.inr (Or.inl rfl) |exact Or.inr (Or.inr rfl))(hd:@Go:=by decide)
  (hcd:(x == ("__classdict__":Str))=false:=by decide):PE X (.Name x pos) (HI i):=kU hN hv hd hcd
end
def sy {A B:Prop}(h:B):if false=true then A else B:=by
 rw[Rj RK]
 exact h
def ue {A B:Prop}(h:A):if true=true then A else B:=by
 rw[Rg rfl]
 exact h
def Iz (o:Obj):Prop:=∃vs q t,o.data=.fields vs/\vs[1]? =some (.str q t)
def GR:@G_->Prop
 | []=>True
 | .int _ _ :: .int _ _ :: .ref _ :: r=>GR r
 |_=>False
theorem GR.app:∀{l m:@G_},GR l->GR m->GR (l ++ m)
 | [],_,_,h=>h
 | .int _ _ :: .int _ _ :: .ref _ :: r,_,h,k=>GR.app (l:=r) h k
def Kt (H:Hp)(b:Addr):HO->Prop
 | .tbl ps=>∃more:Array Value,H b=some (.tbl (ps ++ more))/\GR more.toList/\∀c,Value.ref c∈more.toList->∃o,H c=some (.a8 o (.own 0))/\Iz o
 |o=>H b=some o
theorem Kt.of {H:Hp}{b:Addr}{o:HO}(h:H b=some o):Kt H b o:=by
 cases o with
 |tbl ps=>exact⟨#[],by rw[h];simp,trivial,λc hc=>by simp at hc⟩
 |_=>exact h
def aw (H H':Hp):Prop:=∀b o,H b=some o->Kt H' b o
def aw.refl (H:Hp):aw H H:=λ_ _ h=>Kt.of h
theorem Kt.some {H:Hp}{b:Addr}{o:HO}(h:Kt H b o):∃u,H b=Option.some u/\((∀ps,o≠.tbl ps)->u=o)/\((∃ps,o=.tbl ps)->∃ps,u=.tbl ps):=by
 cases o with
 |tbl ps=>obtain⟨m,e,_⟩:=h;exact⟨_,e,λz=>absurd rfl (z ps),λ_=>⟨_,rfl⟩⟩
 |_=>exact⟨_,h,λ_=>rfl,λ⟨ps,z⟩=>by cases z⟩
theorem Kt.step {H H':Hp}{b:Addr}{o:HO}(h:Kt H b o)(s:aw H H'):Kt H' b o:=by
 cases o with
 |tbl ps=>
  obtain⟨m,e,t1,k⟩:=h
  obtain⟨m2,e2,t2,k2⟩:=s b _ e
  refine⟨m ++ m2,by rw[e2,Array.append_assoc],by rw[Tj];exact t1.app t2,λc hc=>?_⟩
  rw[Tj,Rw] at hc
  rcases hc with hc |hc
  ·obtain⟨o,eo,io⟩:=k c hc;exact⟨o,s c _ eo,io⟩
  ·exact k2 c hc
 |lst xs=>exact s b _ h
 |tup xs=>exact s b _ h
 |dK xs=>exact s b _ h
 |dT xs=>exact s b _ h
 |set S n=>exact s b _ h
 |ins C dx fs=>exact s b _ h
 |own x=>exact s b _ h
 |xd fs=>exact s b _ h
 |met f x=>exact s b _ h
 |bD lo hi=>exact s b _ h
 |a8 o u=>exact s b _ h
 |ext φ=>exact s b _ h
def aw.trans {H H1 H2:Hp}(a:aw H H1)(b:aw H1 H2):aw H H2:=λc o h=>(a c o h).step b
theorem aw.free {H H':Hp}(e:aw H H'){l:Addr}(h:H' l=Option.none):H l=Option.none:=by
 cases q:H l with
 |none=>rfl
 |some o=>
  obtain⟨u,z,_⟩:=(e l o q).some
  rw[z] at h
  cases h
def aw.seq {K:Frag}{H H':Hp}{a:Addr}{xs:List V}(e:aw H H')(h:ji K H a xs):ji K H' a xs:=by
 rcases h with (h | ⟨o,h⟩) |h
 ·exact .inl (.inl (e _ _ h))
 ·exact .inl (.inr ⟨o,e _ _ h⟩)
 ·exact .inr h
end L2
end
namespace L2.ST
open PySem PySem.SetTable
abbrev Lv (xs:Array Nat):Prop:=xs.toList.Pairwise (· < ·)
def K1 (mask:Nat)(p:Probe):Probe:=
 if p.more > 0 then {p with j:=p.j + 1,more:=p.more - 1} else
 {p with j:=(leap mask p.i p.perturb).1,more:=runEnd mask (leap mask p.i p.perturb).1 - (leap mask p.i p.perturb).1,i:=(leap mask p.i p.perturb).1,perturb:=(leap mask p.i p.perturb).2}
def Ks (mask i perturb:Nat):Probe:={j:=i,more:=runEnd mask i - i,i,perturb,dummy:=none}
def st (mask:Nat)(h:Int):Probe:=Ks mask (bits h % (mask + 1)) (bits h)
def oy (mask:Nat):Nat->Probe->Probe
 | 0,p=>p
 |n + 1,p=>oy mask n (K1 mask p)
theorem yO (mask:Nat):∀(n m:Nat) (p:Probe),oy mask (n + m) p=oy mask m (oy mask n p)
 | 0,m,p=>by rw[S7];rfl
 |n + 1,m,p=>by rw[Nat.add_right_comm];exact yO mask n m (K1 mask p)
def C5 {mask i:Nat}(h:i<=mask):i<=runEnd mask i/\runEnd mask i<=mask/\runEnd mask i - i<=9:=by
 unfold runEnd;split <;> omega
def In (mask:Nat)(p:Probe):Prop:=p.j + p.more<=mask/\p.more<=9
def Bg (mask i q:Nat):(leap mask i q).1<=mask:=by
 unfold leap;exact Nat.lt_succ_iff.mp (Nat.mod_lt _ (Nat.succ_pos _))
theorem zE (mask:Nat):∀(k:Nat) (p:Probe),p.more=k->oy mask (k + 1) p={p with j:=(leap mask p.i p.perturb).1,more:=runEnd mask (leap mask p.i p.perturb).1 - (leap mask p.i p.perturb).1,i:=(leap mask p.i p.perturb).1,perturb:=(leap mask p.i p.perturb).2}
 | 0,p,h=>by
  show K1 mask p=_
  unfold K1
  rw[Rj (@AT)]
 |k + 1,p,h=>by
  have e:K1 mask p={p with j:=p.j + 1,more:=p.more - 1}:=by unfold K1;rw[Rg (@AT)]
  show oy mask (k + 1) (K1 mask p)=_
  rw[e,zE mask k _ (by dsimp only;omega)]
def CD (mask i q:Nat):oy mask (runEnd mask i - i + 1) (Ks mask i q)=Ks mask (leap mask i q).1 (leap mask i q).2:=by
 exact zE mask _ (Ks mask i q) rfl
def je (mask:Nat):Nat->Nat×Nat->Nat×Nat
 | 0,x=>x
 |k + 1,x=>je mask k (leap mask x.1 x.2)
theorem qL (mask:Nat):∀(k i q:Nat),i<=mask->∃n,n<=10 * k/\oy mask n (Ks mask i q)=Ks mask (je mask k (i,q)).1 (je mask k (i,q)).2
 | 0,i,q,_=>⟨0,Rh _,rfl⟩
 |k + 1,i,q,h=>by
  obtain⟨n,hn,e⟩:=qL mask k (leap mask i q).1 (leap mask i q).2 (Bg _ _ _)
  have:=C5 h
  refine⟨(runEnd mask i - i + 1) + n,@AT,?_⟩
  rw[yO,CD,e]
  rfl
theorem vU (mask:Nat):∀(a b:Nat) (x:Nat×Nat),je mask (a + b) x=je mask b (je mask a x)
 | 0,b,x=>by rw[S7];rfl
 |a + 1,b,x=>by rw[Nat.add_right_comm];exact vU mask a b (leap mask x.1 x.2)
theorem yR (mask:Nat):∀(k:Nat) (x:Nat×Nat),x.1<=mask->(je mask k x).1<=mask
 | 0,_,h=>h
 |k + 1,x,_=>yR mask k _ (Bg mask x.1 x.2)
theorem oD (mask:Nat):∀(k:Nat) (x:Nat×Nat),(je mask k x).2=x.2 / 32 ^ k
 | 0,x=>by simp[je]
 |k + 1,x=>by
  show (je mask k (leap mask x.1 x.2)).2=_
  rw[oD mask k,Nat.pow_succ,Nat.mul_comm,<-Nat.div_div_eq_div_mul]
  rfl
def nx (mask i:Nat):Nat:=(i * 5 + 1) % (mask + 1)
def DT (mask:Nat):Nat->Nat->Nat
 | 0,i=>i
 |k + 1,i=>DT mask k (nx mask i)
theorem rP (mask:Nat):∀(a b i:Nat),DT mask (a + b) i=DT mask b (DT mask a i)
 | 0,b,i=>by rw[S7];rfl
 |a + 1,b,i=>by rw[Nat.add_right_comm];exact rP mask a b (nx mask i)
theorem sJ (mask:Nat):∀(k i:Nat),je mask k (i,0)=(DT mask k i,0)
 | 0,_=>rfl
 |k + 1,i=>by
  show je mask k (leap mask i 0)=_
  have:leap mask i 0=(nx mask i,0):=by simp[leap,nx]
  rw[this,sJ mask k]
  rfl
def Ot (mask:Nat):Prop:=mask=7\/mask=31\/mask=127
def Ng (mask:Nat)(hm:Ot mask):DT mask (mask + 1) 0=0/\∀j,j<=mask->∃k,k<=mask/\DT mask k 0=j:=by
 have h7:∀j:Nat,j < 8->∃k,k < 8/\DT 7 k 0=j:=@FS
 have h31:∀j:Nat,j < 32->∃k,k < 32/\DT 31 k 0=j:=@FS
 have h127:∀j:Nat,j < 128->∃k,k < 128/\DT 127 k 0=j:=@FS
 rcases hm with rfl |rfl |rfl
 ·exact⟨@FS,λj hj=>let ⟨k,a,b⟩:=h7 j (@AT);⟨k,@AT,b⟩⟩
 ·exact⟨@FS,λj hj=>let ⟨k,a,b⟩:=h31 j (@AT);⟨k,@AT,b⟩⟩
 ·exact⟨@FS,λj hj=>let ⟨k,a,b⟩:=h127 j (@AT);⟨k,@AT,b⟩⟩
def NY {mask:Nat}(hm:Ot mask){i j:Nat}(hi:i<=mask)(hj:j<=mask):∃k,k<=mask/\DT mask k i=j:=by
 obtain⟨z,o⟩:=Ng mask hm
 obtain⟨a,ha,ea⟩:=o i hi
 obtain⟨b,hb,eb⟩:=o j hj
 have back:DT mask (mask + 1 - a) i=0:=by
  rw[<-ea,<-rP,show a + (mask + 1 - a)=mask + 1 by omega];exact z
 by_cases hab:a<=b
 ·refine⟨b - a,@AT,?_⟩
  rw[<-ea,<-rP,show a + (b - a)=b by omega];exact eb
 ·refine⟨mask + 1 - a + b,@AT,?_⟩
  rw[rP,back];exact eb
def Ax {mask:Nat}(hm:Ot mask){i q j:Nat}(hi:i<=mask)(hq:q < 2 ^ 64)(hj:j<=mask):∃k,k<=mask + 13/\(je mask k (i,q)).1=j:=by
 have hz:(je mask 13 (i,q)).2=0:=by
  rw[oD]
  exact Nat.div_eq_of_lt (RY hq @E_)
 obtain⟨k,hk,e⟩:=NY hm (yR mask 13 (i,q) hi) hj
 refine⟨13 + k,@AT,?_⟩
 rw[vU]
 have:je mask 13 (i,q)=((je mask 13 (i,q)).1,0):=Prod.ext rfl hz
 rw[this,sJ]
 exact e
def Ir (h:Int):bits h < 2 ^ 64:=by
 unfold bits
 have:=Tt h (show (0:Int) < 2 ^ 64 by decide)
 have:=Tx h (show (2 ^ 64:Int)≠0 by decide)
 omega
def GA {mask:Nat}(hm:Ot mask)(h:Int){j:Nat}(hj:j<=mask):∃n,n < 10 * turns mask/\(oy mask n (st mask h)).j=j:=by
 have hi:bits h % (mask + 1)<=mask:=Nat.lt_succ_iff.mp (Nat.mod_lt _ (Nat.succ_pos _))
 obtain⟨k,hk,e⟩:=Ax hm hi (Ir h) hj
 obtain⟨n,hn,q⟩:=qL mask k (bits h % (mask + 1)) (bits h) hi
 refine⟨n,by unfold turns;omega,?_⟩
 show (oy mask n (Ks mask _ _)).j=j
 rw[q];exact e
def Reach (mask:Nat)(L:Nat->Prop)(h:Int)(j:Nat):Prop:=∃n,n < 10 * turns mask/\(oy mask n (st mask h)).j=j/\∀m,m < n->L (oy mask m (st mask h)).j
structure Tab (t:SetTable)(hs:@Db):Prop where
 mask:Ot t.mask
 dum:t.dummies=#[]
 rise:Lv t.place
 le:∀j,j∈t.place->j<=t.mask
 size:t.place.size=hs.length
 load:t.place.size * 5 < t.mask * 3
 reach:∀(i j:Nat) (h:Int),t.place[i]? =some j->hs[i]? =some h->Reach t.mask (· ∈t.place) h j
 plain:t.plain=true
theorem gm {α:Type}[DecidableEq α]:∀{l m:List α},l.Nodup->(∀x,x∈l->x∈m)->l.length<=m.length
 | [],_,_,_=>Sb _
 |a :: l,m,hn,hs=>by
  have ha:=hs a (Ro ..)
  have hl:=R5.mp hn
  have:=gm (l:=l) (m:=m.erase a) hl.2 λx hx=>by
   refine (List.mem_erase_of_ne ?_).mpr (hs x (Ru _ hx))
   rintro rfl;exact hl.1 hx
  rw[Uq ha] at this
  have:0 < m.length:=List.length_pos_of_mem ha
  simp only[RL];omega
def zI {mask:Nat}{xs:Array Nat}(hl:xs.size<=mask):∃j,j<=mask/\j∉xs:=by
 refine Classical.byContradiction λhc=>?_
 have all:∀j,j∈List.range (mask + 1)->j∈xs.toList:=λj hj=>by
  have:=RW.mp hj
  refine Classical.byContradiction λhn=>hc ⟨j,@AT,λz=>hn (by simpa using z)⟩
 have:=gm List.nodup_range all
 simp at this
 omega
theorem we {P:Nat->Prop}(h:∃n,P n):∃n,P n/\∀m,m < n->¬P m:=by
 obtain⟨n,hn⟩:=h
 induction n using Nat.strongRecOn with
 |_ n ih=>
  by_cases hc:∃m,m < n/\P m
  ·obtain⟨m,hm,hp⟩:=hc
   exact ih m hm hp
  ·exact⟨n,hn,λm hm hp=>hc ⟨m,hm,hp⟩⟩
section
variable {t:SetTable}{hs:@Db}
def Tab.load' (T:Tab t hs):t.place.size<=t.mask:=by have:=T.load;omega
def Tab.first (T:Tab t hs)(h:Int):∃n,n < 10 * turns t.mask/\(oy t.mask n (st t.mask h)).j∉t.place/\∀m,m < n->(oy t.mask m (st t.mask h)).j∈t.place:=by
 obtain⟨j,hj,hn⟩:=zI T.load'
 obtain⟨n,h1,h2⟩:=GA T.mask h hj
 obtain⟨k,hk,hlt⟩:=we (P:=λn=>(oy t.mask n (st t.mask h)).j∉t.place) ⟨n,by rw[h2];exact hn⟩
 refine⟨k,?_,hk,λm hm=>Classical.byContradiction λz=>hlt m hm z⟩
 rcases S8 n k with c |c
 ·exact absurd (show (oy t.mask n (st t.mask h)).j∉t.place by rw[h2];exact hn) (hlt n c)
 ·omega
end
abbrev own (o:Array (Option Nat))(j:Nat):Option Nat:=o.getD j none
structure Lay (mask:Nat)(o:Array (Option Nat))(hs:@Db):Prop where
 size:o.size=mask + 1
 all:∀k h,hs[k]? =some h->∃j,own o j=some k/\Reach mask (λx=>(own o x).isSome=true) h j
 one:∀j j' k,own o j=some k->own o j'=some k->j=j'
 le:∀j k,own o j=some k->j<=mask/\k < hs.length
abbrev Pr:=Int×Int
def hp (p:Pr):Int:=reduceHash (Builtin.Tuple.tupleHashOf [hashInt p.1,hashInt p.2])
def Sm (p:Pr):Prop:=(0<=p.1/\p.1 < 8)/\(0<=p.2/\p.2 < 8)
def wI:@A_:=(List.range 64).map λk=>(((k / 8:Nat):Int),((k % 8:Nat):Int))
def A1 {p:Pr}(h:Sm p):p∈wI:=by
 unfold wI
 obtain⟨⟨a,b⟩,c,d⟩:=h
 refine Rz.mpr ⟨p.1.toNat * 8 + p.2.toNat,RW.mpr (@AT),?_⟩
 refine Prod.ext ?_ ?_ <;> dsimp only <;> omega
def zY {l:@A_}(hn:l.Nodup)(h:∀p,p∈l->Sm p):l.length<=64:=by
 have:=gm (m:=wI) hn λx hx=>A1 (h x hx)
 simpa[wI] using this
section
variable {prog:Program}{w:World}{A:Around}{E:@EQ}{s:Shared}
abbrev k8 (prog:Program)(w:World)(h:Heap)(p:Pr)(a:Addr):Prop:=IsTupleKey (intKind prog w) h [p.1,p.2] a
def k8.inj {h:Heap}{p q:Pr}{a:Addr}(x:k8 prog w h p a)(y:k8 prog w h q a):p=q:=by
 have:=IsTupleKey.inj x y
 simp at this
 exact Prod.ext this.1 this.2
structure Gj (f:Pr->Int)(prog:Program)(w:World)(led:Bool)(h:Heap)(S:Addr)(ps:List (Addr×Pr)):Prop where
 ex:∃o ep t,h.get? S=some o/\o.ExactSet/\o.data=.set (ps.map λq=>(f q.2,Value.ref q.1)).toArray ep t/\Tab t (ps.map λq=>f q.2)/\t.led=led
 at':∀q,q∈ps->k8 prog w h q.2 q.1/\Sm q.2
 nd:(ps.map (·.2)).Nodup
def Gj.len {f:Pr->Int}{led:Bool}{h:Heap}{S:Addr}{ps:List (Addr×Pr)}(P:Gj f prog w led h S ps):ps.length<=64:=by
 have:=zY P.nd λp hp=>by
  obtain⟨q,hq,rfl⟩:=Rz.mp hp
  exact (P.at' q hq).2
 simpa using this
end
def x6 (w:World):Bool:= !(w.params.followText "set-order")
section
variable {prog:Program}{w:World}{A:Around}{E:@EQ}{s:Shared}{R:Result->Shared->Prop}{I:Addr}{fp wr:List Addr}{n:Nat}{P:Nat->Value->Prop}{St:Nat->Heap->Prop}
def gG (prog:Program)(w:World)(h:Heap)(vs:@G_)(ps:@A_):Prop:=vs.length=ps.length/\∀(i:Nat) (v:Value) (p:Pr),vs[i]? =some v->ps[i]? =some p->∃a,v=.ref a/\k8 prog w h p a/\Sm p
def yB (a:Value){Q1:@EQ}
  (h:Q1 (@Ty) {s with heap:=s.heap.push {cls:=.type "set",dict:=none,data:=.set #[] 0 (.fresh 0 0 (x6 w))}}) :
  codeAny @TW A (.call (.builtin "set.__new__") ⟨[.type "set",a],[]⟩) (wants Q1 E) s:=by
 refine codeAny_of_tree ?_
 show wpAny _ A.in1 (do (checkBuiltinCall "set.__new__" ⟨[.type "set",a],[]⟩);again (.builtin "set.__new__" ⟨[.type "set",a],[]⟩)) _ _ s
 refine Ra (wpAny_of_eq (F.newCall_set_1 a) (Rv ⟨plainId_quiet F.plain_set_new _,Uh F.entry_set_new ?_⟩))
 rw[T8 F.plain_set_new _]
 (unfold Builtin.«set.__new__» Builtin.Frozenset.newClass)
 have hsub0:=sub_set_self
 obtain⟨hp0,g0,d0,tk0,os0⟩:=s
 dsimp only
 wp_walk
 (refine wpAny_askSetting (Rv ?_))
 dsimp only
 simp only[newObj]
 (refine Ra (wpAny_alloc (Rv ?_)))
 exact Rv h
structure Src (prog:Program)(w:World)(h:Heap)(l:Addr)(vs:@G_)(T:String)(itO:Obj)(St:Addr->Nat->Heap->Prop):Prop where
 ty:∃o,h.get? l=some o/\o.cls=.type T
 ns:isSubtype (.type T) (.type "set")=pure false
 nf:isSubtype (.type T) (.type "frozenset")=pure false
 nd:(Value.type T == Value.type "dict")=false
 it:∀(A:Around) (s1:Shared) (Q:@EQ) (E:@EQ),(∀b o,h.get? b=some o->s1.heap.get? b=some o)->Q (.ref s1.heap.objs.size) {s1 with heap:=s1.heap.push itO}->wpAny @TW A (pyIter (.ref l)) Q E s1
 st:∀(h1:Heap),(∀b o,h.get? b=some o->h1.get? b=some o)->St h1.objs.size 0 (h1.push itO)
 wk:∀(A:Around) (I:Addr),A.handled=none->l≠I->Walks prog w A I [I,l] [I] vs.length (λi v=>vs[i]? =some v) (St I)
def Src.list {h:Heap}{l:Addr}{vs:@G_}(hl:h.IsList l vs.toArray):Src prog w h l vs "list" {cls:=.type "list_iterator",data:=.fields #[.ref l,.int 0 0]} (λI i h'=>h'.IsListIter I l i/\h'.IsList l vs.toArray):=by
 obtain⟨o,ho,hc,n,hd⟩:=id hl
 refine⟨⟨o,ho,hc⟩,F.sub_list_set,F.sub_list_frozenset,by decide,λA s1 Q E k hQ=>TF ⟨o,k _ _ ho,hc,n,hd⟩ hQ,λh1 k=>⟨⟨_,RB _ rfl,rfl,rfl⟩,⟨o,Ri _ (k _ _ ho),hc,n,hd⟩⟩,λA I hh hne=>?_⟩
 have:=Walks.list (prog:=prog) (w:=w) hh I l hne vs.toArray
 simpa using this
def sub_tuple_set:isSubtype (.type "tuple") (.type "set")=pure false:=by rw[isSubtype_type];kernel_rfl
def sub_tuple_frozenset:isSubtype (.type "tuple") (.type "frozenset")=pure false:=by rw[isSubtype_type];kernel_rfl
def Src.tuple {h:Heap}{l:Addr}{vs:@G_}(hl:h.IsTuple l vs.toArray):Src prog w h l vs "tuple" {cls:=.type "tuple_iterator",data:=.fields #[.ref l,.int 0 0]} (λI i h'=>h'.IsTupleIter I l i/\h'.IsTuple l vs.toArray):=by
 obtain⟨o,ho,hc,n,hd⟩:=id hl
 refine⟨⟨o,ho,hc⟩,sub_tuple_set,sub_tuple_frozenset,by decide,λA s1 Q E k hQ=>TV ⟨o,k _ _ ho,hc,n,hd⟩ hQ,λh1 k=>⟨⟨_,RB _ rfl,rfl,rfl⟩,⟨o,Ri _ (k _ _ ho),hc,n,hd⟩⟩,λA I hh hne=>?_⟩
 have:=Walks.tuple (prog:=prog) (w:=w) hh I l hne vs.toArray
 simpa using this
end
end L2.ST
namespace L2.SO
open PySem PySem.W PyProof.Rows
def mZ {α:Type}(lt:Nat->Nat->Bool):KasT α->α
 | .ret a=>a
 | .ask i j k=>mZ lt (k (lt i j))
theorem hZ {α β:Type}(lt:Nat->Nat->Bool)(f:α->KasT β):∀t:KasT α,mZ lt (t.bind f)=mZ lt (f (mZ lt t))
 | .ret _=>rfl
 | .ask i j k=>hZ lt f (k (lt i j))
def xV {α:Type}(n:Nat)(lt:Nat->Nat->Bool):KasT α->Prop
 | .ret _=>True
 | .ask i j k=>i < n/\j < n/\xV n lt (k (lt i j))
theorem jM {α β:Type}{n:Nat}{lt:Nat->Nat->Bool}{f:α->KasT β}:∀{t:KasT α},xV n lt t->xV n lt (f (mZ lt t))->xV n lt (t.bind f)
 | .ret _,_,h=>h
 | .ask i j k,h,h'=>⟨h.1,h.2.1,jM h.2.2 h'⟩
section
variable {n:Nat}{key:Nat->Int}
abbrev qE (key:Nat->Int)(i j:Nat):Bool:=decide (key i < key j)
abbrev Kp (key:Nat->Int)(p:Array Nat)(k:Nat):Int:=key (p.getD k 0)
structure Pm (n:Nat)(p:Array Nat):Prop where
 sz:p.size=n
 nd:p.toList.Nodup
 lt:∀x,x∈p->x < n
def Pm.at {p:Array Nat}(P:Pm n p){k:Nat}(hk:k < n):p.getD k 0 < n:=by
 have h:k < p.size:=by rw[P.sz];exact hk
 simp only[Array.getD,h,dif_pos]
 exact P.lt _ (Array.getElem_mem h)
def Pm.ne {p:Array Nat}(P:Pm n p){i k:Nat}(hi:i < n)(hk:k < n)(hne:i≠k):p.getD i 0≠p.getD k 0:=by
 have h1:i < p.toList.length:=by simpa using (by rw[P.sz];exact hi:i < p.size)
 have h2:k < p.toList.length:=by simpa using (by rw[P.sz];exact hk:k < p.size)
 have h1':i < p.size:=by rw[P.sz];exact hi
 have h2':k < p.size:=by rw[P.sz];exact hk
 have a1:p.getD i 0=p.toList[i]:=by simp[Array.getD,h1']
 have a2:p.getD k 0=p.toList[k]:=by simp[Array.getD,h2']
 rw[a1,a2]
 have q:=Ui.mp P.nd
 rcases S8 i k with c |c
 ·exact q i k h1 h2 c
 ·exact (q k i h2 h1 (@AT)).symm
def Pm.perm {p q:Array Nat}(P:Pm n p)(h:q.Perm p):Pm n q:=by
 have h':=Array.perm_iff_toList_perm.mp h
 exact⟨by rw[h.size_eq];exact P.sz,h'.nodup_iff.mpr P.nd,λx hx=>P.lt x (by simpa using h'.mem_iff.mp (by simpa using hx))⟩
def x9 (n:Nat):Pm n (List.toArray (List.range n)):=⟨@KM,by simpa using List.nodup_range,λx hx=>by simpa using hx⟩
def Inj (n:Nat)(key:Nat->Int):Prop:=∀i j,i < n->j < n->key i=key j->i=j
def Pm.tri {p:Array Nat}(P:Pm n p)(hi:Inj n key){i k:Nat}(h1:i < n)(h2:k < n)(hne:i≠k):Kp key p i < Kp key p k\/Kp key p k < Kp key p i:=by
 have:Kp key p i≠Kp key p k:=λe=>P.ne h1 h2 hne (hi _ _ (P.at h1) (P.at h2) e)
 omega
def Up (key:Nat->Int)(p:Array Nat)(m:Nat):Prop:=∀i j,i < j->j < m->Kp key p i < Kp key p j
def Dn (key:Nat->Int)(p:Array Nat)(m:Nat):Prop:=∀i j,i < j->j < m->Kp key p j < Kp key p i
def Up.snoc {p:Array Nat}{m:Nat}(U:Up key p m)(h1:1<=m)(h:Kp key p (m - 1) < Kp key p m):Up key p (m + 1):=λi j hij hj=>by
 rcases S8 j m with c |c
 ·exact U i j hij c
 ·have:j=m:=@AT
  subst this
  rcases S8 i (j - 1) with d |d
  ·exact Int.lt_trans (U i (j - 1) d (@AT)) h
  ·have:i=j - 1:=@AT
   rw[this];exact h
def Dn.snoc {p:Array Nat}{m:Nat}(U:Dn key p m)(h1:1<=m)(h:Kp key p m < Kp key p (m - 1)):Dn key p (m + 1):=λi j hij hj=>by
 rcases S8 j m with c |c
 ·exact U i j hij c
 ·have:j=m:=@AT
  subst this
  rcases S8 i (j - 1) with d |d
  ·exact Int.lt_trans h (U i (j - 1) d (@AT))
  ·have:i=j - 1:=@AT
   rw[this];exact h
theorem tx {p:Array Nat}(P:Pm n p)(hi:Inj n key):∀(f m:Nat),1<=m->m + f<=n->Up key p m->
  ∃r,(mZ (qE key) (kas_asc p f m)=r/\xV n (qE key) (kas_asc p f m))/\m<=r/\r<=m + f/\Up key p r/\(r < m + f->Kp key p r < Kp key p (r - 1))
 | 0,m,_,_,U=>⟨m,⟨rfl,trivial⟩,Rh _,Rh _,U,λh=>absurd h (RU _)⟩
 |f + 1,m,h1,hn,U=>by
  have b1:p.getD m 0 < n:=P.at (@AT)
  have b2:p.getD (m - 1) 0 < n:=P.at (@AT)
  unfold kas_asc mZ xV
  by_cases c:Kp key p m < Kp key p (m - 1)
  ·rw[show qE key (p.getD m 0) (p.getD (m - 1) 0)=true from Rk c]
   simp only[SK]
   exact⟨m,⟨rfl,b1,b2,trivial⟩,Rh _,@AT,U,λ_=>c⟩
  ·rw[show qE key (p.getD m 0) (p.getD (m - 1) 0)=false from Rt c]
   simp only[Sr,SX]
   have up:Kp key p (m - 1) < Kp key p m:=(P.tri hi (@AT) (@AT) (@AT)).resolve_right c
   obtain⟨r,⟨e,o⟩,a,b,u,d⟩:=tx P hi f (m + 1) (@AT) (@AT) (U.snoc h1 up)
   exact⟨r,⟨e,b1,b2,o⟩,@AT,@AT,u,λh=>d (@AT)⟩
theorem vt {p:Array Nat}(P:Pm n p)(hi:Inj n key):∀(f m:Nat),1<=m->m + f<=n->Dn key p m->
  ∃r,(mZ (qE key) (kas_desc f p m 0)=(p,r,0)/\xV n (qE key) (kas_desc f p m 0))/\m<=r/\r<=m + f/\Dn key p r
 | 0,m,_,_,U=>⟨m,⟨rfl,trivial⟩,Rh _,Rh _,U⟩
 |f + 1,m,h1,hn,U=>by
  have b1:p.getD m 0 < n:=P.at (@AT)
  have b2:p.getD (m - 1) 0 < n:=P.at (@AT)
  unfold kas_desc mZ xV
  by_cases c:Kp key p m < Kp key p (m - 1)
  ·rw[show qE key (p.getD m 0) (p.getD (m - 1) 0)=true from Rk c]
   simp only[SK,RU,gt_iff_lt,SX]
   obtain⟨r,⟨e,o⟩,a,b,u⟩:=vt P hi f (m + 1) (@AT) (@AT) (U.snoc h1 c)
   exact⟨r,⟨e,b1,b2,o⟩,@AT,@AT,u⟩
  ·rw[show qE key (p.getD m 0) (p.getD (m - 1) 0)=false from Rt c]
   simp only[Sr,SX]
   unfold mZ xV
   have up:Kp key p (m - 1) < Kp key p m:=(P.tri hi (@AT) (@AT) (@AT)).resolve_right c
   rw[show qE key (p.getD (m - 1) 0) (p.getD m 0)=true from Rk up]
   simp only[SK]
   exact⟨m,⟨rfl,b1,b2,b2,b1,trivial⟩,Rh _,@AT,U⟩
def Fh {p:Array Nat}{j k:Nat}(hj:j<=p.size)(hk:k < j):(kas_rev p 0 j).getD k 0=p.getD (j - 1 - k) 0:=by
 unfold kas_rev
 rw[Tu,getElem?_mirror_all hj k,Rg ⟨Sb _,hk⟩,Tu]
 congr 2
 omega
def MG {p:Array Nat}{m:Nat}(hm:m<=p.size)(D:Dn key p m):Up key (kas_rev p 0 m) m:=λi j hij hj=>by
 unfold Kp
 rw[Fh hm (@AT),Fh hm hj]
 exact D (m - 1 - j) (m - 1 - i) (@AT) (@AT)
def Pm.rev {p:Array Nat}(P:Pm n p)(j:Nat):Pm n (kas_rev p 0 j):=P.perm (mirror_perm ..)
def AD {p:Array Nat}(P:Pm n p)(hi:Inj n key)(h1:1<=n) :
  ∃m q,(mZ (qE key) (kas_count n p)=(m,q)/\xV n (qE key) (kas_count n p))/\Pm n q/\1<=m/\m<=n/\Up key q m:=by
 obtain⟨r,⟨e,o⟩,a,b,u,d⟩:=tx P hi (n - 1) 1 (Rh _) (@AT) (λi j hij hj=>@AT)
 have rest:∃m q,(mZ (qE key) (if (r == n)=true then KasT.ret (r,p) else if r > 1 then .ask (p.getD 0 0) (p.getD (r - 1) 0) λc=>if c=true then .ret (r,p) else kas_descPart r n (kas_rev p 0 r) else kas_descPart r n p)=(m,q)/\
   xV n (qE key) (if (r == n)=true then KasT.ret (r,p) else if r > 1 then .ask (p.getD 0 0) (p.getD (r - 1) 0) λc=>if c=true then .ret (r,p) else kas_descPart r n (kas_rev p 0 r) else kas_descPart r n p))/\Pm n q/\1<=m/\m<=n/\Up key q m:=by
  by_cases c:(r == n)=true
  ·rw[Rg c]
   exact⟨r,p,⟨rfl,trivial⟩,P,a,@AT,u⟩
  ·rw[Rj c]
   have hrn:r≠n:=by simpa using c
   have dd:=d (@AT)
   by_cases c2:r > 1
   ·rw[Rg c2]
    unfold mZ xV
    rw[show qE key (p.getD 0 0) (p.getD (r - 1) 0)=true from Rk (u 0 (r - 1) (@AT) (@AT))]
    simp only[SK]
    exact⟨r,p,⟨rfl,P.at (@AT),P.at (@AT),trivial⟩,P,a,@AT,u⟩
   ·rw[Rj c2]
    have hr1:r=1:=@AT
    subst hr1
    unfold kas_descPart
    rw[hZ]
    have D2:Dn key p 2:=λi j hij hj=>by
     have e1:i=0:=@AT
     have e2:j=1:=@AT
     rw[e1,e2];exact dd
    obtain⟨x,⟨e2,o2⟩,a2,b2,u2⟩:=vt P hi (n - 2) 2 (@AT) (@AT) D2
    obtain⟨y,⟨e3,o3⟩,a3,b3,u3,_⟩:=tx (P.rev x) hi (n - x) x (@AT) (@AT) (MG (by rw[P.sz];omega) u2)
    rw[show n - (1 + 1)=n - 2 from rfl,show (1 + 1:Nat)=2 from rfl]
    have t3:xV n (qE key) (kas_tail3 x n p):=by
     unfold kas_tail3
     exact jM o3 trivial
    refine⟨y,kas_rev p 0 x,⟨?_,jM o2 ?_⟩,P.rev x,@AT,@AT,u3⟩
    ·rw[e2]
     simp only[RU,gt_iff_lt,SX]
     unfold kas_tail3
     rw[hZ,e3]
     rfl
    ·rw[e2]
     simp only[RU,gt_iff_lt,SX]
     exact t3
 obtain⟨m,q,⟨f1,f2⟩,f3⟩:=rest
 refine⟨m,q,⟨?_,?_⟩,f3⟩
 ·unfold kas_count
  rw[hZ,e]
  exact f1
 ·unfold kas_count
  refine jM o ?_
  rw[e]
  exact f2
theorem place_spec {p:Array Nat}{k:Nat}(P:Pm n p)(hi:Inj n key)(hk:k < n)(U:Up key p k):∀(f l r:Nat),l<=r->r<=k->r - l<=f->(∀i,i < l->Kp key p i < Kp key p k)->(∀i,r<=i->i < k->Kp key p k < Kp key p i)->
  ∃x,(mZ (qE key) (kas_place p k f l r)=x/\xV n (qE key) (kas_place p k f l r))/\x<=k/\(∀i,i < x->Kp key p i < Kp key p k)/\(∀i,x<=i->i < k->Kp key p k < Kp key p i)
 | 0,l,r,h1,h2,h3,a,b=>⟨l,⟨rfl,trivial⟩,@AT,a,λi hi=>b i (@AT)⟩
 |f + 1,l,r,h1,h2,h3,a,b=>by
  unfold kas_place
  by_cases c:l>=r
  ·rw[Rg c]
   exact⟨l,⟨rfl,trivial⟩,@AT,a,λi hi=>b i (@AT)⟩
  ·rw[Rj c]
   have b1:p.getD k 0 < n:=P.at hk
   have b2:p.getD ((l + r) / 2) 0 < n:=P.at (@AT)
   unfold mZ xV
   by_cases d:Kp key p k < Kp key p ((l + r) / 2)
   ·rw[show qE key (p.getD k 0) (p.getD ((l + r) / 2) 0)=true from Rk d]
    simp only[SK]
    have side:∀i,(l + r) / 2<=i->i < k->Kp key p k < Kp key p i:=λi h1 h2=>by
     rcases S8 ((l + r) / 2) i with z |z
     ·exact Int.lt_trans d (U _ _ z h2)
     ·have:i=(l + r) / 2:=@AT
      rw[this];exact d
    obtain⟨x,⟨e1,e2⟩,e3⟩:=place_spec P hi hk U f l ((l + r) / 2) (@AT) (@AT) (@AT) a side
    exact⟨x,⟨e1,b1,b2,e2⟩,e3⟩
   ·rw[show qE key (p.getD k 0) (p.getD ((l + r) / 2) 0)=false from Rt d]
    simp only[Sr,SX]
    have d':Kp key p ((l + r) / 2) < Kp key p k:=(P.tri hi (@AT) hk (@AT)).resolve_right d
    have side:∀i,i < (l + r) / 2 + 1->Kp key p i < Kp key p k:=λi h=>by
     rcases S8 i ((l + r) / 2) with z |z
     ·exact Int.lt_trans (U _ _ z (@AT)) d'
     ·have:i=(l + r) / 2:=@AT
      rw[this];exact d'
    obtain⟨x,⟨e1,e2⟩,e3⟩:=place_spec P hi hk U f ((l + r) / 2 + 1) r (@AT) h2 (@AT) side b
    exact⟨x,⟨e1,b1,b2,e2⟩,e3⟩
def Fj {p:Array Nat}{k l j:Nat}(hk:k < p.size)(hl:l<=k):(bubble p k (k - l)).getD j 0=if j=l then p.getD k 0 else if l < j/\j<=k then p.getD (j - 1) 0 else p.getD j 0:=by
 rw[Tu,getElem?_bubble hk (k - l) (@AT) j,show k - (k - l)=l by omega]
 simp only[Tu]
 split
 ·rfl
 ·split <;> rfl
theorem yo (hi:Inj n key):∀(f k:Nat) (p:Array Nat),Pm n p->1<=k->k + f=n->Up key p k->∃q,(mZ (qE key) (kas_bin f p k)=q/\xV n (qE key) (kas_bin f p k))/\Pm n q/\Up key q n
 | 0,k,p,P,_,e,U=>⟨p,⟨rfl,trivial⟩,P,by rw[<-e];exact U⟩
 |f + 1,k,p,P,h1,e,U=>by
  have hk:k < n:=@AT
  obtain⟨l,⟨el,ol⟩,hl,a,b⟩:=place_spec P hi hk U k 0 k (Sb _) (Rh _) (@AT) (λi h=>@AT) (λi h h'=>@AT)
  have side:Up key (bubble p k (k - l)) (k + 1):=λi j hij hj=>by
   have hks:k < p.size:=by rw[P.sz];exact hk
   unfold Kp
   rw[Fj hks hl,Fj hks hl]
   by_cases i1:i=l
   ·rw[Rg i1,Rj (@AT)]
    by_cases j2:l < j/\j<=k
    ·rw[Rg j2];exact b _ (@AT) (@AT)
    ·omega
   ·rw[Rj i1]
    by_cases i2:l < i/\i<=k
    ·rw[Rg i2,Rj (@AT),Rg (@AT)]
     exact U _ _ (@AT) (@AT)
    ·rw[Rj i2]
     by_cases j1:j=l
     ·rw[Rg j1];exact a _ (@AT)
     ·rw[Rj j1]
      by_cases j2:l < j/\j<=k
      ·rw[Rg j2]
       rcases S8 i (j - 1) with z |z
       ·exact U _ _ z (@AT)
       ·omega
      ·rw[Rj j2];exact U _ _ hij (@AT)
  obtain⟨q,⟨q1,q2⟩,q3⟩:=yo hi f (k + 1) (bubble p k (k - l)) (P.perm (bubble_perm ..)) (@AT) (@AT) side
  refine⟨q,⟨?_,?_⟩,q3⟩
  ·unfold kas_bin;rw[hZ,el];exact q1
  ·unfold kas_bin;refine jM ol ?_;rw[el];exact q2
def DK (hi:Inj n key)(h2:2<=n):∃q,(mZ (qE key) (kas_sort n)=q/\xV n (qE key) (kas_sort n))/\Pm n q/\Up key q n:=by
 obtain⟨m,q,⟨e,o⟩,P,a,b,u⟩:=AD (x9 n) hi (@AT)
 by_cases c:m < n
 ·obtain⟨q',⟨e1,o1⟩,r⟩:=yo hi (n - m) m q P a (@AT) u
  refine⟨q',⟨?_,?_⟩,r⟩
  ·unfold kas_sort;rw[hZ,e];dsimp only;rw[Rg c,Nat.max_eq_left a];exact e1
  ·unfold kas_sort;refine jM o ?_;rw[e];dsimp only;rw[Rg c,Nat.max_eq_left a];exact o1
 ·refine⟨q,⟨?_,?_⟩,P,λi j hij hj=>u i j hij (@AT)⟩
  ·unfold kas_sort;rw[hZ,e];dsimp only;rw[Rj c];rfl
  ·unfold kas_sort;refine jM o ?_;rw[e];dsimp only;rw[Rj c];trivial
theorem wp_run {α:Type}{n:Nat}{lt:Nat->Nat->Bool}{cmp:Nat->Nat->(Bool->Shared->Prop)->Shared->Prop}{Q:α->Shared->Prop}{s:Shared} :
  ∀(t:KasT α),(∀i j C,i < n->j < n->C (lt i j) s->cmp i j C s)->xV n lt t->Q (mZ lt t) s->t.kasWp cmp Q s
 | .ret a,_,_,h=>h
 | .ask i j k,hc,ho,h=>hc i j _ ho.1 ho.2.1 (wp_run (k (lt i j)) hc ho.2.2 h)
end
end L2.SO
namespace L2.ST
open PySem PySem.SetTable PySem.W PyProof.Rows
def code (p:Pr):Int:=p.1 * 8 + p.2
def BS {p q:Pr}(h1:Sm p)(h2:Sm q):code p < code q↔p.1 < q.1\/(p.1=q.1/\p.2 < q.2):=by
 unfold code Sm at *;omega
def code_inj {p q:Pr}(h1:Sm p)(h2:Sm q)(e:code p=code q):p=q:=by
 unfold code Sm at *
 refine Prod.ext ?_ ?_ <;> omega
section
variable {prog:Program}{w:World}{A:Around}{E:@EQ}{s:Shared}
abbrev uT (ps:@A_)(i:Nat):Int:=code (ps.getD i (0,0))
def D0 {ps:@A_}(nd:ps.Nodup)(hs:∀p,p∈ps->Sm p):L2.SO.Inj ps.length (uT ps):=λi j hi hj e=>by
 have a1:ps.getD i (0,0)=ps[i]:=by simp[hi]
 have a2:ps.getD j (0,0)=ps[j]:=by simp[hj]
 unfold uT at e
 rw[a1,a2] at e
 have e':=code_inj (hs _ (SY hi)) (hs _ (SY hj)) e
 have q:=Ui.mp nd
 rcases Nat.lt_trichotomy i j with c |c |c
 ·exact absurd e' (q i j hi hj c)
 ·exact c
 ·exact absurd e'.symm (q j i hj hi c)
theorem GY {a b:Addr}{p q:Pr}{Q:Bool->Shared->Prop}(ha:k8 prog w s.heap p a)(hb:k8 prog w s.heap q b)(hp:Sm p)(hq:Sm q)(h:Q (decide (code p < code q)) s) :
  wpAny @TW A (keyLt' (tuples' true) (.ref a) (.ref b)) Q E s:=by
 obtain⟨oa,ia,na,hoa,hca,hda,hia⟩:=ha
 obtain⟨ob,ib,nb,hob,hcb,hdb,hib⟩:=hb
 obtain⟨l1,rfl⟩:∃l,ia=List.toArray l:=⟨ia.toList,@KM ⟩
 obtain⟨l2,rfl⟩:∃l,ib=List.toArray l:=⟨ib.toList,@KM ⟩
 simp only[List.toList_toArray] at hia hib
 cases hia with
 | @cons _ v1 _ _ h1 hia=>
  cases hia with
  | @cons _ v2 _ _ h2 hia=>
   cases hia
   cases hib with
   | @cons _ u1 _ _ g1 hib=>
    cases hib with
    | @cons _ u2 _ _ g2 hib=>
     cases hib
     obtain⟨t1,rfl⟩:=TC h1
     obtain⟨t2,rfl⟩:=TC h2
     obtain⟨t3,rfl⟩:=TC g1
     obtain⟨t4,rfl⟩:=TC g2
     refine kat_lt hoa hda hob hdb ?_
     have hc:=BS hp hq
     refine kat_cons (wpAny_eqBool_int ?_)
     by_cases e1:p.1=q.1
     ·rw[show (p.1 == q.1)=true by simpa using e1]
      refine kat_yes (kat_cons (wpAny_eqBool_int ?_))
      by_cases e2:p.2=q.2
      ·rw[show (p.2 == q.2)=true by simpa using e2]
       refine kat_yes (kat_nil ?_)
       have:decide (code p < code q)=false:=Rt (by rw[hc];omega)
       rw[this] at h
       simpa using h
      ·rw[show (p.2 == q.2)=false by simpa using e2]
       refine kat_no ?_
       show wpAny _ _ (oneLt' false _ _) _ _ _
       refine kat_one _ _ (lt_int ?_)
       have:decide (code p < code q)=decide (p.2 < q.2):=by
        by_cases z:p.2 < q.2
        ·rw[Rk z];exact Rk (hc.mpr (.inr ⟨e1,z⟩))
        ·rw[Rt z];exact Rt (by rw[hc];omega)
       rw[this] at h;exact h
     ·rw[show (p.1 == q.1)=false by simpa using e1]
      refine kat_no ?_
      show wpAny _ _ (oneLt' true _ _) _ _ _
      refine oneLt_int ?_
      have:decide (code p < code q)=decide (p.1 < q.1):=by
       by_cases z:p.1 < q.1
       ·rw[Rk z];exact Rk (hc.mpr (.inl z))
       ·rw[Rt z];exact Rt (by rw[hc];omega)
      rw[this] at h;exact h
theorem BG:∀{vs:@G_} {ps:@A_},gG prog w s.heap vs ps->∃fs,KatTups s.heap vs fs/\fs.length=vs.length/\∀v∈fs,∃(i:Int) (t:Tok),v=.int i t
 | [],ps,_=>⟨[],KatTups.nil,rfl,λv hv=>by cases hv⟩
 |v :: vs,[],h=>by have:=h.1;simp at this
 |v :: vs,p :: ps,h=>by
  obtain⟨a,rfl,⟨o,items,n,ho,hc,hd,hi⟩,_⟩:=h.2 0 v p rfl rfl
  obtain⟨fs,k,e,f⟩:=BG (vs:=vs) (ps:=ps) ⟨by simpa using h.1,λi v p h1 h2=>h.2 (i + 1) v p (by simpa using h1) (by simpa using h2)⟩
  obtain⟨l1,rfl⟩:∃l,items=List.toArray l:=⟨items.toList,@KM ⟩
  simp only[List.toList_toArray] at hi
  cases hi with
  | @cons _ v1 _ _ h1 hi=>
   obtain⟨t1,rfl⟩:=TC h1
   exact⟨_ :: fs,KatTups.cons ho hc hd rfl k,by simp[e],λv hv=>by
    rcases Rm.mp hv with z |z
    ·exact⟨_,_,z⟩
    ·exact f v z⟩
def xY {a:Addr}{vs:@G_}{ps:@A_}{n:Nat}{P:PySem.Fin->Shared->Prop}(ho:s.heap.get? a=some (seqObj "list" vs.toArray n))(hps:gG prog w s.heap vs ps)(nd:ps.Nodup)(h64:vs.length < 64)
  (h:∀(h':Heap) (c:Nat) (ix:Array Nat),L2.SO.Pm vs.length ix->L2.SO.Up (uT ps) ix vs.length->(∀b o,b≠a->s.heap.get? b=some o->h'.get? b=some o)->
   h'.get? a=some (seqObj "list" (ix.toList.map λi=>vs.getD i Value.none).toArray c)->P (.done (.ret .none)) {s with heap:=h'}) :
  wpAny @TW A (Builtin.«list.sort» ⟨[.ref a],[]⟩) P E s:=by
 have ha:a < s.heap.objs.size:=Rx ho
 obtain⟨e1,ho1⟩:∃e1,(s.heap.update a (Obj.mapSeq λ_=>(#[]:Array Value))).get? a=some (seqObj "list" #[] e1):=⟨_,get?_update_seq ho λ_=>#[]⟩
 generalize hH1:(s.heap.update a (Obj.mapSeq λ_=>(#[]:Array Value)))=H1 at ho1
 have sb1:Heap.SameBut a s.heap H1:=by rw[<-hH1];exact Heap.SameBut.update ..
 have kp2:∀b o,H1.get? b=some o->((H1.push (seqObj "tuple" vs.toArray 0)).push (seqObj "list" #[] 0)).get? b=some o:=λb o e=>Ri _ (Ri _ e)
 generalize hH2:((H1.push (seqObj "tuple" vs.toArray 0)).push (seqObj "list" #[] 0))=H2 at kp2
 have kp:∀b o,b≠a->s.heap.get? b=some o->H2.get? b=some o:=λb o hb e=>kp2 b o ((sb1.2 b hb).trans e)
 have ho2:=kp2 _ _ ho1
 have hps2:gG prog w H2 vs ps:=⟨hps.1,λi v p h1 h2=>by
  obtain⟨b,e,⟨o,it,m,hb,hc,hd,r⟩,hs⟩:=hps.2 i v p h1 h2
  refine⟨b,e,⟨o,it,m,kp b o (λz=>?_) hb,hc,hd,r⟩,hs⟩
  subst z
  rw[ho] at hb;cases hb
  exact absurd hc (by simp[seqObj])⟩
 have hz:vs.length<=sizeLine:=by rw[R7];omega
 rw[list_sort_plain]
 refine Ra (listItems_at ho rfl (Ra (listUpdate_at ho rfl ?_ (by simpa using hz) (Sb _))))
 rw[hH1]
 refine Ra (seqEpoch_at (s:={s with heap:=H1}) ho1 rfl (Ra (wpAny_newTuple ?_ (by simpa using hz))))
 refine Ra (wpAny_newList ?_ (Sb _))
 refine S1 ?_
 show wpAny @TW A _ P E {s with heap:=(H1.push (seqObj "tuple" vs.toArray 0)).push (seqObj "list" #[] 0)}
 rw[hH2]
 have fin:∀(ix:Array Nat) (st:SortSt),L2.SO.Pm vs.length ix->L2.SO.Up (uT ps) ix vs.length->(arrOf st).map (·.2)=List.toArray (ix.toList.map λi=>vs.getD i Value.none)->failedOf st=none->
   wpAny @TW A (do
    let sorted:=(arrOf st).map (·.2)
    let touched:=(<-seqEpoch a) != e1
    Builtin.List.listUpdate (.ref a) λ_=>sorted
    if let some e:=failedOf st then rule "list.sort.comparison-raised";throw e
    if touched then rule "list.sort.modified";raiseError "ValueError" "list modified during sort"
    ret .none) P E {s with heap:=H2}:=λix st P1 U1 hout hf=>by
  dsimp only
  rw[hout]
  have hsz:(List.toArray (ix.toList.map λi=>vs.getD i Value.none)).size=vs.length:=by simp[P1.sz]
  refine Ra (seqEpoch_at (s:={s with heap:=H2}) ho2 rfl ?_)
  refine Ra (listUpdate_at (s:={s with heap:=H2}) ho2 rfl ?_ (Sb _) (Sd (Nat.le_of_eq hsz) (Nat.le_succ_of_le hz)))
  rw[hf]
  simp only[bne_self_eq_false,Sr,SX]
  obtain⟨c2,hc2⟩:∃c2,(H2.update a (Obj.mapSeq λ_=>List.toArray (ix.toList.map λi=>vs.getD i Value.none))).get? a=some (seqObj "list" (List.toArray (ix.toList.map λi=>vs.getD i Value.none)) c2):=⟨_,get?_update_seq ho2 λ_=>List.toArray (ix.toList.map λi=>vs.getD i Value.none)⟩
  exact Rv (h _ c2 ix P1 U1 (λb o hb e=>((Heap.SameBut.update H2 a _).2 b hb).trans (kp b o hb e)) hc2)
 by_cases h2:vs.length < 2
 ·have h2':vs.toArray.size < 2:=by simpa using h2
  dsimp only
  rw[Rg h2',Rg h2']
  refine Ra (Rv ?_)
  rw[StateT.run_pure]
  refine Ra (Rv ?_)
  refine fin (List.toArray (List.range vs.length)) (SortSt.mk' general' (vs.toArray.zip vs.toArray) #[] 7 none) (L2.SO.x9 _) (λi j hij hj=>@AT) ?_ rfl
  have:∀{l:@G_},l.length < 2->((l.toArray.zip l.toArray).map (·.2))=List.toArray ((List.range l.length).map λi=>l.getD i Value.none):=λ{l} hl=>by
   match l,hl with
   | [],_=>simp
   | [x],_=>simp
  exact (this h2).trans (@KM)
 ·have h2':¬vs.toArray.size < 2:=by simpa using h2
  dsimp only
  rw[Rj h2',Rj h2']
  obtain⟨fs,kt,fl,ff⟩:=BG (s:={s with heap:=H2}) hps2
  refine Ra (kat_kind (s:={s with heap:=H2}) (T:=.type "int") kt (@AT) (λv hv=>?_) @E_ ?_)
  ·obtain⟨i,t,rfl⟩:=ff v hv
   exact .now
  ·rw[show ((Value.type "int" != Value.type "tuple"):Bool)=true by decide]
   have hinj:L2.SO.Inj vs.length (uT ps):=by
    rw[hps.1]
    refine D0 nd λp hp=>?_
    obtain⟨i,hi,e⟩:=TJ.mp hp
    have hi':i < vs.length:=by rw[hps.1];exact hi
    obtain⟨_,_,_,hs⟩:=hps.2 i vs[i] p (Rf hi') (by rw[Rf hi,e])
    exact hs
   obtain⟨ix,⟨er,ok⟩,P1,U1⟩:=L2.SO.DK hinj (@AT)
   refine Ra (Sy (kat_run (s:={s with heap:=H2}) (κ:=tuples' true) (ks:=vs) (Q:=λst s'=>s'={s with heap:=H2}/\arrOf st=ix.map (kas_item (vs.toArray.zip vs.toArray))/\failedOf st=none)
    (G:=λp s'=>p=ix/\s'={s with heap:=H2}) rfl (@AT) h64 (λp st s' a1 a2 a3 a4=>?_) (L2.SO.wp_run (n:=vs.length) (lt:=L2.SO.qE (uT ps)) _ (λi j C hi hj hC=>?_) ok ⟨er,rfl⟩)) ?_ λ_ _ x=>x)
   ·obtain⟨rfl,rfl⟩:=a4
    exact⟨rfl,a2,a3⟩
   ·unfold kas_ask
    have hi':i < ps.length:=by rw[<-hps.1];exact hi
    have hj':j < ps.length:=by rw[<-hps.1];exact hj
    obtain⟨b1,eb1,hb1,s1⟩:=hps2.2 i vs[i] ps[i] (Rf hi) (Rf hi')
    obtain⟨b2,eb2,hb2,s2⟩:=hps2.2 j vs[j] ps[j] (Rf hj) (Rf hj')
    have e1:vs.getD i Value.none=.ref b1:=by rw[<-eb1];simp[hi]
    have e2:vs.getD j Value.none=.ref b2:=by rw[<-eb2];simp[hj]
    rw[e1,e2]
    refine GY (s:={s with heap:=H2}) hb1 hb2 s1 s2 ?_
    have:L2.SO.qE (uT ps) i j=decide (code ps[i] < code ps[j]):=by
     unfold L2.SO.qE uT;simp[hi',hj']
    rw[<-this];exact hC
   ·rintro⟨⟨⟩,st⟩ s' ⟨rfl,har,hf⟩
    exact fin ix st P1 U1 (kat_snds rfl har) hf
end
end L2.ST
namespace OM
abbrev Pr:=Int×Int
def B5 (p q:Pr):Prop:=p.1 < q.1\/(p.1=q.1/\p.2 < q.2)
def mL (p:Pr):¬B5 p p:=by unfold B5;omega
def DN {p q r:Pr}(a:B5 p q)(b:B5 q r):B5 p r:=by unfold B5 at *;omega
abbrev xU (l:@A_):Prop:=l.Pairwise B5
theorem iH:∀{l m:@A_},xU l->xU m->(∀x,x∈l↔x∈m)->l=m
 | [],[],_,_,_=>rfl
 | [],b :: m,_,_,h=>absurd ((h b).mpr (Ro ..)) (@KM)
 |a :: l,[],_,_,h=>absurd ((h a).mp (Ro ..)) (@KM)
 |a :: l,b :: m,hl,hm,h=>by
  have hl':=List.pairwise_cons.mp hl
  have hm':=List.pairwise_cons.mp hm
  have e:a=b:=by
   rcases Rm.mp ((h a).mp (Ro ..)) with e |e
   ·exact e
   ·rcases Rm.mp ((h b).mpr (Ro ..)) with e' |e'
    ·exact e'.symm
    ·exact absurd (DN (hm'.1 a e) (hl'.1 b e')) (mL _)
  subst e
  congr 1
  refine iH hl'.2 hm'.2 λx=>⟨λhx=>?_,λhx=>?_⟩
  ·rcases Rm.mp ((h x).mp (Ru _ hx)) with e |e
   ·subst e;exact absurd (hl'.1 x hx) (mL _)
   ·exact e
  ·rcases Rm.mp ((h x).mpr (Ru _ hx)) with e |e
   ·subst e;exact absurd (hm'.1 x hx) (mL _)
   ·exact e
def ip {l:@A_}(h:xU l):l.Nodup:=h.imp λ{a b} hab e=>by subst e;exact mL _ hab
def cN {l:@A_}(p:Pr->Bool)(h:xU l):xU (l.filter p):=h.sublist List.filter_sublist
def bw (n:Nat):@A_:=(List.range (n * n)).map λk=>(((k / n:Nat):Int),((k % n:Nat):Int))
def aY {n:Nat}{p:Pr}:p∈bw n↔(0<=p.1/\p.1 < n)/\(0<=p.2/\p.2 < n):=by
 unfold bw
 rw[Rz]
 constructor
 ·rintro⟨k,hk,rfl⟩
  have hk:=RW.mp hk
  have hn:0 < n:=by
   rcases Nat.eq_zero_or_pos n with e |e
   ·subst e;omega
   ·exact e
  have h1:k / n < n:=Nat.div_lt_of_lt_mul hk
  have h2:k % n < n:=Nat.mod_lt _ hn
  generalize k / n=q at h1
  generalize k % n=r at h2
  exact⟨⟨Int.natCast_nonneg _,by dsimp only;omega⟩,⟨Int.natCast_nonneg _,by dsimp only;omega⟩⟩
 ·rintro⟨⟨a0,a1⟩,⟨b0,b1⟩⟩
  have hn:0 < n:=@AT
  refine⟨p.1.toNat * n + p.2.toNat,RW.mpr ?_,?_⟩
  ·have h1:p.1.toNat + 1<=n:=@AT
   have h2:p.2.toNat < n:=@AT
   have:=Nat.mul_le_mul_right n h1
   rw[Nat.add_mul] at this
   omega
  ·have h2:p.2.toNat < n:=@AT
   have e1:(p.1.toNat * n + p.2.toNat) / n=p.1.toNat:=by
    rw[Nat.mul_comm,Nat.mul_add_div hn,Nat.div_eq_of_lt h2];rfl
   have e2:(p.1.toNat * n + p.2.toNat) % n=p.2.toNat:=by
    rw[Nat.mul_comm,Nat.mul_add_mod,Nat.mod_eq_of_lt h2]
   rw[e1,e2]
   refine Prod.ext ?_ ?_ <;> dsimp only <;> omega
def dD (n:Nat):xU (bw n):=by
 unfold bw
 refine TH.mpr (List.Pairwise.imp_of_mem ?_ List.pairwise_lt_range)
 intro a b ha hb hab
 have ha:=RW.mp ha
 have hb:=RW.mp hb
 have hn:0 < n:=by
  rcases Nat.eq_zero_or_pos n with e |e
  ·subst e;omega
  ·exact e
 have h1:a / n<=b / n:=Nat.div_le_div_right (Tq hab)
 have e1:=Nat.div_add_mod a n
 have e2:=Nat.div_add_mod b n
 unfold B5
 dsimp only
 rcases S8 (a / n) (b / n) with c |c
 ·left;omega
 ·right
  have e:a / n=b / n:=@AT
  rw[e] at e1
  omega
open Classical in
noncomputable def jx (n:Nat)(R:Int->Int->Prop):@A_:=(bw n).filter λp=>decide (R p.1 p.2)
def jQ {n:Nat}{R:Int->Int->Prop}{p:Pr}:p∈jx n R↔((0<=p.1/\p.1 < n)/\(0<=p.2/\p.2 < n))/\R p.1 p.2:=by
 unfold jx
 rw[Rl,aY]
 simp
def lO (n:Nat)(R:Int->Int->Prop):xU (jx n R):=cN _ (dD n)
def z5 {n:Nat}{R S:Int->Int->Prop}(h:∀a b:Int,0<=a->a < n->0<=b->b < n->(R a b↔S a b)):jx n R=jx n S:=by
 refine iH (lO n R) (lO n S) λx=>?_
 rw[jQ,jQ]
 constructor
 ·rintro⟨⟨⟨a,b⟩,c,d⟩,r⟩;exact⟨⟨⟨a,b⟩,c,d⟩,(h _ _ a b c d).mp r⟩
 ·rintro⟨⟨⟨a,b⟩,c,d⟩,r⟩;exact⟨⟨⟨a,b⟩,c,d⟩,(h _ _ a b c d).mpr r⟩
def Wn (n:Nat)(l:@A_):Prop:=∀p,p∈l->(0<=p.1/\p.1 < n)/\(0<=p.2/\p.2 < n)
abbrev Mem (l:@A_)(a b:Int):Prop:=(a,b)∈l
def CZ {n:Nat}{l:@A_}(w:Wn n l)(r:xU l):jx n (Mem l)=l:=by
 refine iH (lO n _) r λx=>?_
 rw[jQ]
 exact⟨λh=>h.2,λh=>⟨w x h,h⟩⟩
def GC (n:Nat)(R:Int->Int->Prop):(jx n R).length<=n * n:=by
 unfold jx
 refine Sd (Se ..) ?_
 unfold bw;simp
inductive Tr (R:Int->Int->Prop):Int->Int->Prop
 |one {a b}:R a b->Tr R a b
 |more {a b c}:R a b->Tr R b c->Tr R a c
theorem Tr.trans {R:Int->Int->Prop}{a b c:Int}(h:Tr R a b)(k:Tr R b c):Tr R a c:=by
 induction h with
 |one r=>exact .more r k
 |more r _ ih=>exact .more r (ih k)
theorem Tr.least {R S:Int->Int->Prop}(f:∀a b,R a b->S a b)(t:∀a b c,S a b->S b c->S a c){a b:Int}(h:Tr R a b):S a b:=by
 induction h with
 |one r=>exact f _ _ r
 |more r _ ih=>exact t _ _ _ (f _ _ r) ih
structure Ord (n:Nat)(l:@A_):Prop where
 lo:1<=n
 hi:n<=8
 wn:Wn n l
 ris:xU l
 irr:∀a,(a,a)∉l
 tr:∀a b c,(a,b)∈l->(b,c)∈l->(a,c)∈l
def Ord.tr_mem {n:Nat}{l:@A_}(O:Ord n l){a b:Int}:Tr (Mem l) a b↔(a,b)∈l:=
 ⟨λh=>h.least (λ_ _ r=>r) λa b c=>O.tr a b c,λh=>.one h⟩
def Ord.closed {n:Nat}{l:@A_}(O:Ord n l):jx n (Tr (Mem l))=l:=by
 rw[z5 (S:=Mem l) λa b _ _ _ _=>O.tr_mem,CZ O.wn O.ris]
theorem zX {l m:@A_}(hl:l.Nodup)(h:∀x,x∈l->x∈m):l.length<=m.length:=by
 induction l generalizing m with
 |nil=>exact Sb _
 |cons a l ih=>
  have ha:=h a (Ro ..)
  have hl':=R5.mp hl
  have:=ih (m:=m.erase a) hl'.2 λx hx=>by
   refine (List.mem_erase_of_ne ?_).mpr (h x (Ru _ hx))
   rintro rfl;exact hl'.1 hx
  rw[Uq ha] at this
  have:0 < m.length:=List.length_pos_of_mem ha
  simp only[RL];omega
def sub_eq {l m:@A_}(hl:xU l)(hm:xU m)(h:∀x,x∈l->x∈m)(e:l.length=m.length):l=m:=by
 refine iH hl hm λx=>⟨h x,λhx=>Classical.byContradiction λhn=>?_⟩
 have:=zX (l:=x :: l) (m:=m) (R5.mpr ⟨hn,ip hl⟩) λy hy=>by
  rcases Rm.mp hy with e |e
  ·subst e;exact hx
  ·exact h y e
 simp only[RL] at this
 omega
def more (l:@A_):@A_:=l.flatMap λp=>(l.filter λq=>decide (q.1=p.2)).map λq=>(p.1,q.2)
abbrev Tb:=Nat->Nat->Bool
def Tb.set (M:Tb)(a b:Nat):Tb:=λx y=>if x=a/\y=b then true else M x y
def G7 (M:Tb)(m:Nat):Prop:=∀k a b,k < m->M a k=true->M k b=true->M a b=true
def Phase (M0 M:Tb)(m:Nat)(D:Nat->Nat->Prop):Prop:=∀a b,M a b=true↔M0 a b=true\/(D a b/\M0 a m=true/\M0 m b=true)
def Phase.start (M:Tb)(m:Nat):Phase M M m λ_ _=>False:=λa b=>@KM
def Phase.row {M0 M:Tb}{m:Nat}{D:Nat->Nat->Prop}(P:Phase M0 M m D)(a:Nat):M a m=true↔M0 a m=true:=by
 rw[P]
 exact⟨λh=>h.elim id λh=>h.2.1,.inl⟩
def Phase.col {M0 M:Tb}{m:Nat}{D:Nat->Nat->Prop}(P:Phase M0 M m D)(b:Nat):M m b=true↔M0 m b=true:=by
 rw[P]
 exact⟨λh=>h.elim id λh=>h.2.2,.inl⟩
def Phase.step {M0 M:Tb}{m:Nat}{D:Nat->Nat->Prop}(P:Phase M0 M m D)(x y:Nat) :
  Phase M0 (if M x m=true/\M m y=true then M.set x y else M) m (λa b=>D a b\/(a=x/\b=y)):=λa b=>by
 have r:=P.row x
 have c:=P.col y
 by_cases h:M x m=true/\M m y=true
 ·rw[Rg h]
  unfold Tb.set
  by_cases e:a=x/\b=y
  ·rw[Rg e]
   obtain⟨rfl,rfl⟩:=e
   simp only[true_iff]
   exact .inr ⟨.inr (@KM),r.mp h.1,c.mp h.2⟩
  ·rw[Rj e,P]
   constructor
   ·rintro (q | ⟨d,q⟩)
    ·exact .inl q
    ·exact .inr ⟨.inl d,q⟩
   ·rintro (q | ⟨d |d,q⟩)
    ·exact .inl q
    ·exact .inr ⟨d,q⟩
    ·exact absurd d e
 ·rw[Rj h,P]
  constructor
  ·rintro (q | ⟨d,q⟩)
   ·exact .inl q
   ·exact .inr ⟨.inl d,q⟩
  ·rintro (q | ⟨d | ⟨rfl,rfl⟩,q1,q2⟩)
   ·exact .inl q
   ·exact .inr ⟨d,q1,q2⟩
   ·exact absurd ⟨r.mpr q1,c.mpr q2⟩ h
def Phase.done {M0 M:Tb}{m n:Nat}{D:Nat->Nat->Prop}(P:Phase M0 M m D)(hD:∀a b,a < n->b < n->D a b)(hM:∀a b,M0 a b=true->a < n/\b < n)(T:G7 M0 m) :
  G7 M (m + 1)/\∀a b,M a b=true->a < n/\b < n:=by
 have hM':∀a b,M a b=true->a < n/\b < n:=λa b h=>by
  rcases (P a b).mp h with q | ⟨_,q1,q2⟩
  ·exact hM a b q
  ·exact⟨(hM _ _ q1).1,(hM _ _ q2).2⟩
 have put:∀a b,M0 a m=true->M0 m b=true->M a b=true:=λa b h1 h2=>(P a b).mpr (.inr ⟨hD a b (hM _ _ h1).1 (hM _ _ h2).2,h1,h2⟩)
 refine⟨λk a b hk h1 h2=>?_,hM'⟩
 rcases S8 k m with c |c
 ·rcases (P a k).mp h1 with q1 | ⟨_,q1,q1'⟩
  ·rcases (P k b).mp h2 with q2 | ⟨_,q2,q2'⟩
   ·exact (P a b).mpr (.inl (T k a b c q1 q2))
   ·exact put a b (T k a m c q1 q2) q2'
  ·rcases (P k b).mp h2 with q2 | ⟨_,q2,q2'⟩
   ·exact put a b q1 (T k m b c q1' q2)
   ·exact put a b q1 q2'
 ·have e:k=m:=@AT
  subst e
  exact put a b ((P.row a).mp h1) ((P.col b).mp h2)
structure Tab (n:Nat)(ps:@A_)(M:Tb):Prop where
 inn:∀a b,M a b=true->a < n/\b < n
 sub:∀a b:Nat,((a:Int),(b:Int))∈ps->M a b=true
 sup:∀a b:Nat,M a b=true->Tr (Mem ps) a b
def Tab.phase {n:Nat}{ps:@A_}{M0 M:Tb}{m:Nat}{D:Nat->Nat->Prop}(T:Tab n ps M0)(P:Phase M0 M m D):Tab n ps M:=
 ⟨λa b h=>by
  rcases (P a b).mp h with q | ⟨_,q1,q2⟩
  ·exact T.inn a b q
  ·exact⟨(T.inn _ _ q1).1,(T.inn _ _ q2).2⟩,
  λa b h=>(P a b).mpr (.inl (T.sub a b h)),
  λa b h=>by
  rcases (P a b).mp h with q | ⟨_,q1,q2⟩
  ·exact T.sup a b q
  ·exact (T.sup _ _ q1).trans (T.sup _ _ q2)⟩
def Tab.all {n:Nat}{ps:@A_}{M:Tb}(w:Wn n ps)(T:Tab n ps M)(H:G7 M n)(a b:Nat):M a b=true↔Tr (Mem ps) a b:=by
 refine⟨T.sup a b,λh=>?_⟩
 have key:∀{x y:Int},Tr (Mem ps) x y->M x.toNat y.toNat=true:=λ{x y} h=>by
  induction h with
  | @one x y r=>
   have:=w _ r
   refine T.sub _ _ ?_
   have e1:((x.toNat:Nat):Int)=x:=by simp only at this;omega
   have e2:((y.toNat:Nat):Int)=y:=by simp only at this;omega
   rw[e1,e2];exact r
  | @more x y z r _ ih=>
   have:=w _ r
   have e1:((x.toNat:Nat):Int)=x:=by simp only at this;omega
   have e2:((y.toNat:Nat):Int)=y:=by simp only at this;omega
   have q:M x.toNat y.toNat=true:=T.sub _ _ (by rw[e1,e2];exact r)
   exact H y.toNat _ _ (T.inn _ _ q).2 q ih
 have:=key h
 simpa using this
end OM
namespace L2.ST
open PySem PySem.SetTable PySem.W PyProof.Rows
section
variable {prog:Program}{w:World}{A:Around}{E:@EQ}{s:Shared}
def Mt {ps:@A_}(hs:∀p,p∈ps->Sm p){ix:Array Nat}(P:L2.SO.Pm ps.length ix)(U:L2.SO.Up (uT ps) ix ps.length):OM.xU (ix.toList.map λi=>ps.getD i (0,0)):=by
 refine TH.mpr (Ui.mpr λi j hi hj hij=>?_)
 have hi':i < ix.size:=by simpa using hi
 have hj':j < ix.size:=by simpa using hj
 have q:=U i j hij (by rw[<-P.sz];exact hj')
 unfold L2.SO.Kp uT at q
 have ei:ix.getD i 0=ix.toList[i]:=by simp[Array.getD,hi']
 have ej:ix.getD j 0=ix.toList[j]:=by simp[Array.getD,hj']
 rw[ei,ej] at q
 have ai:ix.toList[i] < ps.length:=P.lt _ (@KM)
 have aj:ix.toList[j] < ps.length:=P.lt _ (@KM)
 have bi:Sm (ps.getD ix.toList[i] (0,0)):=by rw[RP,Rf ai];exact hs _ (SY ai)
 have bj:Sm (ps.getD ix.toList[j] (0,0)):=by rw[RP,Rf aj];exact hs _ (SY aj)
 exact (BS bi bj).mp q
def L1 {n:Nat}{ix:Array Nat}(P:L2.SO.Pm n ix){k:Nat}(hk:k < n):k∈ix.toList:=by
 refine Classical.byContradiction λhn=>?_
 have:=gm (l:=k :: ix.toList) (m:=List.range n) (R5.mpr ⟨hn,P.nd⟩) λx hx=>by
  rcases Rm.mp hx with e |e
  ·rw[e];exact RW.mpr hk
  ·exact RW.mpr (P.lt x (by simpa using e))
 simp[P.sz] at this
 omega
theorem Oq {h:Heap}{vs:@G_}{ps:@A_}(hps:gG prog w h vs ps){ix:Array Nat}(P:L2.SO.Pm vs.length ix) :
  gG prog w h (ix.toList.map λi=>vs.getD i Value.none) (ix.toList.map λi=>ps.getD i (0,0)):=by
 refine⟨@KM,λi v p h1 h2=>?_⟩
 rw[RA] at h1 h2
 cases e:ix.toList[i]? with
 |none=>rw[e] at h1;cases h1
 |some k=>
  rw[e] at h1 h2
  have hk:k < vs.length:=P.lt k (by simpa using RN e)
  have hk':k < ps.length:=by rw[<-hps.1];exact hk
  simp[hk,hk'] at h1 h2
  exact hps.2 k v p (by rw[Rf hk,h1]) (by rw[Rf hk',h2])
def C9 {v:Value}{vs:@G_}{ps:@A_}{Q:@EQ}(hps:gG prog w s.heap vs ps)(nd:ps.Nodup)(h64:vs.length < 64)
  (hcol:∀(Q':@G_->Shared->Prop),(∀h' tk,(∀b o,s.heap.get? b=some o->h'.get? b=some o)->Q' vs {s with heap:=h',toks:=tk})->wpAny @TW A.in1 (collect v) Q' (λe s'=>E e s') s)
  (h:∀(h1 h':Heap) (tk:Nat) (D:Addr) (out:@G_) (qs:@A_) (c:Nat),(∀b o,s.heap.get? b=some o->h1.get? b=some o)->D=h1.objs.size->(∀b o,h1.get? b=some o->h'.get? b=some o)->h'.get? D=some (seqObj "list" out.toArray c)->gG prog w h' out qs->(∀u,u∈out->u∈vs)->OM.xU qs->(∀p,p∈qs↔p∈ps)->
   Q (.ref D) {s with heap:=h',toks:=tk}):wpAny @TW A (call (.builtin "sorted") [v]) Q E s:=by
 have hsm:∀p,p∈ps->Sm p:=λp hp=>by
  obtain⟨i,hi,e⟩:=TJ.mp hp
  have hi':i < vs.length:=by rw[hps.1];exact hi
  obtain⟨_,_,_,hs⟩:=hps.2 i vs[i] p (Rf hi') (by rw[Rf hi,e])
  exact hs
 (refine Calls.call_function_entry kind_sorted plain_sorted entry_sorted (args_sorted1 _) ?_)
 unfold Builtin.«sorted»
 refine Ra (m:=checkCount "sorted" 1 1 ([v]:@G_).length) (Rv ?_)
 refine Ra (hcol _ λh1 tk1 k1=>?_)
 have hz:vs.length<=sizeLine:=by rw[R7];omega
 refine Ra (wpAny_newList ?_ hz)
 show wpAny _ _ _ _ _ {s with heap:=h1.push (seqObj "list" vs.toArray 0),toks:=tk1}
 have hoL:(h1.push (seqObj "list" vs.toArray 0)).get? h1.objs.size=some (seqObj "list" vs.toArray 0):=RB _ rfl
 have kp:∀b o,s.heap.get? b=some o->(h1.push (seqObj "list" vs.toArray 0)).get? b=some o:=λb o e=>Ri _ (k1 b o e)
 have hp1:gG prog w (h1.push (seqObj "list" vs.toArray 0)) vs ps:=⟨hps.1,λi v p a b=>by
  obtain⟨c,e,⟨o,it,n,ho,r⟩,hs⟩:=hps.2 i v p a b
  exact⟨c,e,⟨o,it,n,kp _ _ ho,r⟩,hs⟩⟩
 have hne:∀b o,s.heap.get? b=some o->b≠h1.objs.size:=λb o e=>R6 (Rx (k1 b o e))
 refine Ra (S1 (wpAny_call_entry slot_list_sort ⟨_,hoL,rfl⟩ entry_list_sort ?_ (args_list_sort _)))
 refine xY (s:={s with heap:=h1.push (seqObj "list" vs.toArray 0),toks:=tk1}) hoL hp1 nd h64 λh' c ix P U hk ho=>?_
 refine⟨_,rfl,Rv ⟨_,rfl,?_⟩⟩
 have kk:∀b o,s.heap.get? b=some o->h'.get? b=some o:=λb o e=>hk b o (hne b o e) (kp b o e)
 have P':L2.SO.Pm ps.length ix:=by rw[<-hps.1];exact P
 have k2:∀b o,h1.get? b=some o->h'.get? b=some o:=λb o e=>hk b o (R6 (Rx e)) (Ri _ e)
 refine h h1 h' tk1 h1.objs.size _ (ix.toList.map λi=>ps.getD i (0,0)) c k1 rfl k2 ho (Oq ⟨hps.1,λi v p a b=>?_⟩ P) (λu hu=>?_) (Mt hsm P' (by rw[<-hps.1];exact U)) λp=>⟨λhp=>?_,λhp=>?_⟩
 ·obtain⟨c,e,⟨o,it,n,ho,r⟩,hs⟩:=hps.2 i v p a b
  exact⟨c,e,⟨o,it,n,kk _ _ ho,r⟩,hs⟩
 ·obtain⟨i,hi,rfl⟩:=Rz.mp hu
  have:i < vs.length:=P.lt i (by simpa using hi)
  rw[RP,Rf this]
  exact SY this
 ·obtain⟨i,hi,rfl⟩:=Rz.mp hp
  have:i < ps.length:=P'.lt i (by simpa using hi)
  rw[RP,Rf this]
  exact SY this
 ·obtain⟨i,hi,e⟩:=TJ.mp hp
  refine Rz.mpr ⟨i,L1 P' hi,?_⟩
  rw[RP,Rf hi,e];rfl
end
end L2.ST
namespace L2
open PySem PySem.Spec PyProof.Rows
abbrev Pr:=Int×Int
abbrev Sm:=L2.ST.Sm
section
variable {X:Cx}{pins:@Do}{σ:St}{H H':Hp}{s:Shared}
def jO (H H':Hp):Prop:=(∀b xs,H b=some (.tup xs)->H' b=some (.tup xs))/\∀b o u,H b=some (.a8 o u)->H' b=some (.a8 o u)
def jO.refl (H:Hp):jO H H:=⟨λ_ _ h=>h,λ_ _ _ h=>h⟩
def jO.trans {H H1 H2:Hp}(a:jO H H1)(b:jO H1 H2):jO H H2:=⟨λc xs h=>b.1 c xs (a.1 c xs h),λc o u h=>b.2 c o u (a.2 c o u h)⟩
def aw.grow {H H':Hp}(e:aw H H'):jO H H':=⟨λb xs h=>e b _ h,λb o u h=>e b _ h⟩
def jO.new {H:Hp}{l:Addr}{o:HO}(h:H l=none):jO H (upd H l o):=⟨λb xs e=>by rw[aC (aR e h)];exact e,λb o' u e=>by rw[aC (aR e h)];exact e⟩
def aw.new {H:Hp}{l:Addr}{o:HO}(h:H l=none):aw H (upd H l o):=λb u e=>Kt.of (by rw[aC (aR e h)];exact e)
def gr.grow {K:Frag}{a:Addr}{xs:List V}(h:gr K H a xs)(g:jO H H'):gr K H' a xs:=by
 rcases h with (h | ⟨o,h⟩) |h
 ·exact .inl (.inl (g.1 _ _ h))
 ·exact .inl (.inr ⟨o,g.2 _ _ _ h⟩)
 ·exact .inr h
def jO.list {a:Addr}{ys:List V}{o:HO}(h:H a=some (.lst ys)):jO H (upd H a o):=
 ⟨λb xs e=>by rw[aC (J8 e h (by intro z;cases z))];exact e,λb o' u e=>by rw[aC (J8 e h (by intro z;cases z))];exact e⟩
def bF (K:Frag)(H:Hp):List V->@A_->Prop:=Paired λv p=>∃a,v=.ref a/\gr K H a [.int p.1,.int p.2]
def bF.grow {K:Frag}{vs:List V}{ps:@A_}(h:bF K H vs ps)(g:jO H H'):bF K H' vs ps:=Paired.mapP h λv p ⟨a,e,q⟩=>⟨a,e,q.grow g⟩
theorem Paired.getP {α β:Type}{F:α->β->Prop}:∀{l:List α} {m:List β} {i:Nat} {x:α},Paired F l m->l[i]? =some x->∃y,m[i]? =some y/\F x y
 |_,_,_,_,.nil,e=>by simp at e
 |_,_,0,_,.cons r _,e=>by simp at e;subst e;exact⟨_,rfl,r⟩
 |_,_,i + 1,x,.cons _ t,e=>by
  obtain⟨u,h1,h2⟩:=Paired.getP (i:=i) (x:=x) t (by simpa using e)
  exact⟨u,by simpa using h1,h2⟩
theorem Paired.getQ {α β:Type}{F:α->β->Prop}:∀{l:List α} {m:List β} {i:Nat} {y:β},Paired F l m->m[i]? =some y->∃x,l[i]? =some x/\F x y
 |_,_,_,_,.nil,e=>by simp at e
 |_,_,0,_,.cons r _,e=>by simp at e;subst e;exact⟨_,rfl,r⟩
 |_,_,i + 1,x,.cons _ t,e=>by
  obtain⟨u,h1,h2⟩:=Paired.getQ (i:=i) (y:=x) t (by simpa using e)
  exact⟨u,by simpa using h1,h2⟩
theorem Cc (I:@B_){a:Addr}{p:Pr}(h:gr X.K H a [.int p.1,.int p.2]):L2.ST.k8 X.prog X.w s.heap p a:=by
 obtain⟨its,r,⟨o,ho,hc,n,hd⟩,_⟩:=I.tuple h
 cases r with
 |cons r1 r=>
  cases r with
  |cons r2 r=>
   cases r
   obtain⟨t1,rfl⟩:=r1
   obtain⟨t2,rfl⟩:=r2
   exact⟨o,_,n,ho,hc,hd,.cons (intKind_is ..) (.cons (intKind_is ..) .nil)⟩
def pairs_at (I:@B_){vs:List V}{us:@G_}{ps:@A_}(hv:Vals vs us)(h:bF X.K H vs ps)(hs:∀p,p∈ps->Sm p):L2.ST.gG X.prog X.w s.heap us ps:=by
 refine⟨by rw[<-hv.length];exact Paired.length h,λi u p e1 e2=>?_⟩
 obtain⟨v,ev,a,rfl,q⟩:=Paired.getQ h e2
 obtain⟨u',eu,ru⟩:=hv.get ev
 rw[e1] at eu;cases eu
 cases ru
 exact⟨a,rfl,Cc I q,hs p (RN e2)⟩
theorem sQ (I:@B_){vs:List V}{us:@G_}{ps:@A_}(hv:Vals vs us)(h:bF X.K H vs ps){h':Heap}(k:∀b o,s.heap.get? b=some o->h'.get? b=some o):∀{out:@G_} {qs:@A_},
  (∀u,u∈out->u∈us)->L2.ST.gG X.prog X.w h' out qs->∃ws,Vals ws out/\bF X.K H ws qs
 | [],[],_,_=>⟨[],.nil,.nil⟩
 | [],_ :: _,_,hp=>by have:=hp.1;simp at this
 |_ :: _,[],_,hp=>by have:=hp.1;simp at this
 |u :: out,q :: qs,hm,hp=>by
  obtain⟨ws,a1,a2⟩:=sQ I hv h k (out:=out) (qs:=qs) (λx hx=>hm x (Ru _ hx)) ⟨by have:=hp.1;simpa using this,λi v p e1 e2=>hp.2 (i + 1) v p (by simpa using e1) (by simpa using e2)⟩
  obtain⟨i,hi,e⟩:=TJ.mp (hm u (Ro ..))
  have hi':i < vs.length:=by rw[hv.length];exact hi
  obtain⟨u',eu,ru⟩:=hv.get (Rf hi')
  rw[Rf hi,e] at eu
  cases eu
  obtain⟨p,ep,a,ea,qa⟩:=Paired.getP h (Rf hi')
  rw[ea] at ru
  cases ru
  obtain⟨b,eb,hb,_⟩:=hp.2 0 (.ref a) q rfl rfl
  cases eb
  have pa:L2.ST.k8 X.prog X.w h' p a:=by
   obtain⟨o,it,n,ho,r⟩:=Cc I qa
   exact⟨o,it,n,k _ _ ho,r⟩
  have:p=q:=L2.ST.k8.inj pa hb
  subst this
  exact⟨.ref a :: ws,.cons rfl a1,.cons ⟨a,rfl,qa⟩ a2⟩
def BB (K:Frag):List V->@P_:=λxs H Q=>∃a vs ps,xs= [.ref a]/\ji K H a vs/\bF K H vs ps/\(∀p,p∈ps->Sm p)/\ps.Nodup/\ps.length < 64/\
 ∀l ws qs,H l=none->bF K H ws qs->OM.xU qs->(∀p,p∈qs↔p∈ps)->Q (.ref l) (upd H l (.lst ws))
def Av (I:@B_){vs:List V}{us:@G_}{ps:@A_}(hv:Vals vs us)(hp:bF X.K H vs ps)(hlen:ps.length < 64){Q:VK}
  (q:∀l ws qs,H l=none->bF X.K H ws qs->OM.xU qs->(∀p,p∈qs↔p∈ps)->Q (.ref l) (upd H l (.lst ws)))
  {h1 h':Heap} {tk:Nat} {D:Addr} {out:@G_} {qs:@A_} {c:Nat} (k1:∀b o,s.heap.get? b=some o->h1.get? b=some o) (eD:D=h1.objs.size) (k2:∀b o,h1.get? b=some o->h'.get? b=some o)
  (ho:h'.get? D=some (seqObj "list" out.toArray c)) (hpq:L2.ST.gG X.prog X.w h' out qs) (hm:∀u,u∈out->u∈us) (hr:OM.xU qs) (hmem:∀p,p∈qs↔p∈ps):EP X pins σ Q (.ref D) {s with heap:=h',toks:=tk}:=by
 obtain⟨ws,r1,r2⟩:=sQ I hv hp (λb o e=>k2 b o (k1 b o e)) hm hpq
 have I1:Inv X pins σ H {s with heap:=h1,toks:=tk}:=I.kept k1
 have hf:H D=none:=by rw[eD];exact I1.hok.fresh (Rh _)
 have hz:ws.length<=sizeLine:=by
  have e1:=r1.length
  have e2:out.length=qs.length:=hpq.1
  have e3:=OM.zX (OM.ip hr) λx hx=>(hmem x).mp hx
  rw[R7];omega
 have I2:Inv X pins σ (upd H D (.lst ws)) {s with heap:=h',toks:=tk}:=I1.laid (t':=tk) k2 (by rw[eD];exact Rh _) (show dZ X.prog X.w _ h' _ (.lst ws) from⟨hz,out,c,r1,ho⟩)
 exact⟨.ref D,_,I2,rfl,q D ws qs hf r2 hr hmem⟩
def qF:fC X (.builtin "sorted") (BB X.K):=by
 intro pins s σ H xs us Q I r h
 obtain⟨a,vs,ps,rfl,hq,hp,hs,nd,hl,q⟩:=h
 obtain⟨u,rfl,rx⟩:=vals1 r
 cases rx
 obtain⟨its,rv,pl,hz⟩:=I.list hq
 have hpa:=pairs_at I rv hp hs
 have h64:its.length < 64:=by rw[hpa.1];exact hl
 refine L2.ST.C9 (v:=.ref a) hpa nd h64 (λQ' hQ'=>collect_list pl.isList ?_ (by rw[R7];omega)) λh1 h' tk D out qs c k1 eD k2 ho hpq hm hr hmem=>?_
 ·exact hQ' _ s.toks λb o e=>by
   rw[Heap.get?_update_ne _ _ _ _ (R6 (Rx e)),Heap.get?_push_ne _ _ _ (R6 (Rx e))];exact e
 ·exact Av I rv hp hl q k1 eD k2 ho hpq hm hr hmem
abbrev pq (qs:List (Addr×Pr)):@A_:=qs.map (·.2)
end
def jc (cells:List (Str×Addr)):List (Str×NameKind)->List (Str×Addr)->List (Str×Addr)
 | [],cs=>cs
 | (n,k) :: r,cs=>jc cells r (if k == .free then (n,(cells.lookup n).getD 0) :: cs else cs)
def o6 {scope:Scope}{env:Env}(h:∀y∈scope.names,y.2=.free->∃c,env.cells.lookup y.1=some c):closureFor scope env=pure (jc env.cells scope.names []):=by
 unfold closureFor
 have key:∀(l:List (Str×NameKind)) (cs:List (Str×Addr)),(∀y∈l,y.2=.free->∃c,env.cells.lookup y.1=some c)->
   (forIn l cs (λ(x:Str×NameKind) (r:List (Str×Addr))=>if (x.2 == NameKind.free)=true then (do let a <-cellOf env x.1;pure (ForInStep.yield ((x.1,a) :: r)):Sem _) else pure (ForInStep.yield r)):Sem (List (Str×Addr)))=pure (jc env.cells l cs):=by
  intro l
  induction l with
  |nil=>intro cs _;rfl
  |cons y l ih=>
   intro cs hy
   obtain⟨n,k⟩:=y
   rw[List.forIn_cons]
   unfold jc
   by_cases hk:(k == NameKind.free)=true
   ·have hk':k=.free:=by simpa using hk
    obtain⟨c,hc⟩:=hy (n,k) (Ro ..) hk'
    have hce:cellOf env n=pure c:=by unfold cellOf;rw[hc]
    simp only[hk,SK]
    have hc':env.cells.lookup n=some c:=hc
    rw[hce,hc']
    simp only[pure_bind,Option.getD_some]
    exact ih _ λz hz=>hy z (Ru _ hz)
   ·simp only[hk,SX,Sr]
    simp only[pure_bind]
    exact ih _ λz hz=>hy z (Ru _ hz)
 have:=key scope.names [] h
 simp only[bind_pure_comp] at this ⊢
 first
  |exact this
  | (rw[this];rfl)
  | (simpa using this)
theorem om {cells:List (Str×Addr)}{x:Str}:∀{l:List (Str×NameKind)} {cs:List (Str×Addr)},((x,NameKind.free)∈l\/cs.lookup x=some ((cells.lookup x).getD 0))->(jc cells l cs).lookup x=some ((cells.lookup x).getD 0)
 | [],cs,h=>by
  rcases h with h |h
  ·cases h
  ·exact h
 | (n,k) :: r,cs,h=>by
  unfold jc
  refine om ?_
  by_cases hk:(k == NameKind.free)=true
  ·rw[Rg hk]
   by_cases hx:x=n
   ·subst hx;right;simp
   ·rcases h with h |h
    ·rcases Rm.mp h with e |e
     ·injection e with e1 _;exact absurd e1 hx
     ·exact .inl e
    ·right
     rw[lookup_cons,show (x == n)=false by simpa using hx]
     exact h
  ·rw[Rj hk]
   rcases h with h |h
   ·rcases Rm.mp h with e |e
    ·injection e with _ e2;exact absurd (by rw[<-e2];rfl) hk
    ·exact .inl e
   ·exact .inr h
theorem n6 {cells:List (Str×Addr)}{x:Str}{c:Addr}:∀{l:List (Str×NameKind)} {cs:List (Str×Addr)},(jc cells l cs).lookup x=some c->((x,NameKind.free)∈l/\c=(cells.lookup x).getD 0)\/cs.lookup x=some c
 | [],cs,h=>.inr h
 | (n,k) :: r,cs,h=>by
  unfold jc at h
  rcases n6 h with⟨a,b⟩ |a
  ·exact .inl ⟨Ru _ a,b⟩
  ·by_cases hk:(k == NameKind.free)=true
   ·rw[Rg hk,lookup_cons] at a
    by_cases hx:x=n
    ·subst hx
     simp at a
     have:k=.free:=by simpa using hk
     subst this
     exact .inl ⟨Ro ..,a.symm⟩
    ·rw[show (x == n)=false by simpa using hx] at a
     exact .inr a
   ·rw[Rj hk] at a
    exact .inr a
theorem qO {f:Str->NameKind->NameKind}{x:Str}:∀(l:List (Str×NameKind)),(l.map λy=>(y.1,f y.1 y.2)).lookup x=(l.lookup x).map (f x)
 | []=>rfl
 | (n,k) :: l=>by
  rw[Sx,lookup_cons,lookup_cons]
  by_cases hx:x=n
  ·subst hx;simp
  ·have hb:(x == n)=false:=by simpa using hx
   simp only[hb]
   exact qO l
def t9 (scope:Scope)(env:Env)(x:Str):(relabel scope env).names.lookup x=(scope.names.lookup x).map λk=>if (k == .free && env.scope.kind == .function && env.kindOf x == some .cell) then .cell else k:=by
 have e:(relabel scope env).names=scope.names.map λy=>(y.1,if (y.2 == .free && env.scope.kind == .function && env.kindOf y.1 == some .cell) then .cell else y.2):=by
  unfold relabel
  dsimp only
  refine SH λy _=>?_
  obtain⟨n,k⟩:=y
  dsimp only
  split <;> rfl
 rw[e]
 exact qO (f:=λn k=>if (k == .free && env.scope.kind == .function && env.kindOf n == some .cell) then .cell else k) scope.names
theorem oJ:∀(l:List (Str×NameKind)) (n:Nat) (acc:List (Str×Addr)),cellsFrom n l acc=cellsFrom n l [] ++ acc
 | [],_,_=>rfl
 | (x,k) :: r,n,acc=>by
  unfold cellsFrom
  split
  ·rw[oJ r (n + 1) ((x,n) :: acc),oJ r (n + 1) [(x,n)],S4];rfl
  ·exact oJ r n acc
theorem sW:∀{l:List (Str×NameKind)} {n:Nat} {x:Str} {c:Addr},(x,c)∈cellsFrom n l []->n<=c/\(x,NameKind.cell)∈l
 | [],_,_,_,h=>by cases h
 | (y,k) :: r,n,x,c,h=>by
  unfold cellsFrom at h
  split at h
  ·rename_i hk
   have hk:k=.cell:=by simpa using hk
   rw[oJ] at h
   rcases Rw.mp h with h |h
   ·have:=sW h;exact⟨@AT,Ru _ this.2⟩
   ·rw[RE] at h;cases h;subst hk;exact⟨Rh _,Ro ..⟩
  ·have:=sW h;exact⟨this.1,Ru _ this.2⟩
abbrev Hw (X:Cx)(scope:Scope)(C:Addr):List (Str×Addr):=cellsFrom (C + 1) scope.names (jc X.env.cells scope.names [])
def IX {M:Model}{A:Around}{E:@EQ}{s:Shared}{scope:Scope}{g:Addr}{cl:List (Str×Addr)}{qual:Str}{env:Env}{Q:Env->Shared->Prop}
  (h:∀h',h'.Ns s.heap.objs.size (λ_=>none)->(∀b o,s.heap.get? b=some o->h'.get? b=some o)->CellsOk h' (s.heap.objs.size + 1) (cellsFrom (s.heap.objs.size + 1) scope.names [])->Q (newEnv scope s.heap.objs.size g (cellsFrom (s.heap.objs.size + 1) scope.names cl) qual none .none (some env) builtinsNs) {s with heap:=h'}) :
  wpAny M A (newFunctionEnv scope g cl [] qual none .none (some env)) Q E s:=by
 simp only[newFunctionEnv,Option.isSome_some,SK]
 refine Ra (wpAny_alloc ?_)
 refine Ra (wpAny_layCells _ (λname kind cells=>by cases hkc:kind == NameKind.cell <;> simp[hkc]) _ _ _ _ ?_)
 have ok:=cellsFrom_ok scope.names (s.heap.push {cls:=.type "dict",data:=.dict #[]}) (s.heap.objs.size + 1) [] ⟨λ_ _ hm=>(nomatch hm),List.Pairwise.nil⟩ (by rw[S2];exact Rh _)
 rw[S2] at ok
 rw[show ({s with heap:=s.heap.push {cls:=.type "dict",data:=.dict #[]}}:Shared).heap.objs.size=s.heap.objs.size + 1 from S2 ..]
 rw[List.forIn_nil]
 exact Ra (Rv (Rv (h _ ((Heap.Ns.new s.heap (.type "dict")).keeps (pushCells_keeps _ _)) (λb o e=>pushCells_keeps _ _ b o (Ri _ e)) ok)))
def j9 (X:Cx)(NB:@Id)(scope:Scope)(C:Addr)(ex:List Addr)(s3:Shared)(H3:Hp)(pn:@Do):Cx:=
 {X with N:=NB,s₀:=s3,H₀:=H3,env:=compEnvC scope (Hw X scope C) C X.env,outer:=X.stack,ex:=ex,fn:=λx=>scope.names.lookup x == some .cell,pn:=pn,xe:=λ_ _=>False}
def eY (own:Nat)(ixs:@Ix)(σ:St):St:=List.replicate own none ++ ixs.map λi=>(σ[i]?).join
structure cz (X:Cx)(NB:@Id)(own:Nat)(ixs:@Ix)(scope:Scope):Prop where
 kind:scope.kind=.function
 names:∀y∈scope.names,scope.names.lookup y.1=some y.2
 frees:∀y∈scope.names,y.2=.free->X.env.kindOf y.1=some .cell\/X.env.kindOf y.1=some .free
 nd:NB.Nodup
 len:NB.length=own + ixs.length
 at':∀k,k < ixs.length->NB[own + k]? =X.N[ixs.getD k 0]?/\∀x,NB[own + k]? =some x->(x,NameKind.free)∈scope.names
section
variable {X:Cx}{NB:@Id}{own:Nat}{ixs:@Ix}{scope:Scope}{pins:@Do}{σ:St}{H:Hp}{s:Shared}
def DR (S:cz X NB own ixs scope)(I:@B_){fp:List Addr}(hfp:∀b∈fp,lg X pins H b)(hob:∀b∈fp,∃o,s.heap.get? b=some o){h1:Heap}{tk:Nat}
  (hn:h1.Ns s.heap.objs.size (λ_=>none)) (hk:∀b o,s.heap.get? b=some o->h1.get? b=some o) (hcl:CellsOk h1 (s.heap.objs.size + 1) (cellsFrom (s.heap.objs.size + 1) scope.names [])) :
  Inv (j9 X NB scope s.heap.objs.size fp s H (X.pn ++ pins)) [] (eY own ixs σ) H {s with heap:=h1,toks:=tk}:=by
 have stk:=I.stack
 have frees:∀{x:Str},(x,NameKind.free)∈scope.names->∃c,@No:=λ{x} hx=>I.ok.has x (S.frees _ hx rfl)
 have clE:∀{x:Str} {c:Addr},(Hw X scope s.heap.objs.size).lookup x=some c->((x,c)∈cellsFrom (s.heap.objs.size + 1) scope.names []/\s.heap.objs.size < c)\/((x,NameKind.free)∈scope.names/\@No):=λ{x c} h=>by
  unfold Hw at h
  rw[oJ,List.lookup_append] at h
  cases q:(cellsFrom (s.heap.objs.size + 1) scope.names []).lookup x with
  |some c'=>
   rw[q] at h
   cases h
   have hm:=Sk q
   exact .inl ⟨hm,(sW hm).1⟩
  |none=>
   rw[q] at h
   have h:(jc X.env.cells scope.names []).lookup x=some c:=h
   rcases n6 h with⟨a,b⟩ |a
   ·obtain⟨c',e⟩:=frees a
    rw[e] at b
    exact .inr ⟨a,by rw[e,b];rfl⟩
   ·simp at a
 have clF:∀{x:Str},(x,NameKind.free)∈scope.names->(Hw X scope s.heap.objs.size).lookup x=some ((X.env.cells.lookup x).getD 0):=λ{x} hm=>by
  unfold Hw
  rw[oJ,List.lookup_append]
  cases q:(cellsFrom (s.heap.objs.size + 1) scope.names []).lookup x with
  |some c'=>
   have h1:=S.names _ (sW (Sk q)).2
   have h2:=S.names _ hm
   dsimp only at h1 h2
   rw[h1] at h2
   cases h2
  |none=>exact om (.inl hm)
 have kindB:∀x,(j9 X NB scope s.heap.objs.size fp s H (X.pn ++ pins)).env.kindOf x=(scope.names.lookup x).map λk=>if (k == .free && X.env.scope.kind == .function && X.env.kindOf x == some .cell) then .cell else k:=λx=>t9 scope X.env x
 have isFree:∀{x:Str},((j9 X NB scope s.heap.objs.size fp s H (X.pn ++ pins)).env.kindOf x=some .cell\/(j9 X NB scope s.heap.objs.size fp s H (X.pn ++ pins)).env.kindOf x=some .free)->(x,NameKind.free)∈scope.names\/scope.names.lookup x=some .cell:=λ{x} h=>by
  rw[kindB] at h
  cases e:scope.names.lookup x with
  |none=>rw[e] at h;simp at h
  |some k=>
   have hm:=Sk e
   cases k with
   |free=>exact .inl hm
   |cell=>exact .inr rfl
   |_=>rw[e] at h;simp at h
 have neN:∀b o,s.heap.get? b=some o->b≠s.heap.objs.size:=λb o e=>R6 (Rx e)
 have cellN:∀{x:Str} {c:Addr},@No->c < s.heap.objs.size:=λ{x c} e=>by
  obtain⟨v,o,ho,_⟩:=I.cell x c e
  exact Rx ho
 have ok:(j9 X NB scope s.heap.objs.size fp s H (X.pn ++ pins)).Ok:=by
  refine⟨I.ok.mod,S.kind,I.ok.glob,I.ok.blt,Rh _,λx y c h1 h2=>?_,λx hx=>?_,λx c h hc=>?_,I.ok.hd,I.ok.frames,.inl rfl,λb hb=>?_,I.bs,Sd I.ok.bsz I.sz,λb o e hb=>?_,λb hb hs=>?_,stk,I.stkFree⟩
  ·rcases clE h1 with⟨a,l1⟩ | ⟨a,l1⟩
   ·rcases clE h2 with⟨b,l2⟩ | ⟨b,l2⟩
    ·exact name_of_addr hcl.apart a b
    ·exact absurd (Ur l1 (cellN l2)) (RU _)
   ·rcases clE h2 with⟨b,l2⟩ | ⟨b,l2⟩
    ·exact absurd (Ur l2 (cellN l1)) (RU _)
    ·exact I.ok.inj x y c l1 l2
  ·rcases isFree hx with hm |hm
   ·exact⟨_,clF hm⟩
   ·obtain⟨c,hc⟩:=Option.isSome_iff_exists.mp (PySem.W.cellsFrom_some scope.names (s.heap.objs.size + 1) (jc X.env.cells scope.names []) (.inl hm))
    exact⟨c,hc⟩
  ·rcases clE hc with⟨a,l1⟩ | ⟨a,l1⟩
   ·exact Tq l1
   ·have h1:=S.names _ a
    dsimp only at h1
    have h:(scope.names.lookup x == some NameKind.cell)=true:=h
    rw[h1] at h
    cases h
  ·obtain⟨_,f1,f2,f3,f4,f5⟩:=hfp b hb
   obtain⟨o,ho⟩:=hob b hb
   refine⟨neN b o ho,λx c h z=>?_⟩
   rcases clE h with⟨a,l1⟩ | ⟨a,l1⟩
   ·rw[z] at l1
    exact RU _ (Ur l1 (Rx ho))
   ·exact f4 x c l1 z
  ·obtain⟨_,f1,f2,f3,f4,f5⟩:=hfp b hb
   rcases f3 with f3 |f3
   ·exact I.ok.noex b o e f3
   ·exact absurd (RY (Rx e) (Sd I.ok.bsz f3)) (RU _)
  ·obtain⟨_,f1,f2,f3,f4,f5⟩:=hfp b hb
   rcases Rm.mp (I.stkSub b hs) with z |z
   ·exact f1 z
   ·exact f2 z
 refine⟨ok,rfl,I.bare,Un.kept hk,⟨_,hn,λi x v h1' h2' h3'=>?_⟩,λx c h=>?_,I.hok.fresh (Rh _),λx c h=>?_,λp hp=>?_,I.hok.kept hk,?_⟩
 ·
  have h1':NB[i]? =some x:=h1'
  have hown:own<=i:=by
   refine Classical.byContradiction λhc=>?_
   have hlt:i < own:=Nat.lt_of_not_le hc
   unfold eY at h2'
   rw[RX (by simpa using hlt),Sw,Rg hlt] at h2'
   cases h2'
  obtain⟨k,rfl⟩:∃k,i=own + k:=⟨i - own,@AT ⟩
  have hk':k < ixs.length:=by
   have:=(Rn.mp h1').1
   rw[S.len] at this;omega
  obtain⟨e1,e2⟩:=S.at' k hk'
  have hm:=e2 x h1'
  unfold eY at h2'
  rw[R3 (@KM),Sj,Nat.add_sub_cancel_left,RA,Rf hk'] at h2'
  simp only[Option.map_some,Option.some.injEq] at h2'
  have hix:ixs.getD k 0=ixs[k]:=by simp[hk']
  have hσ:σ[ixs[k]]? =some (some v):=by
   cases e:σ[ixs[k]]? with
   |none=>rw[e] at h2';cases h2'
   |some o=>rw[e] at h2';simp at h2';rw[h2']
  rw[e1,hix] at h1'
  have hkind:=S.frees _ hm rfl
  have hvis:BN X.env.scope x:=hkind.elim (λz=>.inr (.inl z)) (λz=>.inr (.inr z))
  obtain⟨m,hm',hl⟩:=I.loc
  obtain⟨u,r,look⟩:=hl _ x v h1' hσ hvis
  refine⟨u,r,.inr ⟨?_,?_⟩⟩
  ·rw[kindB]
   have hfr:scope.names.lookup x=some .free:=S.names _ hm
   rw[hfr]
   simp only[Option.map_some]
   split
   ·exact .inl rfl
   ·exact .inr rfl
  ·rcases look with⟨z,_⟩ | ⟨_,c,hc,hcell⟩
   ·rcases hkind with q |q
    ·rw[q] at z;cases z
    ·rw[q] at z;cases z
   ·refine⟨c,?_,?_⟩
    ·have:=clF hm
     rw[hc] at this
     exact this
    ·obtain⟨o,ho,hd⟩:=hcell
     exact⟨o,hk _ _ ho,hd⟩
 ·rcases clE h with⟨a,_⟩ | ⟨_,l1⟩
  ·exact⟨_,(hcl.empty _ _ a).1⟩
  ·obtain⟨v,o,ho,hd⟩:=I.cell x c l1
   exact⟨v,o,hk _ _ ho,hd⟩
 ·rcases clE h with⟨_,l1⟩ | ⟨_,l1⟩
  ·exact I.hok.fresh (Tq l1)
  ·exact I.freeC x c l1
 ·have hp':p∈X.pn ++ pins:=by
   rcases Rw.mp hp with z |z
   ·exact z
   ·cases z
  obtain⟨e,n,ne,nf,d⟩:=I.pin p hp'
  refine⟨hk _ _ e,n,neN _ _ e,λz=>?_,d⟩
  rcases Rm.mp (I.stkSub _ z) with q |q
  ·exact ne q
  ·exact nf q
 ·show (eY own ixs σ).length=NB.length
  unfold eY
  rw[S.len];simp
end
abbrev Be (ifs:List Expr)(env:Env):Sem Bool:=forIn ifs true λc r=>if r=true then do let ok <-isTrue c env (eval c env);pure (ForInStep.yield ok) else pure (ForInStep.yield r)
theorem CA {prog:Program}{w:World}{A:Around}{R:Result->Shared->Prop}{s:Shared}{elt target iter:Expr}{ifs:List Expr}{scope:Scope}{pos:Pos}{it acc:Value}{env:Env}(I:Nat->Shared->Prop)
  (turn:∀n s,I n s->wpAny @TW A (pyNext it) (λr s1=>match r with
   |none=>R (.ok .next) s1
   |some v=>wpAny @TW A (letOwnedTupleGo target it v) (λ_ s1'=>wpAny @TW A (assign target env v) (λ_ s2=>
     wpAny @TW A (Be ifs env) (λok s3=>
      if ok=true then wpAny @TW A (eval elt env) (λx s4=>wpAny @TW A (call (.builtin "list.append") [acc,x]) (λ_ s5=>∃m,m < n/\I m s5) (λ_ _=>False) s4) (λ_ _=>False) s3
      else ∃m,m < n/\I m s3) (λ_ _=>False) s2) (λ_ _=>False) s1') (λ_ _=>False) s1) (λ_ _=>False) s)
  (n:Nat) (h:I n s):codeAny @TW A (.compLoop (.ListComp elt [⟨target,iter,ifs,0⟩] scope pos) 0 it acc env) R s:=by
 refine codeAny_loop rfl I (λn s hI=>?_) n h
 (show wpAny _ A ((compTurn (.ListComp elt [⟨target,iter,ifs,0⟩] scope pos) 0 it acc env).onRaise (λx=>do (noteFrame x env);theTreesLotGoes x)) _ _ s)
 refine wpAny_noted ?_
 rw[compTurn_list]
 refine Ra (wpAny_standAt (Ra (Sy (turn n s hI) (λr s1 h1=>?_) λ_ _ z=>z.elim)))
 cases r with
 |none=>exact Rv h1
 |some v=>
  refine Ra (Sy h1 (λ_ s1' h1'=>?_) λ_ _ z=>z.elim)
  refine Ra (Sy h1' (λ_ s2 h2=>Ra (Sy h2 (λok s3 h3=>?_) λ_ _ z=>z.elim)) λ_ _ z=>z.elim)
  cases ok with
  |false=>exact Rv ⟨rfl,h3⟩
  |true=>exact Ra (Ra (Sy h3 (λx s4 h4=>Ra (Sy h4 (λ_ s5 h5=>Rv (Rv ⟨rfl,h5⟩)) λ_ _ z=>z.elim)) λ_ _ z=>z.elim))
def E6 (X:Cx)(ifs:List Expr)(t:TT):Prop:=
 ∀(pins:@Do) (s:Shared) (σ:St) (H:Hp) (Q:Bool->@P3),@B_->t σ H Q->wpAny @Ev X.A (Be ifs X.env) (TP X pins σ Q) X.xe s
def L3:TT:=λ_ H Q=>Q true H
def wG {X:Cx}:E6 X [] L3:=λpins s σ H Q I h=>Rv ⟨H,I,h⟩
def BE {X:Cx}{c:Expr}{t:TT}(h:PT X c t):E6 X [c] t:=λpins s σ H Q I q=>wpAny_tests_one (h pins s σ H Q I q)
def AZ (own:Nat)(ixs:@Ix)(wi:TI)(g:TG)(tt:TT)(te:TE)(σ:St)(H:Hp)(Q:VK):Prop:=wi σ H λJ H1=>∀D,H1 D=none->∃W:Nat->Nat->St->@P3,(∃m,W 0 m (eY own ixs σ) (upd H1 D (.lst [])))/\∀i m σ' H',W i m σ' H'->
 (J.stop i H'/\(∃acc,H' D=some (.lst acc))/\Q (.ref D) H')\/
 (J.go i H'/\∃N:St->@P3,(∀σ2 H2,N σ2 H2->∃m',m' < m/\W (i + 1) m' σ2 H2)/\∀x H2,J.yld i H' x H2->g x σ' H2 λσ3 H3=>tt σ3 H3 λb H4=>
  if b=true then te σ3 H4 λv H5=>∃acc,H5 D=some (.lst acc)/\acc.length < sizeLine/\N σ3 (upd H5 D (.lst (acc ++ [v]))) else N σ3 H4)
section
variable {X:Cx}{NB:@Id}{own:Nat}{ixs:@Ix}{scope:Scope}{elt tg iter:Expr}{ifs:List Expr}{pos:Pos}{wi:TI}{g:TG}{tt:TT}{te:TE}
def vm (hc:X.calm=true)(S:cz X NB own ixs scope)
  (hg:∀C ex s3 H3 pn,PG @KB tg g) (ht:∀C ex s3 H3 pn,E6 @KB ifs tt) (he:∀C ex s3 H3 pn,PE @KB elt te)
  {pins:@Do} {σ:St} {H1:Hp} {s2:Shared} {it:Addr} {fp:List Addr} {tn:Nat->Heap->Prop} {J:It} {Q:VK} (I2:Inv X pins σ H1 s2) (T:Turn X.prog X.w X.K tg J fp it tn) (st2:tn 0 s2.heap) (f2:∀b∈fp,lg X pins H1 b)
  (hQ:∀D,H1 D=none->∃W:Nat->Nat->St->@P3,(∃m,W 0 m (eY own ixs σ) (upd H1 D (.lst [])))/\∀i m σ' H',W i m σ' H'->
   (J.stop i H'/\(∃acc,H' D=some (.lst acc))/\Q (.ref D) H')\/
   (J.go i H'/\∃N:St->@P3,(∀σ2 H2,N σ2 H2->∃m',m' < m/\W (i + 1) m' σ2 H2)/\∀x H2,J.yld i H' x H2->g x σ' H2 λσ3 H3=>tt σ3 H3 λb H4=>
    if b=true then te σ3 H4 λv H5=>∃acc,H5 D=some (.lst acc)/\acc.length < sizeLine/\N σ3 (upd H5 D (.lst (acc ++ [v]))) else N σ3 H4))
  {E:@EQ} {RR:Value->Addr->Result->Shared->Prop}
  (fin:∀D C H' s' m,Inv X pins σ H' s'->Q (.ref D) H'->s'.heap.Ns C m->H' C=none->C≠X.env.locals->(∀x c,@No->c≠C)->X.s₀.heap.objs.size<=C->(∀p∈X.pn ++ pins,p.1≠C)->RR (.ref D) C (.ok .next) s') :
  wpAny @Ev X.A (newList []) (λacc s3=>wpAny @Ev X.A (newFunctionEnv scope X.env.globals (jc X.env.cells scope.names []) [] X.env.qual none .none (some X.env)) (λcenv s4=>
   codeAny @Ev X.A (.compStart @Os 0 (.ref it) acc {cenv with scope:=relabel scope X.env}) (RR acc cenv.locals) s4) E s3) E s2:=by
 refine wpAny_newList ?_ (Sb _)
 have hD:H1 s2.heap.objs.size=none:=I2.hok.fresh (Rh _)
 obtain⟨W,⟨m0,w0⟩,turn⟩:=hQ s2.heap.objs.size hD
 generalize hs3:({s2 with heap:=s2.heap.push (seqObj "list" ([]:@G_).toArray 0)}:Shared)=s3
 have I3:Inv X pins σ (upd H1 s2.heap.objs.size (.lst [])) s3:=by
  rw[<-hs3]
  exact I2.lnew (ys:=[]) (its:=[]) (t':=s2.toks) .nil (Sb _)
 have k3:∀b o,s2.heap.get? b=some o->s3.heap.get? b=some o:=λb o e=>by rw[<-hs3];exact Ri _ e
 have sz3:s3.heap.objs.size=s2.heap.objs.size + 1:=by rw[<-hs3];exact S2 ..
 have ob2:∀b∈fp,∃o,s2.heap.get? b=some o:=λb hb=>let ⟨o,e,_⟩:=T.obj 0 _ st2 b hb;⟨o,e⟩
 have neD:∀b∈fp,b≠s2.heap.objs.size:=λb hb=>let ⟨o,e⟩:=ob2 b hb;R6 (Rx e)
 have f3:∀b∈fp,lg X pins (upd H1 s2.heap.objs.size (.lst [])) b:=λb hb=>by
  obtain⟨a1,a2⟩:=f2 b hb
  exact⟨by rw[aC (neD b hb)];exact a1,a2⟩
 have st3:tn 0 s3.heap:=T.keep _ _ _ st2 λb _ o e=>k3 b o e
 refine IX λh4 hn4 k4 ok4=>?_
 have I4:Inv (j9 X NB scope s3.heap.objs.size fp s3 (upd H1 s2.heap.objs.size (.lst [])) (X.pn ++ pins)) [] (eY own ixs σ) (upd H1 s2.heap.objs.size (.lst [])) {s3 with heap:=h4}:=
  DR S I3 f3 (λb hb=>let ⟨o,e⟩:=ob2 b hb;⟨o,k3 _ _ e⟩) hn4 k4 ok4
 have st4:tn 0 h4:=T.keep _ _ _ st3 λb _ o e=>k4 b o e
 generalize hB:j9 X NB scope s3.heap.objs.size fp s3 (upd H1 s2.heap.objs.size (.lst [])) (X.pn ++ pins)=B at I4
 have hgB:PG B tg g:=by rw[<-hB];exact hg _ _ _ _ _
 have htB:E6 B ifs tt:=by rw[<-hB];exact ht _ _ _ _ _
 have heB:PE B elt te:=by rw[<-hB];exact he _ _ _ _ _
 have eP:B.prog=X.prog:=by rw[<-hB];rfl
 have eW:B.w=X.w:=by rw[<-hB];rfl
 have eK:B.K=X.K:=by rw[<-hB];rfl
 have eA:B.A=X.A:=by rw[<-hB];rfl
 have eC:B.calm=true:=by rw[<-hB];exact hc
 have eX:B.xe=λ_ _=>False:=by rw[<-hB];rfl
 have eE:B.env=compEnvC scope (Hw X scope s3.heap.objs.size) s3.heap.objs.size X.env:=by rw[<-hB];rfl
 have ex:B.ex=fp:=by rw[<-hB];rfl
 have eL:B.env.locals=s3.heap.objs.size:=by rw[eE];rfl
 have stat:∀{H':Hp},(∀b∈fp,H' b=none)->∀b∈fp,lg B [] H' b:=λ{H'} hn b hb=>by
  obtain⟨a1,a2,a3,a4,a5,a6⟩:=f3 b hb
  obtain⟨o,eo⟩:=ob2 b hb
  refine⟨hn b hb,?_,λz=>?_,.inl (by rw[ex];exact hb),λx c e z=>?_,λp hp z=>?_⟩
  ·rw[eL];exact R6 (Rx (k3 _ _ eo))
  ·have hz:b∈pf X.stack:=by rw[<-hB] at z;exact z
   rcases Rm.mp (I3.stkSub b hz) with q |q
   ·exact a2 q
   ·exact a3 q
  ·rw[eE] at e
   have e:(Hw X scope s3.heap.objs.size).lookup x=some c:=e
   unfold Hw at e
   rw[oJ,List.lookup_append] at e
   cases q:(cellsFrom (s3.heap.objs.size + 1) scope.names []).lookup x with
   |some c'=>
    rw[q] at e
    cases e
    have l1:=(sW (Sk q)).1
    rw[z] at l1
    exact RU _ (Ur l1 (Rx (k3 _ _ eo)))
   |none=>
    rw[q] at e
    have e:(jc X.env.cells scope.names []).lookup x=some c:=e
    rcases n6 e with⟨m1,m2⟩ |m1
    ·obtain⟨c',e'⟩:=I3.ok.has x (S.frees _ m1 rfl)
     rw[e'] at m2
     exact a5 x c' e' (by rw[<-z,m2];rfl)
    ·simp at m1
  ·have hp':p∈X.pn ++ pins:=by
    rw[<-hB] at hp
    rcases Rw.mp hp with q |q
    ·exact q
    ·cases q
   exact a6 p hp' z
 have back:∀{σ':St} {H':Hp} {s':Shared},Inv B [] σ' H' s'->Inv X pins σ H' s':=λ{σ' H' s'} J'=>by
  have u:=J'.base
  have os:=J'.os
  have bare:=J'.bare
  have hok:=J'.hok
  subst hB
  exact I3.call' (ch:=fp) os u hok bare λb hb=>by
   obtain⟨a1,a2,a3,a4,a5,a6⟩:=f3 b hb
   exact⟨a4,a2,a5,a6⟩
 have loop:∀s5:Shared,s5={s3 with heap:=h4}->
   codeAny @Ev X.A (.compLoop @Os 0 (.ref it) (.ref s2.heap.objs.size) (compEnvC scope (Hw X scope s3.heap.objs.size) s3.heap.objs.size X.env)) (RR (.ref s2.heap.objs.size) s3.heap.objs.size) s5:=by
  rintro s5 rfl
  refine CA (λn s'=>∃i σ' H',Inv B [] σ' H' s'/\tn i s'.heap/\(∀b∈fp,H' b=none)/\W i n σ' H') ?_ m0 ⟨0,_,_,I4,st4,λb hb=>(f3 b hb).1,w0⟩
  rintro n s6 ⟨i,σ6,H6,I6,st6,fr6,w6⟩
  rcases turn i n σ6 H6 w6 with⟨stop,⟨acc,hacc⟩,qn⟩ | ⟨go,N,hN,step⟩
  ·have:=T.done B eP eW eK eC i [] s6 σ6 H6 (λ_ _=>False) I6 (stat fr6) st6 stop
   rw[eA] at this
   refine cZ this λr s7 ⟨hr,I7⟩=>?_
   subst hr
   obtain⟨m7,hn7,_⟩:=I7.loc
   rw[eL] at hn7
   have J7:=back I7
   refine fin _ _ H6 s7 m7 J7 qn hn7 (by rw[<-eL];exact I7.free) (λz=>?_) (λx c e z=>?_) ?_ λp hp z=>?_
   ·have:=I3.lt
    rw[<-z] at this
    exact RU _ this
   ·obtain⟨v,o,ho,_⟩:=I3.cell x c e
    exact absurd (Rx ho) (by rw[z];exact RU _)
   ·exact I3.sz
   ·have:=Rx (I3.pin p hp).1
    rw[z] at this
    exact RU _ this
  ·have hitem:=T.item B eP eW eK eC i [] s6 σ6 H6 (λ_ _=>False) I6 (stat fr6) st6 go
   rw[eA] at hitem
   refine cZ hitem λr s7 ⟨u,hr,h7⟩=>?_
   subst hr
   refine cZ h7 λ_ s8 ⟨x,H8,I8,r8,y8,st8,fr8⟩=>?_
   have I8':=I8.pinned (stat fr8) (T.obj _ _ st8)
   have ha:=hgB _ s8 σ6 H8 x u _ I8' r8 (step x H8 y8)
   rw[eP,eW,eA,eE,eX] at ha
   refine cZ ha λ_ s9 ⟨σ9,H9,I9,q9⟩=>?_
   have hb:=htB _ s9 σ9 H9 _ I9 q9
   rw[eP,eW,eA,eE,eX] at hb
   refine cZ hb λok s10 ⟨H10,I10,q10⟩=>?_
   have again:∀{σ7:St} {H7:Hp} {s7:Shared},Inv B ([] ++ rX fp s8.heap) σ7 H7 s7->N σ7 H7->∃m,m < n/\∃i σ' H',Inv B [] σ' H' s7/\tn i s7.heap/\(∀b∈fp,H' b=none)/\W i m σ' H':=λ{σ7 H7 s7} I7 n7=>by
    obtain⟨m',hm,w7⟩:=hN σ7 H7 n7
    refine⟨m',hm,i + 1,σ7,H7,I7.unpinned,T.keep _ _ _ st8 λb hb o e=>(I7.pin (b,o) (RJ _ (RJ _ (ml hb e)))).1,λb hb=>?_,w7⟩
    obtain⟨o,e,d⟩:=T.obj _ _ st8 b hb
    exact (I7.pin (b,o) (RJ _ (RJ _ (ml hb e)))).2.1
   cases ok with
   |false=>
    simp only[Sr,SX] at q10 ⊢
    exact again I10 q10
   |true=>
    simp only[SK] at q10 ⊢
    have hv:=heB _ s10 σ9 H10 _ I10 q10
    rw[eP,eW,eA,eE,eX] at hv
    refine cZ hv λy s11 ⟨v,H11,I11,r11,acc,hacc,hz,q11⟩=>?_
    have hap:=qu (X:=B) _ s11 σ9 H11 (.ref s2.heap.objs.size) [v] (.ref s2.heap.objs.size) [y] (λz H'=>z=.non/\N σ9 H') I11 rfl (.cons r11 .nil) ⟨_,acc,v,rfl,rfl,hacc,hz,rfl,q11⟩
    rw[eP,eW,eA,eX] at hap
    exact cZ hap λ_ s12 ⟨_,H12,I12,_,_,q12⟩=>again I12 q12
 exact codeAny_compStart_list (loop _ rfl) (T.self X.A 0 _ _ _ st4 (loop _ rfl))
def zC (hc:X.calm=true)(S:cz X NB own ixs scope)(hi:PI X tg iter wi)
  (hg:∀C ex s3 H3 pn,PG @KB tg g) (ht:∀C ex s3 H3 pn,E6 @KB ifs tt) (he:∀C ex s3 H3 pn,PE @KB elt te)
  (hs:∀x,foldedSetIterable iter X.env x=pure x:=by intro _;rfl) :
  PE X @Os (AZ own ixs wi g tt te):=by
 intro pins s σ H Q I h
 rw[eval_ListComp]
 refine wpAny_comprehension_free (use:=none) rfl hs (o6 λy hy e=>I.ok.has _ (S.frees y hy e)) S.kind (λy hy e=>by rw[S.names y hy,e]) ?_
 refine cZ (hi pins s σ H _ I h) λv s1 h1=>cZ h1 λitv s2 h2=>?_
 obtain⟨it,fp,tn,J,H2,e,I2,T,st2,f2,q2⟩:=h2
 subst e
 refine vm hc S hg ht he I2 T st2 f2 q2 (RR:=λacc C=>compPost @Ev X.A X.xe none (EP X pins σ Q) acc C) λD C H' s' m J' q hn hC n1 n2 n3 n4=>?_
 refine⟨m,hn,λh'' sb=>⟨.ref D,H',?_,rfl,q⟩⟩
 exact J'.turned (t':=s'.toks) (it:=C) (λb o hb e=>sb.extBut b o hb e) hC n1 (.inr n3) n2 n4
def FU {i:Nat}{y:Str}{py spos:Pos}(hc:X.calm=true)(S:cz X NB own ixs scope)(hi:PI X tg iter wi)
  (hg:∀C ex s3 H3 pn,PG @KB tg g) (ht:∀C ex s3 H3 pn,E6 @KB ifs tt) (he:∀C ex s3 H3 pn,PE @KB elt te)
  (hN:X.N.Nodup) (hy:X.N[i]? =some y) (hl:X.env.scope.names.lookup y=some .local)
  (hsw:swapsWith @Os (some (.Name y py)) spos.line X.env=pure true)
  (hs:∀x,foldedSetIterable iter X.env x=pure x:=by intro _;rfl) :
  PS X (.Assign [.Name y py] @Os spos) (λD σ H=>AZ own ixs wi g tt te σ H λv H'=>D.nx (σ.set i (some v)) H'):=by
 intro pins s σ H D I h
 rw[exec_Assign_Name_used _ _ _ _ hsw]
 refine Ra (wpAny_standAt (Ra ?_))
 show wpAny _ X.A (comprehension @Os scope X.env _ (newList []) false (eval iter X.env) (some (assign (.Name y py) X.env)) >>= λ_=>pure ()) _ _ s
 refine Ra (Sy (wpAny_comprehension_free (use:=some (assign (.Name y py) X.env)) (Q:=λ_ s'=>SP X pins D .next s') rfl hs (o6 λy hy e=>I.ok.has _ (S.frees y hy e)) S.kind (λy hy e=>by rw[S.names y hy,e]) ?_)
  (λ_ s' hq=>Rv (Rv hq)) λ_ _ e=>e)
 refine cZ (hi pins s σ H _ I h) λv s1 h1=>cZ h1 λitv s2 h2=>?_
 obtain⟨it,fp,tn,J,H2,e,I2,T,st2,f2,q2⟩:=h2
 subst e
 refine vm hc S hg ht he I2 T st2 f2 q2 (Q:=λv H'=>D.nx (σ.set i (some v)) H') (RR:=λacc C=>compPost @Ev X.A X.xe (some (assign (.Name y py) X.env)) (λ_ s'=>SP X pins D .next s') acc C) λD' C H' s' m J' q hn hC n1 n2 n3 n4=>?_
 show wpAny _ X.A (assign (.Name y py) X.env (.ref D')) _ _ s'
 refine wpAny_assign_Name (vO J' hN hy (.inl hl) (v:=.ref D') rfl (λs'' I'' ⟨a,sb,ha⟩=>?_) (.inr hl))
 have hCa:C≠a:=by
  rcases ha with z |z
  ·rw[z];exact n1
  ·exact (n2 _ _ z).symm
 refine⟨m,hn.sameBut sb hCa,λh3 sb3=>⟨_,H',?_,q⟩⟩
 exact I''.turned (t':=s''.toks) (it:=C) (λb o hb e=>sb3.extBut b o hb e) hC n1 (.inr n3) n2 n4
end
section
variable {own:Nat}{ixs:@Ix}{g:TG}{tt:TT}{te:TE}{σ:St}{H:Hp}{Q:VK}{K:Frag}{D a:Addr}{xs:List V}
abbrev gH (g:TG)(tt:TT)(te:TE)(D:Addr)(x:V)(σ:St)(H:Hp)(N:St->@P3):Prop:=g x σ H λσ3 H3=>tt σ3 H3 λb H4=>
  if b=true then te σ3 H4 λv H5=>∃acc,H5 D=some (.lst acc)/\acc.length < sizeLine/\N σ3 (upd H5 D (.lst (acc ++ [v]))) else N σ3 H4
def Dt (Pv:Nat->St->@P3)(h0:Pv 0 (eY own ixs σ) (upd H D (.lst [])))(hl:∀i σ H,i<=xs.length->Pv i σ H->ji K H a xs)
  (hs:∀i x σ H,xs[i]? =some x->Pv i σ H->gH g tt te D x σ H (Pv (i + 1))) (hd:∀σ H,Pv xs.length σ H->(∃acc,H D=some (.lst acc))/\Q (.ref D) H) :
  ∃W:Nat->Nat->St->@P3,(∃m,W 0 m (eY own ixs σ) (upd H D (.lst [])))/\∀i m σ' H',W i m σ' H'->
   ((DA K a).stop i H'/\(∃acc,H' D=some (.lst acc))/\Q (.ref D) H')\/
   ((DA K a).go i H'/\∃N:St->@P3,(∀σ2 H2,N σ2 H2->∃m',m' < m/\W (i + 1) m' σ2 H2)/\∀x H2,(DA K a).yld i H' x H2->gH g tt te D x σ' H2 N):=by
 refine⟨λi m σ H=>m=xs.length - i/\i<=xs.length/\Pv i σ H,⟨xs.length,@KM,Sb _,h0⟩,?_⟩
 rintro i m σ H ⟨rfl,hi,p⟩
 have q:=hl i σ H hi p
 by_cases hlt:i < xs.length
 ·refine .inr ⟨⟨xs,xs[i],q,by simp[hlt]⟩,Pv (i + 1),λσ' H' p'=>⟨xs.length - (i + 1),@AT,rfl,hlt,p'⟩,λx H' y=>?_⟩
  obtain⟨e,y⟩:=y
  subst e
  exact hs i x σ _ (y xs q) p
 ·have e:i=xs.length:=@AT
  subst e
  exact .inl ⟨⟨xs,q,Rh _⟩,hd σ H p⟩
def AB {lo:Int}{n:Nat}(Pv:Nat->St->@P3)(h0:Pv 0 (eY own ixs σ) (upd H D (.lst [])))
  (hs:∀i σ H,i < n->Pv i σ H->gH g tt te D (.int (lo + i)) σ H (Pv (i + 1))) (hd:∀σ H,Pv n σ H->(∃acc,H D=some (.lst acc))/\Q (.ref D) H) :
  ∃W:Nat->Nat->St->@P3,(∃m,W 0 m (eY own ixs σ) (upd H D (.lst [])))/\∀i m σ' H',W i m σ' H'->
   ((El lo n).stop i H'/\(∃acc,H' D=some (.lst acc))/\Q (.ref D) H')\/
   ((El lo n).go i H'/\∃N:St->@P3,(∀σ2 H2,N σ2 H2->∃m',m' < m/\W (i + 1) m' σ2 H2)/\∀x H2,(El lo n).yld i H' x H2->gH g tt te D x σ' H2 N):=by
 refine⟨λi m σ H=>m=n - i/\i<=n/\Pv i σ H,⟨n,@KM,Sb _,h0⟩,?_⟩
 rintro i m σ H ⟨rfl,hi,p⟩
 by_cases hlt:i < n
 ·refine .inr ⟨hlt,Pv (i + 1),λσ' H' p'=>⟨n - (i + 1),@AT,rfl,hlt,p'⟩,λx H' y=>?_⟩
  obtain⟨e,y⟩:=y
  subst e y
  exact hs i σ _ hlt p
 ·have e:i=n:=@AT
  subst e
  exact .inl ⟨Rh _,hd σ H p⟩
end
mutual
inductive Rep (K:Frag)(H:Hp):V->PyData->Prop
 |non:Rep K H .non .none
 |bl (b:Bool):Rep K H (.bl b) (.bool b)
 |int (i:Int):Rep K H (.int i) (.int i)
 |str (x:Str):Rep K H (.str x) (.str x)
 |tup {a:Addr} {xs:List V} {ds:List PyData}:gr K H a xs->lP K H xs ds->Rep K H (.ref a) (.tuple ds)
 |lst {a:Addr} {xs:List V} {ds:List PyData}:ji K H a xs->lP K H xs ds->Rep K H (.ref a) (.list ds)
inductive lP (K:Frag)(H:Hp):List V->List PyData->Prop
 |nil:lP K H [] []
 |cons {x:V} {xs:List V} {d:PyData} {ds:List PyData}:Rep K H x d->lP K H xs ds->lP K H (x :: xs) (d :: ds)
end
section
variable {X:Cx}{pins:@Do}{σ:St}{H H':Hp}{s:Shared}
mutual
theorem Rep.reads (I:@B_):∀{x:V} {d:PyData} {u:Value},Rep X.K H x d->RelV x u->∃as,Reads s.heap u d as
 |_,_,_,.non,r=>by cases r;exact⟨_,.none⟩
 |_,_,_,.bl b,r=>by cases r;exact⟨_,.bool b⟩
 |_,_,_,.int i,r=>by obtain⟨t,rfl⟩:=r;exact⟨_,.int i t⟩
 |_,_,_,.str x,r=>by obtain⟨t,rfl⟩:=r;exact⟨_,.str x t⟩
 |_,_,_,.tup h hs,r=>by
  cases r
  obtain⟨its,rv,⟨o,ho,hc,n,hd⟩,_⟩:=I.tuple h
  obtain⟨as,q⟩:=lP.reads I hs rv
  exact⟨_,.tuple ho hc hd (by simpa using q)⟩
 |_,_,_,.lst h hs,r=>by
  cases r
  obtain⟨its,rv,pl,_⟩:=I.list h
  obtain⟨o,ho,hc,n,hd⟩:=pl.isList
  obtain⟨as,q⟩:=lP.reads I hs rv
  exact⟨_,.list ho hc hd (by simpa using q)⟩
theorem lP.reads (I:@B_):∀{xs:List V} {ds:List PyData} {us:@G_},lP X.K H xs ds->Vals xs us->∃as,ReadsAll s.heap us ds as
 |_,_,_,.nil,r=>by cases r;exact⟨_,.nil⟩
 |_,_,_,.cons h hs,r=>by
  cases r with
  |cons r1 r2=>
   obtain⟨as,q⟩:=Rep.reads I h r1
   obtain⟨bs,q'⟩:=lP.reads I hs r2
   exact⟨_,.cons q q'⟩
end
def Kw (K:Frag)(neg:Bool):R2:=λx y H Q=>∃d e,Rep K H x d/\Rep K H y e/\SeqAt.shaped d=true/\SeqAt.shaped e=true/\Q (.bl (if neg then !PyData.eqv d e else PyData.eqv d e)) H
def gQ (hu:X.A.units + 64 < cLine):m6 X (compareOp .Eq) (Kw X.K false):=by
 intro pins s σ H x y v u Q I rx ry h
 obtain⟨d,e,h1,h2,s1,s2,q⟩:=h
 obtain⟨as,r1⟩:=h1.reads I rx
 obtain⟨bs,r2⟩:=h2.reads I ry
 exact SeqAt.compareEq_shaped r1 r2 s1 s2 hu ⟨.bl _,H,I,rfl,q⟩
def jL (hu:X.A.units + 64 < cLine):m6 X (compareOp .NotEq) (Kw X.K true):=by
 intro pins s σ H x y v u Q I rx ry h
 obtain⟨d,e,h1,h2,s1,s2,q⟩:=h
 obtain⟨as,r1⟩:=h1.reads I rx
 obtain⟨bs,r2⟩:=h2.reads I ry
 exact SeqAt.compareNe_shaped r1 r2 s1 s2 hu ⟨.bl _,H,I,rfl,q⟩
def MM (K:Frag)(neg:Bool):R2:=λx y H Q=>∃p xs d ds,y=.ref p/\(ji K H p xs\/gr K H p xs)/\lP K H xs ds/\Rep K H x d/\SeqAt.shaped d=true/\(∀e,e∈ds->SeqAt.shaped e=true)/\
 Q (.bl (if neg then !(ds.any λe=>PyData.eqv e d) else ds.any λe=>PyData.eqv e d)) H
theorem lP.at' {K:Frag}:∀{xs:List V} {ds:List PyData} {i:Nat} {x:V},lP K H xs ds->xs[i]? =some x->∃d,ds[i]? =some d/\Rep K H x d
 |_,_,_,_,.nil,e=>by simp at e
 |_,_,0,_,.cons r _,e=>by simp at e;subst e;exact⟨_,rfl,r⟩
 |_,_,i + 1,x,.cons _ t,e=>by
  obtain⟨u,h1,h2⟩:=lP.at' (i:=i) (x:=x) t (by simpa using e)
  exact⟨u,by simpa using h1,h2⟩
theorem lP.len {K:Frag}:∀{xs:List V} {ds:List PyData},lP K H xs ds->xs.length=ds.length
 |_,_,.nil=>rfl
 |_,_,.cons _ t=>by simp[lP.len t]
open Classical in
theorem pP (I:@B_)(d:PyData):∀{xs:List V} {us:@G_} {ds:List PyData},Vals xs us->lP X.K H xs ds->(∀e,e∈ds->SeqAt.shaped e=true)->∃f:Value->Bool,us.any f=(ds.any λe=>PyData.eqv e d)/\∀u,u∈us->∃e as,e∈ds/\Reads s.heap u e as/\f u=PyData.eqv e d:=by
 intro xs us ds hv hr hs
 let f:Value->Bool:=λu=>if h:∃e as,SeqAt.shaped e=true/\Reads s.heap u e as then PyData.eqv (Classical.choose h) d else false
 have hf:∀{u:Value} {e:PyData} {as:List Addr},SeqAt.shaped e=true->Reads s.heap u e as->f u=PyData.eqv e d:=λ{u e as} h1 h2=>by
  have hx:∃e as,SeqAt.shaped e=true/\Reads s.heap u e as:=⟨e,as,h1,h2⟩
  show (if h:∃e as,SeqAt.shaped e=true/\Reads s.heap u e as then PyData.eqv (Classical.choose h) d else false)=_
  rw[dif_pos hx]
  obtain⟨bs,q1,q2⟩:=Classical.choose_spec hx
  rw[SeqAt.Reads.unique _ _ _ _ _ (S9 q1) q2 h2]
 refine⟨f,?_,?_⟩
 ·induction hv generalizing ds with
  |nil=>cases hr;rfl
  | @cons x u xs us r1 r2 ih=>
   cases hr with
   | @cons _ _ e es h1 h2=>
    obtain⟨as,q⟩:=h1.reads I r1
    rw[Ta,Ta,hf (hs e (Ro ..)) q,ih h2 λz hz=>hs z (Ru _ hz)]
 ·intro u hu
  obtain⟨i,hi,e0⟩:=TJ.mp hu
  have hi':i < xs.length:=by rw[hv.length];exact hi
  obtain⟨u',eu,ru⟩:=hv.get (Rf hi')
  rw[Rf hi,e0] at eu
  cases eu
  obtain⟨e,ee,re⟩:=lP.at' hr (Rf hi')
  obtain⟨as,q⟩:=re.reads I ru
  have hm:=RN ee
  exact⟨e,as,hm,q,hf (hs e hm) q⟩
def um (hu:X.A.units + 100 < cLine):m6 X (compareOp .In) (MM X.K false):=by
 intro pins s σ H x y v u Q I rx ry h
 obtain⟨p,xs,d,ds,rfl,hq,hs,hx,s1,s2,q⟩:=h
 cases ry
 obtain⟨bs,r2⟩:=hx.reads I rx
 have key:∀{e:PyData} {as:List Addr} {u:Value},SeqAt.shaped e=true->Reads s.heap u e as->SeqAt.EqAt X.A.in1 s u v (PyData.eqv e d):=λ{e as u} h1 h2=>by
  refine SeqAt.eqAt_reads _ _ _ _ _ _ _ _ h2 r2 (S9 h1) (S9 s1) ?_
  have:=SeqAt.depth_of_shaped h1
  show X.A.units + 1 + _ < _
  omega
 rcases hq with hq |hq
 ·obtain⟨its,r,pl,hz⟩:=I.list hq
  obtain⟨f,e1,e2⟩:=pP I d r hs s2
  refine SeqAt.in_listAt f pl.isList (λw hw=>?_) ⟨.bl _,H,I,rfl,?_⟩
  ·obtain⟨e,as,hm,rd,ef⟩:=e2 w (by simpa using hw)
   rw[ef];exact key (s2 e hm) rd
  ·rw[show its.toArray.any f=its.any f by simp,e1];exact q
 ·obtain⟨its,r,pl,hz⟩:=I.tuple hq
  obtain⟨f,e1,e2⟩:=pP I d r hs s2
  refine SeqAt.in_tupleAt f pl (λw hw=>?_) ⟨.bl _,H,I,rfl,?_⟩
  ·obtain⟨e,as,hm,rd,ef⟩:=e2 w (by simpa using hw)
   rw[ef];exact key (s2 e hm) rd
  ·rw[show its.toArray.any f=its.any f by simp,e1];exact q
inductive IQ (K:Frag)(H:Hp):V->String->Prop
 |non:IQ K H .non "NoneType"
 |bl (b:Bool):IQ K H (.bl b) "bool"
 |int (i:Int):IQ K H (.int i) "int"
 |str (x:Str):IQ K H (.str x) "str"
 |tup {a:Addr} {xs:List V}:gr K H a xs->IQ K H (.ref a) "tuple"
 |lst {a:Addr} {xs:List V}:ji K H a xs->IQ K H (.ref a) "list"
 |dic {a:Addr} {kvs:List (Key×V)}:H a=some (.dK kvs)->IQ K H (.ref a) "dict"
def Qb (K:Frag):List V->@P_:=λxs H Q=>∃x T t b,xs= [x,.ty T]/\IQ K H x t/\PySem.W.kitOne K (.type t) (.type T)=some b/\Q (.bl b) H
theorem Eb:fC X (.builtin "isinstance") (Qb X.K):=by
 intro pins s σ H xs us Q I r h
 obtain⟨x,T,t,b,rfl,ty,e,q⟩:=h
 obtain⟨u,c,rfl,rx,rc⟩:=vals2 r
 cases rc
 have fin:∀tk,EP X pins σ Q (.bool b) {s with toks:=tk}:=λtk=>⟨.bl b,H,I.tok tk,rfl,q⟩
 cases ty with
 |non=>exact lE I rx .non e fin
 |bl b=>exact lE I rx (.bl b) e fin
 |int i=>exact lE I rx (.int i) e fin
 |str z=>exact lE I rx (.str z) e fin
 |dic hk=>exact lE I rx (.dK hk) e fin
 |tup hq=>
  cases rx
  obtain⟨its,rv,⟨o,h1,h2,_⟩,_⟩:=I.tuple hq
  exact Si PySem.W.kitx_tuple I.kIn ⟨o,h1,h2⟩ e (λz=>nomatch z) fin
 |lst hq=>
  cases rx
  obtain⟨its,rv,pl,_⟩:=I.list hq
  obtain⟨o,h1,h2,_⟩:=pl.isList
  exact Si PySem.W.kitx_list I.kIn ⟨o,h1,h2⟩ e (λz=>nomatch z) fin
def yT {A:Around}{its:@G_}{bs:List Bool}(hv:Vals (bs.map V.bl) its):TruthOf X.prog X.w A (λi v=>its[i]? =some v) (λi=>bs.getD i false):=λi v s Q E hi hq=>by
 have hl:=hv.length
 have hi2:i < bs.length:=by
  have:=(Rn.mp hi).1
  rw[<-hl] at this;simpa using this
 obtain⟨u,eu,ru⟩:=hv.get (i:=i) (x:=.bl bs[i]) (by simp[hi2])
 rw[hi] at eu;cases eu
 cases ru
 refine Sn ?_
 have:bs.getD i false=bs[i]:=by simp[hi2]
 rw[<-this];exact hq
theorem range_all (bs:List Bool):(List.range bs.length).all (λi=>bs.getD i false)=bs.all id:=by
 induction bs with
 |nil=>rfl
 |cons b bs ih=>
  rw[RL,List.range_succ_eq_map,Ud,T6,Ud,<-ih]
  rfl
theorem range_any (bs:List Bool):(List.range bs.length).any (λi=>bs.getD i false)=bs.any id:=by
 induction bs with
 |nil=>rfl
 |cons b bs ih=>
  rw[RL,List.range_succ_eq_map,Ta,List.any_map,Ta,<-ih]
  rfl
def AR (K:Frag)(f:List Bool->Bool):List V->@P_:=λxs H Q=>∃a bs,xs= [.ref a]/\ji K H a (bs.map V.bl)/\Q (.bl (f bs)) H
def sL (hc:X.calm=true){a:Addr}{bs:List Bool}{Q:VK}(I:@B_)(hq:ji X.K H a (bs.map V.bl)){f:List Bool->Bool}{g:(Nat->Bool)->Nat->Bool}(hfg:g (λi=>bs.getD i false) bs.length=f bs)(q:Q (.bl (f bs)) H) :
  wpAny @Ev X.A.in1 (pyIter (.ref a)) (λit s2=>∃Ii fp wr n P St tr,it=.ref Ii/\Walks X.prog X.w X.A.in1 Ii fp wr n P St/\St 0 s2.heap/\TruthOf X.prog X.w X.A.in1 P tr/\
   ∀h' tk,(∀b o,b∉wr->s2.heap.get? b=some o->h'.get? b=some o)->EP X pins σ Q (.bool (g tr n)) {s2 with heap:=h',toks:=tk}) X.xe s:=by
 obtain⟨its,rv,pl,hz⟩:=I.list hq
 have hh:X.A.in1.handled=none:=I.ok.hd hc
 have hlen:its.length=bs.length:=by rw[<-rv.length];simp
 obtain⟨o,ho,_⟩:=id pl.isList
 refine TF pl.isList ?_
 have W:=Walks.list (prog:=X.prog) (w:=X.w) hh s.heap.objs.size a (R6 (Rx ho)) its.toArray
 refine⟨s.heap.objs.size,_,_,_,_,_,λi=>bs.getD i false,rfl,W,⟨⟨_,RB _ rfl,rfl,rfl⟩,pl.isList.push _⟩,?_,λh' tk k=>?_⟩
 ·have:=yT (X:=X) (A:=X.A.in1) rv
  simpa using this
 ·have e:its.toArray.size=bs.length:=by simpa using hlen
  rw[e,hfg]
  have I1:Inv X pins σ H {s with heap:=s.heap.push {cls:=.type "list_iterator",data:=.fields #[.ref a,.int 0 0]}}:=I.kept (t':=s.toks) λb o e=>Ri _ e
  have hf:H s.heap.objs.size=none:=I.hok.fresh (Rh _)
  have fp:=I.fpOk (H':=H) (b:=s.heap.objs.size) (Rh _) hf
  refine⟨.bl _,H,I1.turned (it:=s.heap.objs.size) (t':=tk) (λb o hb e=>k b o (by simpa using hb) e) hf fp.2.1 fp.2.2.2.1 fp.2.2.2.2.1 fp.2.2.2.2.2,rfl,q⟩
def iV (hc:X.calm=true):fC X (.builtin "all") (AR X.K λbs=>bs.all id):=by
 intro pins s σ H xs us Q I r h
 obtain⟨a,bs,rfl,hq,q⟩:=h
 obtain⟨u,rfl,rx⟩:=vals1 r
 cases rx
 exact call_all_walk (sL hc I hq (f:=λbs=>bs.all id) (g:=λtr n=>(List.range n).all tr) (range_all bs) q)
def zA (hc:X.calm=true):fC X (.builtin "any") (AR X.K λbs=>bs.any id):=by
 intro pins s σ H xs us Q I r h
 obtain⟨a,bs,rfl,hq,q⟩:=h
 obtain⟨u,rfl,rx⟩:=vals1 r
 cases rx
 exact call_any_walk (sL hc I hq (f:=λbs=>bs.any id) (g:=λtr n=>(List.range n).any tr) (range_any bs) q)
def Gr:fC X (.type "range") (λxs H Q=>∃n:Int,xs= [.int n]/\∀p,H p=none->Q (.ref p) (upd H p (.bD 0 n))):=by
 intro pins s σ H xs us Q I r h
 obtain⟨n,rfl,q⟩:=h
 obtain⟨u,rfl,rx⟩:=vals1 r
 obtain⟨t,rfl⟩:=rx
 refine call_range_1 ⟨@Ty,upd H s.heap.objs.size (.bD 0 n),?_,rfl,q _ (I.hok.fresh (Rh _))⟩
 exact I.laid (λb o e=>Ri _ e) (Rh _) ⟨_,_,_,RB _ rfl⟩
def uK (hc:X.calm=true):fC X (.type "list") (λxs H Q=>∃p n,xs= [.ref p]/\H p=some (.bD 0 n)/\0<=n/\n<=1000/\∀l,H l=none->Q (.ref l) (upd H l (.lst ((List.range n.toNat).map λ(i:Nat)=>V.int (i:Int))))):=by
 intro pins s σ H xs us Q I r h
 obtain⟨p,n,rfl,hp,h0,h1,q⟩:=h
 obtain⟨u,rfl,rx⟩:=vals1 r
 cases rx
 obtain⟨t,u,v,hr⟩:∃t u v,s.heap.get? p=some {cls:=.type "range",data:=.fields #[.int 0 t,.int n u,.int 1 v]}:=I.hok p _ hp
 have hsz:Builtin.Range.rangeSize 0 n 1=(n.toNat:Int):=by rw[rangeSize_one];split <;> omega
 refine call_list_range (I.ok.hd hc) hr (small_one (@AT) (@AT) (@AT) (@AT)) hsz (@AT) λh' tk acc c k hS hacc=>?_
 have hv:Vals ((List.range n.toNat).map λ(i:Nat)=>V.int (i:Int)) acc.toList:=by
  have key:∀(m:Nat) (us:@G_) (j:Nat),us.length=m->(∀(i:Nat) (v:Value),us[i]? =some v->∃t,v=Value.int ((j + i:Nat):Int) t)->Vals ((List.range' j m).map λ(i:Nat)=>V.int (i:Int)) us:=by
   intro m
   induction m with
   |zero=>intro us j hl _;cases us with
    |nil=>exact .nil
    |cons a b=>simp at hl
   |succ m ih=>
    intro us j hl hh
    cases us with
    |nil=>simp at hl
    |cons u us=>
     rw[List.range'_succ,Sx]
     refine .cons (by have:=hh 0 u rfl;simp at this;exact this) (ih us (j + 1) (by simpa using hl) λi v hi=>?_)
     obtain⟨t,e⟩:=hh (i + 1) v (by simpa using hi)
     exact⟨t,by rw[e];congr 2;omega⟩
  have:=key n.toNat acc.toList 0 (by simpa using hacc.1) λi v hi=>by
   obtain⟨t,e⟩:=hacc.2 i v (by simpa using hi)
   exact⟨t,by rw[e];simp⟩
  rw[List.range_eq_range'];exact this
 refine⟨@Ty,_,I.laid (t':=tk) k (Rh _) (show dZ X.prog X.w _ h' _ (.lst _) from⟨by simp;rw[R7];omega,acc.toList,c,hv,by simpa using hS⟩),rfl,q _ (I.hok.fresh (Rh _))⟩
end
def Rc (h:Heap)(e:Addr)(cls:Value)(T:Addr)(fl:Value):Prop:=∃oe vs oT ts,h.get? e=some oe/\oe.cls=cls/\oe.dict=none/\oe.data=.fields vs/\vs[1]? =some (.ref T)/\vs[2]? =some .none/\T≠e/\h.get? T=some oT/\oT.data=.fields ts/\ts[3]? =some fl
abbrev Keeps (F:List Addr)(ch:List Addr)(h h':Heap):Prop:=∀b o,h.get? b=some o->b∉F->b∉ch->h'.get? b=some o
abbrev Slots (F:List Addr)(h h':Heap):Prop:=∀b o,h.get? b=some o->b∈F->∃sl,h'.get? b=some {o with slots:=sl}
section
variable {M:Model}{A:Around}{E:@EQ}{s:Shared}{base:Heap}{env:Env}{outer:List Env}{L e:Addr}{cls:Value}{Q:Unit->Shared->Prop}
def Lq {oe:Obj}{vs:Array Value}{head:Value}{hadNext:Bool}(hfr:A.frames=some (env :: outer))(hl:s.heap.FunFrames base (env :: outer))(hf:env.frame=some L)(he:s.heap.get? e=some oe)(hc:oe.cls=cls)(hdd:oe.dict=none)(hd:oe.data=.fields vs)(hsz:1 < vs.size)(h2:vs[2]? =some .none)
  (h:∀h' T,Keeps (pf (env :: outer)) [e] s.heap h'->Slots (pf (env :: outer)) s.heap h'->s.heap.get? T=none->Rc h' e cls T (rawInt L)->Q () {s with heap:=h'}) :
  wpAny M A (do let a <-frameOf env;let pl <-entryPlaceOf L hadNext;let b <-EntryCells.newEntry head a .none (rawInt L) .none pl;setField (.ref e) 1 b) Q E s:=by
 have eF:e∉pf (env :: outer):=λz=>by
  obtain⟨_,o,q,n⟩:=hl.mem z
  rw[he] at q;cases q;exact n _ hd
 refine Ra (wpAny_frameOf_fun hfr hl hf λh1 s1=>?_)
 refine Ra (wpAny_entryPlaceOf λpl hpl=>?_)
 unfold EntryCells.newEntry newFields
 refine Ra (S3 ?_ (hpl.sizeOk5 _ _ _ _ _))
 have e1:h1.get? e=some oe:=(s1.2.1 e eF).trans he
 have e2:=Ri (h:=h1) {cls:=.type "traceback",dict:=none,data:=.fields ([head,.ref L,.none,rawInt L,.none] ++ (if pl.isEmpty then List.replicate 6 Value.none else pl)).toArray} e1
 have tn:h1.objs.size≠e:=Nat.ne_of_gt (Rx e1)
 refine Uu e2 hd hsz (h _ h1.objs.size (λb o q hb hn=>?_) (λb o q hb=>?_) ?_ ?_)
 ·have hbe:b≠e:=by simpa using hn
  have q1:h1.get? b=some o:=(s1.2.1 b hb).trans q
  rw[So _ _ (Ne.symm hbe)]
  exact Ri _ q1
 ·obtain⟨sl,q1⟩:=s1.2.2 b o q
  have hbe:b≠e:=λz=>eF (z▸hb)
  refine⟨sl,?_⟩
  rw[So _ _ (Ne.symm hbe)]
  exact Ri _ q1
 ·cases q:s.heap.get? h1.objs.size with
  |none=>rfl
  |some o=>obtain⟨sl,q1⟩:=s1.2.2 _ o q;exact absurd (Rx q1) (RU _)
 ·have d3:=Us hd (·.setIfInBounds 1 (Value.ref h1.objs.size))
  have e3:=T5 (Obj.mapFields (·.setIfInBounds 1 (Value.ref h1.objs.size))) e2 (Obj.isFreed_of_fields d3)
  refine⟨_,_,_,_,e3,(Obj.cls_mapFields _ _).trans hc,?_,d3,by simp[hsz],by rw[Array.getElem?_setIfInBounds_ne (@AT)];exact h2,tn,(So _ _ (Ne.symm tn)).trans (RB h1 rfl),rfl,?_⟩
  ·unfold Obj.mapFields
   split <;> exact hdd
  ·rcases hpl with rfl | ⟨_,_,_,_,_,_,_,rfl⟩ <;> simp
def C2 {T0:Addr}(hfr:A.frames=some (env :: outer))(hl:s.heap.FunFrames base (env :: outer))(hf:env.frame=some L)(r:Rc s.heap e cls T0 .none)
  (h:∀h' T,Keeps (pf (env :: outer)) [e,T0] s.heap h'->Slots (pf (env :: outer)) s.heap h'->(s.heap.get? T=none\/T=T0)->Rc h' e cls T (rawInt L)->Q () {s with heap:=h'}):wpAny M A (noteFrame (.ref e) env) Q E s:=by
 obtain⟨oe,vs,oT,ts,he,hc,hdd,hd,h1,h2,hTe,hT,hdT,h3⟩:=r
 have tF:T0∉pf (env :: outer):=λz=>by
  obtain⟨_,o,q,n⟩:=hl.mem z
  rw[hT] at q;cases q;exact n _ hdT
 unfold noteFrame
 simp only[hf]
 refine Ra (TL he hd h1 ?_)
 rw[Rg (show (Value.ref T0 != Value.none)=true from @KM)]
 refine Ra (TL hT hdT h3 ?_)
 rw[Rj (show ¬((Value.none == rawInt L)=true) from by simp[rawInt])]
 refine Ra (Uu hT hdT (Ue.mp h3).1 ?_)
 have oth:∀b,b≠T0->(s.heap.update T0 (Obj.mapFields (·.setIfInBounds 3 Value.none))).get? b=s.heap.get? b:=λb hb=>So _ _ (Ne.symm hb)
 have nf:∀b o,s.heap.get? b=some o->(∀ws,o.data≠.fields ws)->b≠T0:=λb o q n z=>by
  rw[z,hT] at q;cases q;exact n _ hdT
 refine Lq (base:=base) hfr (hl.of_keeps λb o q n=>⟨o,(oth b (nf b o q n)).trans q,rfl⟩) hf ((oth e (Ne.symm hTe)).trans he) hc hdd hd (Ue.mp h1).1 h2 λh' T kp sl tn rc=>?_
 refine h h' T (λb o q hb hn=>?_) (λb o q hb=>?_) ?_ rc
 ·simp only[Rm,Sa,Tc,not_or] at hn
  exact kp b o ((oth b hn.2).trans q) hb (by simp[hn.1])
 ·exact sl b o ((oth b λz=>tF (z▸hb)).trans q) hb
 ·by_cases z:T=T0
  ·exact .inr z
  ·exact .inl ((oth T z).symm.trans tn)
def IY {T:Addr}{fl:Value}(r:Rc s.heap e cls T fl)(h:∀h',Keeps [] [T] s.heap h'->Rc h' e cls T .none->Q () {s with heap:=h'}):wpAny M A (setFlight (.ref e) none) Q E s:=by
 obtain⟨oe,vs,oT,ts,he,hc,hdd,hd,h1,h2,hTe,hT,hdT,h3⟩:=r
 have sz:3 < ts.size:=(Ue.mp h3).1
 unfold setFlight
 refine Ra (TL he hd h1 ?_)
 rw[Rg (show (Value.ref T != Value.none)=true from @KM)]
 refine Uu hT hdT sz (h _ (λb o q _ hn=>?_) ?_)
 ·have hb:b≠T:=by simpa using hn
  exact (So _ _ (Ne.symm hb)).trans q
 ·have d3:=Us hdT (·.setIfInBounds 3 ((none:@J_).elim Value.none λf=>rawInt f))
  exact⟨oe,vs,_,_,(So _ _ hTe).trans he,hc,hdd,hd,h1,h2,hTe,T5 _ hT (Obj.isFreed_of_fields d3),d3,by simp[sz]⟩
end
section
variable {P:Program}{w:World}
theorem dZ.there {H:Hp}{h:Heap}{a:Addr}{o:HO}(x:dZ P w H h a o):∃u,h.get? a=some u:=by
 cases o with
 |lst xs=>obtain⟨_,_,_,_,e⟩:=x;exact⟨_,e⟩
 |tup xs=>obtain⟨_,_,_,u,e,_⟩:=x;exact⟨u,e⟩
 |dK kvs=>obtain⟨_,_,_,_,o,_,_,e,_⟩:=x;exact⟨_,e⟩
 |dT kvs=>obtain⟨_,_,_,_,o,_,_,e,_⟩:=x;exact⟨_,e⟩
 |set S n=>obtain⟨o,_,_,_,e,_⟩:=x;exact⟨_,e⟩
 |ins C dx fs=>obtain⟨_,_,_,e,_⟩:=x;exact⟨_,e⟩
 |own y=>obtain⟨_,e⟩:=x;exact⟨_,e⟩
 |xd fs=>obtain⟨_,⟨_,_,_,e,_⟩,_⟩:=x;exact⟨_,e⟩
 |bD lo hi=>obtain⟨_,_,_,e⟩:=x;exact⟨_,e⟩
 |a8 ob u=>obtain⟨e,_⟩:=x;exact⟨_,e⟩
 |tbl ps=>exact⟨_,show h.get? a=some _ from x⟩
 |met f y=>exact⟨_,show h.get? a=some _ from x⟩
 |ext φ=>obtain⟨_,⟨_,e⟩,_⟩:=x;exact⟨_,e⟩
end
structure Lies (h₀:Heap)(H:Hp)(h:Heap)(e:Addr)(cls:Value):Prop where
 free:H e=none
 new:h₀.get? e=none
 ob:∃T,Rc h e cls T .none/\H T=none/\h₀.get? T=none
def qv (P:Program)(w:World):Dw:=λouter H s E e s'=>∃ea cls H',e=.ref ea/\s'.os=s.os/\AllBare s'.gens/\Un (pf outer) [] H H' s.heap s'.heap/\pK P w H' s'.heap/\Lies s.heap H' s'.heap ea cls/\E cls none H'
section
variable {P:Program}{w:World}{M:Model}{A:Around}{E':@EQ}{s:Shared}{env:Env}{outer:List Env}{L e:Addr}{cls:Value}{base h₀:Heap}{H:Hp}{Q:Unit->Shared->Prop}
def FT {h h':Heap}(hok:pK P w H h)(k:∀b o,h.get? b=some o->(∃u,H b=some u)->h'.get? b=some o):pK P w H h':=λa o ha=>
 (hok a o ha).stay (λb u hb q=>k b u q (hb.elim (λz=>⟨o,by rw[z];exact ha⟩) λz=>⟨_,z⟩)) (λ_ q=>q) λ_ _ q=>q
def Es (hfr:A.frames=some (env :: outer))(hf:env.frame=some L)(hfn:s.heap.FunFrames base (env :: outer))(hok:pK P w H s.heap)(hff:∀b∈pf (env :: outer),H b=none)(Ly:Lies h₀ H s.heap e cls)(hex:∀b o,h₀.get? b=some o->∃o',s.heap.get? b=some o')
  (hQ:∀h',(∀b o,s.heap.get? b=some o->b∉pf (env :: outer)->((∃o0,h₀.get? b=some o0)\/∃u,H b=some u)->h'.get? b=some o)->(∀b o,s.heap.get? b=some o->b∈pf (env :: outer)->∃sl,h'.get? b=some {o with slots:=sl})->Lies h₀ H h' e cls->pK P w H h'->Q () {s with heap:=h'}) :
  wpAny M A (leaving env (.ref e)) Q E' s:=by
 obtain⟨fr,nw,T0,rc,hHT,hnT⟩:=Ly
 obtain⟨oe,vs,oT,ts,he,hc,hdd,hd,h1,h2,hTe,hT,hdT,h3⟩:=id rc
 have tF:T0∉pf (env :: outer):=λz=>by
  obtain⟨_,o,q,n⟩:=hfn.mem z
  rw[hT] at q;cases q;exact n _ hdT
 unfold leaving
 refine Ra (C2 hfr hfn hf rc λh4 T kp sl tn rc4=>IY rc4 λh5 kp5 rc5=>?_)
 have nT:∀b o,s.heap.get? b=some o->b≠T0->b≠T:=λb o q n z=>by
  rcases tn with tn |tn
  ·rw[z,tn] at q;cases q
  ·exact n (z.trans tn)
 have kept:∀b o,s.heap.get? b=some o->b∉pf (env :: outer)->((∃o0,h₀.get? b=some o0)\/∃u,H b=some u)->h5.get? b=some o:=λb o q hb hor=>by
  have be:b≠e:=λz=>by subst z;rcases hor with⟨_,z⟩ | ⟨_,z⟩ <;> simp_all
  have bT:b≠T0:=λz=>by subst z;rcases hor with⟨_,z⟩ | ⟨_,z⟩ <;> simp_all
  exact kp5 b o (kp b o q hb (by simp[be,bT])) (@KM) (by simp[nT b o q bT])
 have slot:∀b o,s.heap.get? b=some o->b∈pf (env :: outer)->∃sl,h5.get? b=some {o with slots:=sl}:=λb o q hb=>by
  obtain⟨x,q4⟩:=sl b o q hb
  exact⟨x,kp5 b _ q4 (@KM) (by simp[nT b o q λz=>tF (z▸hb)])⟩
 have fresh:H T=none/\h₀.get? T=none:=by
  rcases tn with tn |tn
  ·refine⟨?_,?_⟩
   ·cases q:H T with
    |none=>rfl
    |some u=>obtain⟨o,qo⟩:=(hok T u q).there;rw[tn] at qo;cases qo
   ·cases q:h₀.get? T with
    |none=>rfl
    |some u=>obtain⟨o,qo⟩:=hex T u q;rw[tn] at qo;cases qo
  ·rw[tn];exact⟨hHT,hnT⟩
 refine hQ h5 kept slot ⟨fr,nw,T,rc5,fresh.1,fresh.2⟩ (FT hok λb o q hu=>kept b o q (λz=>?_) (.inr hu))
 obtain⟨u,hu⟩:=hu
 rw[hff b z] at hu;cases hu
end
section
variable {P:Program}{w:World}{K:Frag}{mg:@Fr}{base:Heap}{N:@Id}{qual:Str}{scope:Scope}{f:Addr}{cd:Value}{A:Around}{outer:List Env}{s0:Shared}{H0:Hp}{E:XK}
def aL:Passes (qv P w) (ra (qv P w) P w K mg base N qual scope f cd A outer s0 H0 E) E:=by
 intro pins σ H s e s' I hcx
 obtain⟨ea,cls,H',rfl,os,bare,un,hok,Ly,q⟩:=hcx
 have I':=I.call' os un hok bare (λb hb=>absurd hb (@KM))
 have old:∀{b:Addr},s.heap.get? b=none->s0.heap.get? b=none:=λ{b} hb=>by
  cases z:s0.heap.get? b with
  |none=>rfl
  |some o=>obtain⟨o',z'⟩:=I.base.there b o z (show b∉([]:List Addr) by simp);rw[hb] at z';cases z'
 have Ly0:Lies s0.heap H' s'.heap ea cls:=by
  obtain⟨fr,nw,T,rc,hHT,hnT⟩:=Ly
  exact⟨fr,old nw,T,rc,hHT,old hnT⟩
 have above:s0.heap.objs.size<=(envOfC qual scope s0.heap.objs.size f cd).locals:=I.ok.above
 refine Es (base:=base) (h₀:=s0.heap) I'.ok.frames rfl I'.stack I'.hok I'.stkFree Ly0 (λb o z=>I'.base.there b o z (show b∉([]:List Addr) by simp)) λh' kept slot Ly' hok'=>?_
 have nL:∀{b:Addr} {o:Obj},s0.heap.get? b=some o->b∉pf outer->b∉pf (envOfC qual scope s0.heap.objs.size f cd :: outer):=λ{b o} z hb hm=>by
  rcases Rm.mp (I'.stkSub b hm) with e |e
  ·have:=Rx z
   rw[e] at this
   exact absurd (RY this above) (RU _)
  ·exact hb e
 have inn:∀{b:Addr},b∈pf outer->b∈pf (envOfC qual scope s0.heap.objs.size f cd :: outer):=λ{b} hb=>by
  obtain⟨en,h1,h2⟩:=TU.mp hb
  exact TU.mpr ⟨en,Ru _ h1,h2⟩
 refine⟨ea,cls,H',rfl,os.trans I.os,bare,⟨λb o z n hb _=>?_,λb o z n hb _=>?_,λb o z n _=>I'.base.free b o z n (show b∉([]:List Addr) by simp),λb o z _=>?_,I'.base.tups,I'.base.frzs,I'.base.tbls⟩,hok',Ly',q⟩
 ·exact kept b o (I'.base.keep b o z n hb (show b∉([]:List Addr) by simp)) (nL z hb) (.inl ⟨o,z⟩)
 ·obtain⟨sl,z1⟩:=I'.base.slot b o z n hb (show b∉([]:List Addr) by simp)
  obtain⟨sl2,z2⟩:=slot b _ z1 (inn hb)
  exact⟨sl2,z2⟩
 ·obtain⟨o',z1⟩:=I'.base.there b o z (show b∉([]:List Addr) by simp)
  by_cases hb:b∈pf (envOfC qual scope s0.heap.objs.size f cd :: outer)
  ·obtain⟨sl,z2⟩:=slot b o' z1 hb
   exact⟨_,z2⟩
  ·exact⟨o',kept b o' z1 hb (.inl ⟨o,z⟩)⟩
end
def mroIn (K:Frag)(C:Addr):@G_:=match K.lookup C with
 |some ⟨_,_,.cls cd,_⟩=>cd.mro
 |_=>[]
structure FE (k:Nat)(A:Around):Prop where
 dp:A.depth + 3 * k + 5 < recursionLimit
 un:A.units + 16 * k + 200 < cLine
 gd:A.guards=some []
def fm.h {k:Nat}{A:Around}(r:fm k A):FE k A:=⟨r.dp,r.un,r.gd⟩
def FE.units {k:Nat}{A:Around}(r:FE k A):A.units + 64 < cLine:=by have:=r.un;omega
section
variable {P:Program}{w:World}{K:Frag}{mg:@Fr}{base:Heap}
def DV.JO {x qual:Str}{st:Stmt}{f:Addr}{fd:FuncData}{N ps:@Id}{k:Nat}{sp:Sp}(F:DV K x qual st f fd)(S:aB N ps (ar st))(len:∀vs H Q E,sp vs H Q E->vs.length=ps.length)
  (hbody:∀(cdv:Value) (A:Around) (outer:List Env) (s:Shared) (H:Hp) (vs:List V) (Q:VK) (E:XK),fm k (A.deeper (envOfC qual (ar st) s.heap.objs.size f cdv))->sp vs H Q E->
   ∃t,u6 (ra (qv P w) P w K mg base N qual (ar st) f cdv A outer s H E) (dw st) t/\t {nx:=λ_ H'=>Q .non H',rt:=Q} (start N vs) H):gp P w K mg base (qv P w) (k + 1) f fd ps sp:=by
 obtain⟨oc,od,kV,doc,pm,an,cdv,ct,osl,rfl,lk,hcd⟩:=F.ex
 exact EU lk hcd S len λA outer s H vs Q E hr hsp=>hbody cdv A outer s H vs Q E hr hsp
end
section
variable {X:Cx}
def nZ (hu:X.A.units + 100 < cLine):m6 X (compareOp .NotIn) (MM X.K true):=by
 intro pins s σ H x y v u Q I rx ry h
 obtain⟨p,xs,d,ds,rfl,hq,hs,hx,s1,s2,q⟩:=h
 cases ry
 obtain⟨bs,r2⟩:=hx.reads I rx
 have key:∀{e:PyData} {as:List Addr} {u:Value},SeqAt.shaped e=true->Reads s.heap u e as->SeqAt.EqAt X.A.in1 s u v (PyData.eqv e d):=λ{e as u} h1 h2=>by
  refine SeqAt.eqAt_reads _ _ _ _ _ _ _ _ h2 r2 (S9 h1) (S9 s1) ?_
  have:=SeqAt.depth_of_shaped h1
  show X.A.units + 1 + _ < _
  omega
 rcases hq with hq |hq
 ·obtain⟨its,r,pl,hz⟩:=I.list hq
  obtain⟨f,e1,e2⟩:=pP I d r hs s2
  refine SeqAt.notIn_listAt f pl.isList (λw hw=>?_) ⟨.bl _,H,I,rfl,?_⟩
  ·obtain⟨e,as,hm,rd,ef⟩:=e2 w (by simpa using hw)
   rw[ef];exact key (s2 e hm) rd
  ·rw[show its.toArray.any f=its.any f by simp,e1];exact q
 ·obtain⟨its,r,pl,hz⟩:=I.tuple hq
  obtain⟨f,e1,e2⟩:=pP I d r hs s2
  refine SeqAt.notIn_tupleAt f pl (λw hw=>?_) ⟨.bl _,H,I,rfl,?_⟩
  ·obtain⟨e,as,hm,rd,ef⟩:=e2 w (by simpa using hw)
   rw[ef];exact key (s2 e hm) rd
  ·rw[show its.toArray.any f=its.any f by simp,e1];exact q
end
abbrev D:=PyData
def kD:Key->D
 | .inl i=>.int i
 | .inr x=>.str x
mutual
inductive Rp (K:Frag)(G:Hp):V->D->Prop
 |non:Rp K G .non .none
 |bl (b:Bool):Rp K G (.bl b) (.bool b)
 |int (i:Int):Rp K G (.int i) (.int i)
 |str (x:Str):Rp K G (.str x) (.str x)
 |tup {a:Addr} {xs:List V} {ds:List D}:gr K G a xs->cP K G xs ds->Rp K G (.ref a) (.tuple ds)
 |lst {a:Addr} {xs:List V} {ds:List D}:G a=some (.lst xs)->cP K G xs ds->Rp K G (.ref a) (.list ds)
 |scr {a:Addr} {ns:@Db}:ji K G a (ns.map V.int)->Rp K G (.ref a) (.dict [(.none,.list (ns.map int))])
 |dK {a:Addr} {kvs:List (Key×V)} {ds:List (D×D)}:G a=some (.dK kvs)->DX K G kvs ds->Rp K G (.ref a) (.dict ds)
 |dT {a:Addr} {kvs:List (List Key×V)} {ds:List (D×D)}:G a=some (.dT kvs)->DS K G kvs ds->Rp K G (.ref a) (.dict ds)
inductive cP (K:Frag)(G:Hp):List V->List D->Prop
 |nil:cP K G [] []
 |cons {x:V} {xs:List V} {d:D} {ds:List D}:Rp K G x d->cP K G xs ds->cP K G (x :: xs) (d :: ds)
inductive DX (K:Frag)(G:Hp):List (Key×V)->List (D×D)->Prop
 |nil:DX K G [] []
 |cons {k:Key} {x:V} {xs:List (Key×V)} {d:D} {ds:List (D×D)}:Rp K G x d->DX K G xs ds->DX K G ((k,x) :: xs) ((kD k,d) :: ds)
inductive DS (K:Frag)(G:Hp):List (List Key×V)->List (D×D)->Prop
 |nil:DS K G [] []
 |cons {k:List Key} {x:V} {xs:List (List Key×V)} {d:D} {ds:List (D×D)}:Rp K G x d->DS K G xs ds->DS K G ((k,x) :: xs) ((.tuple (k.map kD),d) :: ds)
end
section
variable {K:Frag}{G G' H H':Hp}
def NP {b:Addr}{o:HO}(h:Kt H b o)(hu:∀ps,o≠.tbl ps):H b=some o:=by
 obtain⟨u,e,k,_⟩:=h.some
 rw[e,k hu]
def FG {b:Addr}{o:HO}{xs:List V}(h:Kt H b o)(e:H b=some (.lst xs)):o=.lst xs:=by
 obtain⟨u,eu,k1,k2⟩:=h.some
 rw[e] at eu
 cases eu
 by_cases c:∃ps,o=.tbl ps
 ·obtain⟨ps,z⟩:=k2 c;cases z
 ·exact (k1 λps z=>c ⟨ps,z⟩).symm
theorem nJ {a b:Addr}{o u:HO}(h:Kt H b u)(hb:b≠a)(ha:∀x y,H a≠some (.a8 x y)):Kt (upd H a o) b u:=by
 cases u with
 |tbl ps=>
  obtain⟨m,e,t,k⟩:=h
  refine⟨m,by rw[aC hb];exact e,t,λc hc=>?_⟩
  obtain⟨x,ex,ix⟩:=k c hc
  exact⟨x,by rw[aC (λz=>ha x _ (z▸ex))];exact ex,ix⟩
 |_=>exact (aC hb).trans h
def Rd.mono {a:Addr}{u:HO}(h:Rd G a u)(s:aw G G')(hu:∀ps,u≠.tbl ps:=by intro _ z;cases z):Rd G' a u:=h.elim (λe=>.inl (NP (s _ _ e) hu)) λ⟨o,e⟩=>.inr ⟨o,s _ _ e⟩
mutual
theorem Rp.mono (s:aw G G'):∀{x:V} {d:D},Rp K G x d->Rp K G' x d
 |_,_,.non=>.non
 |_,_,.bl b=>.bl b
 |_,_,.int i=>.int i
 |_,_,.str x=>.str x
 |_,_,.tup h hs=>.tup (h.grow s.grow) (cP.mono s hs)
 |_,_,.lst h hs=>.lst (s _ _ h) (cP.mono s hs)
 |_,_,.scr h=>.scr (s.seq h)
 |_,_,.dK h hs=>.dK (s _ _ h) (DX.mono s hs)
 |_,_,.dT h hs=>.dT (s _ _ h) (DS.mono s hs)
theorem cP.mono (s:aw G G'):∀{xs:List V} {ds:List D},cP K G xs ds->cP K G' xs ds
 |_,_,.nil=>.nil
 |_,_,.cons h hs=>.cons (Rp.mono s h) (cP.mono s hs)
theorem DX.mono (s:aw G G'):∀{xs:List (Key×V)} {ds:List (D×D)},DX K G xs ds->DX K G' xs ds
 |_,_,.nil=>.nil
 |_,_,.cons h hs=>.cons (Rp.mono s h) (DX.mono s hs)
theorem DS.mono (s:aw G G'):∀{xs:List (List Key×V)} {ds:List (D×D)},DS K G xs ds->DS K G' xs ds
 |_,_,.nil=>.nil
 |_,_,.cons h hs=>.cons (Rp.mono s h) (DS.mono s hs)
end
theorem cP.len:∀{xs:List V} {ds:List D},cP K G xs ds->xs.length=ds.length
 |_,_,.nil=>rfl
 |_,_,.cons _ t=>by simp[cP.len t]
theorem cP.at:∀{xs:List V} {ds:List D} {i:Nat} {d:D},cP K G xs ds->ds[i]? =some d->∃x,xs[i]? =some x/\Rp K G x d
 |_,_,_,_,.nil,e=>by simp at e
 |_,_,0,_,.cons r _,e=>by simp at e;subst e;exact⟨_,rfl,r⟩
 |_,_,i + 1,x,.cons _ t,e=>by
  obtain⟨u,h1,h2⟩:=cP.at (i:=i) (d:=x) t (by simpa using e)
  exact⟨u,by simpa using h1,h2⟩
theorem cP.at':∀{xs:List V} {ds:List D} {i:Nat} {x:V},cP K G xs ds->xs[i]? =some x->∃d,ds[i]? =some d/\Rp K G x d
 |_,_,_,_,.nil,e=>by simp at e
 |_,_,0,_,.cons r _,e=>by simp at e;subst e;exact⟨_,rfl,r⟩
 |_,_,i + 1,x,.cons _ t,e=>by
  obtain⟨u,h1,h2⟩:=cP.at' (i:=i) (x:=x) t (by simpa using e)
  exact⟨u,by simpa using h1,h2⟩
theorem cP.append:∀{xs ys:List V} {ds es:List D},cP K G xs ds->cP K G ys es->cP K G (xs ++ ys) (ds ++ es)
 |_,_,_,_,.nil,s=>s
 |_,_,_,_,.cons r t,s=>.cons r (cP.append t s)
def cP.snoc {xs:List V}{ds:List D}{x:V}{d:D}(h:cP K G xs ds)(q:Rp K G x d):cP K G (xs ++ [x]) (ds ++ [d]):=h.append (.cons q .nil)
theorem cP.take:∀{xs:List V} {ds:List D} (n:Nat),cP K G xs ds->cP K G (xs.take n) (ds.take n)
 |_,_,0,_=>.nil
 |_,_,_ + 1,.nil=>.nil
 |_,_,n + 1,.cons r t=>.cons r (cP.take n t)
theorem cP.drop:∀{xs:List V} {ds:List D} (n:Nat),cP K G xs ds->cP K G (xs.drop n) (ds.drop n)
 |_,_,0,r=>r
 |_,_,_ + 1,.nil=>.nil
 |_,_,n + 1,.cons _ t=>cP.drop n t
theorem cP.set {x:V}{d:D}(r:Rp K G x d):∀{xs:List V} {ds:List D} (i:Nat),cP K G xs ds->cP K G (xs.set i x) (ds.set i d)
 |_,_,_,.nil=>.nil
 |_,_,0,.cons _ t=>.cons r t
 |_,_,i + 1,.cons q t=>.cons q (cP.set r i t)
theorem cP.rep {n:Nat}{xs:List V}{ds:List D}(h:cP K G xs ds):cP K G (List.replicate n xs).flatten (List.replicate n ds).flatten:=by
 induction n with
 |zero=>exact .nil
 |succ n ih=>rw[R8,R8,SQ,SQ];exact h.append ih
mutual
def Gx:D->Bool
 | .dict _=>false
 | .list ds=>uZ ds
 | .tuple ds=>uZ ds
 |_=>true
def uZ:List D->Bool
 | []=>true
 |d :: ds=>Gx d && uZ ds
end
mutual
theorem Rp.rep:∀{x:V} {d:D},Rp K G x d->Gx d=true->Rep K G x d
 |_,_,.non,_=>.non
 |_,_,.bl b,_=>.bl b
 |_,_,.int i,_=>.int i
 |_,_,.str x,_=>.str x
 |_,_,.tup h hs,e=>.tup h (cP.reps hs (by simpa[Gx] using e))
 |_,_,.lst h hs,e=>.lst (.inl (.inl h)) (cP.reps hs (by simpa[Gx] using e))
 |_,_,.scr _,e=>by simp[Gx] at e
 |_,_,.dK _ _,e=>by simp[Gx] at e
 |_,_,.dT _ _,e=>by simp[Gx] at e
theorem cP.reps:∀{xs:List V} {ds:List D},cP K G xs ds->uZ ds=true->lP K G xs ds
 |_,_,.nil,_=>.nil
 |_,_,.cons h hs,e=>.cons (Rp.rep h (by simp[uZ] at e;exact e.1)) (cP.reps hs (by simp[uZ] at e;exact e.2))
end
def Own (K:Frag)(G H:Hp)(a:Addr):D->Prop
 | .list ds=>∃xs,H a=some (.lst xs)/\cP K G xs ds
 | .dict ds=>(∃kvs,H a=some (.dK kvs)/\DX K G kvs ds)\/∃kvs,H a=some (.dT kvs)/\DS K G kvs ds
 |_=>False
def Own.obj {a:Addr}{d:D}(h:Own K G H a d):∃o,H a=some o:=by
 cases d <;> first |exact h.elim |skip
 ·obtain⟨xs,e,_⟩:=h;exact⟨_,e⟩
 ·rcases h with⟨_,e,_⟩ | ⟨_,e,_⟩ <;> exact⟨_,e⟩
def Own.mono {a:Addr}{d:D}(h:Own K G H a d)(s:aw G G')(m:∀o,H a=some o->Kt H' a o):Own K G' H' a d:=by
 cases d <;> first |exact h.elim |skip
 ·obtain⟨xs,e,r⟩:=h;exact⟨xs,m _ e,r.mono s⟩
 ·rcases h with⟨k,e,r⟩ | ⟨k,e,r⟩
  ·exact .inl ⟨k,m _ e,r.mono s⟩
  ·exact .inr ⟨k,m _ e,r.mono s⟩
def Own.rp {a:Addr}{d:D}(h:Own K G H a d)(n:G a=none){G':Hp}(s:aw G G')(e:∀o,H a=some o->G' a=some o):Rp K G' (.ref a) d:=by
 cases d <;> first |exact h.elim |skip
 ·obtain⟨xs,q,r⟩:=h;exact .lst (e _ q) (r.mono s)
 ·rcases h with⟨k,q,r⟩ | ⟨k,q,r⟩
  ·exact .dK (e _ q) (r.mono s)
  ·exact .dT (e _ q) (r.mono s)
def ou (K:Frag)(B:@J_)(G H:Hp)(v:V)(d:D):Prop:=Rp K G v d\/∃a,v=.ref a/\B≠some a/\Own K G H a d
def jh (B:@J_)(H H':Hp):Prop:=(∀b o,H b=some o->B≠some b->Kt H' b o)/\∀b o u,H b=some (.a8 o u)->H' b=some (.a8 o u)
def jh.refl (B:@J_)(H:Hp):jh B H H:=⟨λ_ _ h _=>Kt.of h,λ_ _ _ h=>h⟩
theorem A5 {B:@J_}{b:Addr}{o:HO}(h1:Kt H b o)(y:jh B H H')(n:B≠some b):Kt H' b o:=by
 cases o with
 |tbl ps=>
  obtain⟨m,e,t,k⟩:=h1
  obtain⟨m2,e2,t2,k2⟩:=y.1 b _ e n
  refine⟨m ++ m2,by rw[e2,Array.append_assoc],by rw[Tj];exact t.app t2,λc hc=>?_⟩
  rw[Tj,Rw] at hc
  rcases hc with hc |hc
  ·obtain⟨o,eo,io⟩:=k c hc;exact⟨o,y.2 c _ _ eo,io⟩
  ·exact k2 c hc
 |_=>exact y.1 b _ h1 n
def jh.trans {B:@J_}{H1:Hp}(x:jh B H H1)(y:jh B H1 H'):jh B H H':=⟨λb o h n=>A5 (x.1 b o h n) y n,λb o u h=>y.2 b o u (x.2 b o u h)⟩
def aw.mov (s:aw H H')(B:@J_):jh B H H':=⟨λb o h _=>s b o h,λb o u h=>s b _ h⟩
def ou.mono {B:@J_}{v:V}{d:D}(h:ou K B G H v d)(s:aw G G')(m:jh B H H'):ou K B G' H' v d:=by
 rcases h with h | ⟨a,e,n,h⟩
 ·exact .inl (h.mono s)
 ·exact .inr ⟨a,e,n,h.mono s λo q=>m.1 a o q n⟩
def ou.rpH {B:@J_}{v:V}{d:D}(h:ou K B G H v d)(s:aw G H):Rp K H v d:=by
 rcases h with h | ⟨a,rfl,n,h⟩
 ·exact h.mono s
 ·cases d <;> first |exact h.elim |skip
  ·obtain⟨xs,q,r⟩:=h;exact .lst q (r.mono s)
  ·rcases h with⟨k,q,r⟩ | ⟨k,q,r⟩
   ·exact .dK q (r.mono s)
   ·exact .dT q (r.mono s)
def ou.list {B:@J_}{v:V}{ds:List D}(h:ou K B G H v (.list ds))(s:aw G H):∃a xs,v=.ref a/\Rd H a (.lst xs)/\cP K G xs ds:=by
 rcases h with h | ⟨a,rfl,n,xs,q,r⟩
 ·cases h with
  |lst h r=>exact⟨_,_,rfl,.inl (s _ _ h),r⟩
 ·exact⟨a,xs,rfl,.inl q,r⟩
def ou.tuple {B:@J_}{v:V}{ds:List D}(h:ou K B G H v (.tuple ds))(s:aw G H):∃a xs,v=.ref a/\gr K H a xs/\cP K G xs ds:=by
 rcases h with h | ⟨a,rfl,n,h⟩
 ·cases h with
  |tup h r=>exact⟨_,_,rfl,h.grow s.grow,r⟩
 ·exact h.elim
def ou.int {B:@J_}{v:V}{i:Int}(h:ou K B G H v (.int i)):v=.int i:=by
 rcases h with h | ⟨a,rfl,n,h⟩
 ·cases h;rfl
 ·exact h.elim
def ou.bool {B:@J_}{v:V}{b:Bool}(h:ou K B G H v (.bool b)):v=.bl b:=by
 rcases h with h | ⟨a,rfl,n,h⟩
 ·cases h;rfl
 ·exact h.elim
def ou.str {B:@J_}{v:V}{x:Str}(h:ou K B G H v (.str x)):v=.str x:=by
 rcases h with h | ⟨a,rfl,n,h⟩
 ·cases h;rfl
 ·exact h.elim
def ou.none {B:@J_}{v:V}(h:ou K B G H v .none):v=.non:=by
 rcases h with h | ⟨a,rfl,n,h⟩
 ·cases h;rfl
 ·exact h.elim
end
def Fz:HO->Prop
 | .tup _=>True
 | .a8 _ _=>True
 |_=>False
def Mx (H:Hp)(b:Addr):Prop:=H b≠none/\∀o,H b=some o->¬Fz o
def Mx.lst {H:Hp}{b:Addr}{xs:List V}(h:H b=some (.lst xs)):Mx H b:=⟨by rw[h];simp,λys z=>by rw[h] at z;cases z;exact λy=>y⟩
theorem Mx.same {H H':Hp}{b:Addr}(h:Mx H b)(m:∀o,H b=some o->Kt H' b o):Mx H' b:=by
 obtain⟨h1,h2⟩:=h
 cases e:H b with
 |none=>exact absurd e h1
 |some o=>
  obtain⟨u,eu,k1,k2⟩:=(m o e).some
  refine⟨by rw[eu];simp,λxs z=>?_⟩
  rw[eu] at z
  cases z
  by_cases c:∃ps,o=.tbl ps
  ·obtain⟨ps,e⟩:=k2 c;rw[e];exact λy=>y
  ·rw[k1 λps e=>c ⟨ps,e⟩];exact h2 o e
def Own.mx {K:Frag}{G H:Hp}{a:Addr}{d:D}(h:Own K G H a d):Mx H a:=by
 cases d <;> first |exact h.elim |skip
 ·obtain⟨xs,e,_⟩:=h;exact Mx.lst e
 ·rcases h with⟨k,e,_⟩ | ⟨k,e,_⟩ <;> exact⟨by rw[e];simp,λys z=>by rw[e] at z;cases z;exact λy=>y⟩
open Classical in
noncomputable def jS (G H:Hp):Hp:=λb=>match G b with
 |some o=>some o
 |none=>match H b with
  |some o=>if Fz o then some o else none
  |none=>none
def p8 {G H:Hp}:aw G (jS G H):=λb o e=>Kt.of (by unfold jS;rw[e])
theorem Cj {G H:Hp}(s:aw G H){b:Addr}{o:HO}(e:H b=some o)(f:Fz o):jS G H b=some o:=by
 unfold jS
 cases q:G b with
 |some u=>
  obtain⟨u',eu,k1,k2⟩:=(s b u q).some
  rw[e] at eu
  cases eu
  by_cases c:∃ps,u=.tbl ps
  ·obtain⟨ps,z⟩:=k2 c;subst z;exact f.elim
  ·rw[k1 λps z=>c ⟨ps,z⟩]
 |none=>simp only[e];rw[Rg f]
theorem pY {G H:Hp}(s:aw G H):aw (jS G H) H:=λb o e=>by
 unfold jS at e
 cases q:G b with
 |some u=>rw[q] at e;cases e;exact s b _ q
 |none=>
  rw[q] at e
  cases q2:H b with
  |none=>rw[q2] at e;cases e
  |some u=>
   rw[q2] at e
   dsimp only at e
   split at e
   ·cases e;exact Kt.of q2
   ·cases e
theorem wV {G H H':Hp}(hh:aw H H'){b:Addr}(m:Mx H b):jS G H' b=G b:=by
 unfold jS
 cases q:G b with
 |some u=>rfl
 |none=>
  obtain⟨h1,h2⟩:=m
  cases e:H b with
  |none=>exact absurd e h1
  |some o=>
   have hm:=(show Mx H b from⟨h1,h2⟩).same (hh b)
   cases e2:H' b with
   |none=>rfl
   |some u=>simp only;rw[Rj (hm.2 u e2)]
def pw {K:Frag}{G H:Hp}(s:aw G H){a:Addr}{xs:List V}(h:gr K H a xs):gr K (jS G H) a xs:=by
 rcases h with (h | ⟨o,h⟩) |h
 ·exact .inl (.inl (Cj s h trivial))
 ·exact .inl (.inr ⟨o,Cj s h trivial⟩)
 ·exact .inr h
structure Fx where
 K:Frag
 H0:Hp
 G0:Hp
 par:List Addr
 ca:Str->Addr
 br:Nat->Bool
 bx:@J_
inductive Sl where
 |no |fz (d:D) |ow (d:D) |bx |br (d:D)
abbrev En:=List Sl
inductive Nv where
 |no |da (d:D) |bx
def Sl.val:Sl->Nv
 | .no=>.no
 | .fz d=>.da d
 | .ow d=>.da d
 | .br d=>.da d
 | .bx=>.bx
def vl (env:En):List Nv:=env.map Sl.val
def P0 (Γ:Fx)(B:@J_)(G H:Hp)(i:Nat)(o:Option (Option V)):Sl->Prop
 | .no=>True
 | .fz d=>∃v,o=some (some v)/\Rp Γ.K G v d
 | .ow d=>∃a,o=some (some (.ref a))/\Γ.H0 a=none/\G a=none/\B≠some a/\Own Γ.K G H a d
 | .bx=>∃a,o=some (some (.ref a))/\B=some a
 | .br d=>Γ.br i=true/\∃a,o=some (some (.ref a))/\B≠some a/\a∉Γ.par/\Own Γ.K G H a d
structure SR (Γ:Fx)(B:@J_)(G H:Hp)(σ:St)(env:En)(β:Int):Prop where
 sub:aw G H
 old:aw Γ.G0 G
 new:∀b,Mx Γ.H0 b->Γ.G0 b=none->G b=none
 keep:∀b o,Γ.H0 b=some o->b∉Γ.par->Kt H b o
 pin:∀b,b∈Γ.par->Mx H b
 fix:∀b,Γ.bx=some b->B=some b
 box:∀b,B=some b->H b=some (.lst [.int β])/\G b=none/\(b∈Γ.par\/Γ.H0 b=none)
 len:σ.length=env.length
 slot:∀(i:Nat) (s:Sl),env[i]? =some s->P0 Γ B G H i (σ[i]?) s
 sep:∀(i j:Nat) (a:Addr) (d e:D),env[i]? =some (.ow d)->env[j]? =some (.ow e)->σ[i]? =some (some (.ref a))->σ[j]? =some (some (.ref a))->i=j
structure Ext (G H G' H':Hp):Prop where
 hh:aw H H'
 gg:aw G G'
 gh:aw G' H'
 on:∀b,Mx H b->G' b=G b
def Ext.refl {G H:Hp}(s:aw G H):Ext G H G H:=⟨aw.refl _,aw.refl _,s,λ_ _=>rfl⟩
def Ext.tups {G H H':Hp}(s:aw G H)(hh:aw H H'):Ext G H (jS G H') H':=⟨hh,p8,pY (s.trans hh),λ_ m=>wV hh m⟩
def Ext.new {G H:Hp}(s:aw G H){p:Addr}{o:HO}(h:H p=none):Ext G H (upd G p o) (upd H p o):=by
 refine⟨aw.new h,aw.new (s.free h),λb u e=>?_,λb hb=>?_⟩
 ·by_cases z:b=p
  ·subst z;rw[aE] at e;exact Kt.of (by rw[aE];exact e)
  ·rw[aC z] at e;exact nJ (s b u e) z (λx y w=>by rw[h] at w;cases w)
 ·exact aC (λz=>hb.1 (by rw[z];exact h))
def Ext.own {G H:Hp}(s:aw G H){p:Addr}{o:HO}(h:H p=none):Ext G H G (upd H p o):=
 ⟨aw.new h,aw.refl _,s.trans (aw.new h),λ_ _=>rfl⟩
def Ext.trans {G H G1 H1 G2 H2:Hp}(x:Ext G H G1 H1)(y:Ext G1 H1 G2 H2):Ext G H G2 H2:=by
 refine⟨x.hh.trans y.hh,x.gg.trans y.gg,y.gh,λb hb=>?_⟩
 rw[y.on b (hb.same λo e=>x.hh b o e),x.on b hb]
section
variable {Γ:Fx}{B:@J_}{G H G' H':Hp}{σ:St}{env:En}{β:Int}
def SR.there (I:@Is){b:Addr}(h:Γ.H0 b≠none):H b≠none:=by
 by_cases hp:b∈Γ.par
 ·exact (I.pin b hp).1
 ·cases e:Γ.H0 b with
  |none=>exact absurd e h
  |some o=>obtain⟨u,eu,_⟩:=(I.keep b o e hp).some;rw[eu];simp
def SR.thereM (I:@Is){b:Addr}(h:Mx Γ.H0 b):Mx H b:=by
 by_cases hp:b∈Γ.par
 ·exact I.pin b hp
 ·exact h.same λo e=>I.keep b o e hp
def SR.ext (I:@Is)(x:Ext G H G' H'):SR Γ B G' H' σ env β:=by
 refine⟨x.gh,I.old.trans x.gg,λb h1 h2=>?_,λb o h1 h2=>(I.keep b o h1 h2).step x.hh,λb hb=>?_,I.fix,λb e=>?_,I.len,λi s e=>?_,I.sep⟩
 ·rw[x.on b (I.thereM h1)];exact I.new b h1 h2
 ·exact (I.pin b hb).same λo e=>x.hh b o e
 ·obtain⟨h1,h2,h3⟩:=I.box b e
  exact⟨x.hh b _ h1,by rw[x.on b (Mx.lst h1)];exact h2,h3⟩
 ·have q:=I.slot i s e
  cases s with
  |no=>trivial
  |fz d=>obtain⟨v,h1,h2⟩:=q;exact⟨v,h1,h2.mono x.gg⟩
  |ow d=>
   obtain⟨a,h1,h2,h3,h4,h5⟩:=q
   exact⟨a,h1,h2,by rw[x.on a h5.mx];exact h3,h4,h5.mono x.gg λo q=>x.hh a o q⟩
  |bx=>exact q
  |br d=>obtain⟨b1,a,h1,h4,hp,h5⟩:=q;exact⟨b1,a,h1,h4,hp,h5.mono x.gg λo q=>x.hh a o q⟩
def ig (env:En)(i:Nat):En:=match env[i]? with
 |some (.ow d)=>env.set i (.fz d)
 |_=>env
def a8 (L:@Ix)(env:En):En:=L.foldl ig env
def cu (L M:@Ix)(env:En):a8 (L ++ M) env=a8 M (a8 L env):=by unfold a8;rw[List.foldl_append]
def A4 (env:En)(i:Nat)(s:Sl)(h:∀t,env[i]? =some t->t.val=s.val):vl (env.set i s)=vl env:=by
 unfold vl
 apply List.ext_getElem?
 intro j
 rw[RA,RA,List.getElem?_set]
 by_cases e:i=j
 ·subst e
  by_cases hi:i < env.length
  ·simp only[SK,hi]
   have:=h _ (Rf hi)
   simp[Rf hi,this]
  ·simp only[SK,hi,SX]
   rw[SW (@AT)]
 ·simp[e]
def Jj (env:En)(i:Nat):vl (ig env i)=vl env:=by
 unfold ig
 split
 ·rename_i d e
  exact A4 _ _ _ λt ht=>by rw[e] at ht;cases ht;rfl
 ·rfl
theorem de (L:@Ix)(env:En):vl (a8 L env)=vl env:=by
 unfold a8
 induction L generalizing env with
 |nil=>rfl
 |cons i L ih=>rw[Ug,ih,Jj]
theorem Fw {i:Nat}{d:D}(h:(@PP)[i]? =some (.da d)):env[i]? =some (.fz d)\/env[i]? =some (.ow d)\/env[i]? =some (.br d):=by
 unfold vl at h
 rw[RA] at h
 cases e:env[i]? with
 |none=>rw[e] at h;simp at h
 |some s=>
  rw[e] at h
  cases s with
  |no=>simp[Sl.val] at h
  |fz d'=>simp[Sl.val] at h;subst h;exact .inl rfl
  |ow d'=>simp[Sl.val] at h;subst h;exact .inr (.inl rfl)
  |bx=>simp[Sl.val] at h
  |br d'=>simp[Sl.val] at h;subst h;exact .inr (.inr rfl)
theorem MX {i:Nat}(h:(@PP)[i]? =some .bx):env[i]? =some .bx:=by
 unfold vl at h
 rw[RA] at h
 cases e:env[i]? with
 |none=>rw[e] at h;simp at h
 |some s=>
  rw[e] at h
  cases s with
  |bx=>rfl
  |_=>simp[Sl.val] at h
def SR.freeze (I:@Is)(i:Nat)(hb:Γ.br i=false){d:D}(h:(@PP)[i]? =some (.da d)):∃G' v,SR Γ B G' H σ (ig env i) β/\aw G G'/\σ[i]? =some (some v)/\Rp Γ.K G' v d:=by
 rcases Fw h with e |e |e
 ·obtain⟨v,h1,h2⟩:=I.slot i _ e
  exact⟨G,v,by unfold ig;rw[e];exact I,aw.refl _,h1,h2⟩
 rotate_left
 ·obtain⟨z,_⟩:=I.slot i _ e
  rw[hb] at z;cases z
 ·obtain⟨a,h1,h2,h3,h4,h5⟩:=I.slot i _ e
  obtain⟨o,ho⟩:=h5.obj
  have sG:aw G (upd G a o):=aw.new h3
  have hi:i < env.length:=(Rn.mp e).1
  have hr:Rp Γ.K (upd G a o) (.ref a) d:=h5.rp h3 sG λo' q=>by rw[ho] at q;cases q;exact aE
  refine⟨upd G a o,.ref a,?_,sG,h1,hr⟩
  unfold ig
  rw[e]
  refine⟨λb u q=>?_,I.old.trans sG,λb n1 n2=>?_,I.keep,I.pin,I.fix,λb q=>?_,by rw[SM];exact I.len,λj s q=>?_,λj k c d1 d2 q1 q2 q3 q4=>?_⟩
  ·by_cases z:b=a
   ·subst z;rw[aE] at q;cases q;exact Kt.of ho
   ·rw[aC z] at q;exact I.sub b u q
  ·rw[aC (λz=>n1.1 (by rw[z];exact h2))];exact I.new b n1 n2
  ·obtain⟨k1,k2,k3⟩:=I.box b q
   exact⟨k1,by rw[aC (λz=>h4 (by rw[<-z];exact q))];exact k2,k3⟩
  ·by_cases z:j=i
   ·subst z
    rw[RG hi] at q
    cases q
    exact⟨.ref a,h1,hr⟩
   ·rw[RF (Ne.symm z)] at q
    have w:=I.slot j s q
    cases s with
    |no=>trivial
    |fz d'=>obtain⟨v,w1,w2⟩:=w;exact⟨v,w1,w2.mono sG⟩
    |ow d'=>
     obtain⟨c,w1,w2,w3,w4,w5⟩:=w
     have ca:c≠a:=λz2=>z (I.sep j i c d' d q e w1 (by rw[z2];exact h1))
     exact⟨c,w1,w2,by rw[aC ca];exact w3,w4,w5.mono sG λo q=>Kt.of q⟩
    |bx=>exact w
    |br d'=>obtain⟨b1,c,w1,w4,wp,w5⟩:=w;exact⟨b1,c,w1,w4,wp,w5.mono sG λo q=>Kt.of q⟩
  ·have ne:∀{j:Nat} {d':D},(env.set i (Sl.fz d))[j]? =some (.ow d')->env[j]? =some (.ow d'):=λ{j d'} q=>by
    by_cases z:j=i
    ·subst z;rw[RG hi] at q;cases q
    ·rw[RF (Ne.symm z)] at q;exact q
   exact I.sep j k c d1 d2 (ne q1) (ne q2) q3 q4
theorem SR.a8 (I:@Is)(L:@Ix)(hb:∀i,i∈L->Γ.br i=false):∃G',SR Γ B G' H σ (a8 L env) β/\aw G G':=by
 induction L generalizing env G with
 |nil=>exact⟨G,I,aw.refl _⟩
 |cons i L ih=>
  show ∃G',SR Γ B G' H σ (L2.a8 L (ig env i)) β/\aw G G'
  have key:∃G1,SR Γ B G1 H σ (ig env i) β/\aw G G1:=by
   cases e:env[i]? with
   |none=>exact⟨G,by unfold ig;rw[e];exact I,aw.refl _⟩
   |some s=>
    cases s with
    |ow d=>
     obtain⟨G1,v,h1,h2,_⟩:=I.freeze i (hb i (Ro ..)) (d:=d) (by unfold vl;rw[RA,e];rfl)
     exact⟨G1,h1,h2⟩
    |_=>exact⟨G,by unfold ig;rw[e];exact I,aw.refl _⟩
  obtain⟨G1,I1,s1⟩:=key
  obtain⟨G2,I2,s2⟩:=ih I1 λj hj=>hb j (Ru _ hj)
  exact⟨G2,I2,s1.trans s2⟩
def SR.set (I:@Is){i:Nat}(hi:i < env.length){v:V}{d:D}(h:Rp Γ.K G v d):SR Γ B G H (σ.set i (some v)) (env.set i (.fz d)) β:=by
 have hs:i < σ.length:=by rw[I.len];exact hi
 refine⟨I.sub,I.old,I.new,I.keep,I.pin,I.fix,I.box,by rw[SM,SM];exact I.len,λj s q=>?_,λj k c d1 d2 q1 q2 q3 q4=>?_⟩
 ·by_cases z:j=i
  ·subst z
   rw[RG hi] at q
   cases q
   exact⟨v,by rw[RG hs],h⟩
  ·rw[RF (Ne.symm z)] at q ⊢
   exact I.slot j s q
 ·have ne:∀{j:Nat} {d':D},(env.set i (Sl.fz d))[j]? =some (.ow d')->j≠i/\env[j]? =some (.ow d'):=λ{j d'} q=>by
   by_cases z:j=i
   ·subst z;rw[RG hi] at q;cases q
   ·rw[RF (Ne.symm z)] at q;exact⟨z,q⟩
  obtain⟨n1,e1⟩:=ne q1
  obtain⟨n2,e2⟩:=ne q2
  rw[RF (Ne.symm n1)] at q3
  rw[RF (Ne.symm n2)] at q4
  exact I.sep j k c d1 d2 e1 e2 q3 q4
def SR.setOw (I:@Is){i:Nat}(hi:i < env.length){a:Addr}{d:D}(h0:Γ.H0 a=none)(hg:G a=none)(hb:B≠some a)(h:Own Γ.K G H a d)(hn:∀(j:Nat) (d':D),env[j]? =some (.ow d')->j≠i->σ[j]?≠some (some (.ref a))):SR Γ B G H (σ.set i (some (.ref a))) (env.set i (.ow d)) β:=by
 have hs:i < σ.length:=by rw[I.len];exact hi
 refine⟨I.sub,I.old,I.new,I.keep,I.pin,I.fix,I.box,by rw[SM,SM];exact I.len,λj s q=>?_,λj k c d1 d2 q1 q2 q3 q4=>?_⟩
 ·by_cases z:j=i
  ·subst z
   rw[RG hi] at q
   cases q
   exact⟨a,by rw[RG hs],h0,hg,hb,h⟩
  ·rw[RF (Ne.symm z)] at q ⊢
   exact I.slot j s q
 ·by_cases z1:j=i
  ·by_cases z2:k=i
   ·rw[z1,z2]
   ·subst z1
    rw[RF (Ne.symm z2)] at q2 q4
    rw[RG hs] at q3
    cases q3
    exact absurd q4 (hn k d2 q2 z2)
  ·by_cases z2:k=i
   ·subst z2
    rw[RF (Ne.symm z1)] at q1 q3
    rw[RG hs] at q4
    cases q4
    exact absurd q3 (hn j d1 q1 z1)
   ·rw[RF (Ne.symm z1)] at q1 q3
    rw[RF (Ne.symm z2)] at q2 q4
    exact I.sep j k c d1 d2 q1 q2 q3 q4
def SR.fresh (I:@Is){a:Addr}(h:H a=none):Γ.H0 a=none/\G a=none/\B≠some a/\∀(j:Nat) (d:D),env[j]? =some (.ow d)->σ[j]?≠some (some (.ref a)):=by
 have hB:B≠some a:=λz=>by rw[(I.box a z).1] at h;cases h
 refine⟨?_,I.sub.free h,hB,λj d e z=>?_⟩
 ·cases e:Γ.H0 a with
  |none=>rfl
  |some o=>exact absurd h (I.there (by rw[e];simp))
 ·obtain⟨c,h1,_,_,_,h5⟩:=I.slot j _ e
  rw[z] at h1
  cases h1
  obtain⟨o,ho⟩:=h5.obj
  rw[h] at ho;cases ho
def SR.write (I:@Is)(hb:∀j,Γ.br j=false){i:Nat}{a:Addr}{d d':D}{o:HO}(e:env[i]? =some (.ow d))(ea:σ[i]? =some (some (.ref a)))(h:∀H',H' a=some o->aw G H'->Own Γ.K G H' a d'):SR Γ B G (upd H a o) σ (env.set i (.ow d')) β:=by
 obtain⟨a',h1,h2,h3,h4,h5⟩:=I.slot i _ e
 rw[ea] at h1;cases h1
 have hi:i < env.length:=(Rn.mp e).1
 have ha:∀x y,H a≠some (.a8 x y):=λx y w=>h5.mx.2 _ w trivial
 have sub:aw G (upd H a o):=λb u q=>nJ (I.sub b u q) (λz=>by rw[z,h3] at q;cases q) ha
 refine⟨sub,I.old,I.new,λb u q n=>?_,λb q=>?_,I.fix,λb q=>?_,by rw[SM];exact I.len,λj s q=>?_,λj k c d1 d2 q1 q2 q3 q4=>?_⟩
 ·exact nJ (I.keep b u q n) (λz=>by rw[z,h2] at q;cases q) ha
 ·by_cases z:b=a
  ·subst z;exact (h _ aE sub).mx
  ·exact (I.pin b q).same λo e=>Kt.of (by rw[aC z];exact e)
 ·obtain⟨k1,k2,k3⟩:=I.box b q
  exact⟨by rw[aC (λz=>h4 (by rw[<-z];exact q))];exact k1,k2,k3⟩
 ·by_cases z:j=i
  ·subst z
   rw[RG hi] at q
   cases q
   exact⟨a,ea,h2,h3,h4,h _ aE sub⟩
  ·rw[RF (Ne.symm z)] at q
   have w:=I.slot j s q
   cases s with
   |no=>trivial
   |fz d1=>exact w
   |ow d1=>
    obtain⟨c,w1,w2,w3,w4,w5⟩:=w
    have ca:c≠a:=λz2=>z (I.sep j i c d1 d q e w1 (by rw[z2];exact ea))
    exact⟨c,w1,w2,w3,w4,w5.mono (aw.refl _) λo q=>Kt.of (by rw[aC ca];exact q)⟩
   |bx=>exact w
   |br d1=>obtain⟨b1,_⟩:=w;rw[hb j] at b1;cases b1
 ·have back:∀{j:Nat} {d1:D},(env.set i (Sl.ow d'))[j]? =some (.ow d1)->∃d2,env[j]? =some (.ow d2):=λ{j d1} q=>by
   by_cases z:j=i
   ·subst z;exact⟨d,e⟩
   ·rw[RF (Ne.symm z)] at q;exact⟨d1,q⟩
  obtain⟨_,b1⟩:=back q1
  obtain⟨_,b2⟩:=back q2
  exact I.sep j k c _ _ b1 b2 q3 q4
end
inductive R (α:Type) where
 |ok (a:α) (β:Int)
 |exc (c:Str)
 |bad
def R.bnd {α γ:Type}(r:R α)(k:α->Int->R γ):R γ:=match r with
 | .ok a β=>k a β
 | .exc c=>.exc c
 | .bad=>.bad
def R.of {α:Type}(o:Option α)(β:Int):R α:=match o with
 |some a=>.ok a β
 |none=>.bad
abbrev VF (α:Type):=List Nv->Int->R α
def Kp (Γ:Fx)(H':Hp):Prop:=∀b o,Γ.H0 b=some o->b∉Γ.par->Kt H' b o
def Out {α:Type}(Γ:Fx)(E:XK)(r:R α)(P:α->Int->Prop):Prop:=match r with
 | .ok a β=>P a β
 | .exc c=>∀H',Kp Γ H'->E (.ref (Γ.ca c)) none H'
 | .bad=>False
section
variable {α γ:Type}{Γ:Fx}{E:XK}
theorem Out.bnd {r:R α}{k:α->Int->R γ}{P:γ->Int->Prop}(h:Out Γ E (r.bnd k) P):Out Γ E r λa β=>Out Γ E (k a β) P:=by
 cases r with
 |ok a β=>exact h
 |exc c=>exact h
 |bad=>exact h
theorem Out.imp {r:R α}{P P':α->Int->Prop}(h:Out Γ E r P)(i:∀a β,P a β->P' a β):Out Γ E r P':=by
 cases r with
 |ok a β=>exact i a β h
 |exc c=>exact h
 |bad=>exact h
theorem Out.of {o:Option α}{β:Int}{P:α->Int->Prop}(h:Out Γ E (R.of o β) P):∃a,o=some a/\P a β:=by
 cases o with
 |none=>exact h.elim
 |some a=>exact⟨a,rfl,h⟩
end
inductive Md where
 |b |v |w
def VO (K:Frag)(B:@J_)(H G' H':Hp):Md->D->V->Prop
 | .b,d,v=>ou K B G' H' v d
 | .v,d,v=>Rp K G' v d
 | .w,d,v=>∃a,v=.ref a/\H a=none/\G' a=none/\Own K G' H' a d
def pT (Γ:Fx)(E:XK)(f:VF D)(L:@Ix)(md:Md):TE:=λσ H Q=>∃env G B β,@Is/\
 Out Γ E (f @PP β) λd β'=>∀v G' H',SR Γ B G' H' σ (a8 L env) β'->aw G G'->jh B H H'->VO Γ.K B H G' H' md d v->Q v H'
def SE (X:Cx)(Γ:Fx)(E:XK)(e:Expr)(f:VF D)(L:@Ix)(md:Md):Prop:=PE X e (pT Γ E f L md)
def qT (Γ:Fx)(E:XK)(f:VF Bool)(L:@Ix):TT:=λσ H Q=>∃env G B β,@Is/\
 Out Γ E (f @PP β) λc β'=>∀G' H',SR Γ B G' H' σ (a8 L env) β'->aw G G'->jh B H H'->Q c H'
def BO (X:Cx)(Γ:Fx)(E:XK)(e:Expr)(f:VF Bool)(L:@Ix):Prop:=PT X e (qT Γ E f L)
def zr (X:Cx)(Γ:Fx)(E:XK)(e:Expr)(f:VF Bool)(L:@Ix):Prop:=PW X e (qT Γ E f L)
def aT (Γ:Fx)(E:XK)(f:@Tk)(L:@Ix):TA:=λσ H Q=>∃env G B β,@Is/\
 Out Γ E (f @PP β) λds β'=>∀vs G' H',SR Γ B G' H' σ (a8 L env) β'->aw G G'->jh B H H'->cP Γ.K G' vs ds->Q vs H'
def SA (X:Cx)(Γ:Fx)(E:XK)(es:List Expr)(f:@Tk)(L:@Ix):Prop:=PA X es (aT Γ E f L)
def PE.post' {X:Cx}{e:Expr}{t u:TE}(h:PE X e t)(m:∀σ H Q,u σ H Q->t σ H Q):PE X e u:=λpins s σ H Q I q=>h pins s σ H Q I (m σ H Q q)
def PT.post {X:Cx}{e:Expr}{t u:TT}(h:PT X e t)(m:∀σ H Q,u σ H Q->t σ H Q):PT X e u:=λpins s σ H Q I q=>h pins s σ H Q I (m σ H Q q)
def PW.post {X:Cx}{e:Expr}{t u:TT}(h:PW X e t)(m:∀σ H Q,u σ H Q->t σ H Q):PW X e u:=λwh pins s σ H Q I q=>h wh pins s σ H Q I (m σ H Q q)
def PA.post {X:Cx}{es:List Expr}{t u:TA}(h:PA X es t)(m:∀σ H Q,u σ H Q->t σ H Q):PA X es u:=λpos pins s σ H Q I q=>h pos pins s σ H Q I (m σ H Q q)
def PS.post {X:Cx}{st:Stmt}{t u:TS}(h:PS X st t)(m:∀D σ H,u D σ H->t D σ H):PS X st u:=λpins s σ H D I q=>h pins s σ H D I (m D σ H q)
def dat:Option Nv->Option D
 |some (.da d)=>some d
 |_=>none
def gv (i:Nat):VF D:=λvs β=>R.of (dat vs[i]?) β
def cst (d:D):VF D:=λ_ β=>.ok d β
section
variable {X:Cx}{Γ:Fx}{E:XK}{e a b c:Expr}{f fa fb fc:VF D}{L La Lb Lc:@Ix}{md ma mb mc:Md}{pos:Pos}
theorem join_some {o:Option Nv}{d:D}(h:dat o=some d):o=some (.da d):=by
 cases o with
 |none=>cases h
 |some o=>cases o with
  |da x=>cases h;rfl
  |_=>cases h
def SR.letIn {B:@J_}{G H:Hp}{σ:St}{env:En}{β:Int}(I:@Is){p:Addr}{d:D}(h0:Γ.H0 p=none)(hg:G p=none)(hb:B≠some p)(hn:∀(j:Nat) (d':D),env[j]? =some (.ow d')->σ[j]?≠some (some (.ref p)))(h:Own Γ.K G H p d) :
  ∃G',SR Γ B G' H σ env β/\aw G G'/\Rp Γ.K G' (.ref p) d:=by
 obtain⟨o,ho⟩:=h.obj
 have sG:aw G (upd G p o):=aw.new hg
 refine⟨upd G p o,⟨λb u q=>?_,I.old.trans sG,λb n1 n2=>?_,I.keep,I.pin,I.fix,λb q=>?_,I.len,λj s q=>?_,I.sep⟩,sG,h.rp hg sG λo' q=>by rw[ho] at q;cases q;exact aE⟩
 ·by_cases z:b=p
  ·subst z;rw[aE] at q;cases q;exact Kt.of ho
  ·rw[aC z] at q;exact I.sub b u q
 ·rw[aC (λz=>n1.1 (by rw[z];exact h0))];exact I.new b n1 n2
 ·obtain⟨k1,k2,k3⟩:=I.box b q
  exact⟨k1,by rw[aC (λz=>hb (by rw[<-z];exact q))];exact k2,k3⟩
 ·have w:=I.slot j s q
  cases s with
  |no=>trivial
  |fz d'=>obtain⟨v,w1,w2⟩:=w;exact⟨v,w1,w2.mono sG⟩
  |ow d'=>
   obtain⟨c,w1,w2,w3,w4,w5⟩:=w
   have ca:c≠p:=λz2=>hn j d' q (by rw[<-z2];exact w1)
   exact⟨c,w1,w2,by rw[aC ca];exact w3,w4,w5.mono sG λo q=>Kt.of q⟩
  |bx=>exact w
  |br d'=>obtain⟨b1,c,w1,w4,wp,w5⟩:=w;exact⟨b1,c,w1,w4,wp,w5.mono sG λo q=>Kt.of q⟩
def xp {env:En}{i j:Nat}{d:D}(h:(ig env i)[j]? =some (.ow d)):env[j]? =some (.ow d):=by
 unfold ig at h
 split at h
 ·rename_i d' e
  by_cases z:i=j
  ·subst z
   rw[RG (Rn.mp e).1] at h;cases h
  ·rw[RF z] at h;exact h
 ·exact h
theorem sM {L:@Ix}{env:En}{j:Nat}{d:D}(h:(a8 L env)[j]? =some (.ow d)):env[j]? =some (.ow d):=by
 unfold a8 at h
 induction L generalizing env with
 |nil=>exact h
 |cons i L ih=>exact xp (ih h)
def SR.letW {B:@J_}{G H G' H':Hp}{σ:St}{env:En}{β β':Int}{L:@Ix}{d:D}{v:V}(I:@Is)(I':SR Γ B G' H' σ (L2.a8 L env) β')(h:VO Γ.K B H G' H' .w d v):∃G2,SR Γ B G2 H' σ (L2.a8 L env) β'/\aw G' G2/\Rp Γ.K G2 v d:=by
 obtain⟨p,rfl,h1,h2,h3⟩:=h
 obtain⟨q1,q2,q3,q4⟩:=I.fresh h1
 exact I'.letIn q1 h2 q3 (λj d' e=>q4 j d' (sM e)) h3
def SE.wv (h:SE X Γ E e f L .w):SE X Γ E e f L .v:=by
 refine PE.post' h λσ H Q ⟨env,G,B,β,I,o⟩=>⟨env,G,B,β,I,o.imp λd β' k v G' H' I' s m vo=>?_⟩
 obtain⟨G2,I2,s2,r⟩:=I.letW I' vo
 exact k v G2 H' I2 (s.trans s2) m r
theorem VO.brw {B:@J_}{H G' H':Hp}{d:D}{v:V}{K:Frag}(h:VO K B H G' H' md d v)(hB:∀x,B=some x->H x≠none):ou K B G' H' v d:=by
 cases md with
 |b=>exact h
 |v=>exact .inl h
 |w=>
  obtain⟨p,rfl,h1,h2,h3⟩:=h
  exact .inr ⟨p,rfl,λz=>hB p z h1,h3⟩
def SR.boxThere {B:@J_}{G H:Hp}{σ:St}{env:En}{β:Int}(I:@Is):∀x,B=some x->H x≠none:=λx e=>by rw[(I.box x e).1];simp
def ae (i:Nat){x:Str}(hN:X.N[i]? =some x:=by rfl)(hv:BN X.env.scope x:=by first |exact Or.inl rfl |exact Or.inr (Or.inl rfl) |exact Or.inr (Or.inr rfl))(hd:@Go:=by decide)
  (hcd:(x == ("__classdict__":Str))=false:=by decide):SE X Γ E (.Name x pos) (gv i) [] .b:=by
 refine PE.post' (kU hN hv hd hcd) λσ H Q ⟨env,G,B,β,I,o⟩=>?_
 obtain⟨d,e,k⟩:=o.of
 have e:=join_some e
 rcases Fw e with q |q |q
 ·obtain⟨v,h1,h2⟩:=I.slot i _ q
  exact⟨v,h1,k v G H I (aw.refl _) (jh.refl _ _) (.inl h2)⟩
 ·obtain⟨p,h1,h2,h3,h4,h5⟩:=I.slot i _ q
  exact⟨.ref p,h1,k _ G H I (aw.refl _) (jh.refl _ _) (.inr ⟨p,rfl,h4,h5⟩)⟩
 ·obtain⟨_,p,h1,h4,_,h5⟩:=I.slot i _ q
  exact⟨.ref p,h1,k _ G H I (aw.refl _) (jh.refl _ _) (.inr ⟨p,rfl,h4,h5⟩)⟩
def af (i:Nat)(hb:Γ.br i=false){x:Str}(hN:X.N[i]? =some x:=by rfl)(hv:BN X.env.scope x:=by first |exact Or.inl rfl |exact Or.inr (Or.inl rfl) |exact Or.inr (Or.inr rfl))(hd:@Go:=by decide)
  (hcd:(x == ("__classdict__":Str))=false:=by decide):SE X Γ E (.Name x pos) (gv i) [i] .v:=by
 refine PE.post' (kU hN hv hd hcd) λσ H Q ⟨env,G,B,β,I,o⟩=>?_
 obtain⟨d,e,k⟩:=o.of
 obtain⟨G',v,I',s,h1,h2⟩:=I.freeze i hb (join_some e)
 exact⟨v,h1,k v G' H I' s (jh.refl _ _) h2⟩
def JJ {v:V}{d:D}(h:PE X e (tC v))(r:∀G,Rp Γ.K G v d):SE X Γ E e (cst d) [] .v:=by
 refine PE.post' h λσ H Q ⟨env,G,B,β,I,o⟩=>?_
 exact o v G H I (aw.refl _) (jh.refl _ _) (r G)
def ax {i:Int}{j}:SE X Γ E (.Constant (.int i) j pos) (cst (.int i)) [] .v:=JJ zF λ_=>.int i
def mQ {i:Bool}{j}:SE X Γ E (.Constant (.bool i) j pos) (cst (.bool i)) [] .v:=JJ Co λ_=>.bl i
def uk {x:Str}{j}:SE X Γ E (.Constant (.str x) j pos) (cst (.str x)) [] .v:=JJ KL λ_=>.str x
def Bq {x:Str}{i:Int}{t:Tok}(hg:Gl X x)(hm:X.mg x=some (.int i t))(hd:@Go:=by decide):SE X Γ E (.Name x pos) (cst (.int i)) [] .v:=JJ (HR hg hm (show RelV (.int i) _ from⟨_,rfl⟩) hd) λ_=>.int i
def two {W:V->V->@P3}{B:@J_}{G H:Hp}{σ:St}{env:En}{β:Int}(I:@Is)
  (h:Out Γ E (fa @PP β) λd1 β1=>Out Γ E (fb @PP β1) λd2 β2=>∀x y G2 H2,SR Γ B G2 H2 σ (a8 (La ++ Lb) env) β2->aw G G2->jh B H H2->ou Γ.K B G2 H2 x d1->ou Γ.K B G2 H2 y d2->W x y H2) :
  pT Γ E fa La ma σ H λx H1=>pT Γ E fb Lb mb σ H1 λy H2=>W x y H2:=by
 refine⟨env,G,B,β,I,h.imp λd1 β1 h x G1 H1 I1 s1 m1 vx=>⟨a8 La env,G1,B,β1,I1,?_⟩⟩
 rw[de]
 refine h.imp λd2 β2 k y G2 H2 I2 s2 m2 vy=>?_
 refine k x y G2 H2 (by rw[cu];exact I2) (s1.trans s2) (m1.trans m2) ((vx.brw I.boxThere).mono s2 m2) (vy.brw I1.boxThere)
def pe (K:Frag)(r:R2)(g:D->@Pi)(md:Md):Prop:=∀(B:@J_) (G H:Hp) (x y:V) (dx dy d:D) (Q:VK),aw G H->(∀x,B=some x->H x≠none)->ou K B G H x dx->ou K B G H y dy->g dx dy=some d->
 (∀v G' H',Ext G H G' H'->VO K B H G' H' md d v->Q v H')->r x y H Q
def f2 (fa fb:VF D)(g:D->@Pi):VF D:=λvs β=>(@Tm).bnd λx β1=>(fb vs β1).bnd λy β2=>R.of (g x y) β2
theorem gi {B:@J_}{H H2:Hp}(m:jh B H H2)(hB:∀x,B=some x->H2 x≠none){p:Addr}(h:H2 p=none):H p=none:=by
 cases e:H p with
 |none=>rfl
 |some o=>obtain⟨u,eu,_⟩:=(m.1 p o e λz=>hB p z h).some;rw[eu] at h;cases h
theorem VO.back {K:Frag}{B:@J_}{H H2 G' H':Hp}{d:D}{v:V}(h:VO K B H2 G' H' md d v)(m:jh B H H2)(hB:∀x,B=some x->H2 x≠none):VO K B H G' H' md d v:=by
 cases md with
 |b=>exact h
 |v=>exact h
 |w=>obtain⟨p,e,h1,h2,h3⟩:=h;exact⟨p,e,gi m hB h1,h2,h3⟩
def pZ {r:R2}{g:D->@Pi}{Q:VK}(pr:pe Γ.K r g md){B:@J_}{G H:Hp}{σ:St}{env:En}{β:Int}(I:@Is)
  (h:Out Γ E (f2 fa fb g @PP β) λd β'=>∀v G' H',SR Γ B G' H' σ (a8 (La ++ Lb) env) β'->aw G G'->jh B H H'->VO Γ.K B H G' H' md d v->Q v H') :
  pT Γ E fa La ma σ H λx H1=>pT Γ E fb Lb mb σ H1 λy H2=>r x y H2 Q:=by
 refine two I (h.bnd.imp λd1 β1 h=>h.bnd.imp λd2 β2 h x y G2 H2 I2 s2 m2 bx by'=>?_)
 obtain⟨d,e,k⟩:=h.of
 refine pr B G2 H2 x y d1 d2 d Q I2.sub I2.boxThere bx by' e λv G' H' x' vo=>?_
 exact k v G' H' (I2.ext x') (s2.trans x'.gg) (m2.trans (x'.hh.mov B)) (vo.back m2 I2.boxThere)
def a7 {op:Operator}{r:R2}{g:D->@Pi}(ho:m6 X (binaryOp op) r)(pr:pe Γ.K r g md)(ha:@SC)(hb:SE X Γ E b fb Lb mb):SE X Γ E (.BinOp a op b pos) (f2 fa fb g) (La ++ Lb) md:=
 PE.post' (vp ho ha hb) λσ H Q ⟨env,G,B,β,I,o⟩=>pZ pr I o
def fM {op:CmpOp}{r:R2}{g:D->@Pi}(ho:m6 X (compareOp op) r)(pr:pe Γ.K r g md)(ha:@SC)(hb:SE X Γ E b fb Lb mb)(hm:behindInMarks op b=false):SE X Γ E (.Compare a [op] [b] pos) (f2 fa fb g) (La ++ Lb) md:=
 PE.post' (HU ho ha hb hm) λσ H Q ⟨env,G,B,β,I,o⟩=>pZ pr I o
def aU {r:R2}{g:D->@Pi}(hr:E2 X r)(pr:pe Γ.K r g md)(ha:@SC)(hb:SE X Γ E b fb Lb mb)(hs:Cb b):SE X Γ E (.Subscript a b pos) (f2 fa fb g) (La ++ Lb) md:=
 PE.post' (oF hr ha hb hs) λσ H Q ⟨env,G,B,β,I,o⟩=>pZ pr I o
def GQ (K:Frag)(r:V->@P_)(g:@Pi)(md:Md):Prop:=∀(B:@J_) (G H:Hp) (x:V) (dx d:D) (Q:VK),aw G H->(∀x,B=some x->H x≠none)->ou K B G H x dx->g dx=some d->
 (∀v G' H',Ext G H G' H'->VO K B H G' H' md d v->Q v H')->r x H Q
def f1 (fa:VF D)(g:@Pi):VF D:=λvs β=>(@Tm).bnd λx β1=>R.of (g x) β1
def l5 {r:V->@P_}{g:@Pi}{Q:VK}(pr:GQ Γ.K r g md){B:@J_}{G H:Hp}{σ:St}{env:En}{β:Int}(I:@Is)
  (h:Out Γ E (f1 fa g @PP β) λd β'=>∀v G' H',SR Γ B G' H' σ (a8 La env) β'->aw G G'->jh B H H'->VO Γ.K B H G' H' md d v->Q v H') :
  pT Γ E fa La ma σ H λx H1=>r x H1 Q:=by
 refine⟨env,G,B,β,I,h.bnd.imp λd1 β1 h x G1 H1 I1 s1 m1 vx=>?_⟩
 obtain⟨d,e,k⟩:=h.of
 refine pr B G1 H1 x d1 d Q I1.sub I1.boxThere (vx.brw I.boxThere) e λv G' H' x' vo=>?_
 exact k v G' H' (I1.ext x') (s1.trans x'.gg) (m1.trans (x'.hh.mov B)) (vo.back m1 I1.boxThere)
def Fb {op:UnaryOp}{r:V->@P_}{g:@Pi}(ho:OO X (unaryOp op) r)(pr:GQ Γ.K r g md)(ha:@SC):SE X Γ E (.UnaryOp op a pos) (f1 fa g) La md:=
 PE.post' (OI ho ha) λσ H Q ⟨env,G,B,β,I,o⟩=>l5 pr I o
def aW {id:String}{r:List V->@P_}{g:@Pi}{x:Str}{p:Pos}(hc:fC X (.builtin id) r)(pr:GQ Γ.K (λx=>r [x]) g md)(hg:Gl X x)(hm:X.mg x=none)(hv:bootBuiltins x=some (.builtin id))(ha:@SC)(hn:x≠"__name__":=by decide)(hdb:@Go:=by decide)
  (he:@M_:=by rfl):SE X Γ E (.Call (.Name x p) [a] [] pos) (f1 fa g) La md:=
 PE.post' (lG hc hg hm hv (ba ha cf he) hn hdb he) λσ H Q ⟨env,G,B,β,I,o⟩=>l5 (r:=λx=>r [x]) pr I o
def c7 {id:String}{r:List V->@P_}{g:@Pi}{x:Str}{p:Pos}(hc:fC X (.type id) r)(pr:GQ Γ.K (λx=>r [x]) g md)(hg:Gl X x)(hm:X.mg x=none)(hv:bootBuiltins x=some (.type id))(ha:@SC)(hn:x≠"__name__":=by decide)(hdb:@Go:=by decide)
  (he:@M_:=by rfl):SE X Γ E (.Call (.Name x p) [a] [] pos) (f1 fa g) La md:=
 PE.post' (lF hc hg hm hv (ba ha cf he) hn hdb he) λσ H Q ⟨env,G,B,β,I,o⟩=>l5 (r:=λx=>r [x]) pr I o
def lj {id:String}{r:List V->@P_}{g:D->@Pi}{x:Str}{p:Pos}(hc:fC X (.builtin id) r)(pr:pe Γ.K (λx y=>r [x,y]) g md)(hg:Gl X x)(hm:X.mg x=none)(hv:bootBuiltins x=some (.builtin id))(ha:@SC)(hb:SE X Γ E b fb Lb mb)(hn:x≠"__name__":=by decide)(hdb:@Go:=by decide)
  (he:starEach [a,b] X.env=(false,eval a X.env) :: starEach [b] X.env:=by rfl) (he2:starEach [b] X.env=(false,eval b X.env) :: starEach [] X.env:=by rfl) (hpl:(backTo pos (starEach [b] X.env)).any (·.1)=false:=by rfl):SE X Γ E (.Call (.Name x p) [a,b] [] pos) (f2 fa fb g) (La ++ Lb) md:=
 PE.post' (lG hc hg hm hv (ba ha (ba hb cf he2) he) hn hdb he hpl) λσ H Q ⟨env,G,B,β,I,o⟩=>pZ (r:=λx y=>r [x,y]) pr I o
def g7 (fa fb:VF D):VF D:=λvs β=>(@Tm).bnd λx β1=>match x with
 | .bool true=>fb vs β1
 | .bool false=>.ok (.bool false) β1
 |_=>.bad
def MU (fa fb:VF D):VF D:=λvs β=>(@Tm).bnd λx β1=>match x with
 | .bool false=>fb vs β1
 | .bool true=>.ok (.bool true) β1
 |_=>.bad
def lX {op}(h:SE X Γ E a fa La md):SE X Γ E (.BoolOp op [a] pos) fa La md:=Mo h
theorem lR {rest:List Expr}(ha:@SC)(hb:SE X Γ E (.BoolOp .And (b :: rest) pos) fb Lb .v)(hbr:∀i,i∈Lb->Γ.br i=false):SE X Γ E (.BoolOp .And (a :: b :: rest) pos) (g7 fa fb) (La ++ Lb) .v:=by
 refine PE.post' (Kl ha hb) λσ H Q ⟨env,G,B,β,I,o⟩=>?_
 refine⟨env,G,B,β,I,o.bnd.imp λd1 β1 h x G1 H1 I1 s1 m1 vx=>?_⟩
 have bx:=vx.brw I.boxThere
 cases d1 with
 |bool c=>
  obtain rfl:=bx.bool
  refine⟨c,rfl,?_⟩
  cases c with
  |true=>exact ue ⟨_,G1,B,β1,I1,by rw[de];exact h.imp λd β' k v G' H' I' s' m' vo=>k v G' H' (by rw[cu];exact I') (s1.trans s') (m1.trans m') vo⟩
  |false=>
   obtain⟨G2,I2,s2⟩:=I1.a8 Lb hbr
   exact sy (h _ G2 H1 (by rw[cu];exact I2) (s1.trans s2) m1 (.bl false))
 |_=>exact h.elim
theorem NX {rest:List Expr}(ha:@SC)(hb:SE X Γ E (.BoolOp .Or (b :: rest) pos) fb Lb .v)(hbr:∀i,i∈Lb->Γ.br i=false):SE X Γ E (.BoolOp .Or (a :: b :: rest) pos) (MU fa fb) (La ++ Lb) .v:=by
 refine PE.post' (Np ha hb) λσ H Q ⟨env,G,B,β,I,o⟩=>?_
 refine⟨env,G,B,β,I,o.bnd.imp λd1 β1 h x G1 H1 I1 s1 m1 vx=>?_⟩
 have bx:=vx.brw I.boxThere
 cases d1 with
 |bool c=>
  obtain rfl:=bx.bool
  refine⟨c,rfl,?_⟩
  cases c with
  |true=>
   obtain⟨G2,I2,s2⟩:=I1.a8 Lb hbr
   exact ue (h _ G2 H1 (by rw[cu];exact I2) (s1.trans s2) m1 (.bl true))
  |false=>exact sy ⟨_,G1,B,β1,I1,by rw[de];exact h.imp λd β' k v G' H' I' s' m' vo=>k v G' H' (by rw[cu];exact I') (s1.trans s') (m1.trans m') vo⟩
 |_=>exact h.elim
def Gi:@Pi
 | .bool c=>some (.bool (!c))
 |_=>none
theorem Ea (ha:@SC):SE X Γ E (.UnaryOp .Not a pos) (f1 fa Gi) La .v:=by
 refine PE.post' (K6 ha) λσ H Q ⟨env,G,B,β,I,o⟩=>?_
 refine l5 (r:=λx H1 Q=>∃c,x=.bl c/\Q (.bl (!c)) H1) ?_ I o
 intro B G H x dx d Q s hB bx e k
 cases dx with
 |bool c=>
  obtain rfl:=bx.bool
  cases e
  exact⟨c,rfl,k _ G H (Ext.refl s) (.bl _)⟩
 |_=>cases e
def Lr:D->Option Bool
 | .none=>some false
 | .bool b=>some b
 | .int i=>some (i != 0)
 | .str y=>if y.length<=sizeLine then some ((y.length:Int) != 0) else none
 | .list ds=>some (!ds.isEmpty)
 | .tuple ds=>some (!ds.isEmpty)
 | .dict _=>none
def i3 (fa:VF D):VF Bool:=λvs β=>(@Tm).bnd λx β1=>R.of (Lr x) β1
def qH {K:Frag}{G:Hp}{xs:List V}{ds:List D}(r:cP K G xs ds):(!ds.isEmpty)= !xs.isEmpty:=by cases r <;> rfl
theorem cC (hK:X.K=Γ.K)(ha:@SC)(he:∀whole,isTrue a X.env whole=(do let v <-whole;standAt a.pos;holding [v] (truthy v)):=by intro _;rfl):BO X Γ E a (i3 fa) La:=by
 refine PT.post (F0 ha he) λσ H Q ⟨env,G,B,β,I,o⟩=>?_
 refine⟨env,G,B,β,I,o.bnd.imp λd1 β1 h x G1 H1 I1 s1 m1 vx=>?_⟩
 obtain⟨c,e,k⟩:=h.of
 have bx:=vx.brw I.boxThere
 refine⟨c,?_,k G1 H1 I1 s1 m1⟩
 rw[hK]
 cases d1 with
 |none=>obtain rfl:=bx.none;cases e;rfl
 |bool b=>obtain rfl:=bx.bool;cases e;rfl
 |int i=>obtain rfl:=bx.int;cases e;rfl
 |str y=>
  obtain rfl:=bx.str
  simp only[Lr] at e
  split at e
  ·cases e;exact⟨by assumption,rfl⟩
  ·cases e
 |list ds=>obtain⟨p,xs,rfl,hq,r⟩:=bx.list I1.sub;cases e;exact .inl ⟨xs,.inl hq,qH r⟩
 |tuple ds=>obtain⟨p,xs,rfl,hq,r⟩:=bx.tuple I1.sub;cases e;exact .inr (.inl ⟨xs,hq,qH r⟩)
 |dict ds=>cases e
def eO (fa:VF D):VF Bool:=λvs β=>(@Tm).bnd λx β1=>match x with
 | .bool c=>.ok c β1
 |_=>.bad
theorem cj {op:CmpOp}{r:R2}{g:D->@Pi}(ho:m6 X (compareOp op) r)(pr:pe Γ.K r g .v)(ha:@SC)(hb:SE X Γ E b fb Lb mb)(hm:behindInMarks op b=false):BO X Γ E (.Compare a [op] [b] pos) (eO (f2 fa fb g)) (La ++ Lb):=by
 refine PT.post (Jt ho ha hb hm) λσ H Q ⟨env,G,B,β,I,o⟩=>?_
 refine pZ pr I (o.bnd.imp λd β' h v G' H' I' s' m' vo=>?_)
 cases d with
 |bool c=>cases vo;exact⟨c,rfl,h G' H' I' s' m'⟩
 |_=>exact h.elim
def pC (t:VF Bool):VF Bool:=λvs β=>(t vs β).bnd λc β1=>.ok (!c) β1
def Gg (t u:VF Bool):VF Bool:=λvs β=>(t vs β).bnd λc β1=>if c=true then u vs β1 else .ok false β1
def pN (t u:VF Bool):VF Bool:=λvs β=>(t vs β).bnd λc β1=>if c=true then .ok true β1 else u vs β1
variable {ta tb tc:VF Bool}
def dO (ha:BO X Γ E a ta La):BO X Γ E (.UnaryOp .Not a pos) (pC ta) La:=by
 refine PT.post (MC ha) λσ H Q ⟨env,G,B,β,I,o⟩=>?_
 exact⟨env,G,B,β,I,o.bnd.imp λc β1 h=>h⟩
def zr.t (h:zr X Γ E e ta La):BO X Γ E e ta La:=PW.pt h
def Cg (ha:BO X Γ E a ta La):zr X Γ E (.BoolOp .And [a] pos) ta La:=Ci ha
def oZ (ha:BO X Γ E a ta La):zr X Γ E (.BoolOp .Or [a] pos) ta La:=Mz ha
theorem Gn {rest:List Expr}(ha:BO X Γ E a ta La)(hb:zr X Γ E (.BoolOp .And (b :: rest) pos) tb Lb)(hbr:∀i,i∈Lb->Γ.br i=false):zr X Γ E (.BoolOp .And (a :: b :: rest) pos) (Gg ta tb) (La ++ Lb):=by
 refine PW.post (EV ha hb) λσ H Q ⟨env,G,B,β,I,o⟩=>?_
 refine⟨env,G,B,β,I,o.bnd.imp λc β1 h G1 H1 I1 s1 m1=>?_⟩
 cases c with
 |true=>exact ue ⟨_,G1,B,β1,I1,by rw[de];exact Out.imp h λd β' k G' H' I' s' m'=>k G' H' (by rw[cu];exact I') (s1.trans s') (m1.trans m')⟩
 |false=>
  obtain⟨G2,I2,s2⟩:=I1.a8 Lb hbr
  exact sy (h G2 H1 (by rw[cu];exact I2) (s1.trans s2) m1)
theorem tj {rest:List Expr}(ha:BO X Γ E a ta La)(hb:zr X Γ E (.BoolOp .Or (b :: rest) pos) tb Lb)(hbr:∀i,i∈Lb->Γ.br i=false):zr X Γ E (.BoolOp .Or (a :: b :: rest) pos) (pN ta tb) (La ++ Lb):=by
 refine PW.post (Og ha hb) λσ H Q ⟨env,G,B,β,I,o⟩=>?_
 refine⟨env,G,B,β,I,o.bnd.imp λc β1 h G1 H1 I1 s1 m1=>?_⟩
 cases c with
 |true=>
  obtain⟨G2,I2,s2⟩:=I1.a8 Lb hbr
  exact ue (h G2 H1 (by rw[cu];exact I2) (s1.trans s2) m1)
 |false=>exact sy ⟨_,G1,B,β1,I1,by rw[de];exact Out.imp h λd β' k G' H' I' s' m'=>k G' H' (by rw[cu];exact I') (s1.trans s') (m1.trans m')⟩
def NT (t:VF Bool)(fa fb:VF D):VF D:=λvs β=>(t vs β).bnd λc β1=>if c=true then fa vs β1 else fb vs β1
theorem J1 (hc:BO X Γ E c tc Lc)(ha:SE X Γ E a fa La md)(hb:SE X Γ E b fb Lb md)(hbr:∀i,i∈La ++ Lb->Γ.br i=false):SE X Γ E (.IfExp c a b pos) (NT tc fa fb) (Lc ++ (La ++ Lb)) md:=by
 refine PE.post' (Ek hc ha hb) λσ H Q ⟨env,G,B,β,I,o⟩=>?_
 refine⟨env,G,B,β,I,o.bnd.imp λc β1 h G1 H1 I1 s1 m1=>?_⟩
 obtain⟨G2,I2,s2⟩:=I1.a8 (La ++ Lb) hbr
 have idem:∀M:@Ix,(∀i,i∈M->i∈La ++ Lb)->a8 M (a8 (La ++ Lb) (a8 Lc env))=a8 (La ++ Lb) (a8 Lc env):=by
  have key:∀(M:@Ix) (en:En) (k:Nat),k∈M->∀d',(a8 M en)[k]?≠some (.ow d'):=by
   intro M
   induction M with
   |nil=>intro en k hm;cases hm
   |cons i M ih=>
    intro en k hm d' z
    rcases Rm.mp hm with y |y
    ·subst y
     have z1:(ig en k)[k]? =some (.ow d'):=sM (L:=M) z
     have z2:=xp z1
     unfold ig at z1
     rw[z2] at z1
     dsimp only at z1
     rw[RG (Rn.mp z2).1] at z1;cases z1
    ·exact ih (ig en i) k y d' z
  intro M
  induction M with
  |nil=>intro _;rfl
  |cons i M ih=>
   intro hM
   show a8 M (ig _ i)=_
   have:ig (a8 (La ++ Lb) (a8 Lc env)) i=a8 (La ++ Lb) (a8 Lc env):=by
    have hn:=key (La ++ Lb) (a8 Lc env) i (hM i (Ro ..))
    generalize a8 (La ++ Lb) (a8 Lc env)=en at hn ⊢
    unfold ig
    split
    ·rename_i d e;exact absurd e (hn d)
    ·rfl
   rw[this]
   exact ih λj hj=>hM j (Ru _ hj)
 have go:∀{f:VF D} {M:@Ix},(∀i,i∈M->i∈La ++ Lb)->Out Γ E (f @PP β1) (λd β'=>∀v G' H',SR Γ B G' H' σ (a8 (Lc ++ (La ++ Lb)) env) β'->aw G G'->jh B H H'->VO Γ.K B H G' H' md d v->Q v H')->pT Γ E f M md σ H1 Q:=λ{f M} hM h=>by
  refine⟨_,G2,B,β1,I2,?_⟩
  rw[de,de]
  refine h.imp λd β' k v G' H' I' s' m' vo=>?_
  rw[idem M hM,<-cu] at I'
  exact k v G' H' I' ((s1.trans s2).trans s') (m1.trans m') (vo.back m1 I1.boxThere)
 cases c with
 |true=>exact ue (go (λi hi=>Sg _ hi) h)
 |false=>exact sy (go (λi hi=>RJ _ hi) h)
def ao:@Tk:=λ_ β=>.ok [] β
def aa (fa:VF D)(fr:@Tk):@Tk:=λvs β=>(@Tm).bnd λx β1=>(fr vs β1).bnd λxs β2=>.ok (x :: xs) β2
variable {fr:@Tk}{es:List Expr}
def ah:SA X Γ E [] ao []:=PA.post cf λσ H Q ⟨env,G,B,β,I,o⟩=>o [] G H I (aw.refl _) (jh.refl _ _) .nil
def ab (ha:SE X Γ E a fa La .v)(hr:SA X Γ E es fr Lb)(hs:starEach (a :: es) X.env=(false,eval a X.env) :: @T_:=by rfl):SA X Γ E (a :: es) (aa fa fr) (La ++ Lb):=by
 refine PA.post (ba ha hr hs) λσ H Q ⟨env,G,B,β,I,o⟩=>?_
 refine⟨env,G,B,β,I,o.bnd.imp λd1 β1 h x G1 H1 I1 s1 m1 vx=>⟨a8 La env,G1,B,β1,I1,?_⟩⟩
 rw[de]
 refine h.bnd.imp λds β2 k xs G2 H2 I2 s2 m2 r=>?_
 exact k (x :: xs) G2 H2 (by rw[cu];exact I2) (s1.trans s2) (m1.trans m2) (.cons (vx.mono s2) r)
def cq (fr:@Tk):VF D:=λvs β=>(fr vs β).bnd λds β1=>if ds.length<=sizeLine then .ok (.tuple ds) β1 else .bad
def fo (fr:@Tk):VF D:=λvs β=>(fr vs β).bnd λds β1=>if ds.length<=sizeLine then .ok (.list ds) β1 else .bad
def cB {x1}(h:SA X Γ E es fr L):SE X Γ E (.Tuple es x1 pos) (cq fr) L .v:=by
 refine PE.post' (Ac h) λσ H Q ⟨env,G,B,β,I,o⟩=>?_
 refine⟨env,G,B,β,I,o.bnd.imp λds β1 k xs G1 H1 I1 s1 m1 r=>?_⟩
 by_cases hz:ds.length<=sizeLine
 ·rw[Rg hz] at k
  refine⟨by rw[r.len];exact hz,λp hp=>?_⟩
  have x:=Ext.new I1.sub (o:=.tup xs) hp
  exact k _ _ _ (I1.ext x) (s1.trans x.gg) (m1.trans (x.hh.mov B)) (.tup (.inl (.inl aE)) (r.mono x.gg))
 ·rw[Rj hz] at k;exact k.elim
def eJ (h:SA X Γ E es fr L):SE X Γ E (.List es pos) (fo fr) L .w:=by
 refine PE.post' (Ga h) λσ H Q ⟨env,G,B,β,I,o⟩=>?_
 refine⟨env,G,B,β,I,o.bnd.imp λds β1 k xs G1 H1 I1 s1 m1 r=>?_⟩
 by_cases hz:ds.length<=sizeLine
 ·rw[Rg hz] at k
  refine⟨by rw[r.len];exact hz,λp hp=>?_⟩
  have x:=Ext.own I1.sub (o:=.lst xs) hp
  exact k _ _ _ (I1.ext x) s1 (m1.trans (x.hh.mov B)) ⟨p,rfl,gi m1 I1.boxThere hp,I1.sub.free hp,xs,aE,r⟩
 ·rw[Rj hz] at k;exact k.elim
inductive FR where
 |ok (d:D) (fresh:Bool)
 |exc (c:Str)
 |bad
def FV (K:Frag)(H G' H':Hp)(fr:Bool)(d:D)(v:V):Prop:=if fr=true then ∃a,v=.ref a/\H a=none/\G' a=none/\Own K G' H' a d else Rp K G' v d
def Jk (K:Frag)(ca:Str->Addr)(n:Nat)(F:@Cl):Sp:=λvs H Q E=>∃G ds,aw G H/\ds.length=n/\cP K G vs ds/\match F ds with
 | .ok d fr=>∀v G' H',aw H H'->aw G G'->aw G' H'->(∀b,Mx H b->G b=none->G' b=none)->FV K H G' H' fr d v->Q v H'
 | .exc c=>∀H',aw H H'->E (.ref (ca c)) none H'
 | .bad=>False
structure bK (P:Program)(w:World)(K:Frag)(mg:@Fr)(base:Heap)(ca:Str->Addr)(x:Str)(ps:@Id)(k:Nat)(F:@Cl):Prop where
 ex:∃f fd,mg x=some (.ref f)/\PySem.W.keepIn K (.ref f)=true/\Binds K fd ps []/\gp P w K mg base (qv P w) k f fd ps (Jk K ca ps.length F)
 len:∀ds,F ds≠.bad->ds.length=ps.length
def aq (F:@Cl)(fr:@Tk):VF D:=λvs β=>(fr vs β).bnd λds β1=>match F ds with
 | .ok d _=>.ok d β1
 | .exc c=>.exc c
 | .bad=>.bad
def vN (F:@Cl)(fr:@Tk):VF D:=λvs β=>(fr vs β).bnd λds β1=>match F ds with
 | .ok d true=>.ok d β1
 | .ok _ false=>.bad
 | .exc c=>.exc c
 | .bad=>.bad
def SR.called {B:@J_}{G1 H1 G2 H2:Hp}{σ:St}{env:En}{β:Int}(I1:SR Γ B G1 H1 σ env β)(h:aw H1 H2)(g:aw G1 G2)(s:aw G2 H2)(n:∀b,Mx H1 b->G1 b=none->G2 b=none):SR Γ B G2 H2 σ env β/\jh B H1 H2:=by
 refine⟨⟨s,I1.old.trans g,λb n1 n2=>?_,λb o e np=>(I1.keep b o e np).step h,λb hb=>?_,I1.fix,λb e=>?_,I1.len,λi t e=>?_,I1.sep⟩,h.mov B⟩
 ·exact n b (I1.thereM n1) (I1.new b n1 n2)
 ·exact (I1.pin b hb).same λo e=>h b o e
 ·obtain⟨h1,h2,h3⟩:=I1.box b e
  exact⟨h b _ h1,n b (Mx.lst h1) h2,h3⟩
 ·have q:=I1.slot i t e
  cases t with
  |no=>trivial
  |fz d=>obtain⟨v,h1,h2⟩:=q;exact⟨v,h1,h2.mono g⟩
  |ow d=>
   obtain⟨p,h1,h2,h3,h4,h5⟩:=q
   exact⟨p,h1,h2,n p h5.mx h3,h4,h5.mono g λo q=>h p o q⟩
  |bx=>exact q
  |br d=>obtain⟨b1,p,h1,h4,hp,h5⟩:=q;exact⟨b1,p,h1,h4,hp,h5.mono g λo q=>h p o q⟩
def SR.kp {B:@J_}{G H H':Hp}{σ:St}{env:En}{β:Int}(I:@Is)(h:aw H H'):Kp Γ H':=λb o e n=>(I.keep b o e n).step h
theorem vG {F:@Cl}{ps:@Id}{Q:VK}{B:@J_}{G H:Hp}{σ:St}{env:En}{β:Int}(I:@Is)(hK:X.K=Γ.K){wv:Bool}
  (h:Out Γ E (if wv=true then vN F fr @PP β else aq F fr @PP β) @KF) (hl:∀ds,F ds≠.bad->ds.length=ps.length) :
  aT Γ E fr L σ H λvs H1=>Jk X.K Γ.ca ps.length F vs H1 Q E:=by
 refine⟨env,G,B,β,I,?_⟩
 have h:Out Γ E (fr @PP β) λds β1=>Out Γ E (match F ds with
   | .ok d true=>.ok d β1
   | .ok d false=>if wv=true then .bad else .ok d β1
   | .exc c=>.exc c
   | .bad=>.bad) @KF:=by
  cases wv with
  |true=>
   simp only[SK] at h ⊢
   refine h.bnd.imp λds β1 h=>?_
   cases q:F ds with
   |ok d b=>rw[q] at h;cases b <;> exact h
   |exc c=>rw[q] at h;exact h
   |bad=>rw[q] at h;exact h
  |false=>
   simp only[Sr,SX] at h ⊢
   refine h.bnd.imp λds β1 h=>?_
   cases q:F ds with
   |ok d b=>rw[q] at h;cases b <;> exact h
   |exc c=>rw[q] at h;exact h
   |bad=>rw[q] at h;exact h
 refine h.imp λds β1 k vs G1 H1 I1 s1 m1 r=>?_
 refine⟨G1,ds,I1.sub,?_,by rw[hK];exact r,?_⟩
 ·exact hl ds λz=>by rw[z] at k;exact k
 cases q:F ds with
 |bad=>rw[q] at k;exact k
 |exc c=>rw[q] at k;exact λH' s=>k H' (I1.kp s)
 |ok d b=>
  rw[q] at k
  intro v G' H' hh hg hs hn fv
  obtain⟨I2,m2⟩:=I1.called hh hg hs hn
  cases b with
  |true=>
   obtain⟨p,rfl,p1,p2,p3⟩:∃a,v=.ref a/\H1 a=none/\G' a=none/\Own X.K G' H' a d:=fv
   rw[hK] at p3
   have hp:=gi m1 I1.boxThere p1
   cases wv with
   |true=>exact k _ G' H' I2 (s1.trans hg) (m1.trans m2) ⟨p,rfl,hp,p2,p3⟩
   |false=>
    obtain⟨q1,q2,q3,q4⟩:=I1.fresh p1
    obtain⟨G3,I3,s3,r3⟩:=I2.letIn q1 p2 q3 q4 p3
    exact k _ G3 H' I3 ((s1.trans hg).trans s3) (m1.trans m2) r3
  |false=>
   cases wv with
   |true=>exact k.elim
   |false=>
    have fv:Rp X.K G' v d:=fv
    rw[hK] at fv
    exact k _ G' H' I2 (s1.trans hg) (m1.trans m2) fv
def av {x:Str}{ps:@Id}{k:Nat}{F:@Cl}{p:Pos}(hf:bK X.prog X.w X.K X.mg X.base Γ.ca x ps k F)(hr:fm k X.A)(hx:Passes (qv X.prog X.w) X E)(hK:X.K=Γ.K)(hg:Gl X x)(ha:SA X Γ E (a :: es) fr L)(hdb:@Go:=by decide)
  (he:starEach (a :: es) X.env=(false,eval a X.env) :: @T_:=by rfl) (hpl:(backTo pos (@T_)).any (·.1)=false:=by rfl):SE X Γ E (.Call (.Name x p) (a :: es) [] pos) (aq F fr) L .v:=by
 obtain⟨f,fd,hm,hk,hb,hF⟩:=hf.ex
 refine PE.post' (pH (dvs:=[]) hF hr hg hm hk hb .nil hx ha hdb he hpl) λσ H Q ⟨env,G,B,β,I,o⟩=>?_
 show aT Γ E fr L σ H λvs H1=>Jk X.K Γ.ca ps.length F (vs ++ []) H1 Q E
 have:=vG (Q:=Q) (wv:=false) (ps:=ps) I hK o hf.len
 simpa using this
def D8 {x:Str}{ps:@Id}{k:Nat}{F:@Cl}{p:Pos}(hf:bK X.prog X.w X.K X.mg X.base Γ.ca x ps k F)(hr:fm k X.A)(hx:Passes (qv X.prog X.w) X E)(hK:X.K=Γ.K)(hg:Gl X x)(ha:SA X Γ E (a :: es) fr L)(hdb:@Go:=by decide)
  (he:starEach (a :: es) X.env=(false,eval a X.env) :: @T_:=by rfl) (hpl:(backTo pos (@T_)).any (·.1)=false:=by rfl):SE X Γ E (.Call (.Name x p) (a :: es) [] pos) (vN F fr) L .w:=by
 obtain⟨f,fd,hm,hk,hb,hF⟩:=hf.ex
 refine PE.post' (pH (dvs:=[]) hF hr hg hm hk hb .nil hx ha hdb he hpl) λσ H Q ⟨env,G,B,β,I,o⟩=>?_
 show aT Γ E fr L σ H λvs H1=>Jk X.K Γ.ca ps.length F (vs ++ []) H1 Q E
 have:=vG (Q:=Q) (wv:=true) (ps:=ps) I hK o hf.len
 simpa using this
end
inductive SO where
 |nx (env:En) (β:Int)
 |bk (env:En) (β:Int)
 |ct (env:En) (β:Int)
 |rt (d:D) (fr:Bool) (β:Int)
 |exc (c:Str)
 |bad
abbrev SF:=En->Int->SO
def RV (Γ:Fx)(G' H':Hp)(fr:Bool)(d:D)(v:V):Prop:=if fr=true then ∃a,v=.ref a/\Γ.H0 a=none/\G' a=none/\Own Γ.K G' H' a d else Rp Γ.K G' v d
def uY (Γ:Fx)(E:XK)(G:Hp)(N:Ends):SO->Prop
 | .nx env β=>∀B G' H' σ,SR Γ B G' H' σ env β->aw G G'->N.nx σ H'
 | .bk env β=>∀B G' H' σ,SR Γ B G' H' σ env β->aw G G'->N.bk σ H'
 | .ct env β=>∀B G' H' σ,SR Γ B G' H' σ env β->aw G G'->N.ct σ H'
 | .rt d fr β=>∀B G' H' σ env v,SR Γ B G' H' σ env β->aw G G'->RV Γ G' H' fr d v->N.rt v H'
 | .exc c=>∀H',Kp Γ H'->E (.ref (Γ.ca c)) none H'
 | .bad=>False
def sT (Γ:Fx)(E:XK)(m:SF):TS:=λN σ H=>∃env G B β,@Is/\uY Γ E G N (m env β)
def SS (X:Cx)(Γ:Fx)(E:XK)(st:Stmt)(m:SF):Prop:=PS X st (sT Γ E m)
def Fg (X:Cx)(Γ:Fx)(E:XK)(st:List Stmt)(m:SF):Prop:=u6 X st (sT Γ E m)
def u6.post {X:Cx}{st:List Stmt}{t u:TS}(h:u6 X st t)(m:∀D σ H,u D σ H->t D σ H):u6 X st u:=λpins s σ H D I q=>h pins s σ H D I (m D σ H q)
def aJ (m m':SF):SF:=λenv β=>match m env β with
 | .nx env' β'=>m' env' β'
 |r=>r
def m8:SF:=λenv β=>.nx env β
section
variable {X:Cx}{Γ:Fx}{E:XK}{e a b c:Expr}{f fa fb:VF D}{L La Lb:@Ix}{md ma mb:Md}{pos:Pos}{st:Stmt}{sts:List Stmt}{m m':SF}{ta:VF Bool}
theorem uY.weak {G G1:Hp}{N:Ends}{r:SO}(h:uY Γ E G N r)(s:aw G G1):uY Γ E G1 N r:=by
 cases r with
 |nx env β=>exact λB G' H' σ I s'=>h B G' H' σ I (s.trans s')
 |bk env β=>exact λB G' H' σ I s'=>h B G' H' σ I (s.trans s')
 |ct env β=>exact λB G' H' σ I s'=>h B G' H' σ I (s.trans s')
 |rt d fr β=>exact λB G' H' σ env v I s'=>h B G' H' σ env v I (s.trans s')
 |exc c=>exact h
 |bad=>exact h
def cF:Fg X Γ E [] m8:=u6.post BU λN σ H ⟨env,G,B,β,I,o⟩=>o B G H σ I (aw.refl _)
theorem au (h:SS X Γ E st m)(h':Fg X Γ E sts m'):Fg X Γ E (st :: sts) (aJ m m'):=by
 refine u6.post (jY h h') λN σ H ⟨env,G,B,β,I,o⟩=>?_
 refine⟨env,G,B,β,I,?_⟩
 unfold aJ at o
 cases q:m env β with
 |nx env' β'=>rw[q] at o;exact λB' G' H' σ' I' s'=>⟨env',G',B',β',I',o.weak s'⟩
 |bk env' β'=>rw[q] at o;exact o
 |ct env' β'=>rw[q] at o;exact o
 |rt d fr β'=>rw[q] at o;exact o
 |exc c=>rw[q] at o;exact o
 |bad=>rw[q] at o;exact o
def ay (h:SS X Γ E st m):Fg X Γ E [st] m:=ko h
def toS {α:Type}(r:R α)(k:α->Int->SO):SO:=match r with
 | .ok x β=>k x β
 | .exc c=>.exc c
 | .bad=>.bad
theorem cW {α:Type}{G:Hp}{N:Ends}{r:R α}{k:α->Int->SO}{P:α->Int->Prop}(h:uY Γ E G N (toS r k))(i:∀x β,uY Γ E G N (k x β)->P x β):Out Γ E r P:=by
 cases r with
 |ok x β=>exact i x β h
 |exc c=>exact h
 |bad=>exact h
def SR.set' {B:@J_}{G H:Hp}{σ:St}{env:En}{β:Int}(I:@Is)(i:Nat){v:V}{d:D}(h:Rp Γ.K G v d):SR Γ B G H (σ.set i (some v)) (env.set i (.fz d)) β:=by
 by_cases hi:i < env.length
 ·exact I.set hi h
 ·have h1:env.set i (.fz d)=env:=Te (@AT)
  have h2:σ.set i (some v)=σ:=Te (by rw[I.len];omega)
  rw[h1,h2];exact I
def SR.setOw' {B:@J_}{G H:Hp}{σ:St}{env:En}{β:Int}(I:@Is)(i:Nat){a:Addr}{d:D}(h0:Γ.H0 a=none)(hg:G a=none)(hb:B≠some a)(h:Own Γ.K G H a d)(hn:∀(j:Nat) (d':D),env[j]? =some (.ow d')->σ[j]?≠some (some (.ref a))):SR Γ B G H (σ.set i (some (.ref a))) (env.set i (.ow d)) β:=by
 by_cases hi:i < env.length
 ·exact I.setOw hi h0 hg hb h λj d' e _=>hn j d' e
 ·have h1:env.set i (.ow d)=env:=Te (@AT)
  have h2:σ.set i (some (.ref a))=σ:=Te (by rw[I.len];omega)
  rw[h1,h2];exact I
def b9 (i:Nat)(L:@Ix)(f:VF D):SF:=λenv β=>toS (f @PP β) λd β'=>.nx ((a8 L env).set i (.fz d)) β'
def bh {i:Nat}{x:Str}{pos':Pos}(he:SE X Γ E e f L .v)(hN:X.N.Nodup)(hi:X.N[i]? =some x:=by rfl)(hx:Loc X.env.scope x:=by first |exact Or.inl rfl |exact Or.inr rfl)(hs:swapsWith e (some (.Name x pos')) pos.line X.env=pure false:=by rfl)(hf:X.fn x=true\/@On:=by first |exact .inl rfl |exact .inr rfl |assumption) :
  SS X Γ E (.Assign [.Name x pos'] e pos) (b9 i L f):=by
 refine PS.post (tV hN hi hx he hs hf) λN σ H ⟨env,G,B,β,I,o⟩=>?_
 refine⟨env,G,B,β,I,cW o λd β' k v G' H' I' s' m' vo=>?_⟩
 exact k B G' H' _ (I'.set' i vo) s'
def lu (i:Nat)(L:@Ix)(f:VF D):SF:=λenv β=>toS (f @PP β) λd β'=>.nx ((a8 L env).set i (.ow d)) β'
def jB {i:Nat}{x:Str}{pos':Pos}(he:SE X Γ E e f L .w)(hN:X.N.Nodup)(hi:X.N[i]? =some x:=by rfl)(hx:Loc X.env.scope x:=by first |exact Or.inl rfl |exact Or.inr rfl)(hs:swapsWith e (some (.Name x pos')) pos.line X.env=pure false:=by rfl)(hf:X.fn x=true\/@On:=by first |exact .inl rfl |exact .inr rfl |assumption) :
  SS X Γ E (.Assign [.Name x pos'] e pos) (lu i L f):=by
 refine PS.post (tV hN hi hx he hs hf) λN σ H ⟨env,G,B,β,I,o⟩=>?_
 refine⟨env,G,B,β,I,cW o λd β' k v G' H' I' s' m' vo=>?_⟩
 obtain⟨p,rfl,h1,h2,h3⟩:=vo
 obtain⟨q1,q2,q3,q4⟩:=I.fresh h1
 exact k B G' H' _ (I'.setOw' i q1 h2 q3 h3 λj d' z=>q4 j d' (sM z)) s'
def dY (L:@Ix)(f:VF D):SF:=λenv β=>toS (f @PP β) λ_ β'=>.nx (a8 L env) β'
def cA (he:SE X Γ E e f L md)(hs:swapsWith e none pos.line X.env=pure false:=by rfl):SS X Γ E (.Expr e pos) (dY L f):=by
 refine PS.post (rK he hs) λN σ H ⟨env,G,B,β,I,o⟩=>?_
 exact⟨env,G,B,β,I,cW o λd β' k v G' H' I' s' m' vo=>k B G' H' _ I' s'⟩
def bS (f:VF D):SF:=λenv β=>toS (f @PP β) λd β'=>.rt d false β'
def aX (he:SE X Γ E e f L .v):SS X Γ E (.Return (some e) pos) (bS f):=by
 refine PS.post (qb he) λN σ H ⟨env,G,B,β,I,o⟩=>?_
 exact⟨env,G,B,β,I,cW o λd β' k v G' H' I' s' m' vo=>k B G' H' σ _ v I' s' vo⟩
def kc (f:VF D):SF:=λenv β=>toS (f @PP β) λd β'=>.rt d true β'
def iK (he:SE X Γ E e f L .w):SS X Γ E (.Return (some e) pos) (kc f):=by
 refine PS.post (qb he) λN σ H ⟨env,G,B,β,I,o⟩=>?_
 refine⟨env,G,B,β,I,cW o λd β' k v G' H' I' s' m' vo=>?_⟩
 obtain⟨p,rfl,h1,h2,h3⟩:=vo
 obtain⟨q1,_⟩:=I.fresh h1
 exact k B G' H' σ _ _ I' s' ⟨p,rfl,q1,h2,h3⟩
def tm (i:Nat):SF:=λenv β=>match env[i]? with
 |some (.fz d)=>.rt d false β
 |some (.ow d)=>.rt d true β
 |_=>.bad
theorem pJ (i:Nat){x:Str}{p:Pos}(hN:X.N[i]? =some x:=by rfl)(hv:BN X.env.scope x:=by first |exact Or.inl rfl |exact Or.inr (Or.inl rfl) |exact Or.inr (Or.inr rfl))(hd:@Go:=by decide)
  (hcd:(x == ("__classdict__":Str))=false:=by decide):SS X Γ E (.Return (some (.Name x p)) pos) (tm i):=by
 refine PS.post (qb (kU hN hv hd hcd)) λN σ H ⟨env,G,B,β,I,o⟩=>?_
 unfold tm at o
 cases q:env[i]? with
 |none=>rw[q] at o;exact o.elim
 |some s=>
  rw[q] at o
  cases s with
  |no=>exact o.elim
  |bx=>exact o.elim
  |br d=>exact o.elim
  |fz d=>
   obtain⟨v,h1,h2⟩:=I.slot i _ q
   exact⟨v,h1,o B G H σ env v I (aw.refl _) h2⟩
  |ow d=>
   obtain⟨p,h1,h2,h3,h4,h5⟩:=I.slot i _ q
   exact⟨_,h1,o B G H σ env _ I (aw.refl _) ⟨p,rfl,h2,h3,h5⟩⟩
def lx (L:@Ix)(t:VF Bool)(m m':SF):SF:=λenv β=>toS (t @PP β) λc β'=>if c=true then m (a8 L env) β' else m' (a8 L env) β'
theorem dE {x y:List Stmt}(hc:BO X Γ E c ta L)(ha:Fg X Γ E x m)(hb:Fg X Γ E y m'):SS X Γ E (.If c x y pos) (lx L ta m m'):=by
 refine PS.post (Kh hc ha hb) λN σ H ⟨env,G,B,β,I,o⟩=>?_
 refine⟨env,G,B,β,I,cW o λd β' k G' H' I' s' m'=>?_⟩
 cases d with
 |true=>exact ue ⟨_,G',B,β',I',uY.weak k s'⟩
 |false=>exact sy ⟨_,G',B,β',I',uY.weak k s'⟩
def i4 (L:@Ix)(t:VF Bool)(m:SF):Nat->SF
 | 0=>λ_ _=>.bad
 |n + 1=>λenv β=>toS (t @PP β) λc β'=>if c=true then (match m (a8 L env) β' with
   | .nx env2 β2=>i4 L t m n env2 β2
   | .ct env2 β2=>i4 L t m n env2 β2
   | .bk env2 β2=>.nx env2 β2
   |r=>r) else .nx (a8 L env) β'
theorem pF {x:List Stmt}(n:Nat)(hp:PassesOwn @Ev X.A X.env X.xe)(hc:BO X Γ E c ta L)(hb:Fg X Γ E x m):SS X Γ E (.While c x [] pos) (i4 L ta m n):=by
 refine PS.post (FA hp hc hb) λN σ H ⟨env,G,B,β,I,o⟩=>?_
 refine⟨λk σ H=>∃env G1 B β,SR Γ B G1 H σ env β/\aw G G1/\uY Γ E G1 N (i4 L ta m k env β),⟨n,env,G,B,β,I,aw.refl _,o⟩,?_⟩
 rintro k σ H ⟨env,G1,B,β,I,sG,o⟩
 cases k with
 |zero=>exact o.elim
 |succ k=>
  refine⟨env,G1,B,β,I,cW o λd β' q G' H' I' s' m'=>?_⟩
  cases d with
  |false=>exact sy (q B G' H' σ I' s')
  |true=>
   refine ue ⟨λσ H=>∃env G1 B β,SR Γ B G1 H σ env β/\aw G G1/\uY Γ E G1 N (i4 L ta m k env β),λσ' H' h=>⟨k,Nat.lt_succ_self k,h⟩,a8 L env,G',B,β',I',?_⟩
   rw[Rg rfl] at q
   cases r:m (a8 L env) β' with
   |nx env2 β2=>rw[r] at q;exact λB2 G2 H2 σ2 I2 s2=>⟨env2,G2,B2,β2,I2,(sG.trans s').trans s2,uY.weak q (s'.trans s2)⟩
   |ct env2 β2=>rw[r] at q;exact λB2 G2 H2 σ2 I2 s2=>⟨env2,G2,B2,β2,I2,(sG.trans s').trans s2,uY.weak q (s'.trans s2)⟩
   |bk env2 β2=>rw[r] at q;exact λB2 G2 H2 σ2 I2 s2=>q B2 G2 H2 σ2 I2 (s'.trans s2)
   |rt d fr β2=>rw[r] at q;exact uY.weak q s'
   |exc c=>rw[r] at q;exact q
   |bad=>rw[r] at q;exact q
def Walk (K:Frag)(B:@J_)(G H1:Hp)(ds:List D)(J:It):Prop:=∀Gc H (i:Nat),aw G Gc->aw Gc H->jh B H1 H->
 (i < ds.length->J.go i H/\∀x H',J.yld i H x H'->∃G' d,Ext Gc H G' H'/\ds[i]? =some d/\Rp K G' x d)/\(ds.length<=i->J.stop i H)
def Walk.any {K:Frag}{B:@J_}{G H1:Hp}{ds:List D}{J:It}(h:Walk K B G (λ_=>none) ds J):Walk K B G H1 ds J:=λGc H i s1 s2 _=>h Gc H i s1 s2 ⟨(λb o e=>by cases e),λb o u e=>by cases e⟩
def iT (Γ:Fx)(E:XK)(f:@Tk)(L:@Ix)(md:Md):TI:=λσ H Rr=>∃env G B β,@Is/\
 Out Γ E (f @PP β) λds β'=>∀J G' H',SR Γ B G' H' σ (a8 L env) β'->aw G G'->jh B H H'->Walk Γ.K B G' (match md with | .b=>H' |_=>λ_=>none) ds J->Rr J H'
def SI (X:Cx)(Γ:Fx)(E:XK)(tg e:Expr)(f:@Tk)(L:@Ix)(md:Md):Prop:=PI X tg e (iT Γ E f L md)
def PI.post {X:Cx}{tg e:Expr}{t u:TI}(h:PI X tg e t)(m:∀σ H Q,u σ H Q->t σ H Q):PI X tg e u:=λpins s σ H Q I q=>h pins s σ H Q I (m σ H Q q)
variable {tg:Expr}
def ni:D->Option (List D)
 | .list ds=>some ds
 | .tuple ds=>some ds
 |_=>none
def bH (fa:VF D):@Tk:=λvs β=>(@Tm).bnd λx β1=>R.of (ni x) β1
end
def QZ (K:Frag)(tl:TE):TI:=λσ H R=>tl σ H λx H1=>∃a xs,x=.ref a/\((ji K H1 a xs/\R (DA K a) H1)\/(gr K H1 a xs/\R (JX K a) H1))
section
variable {X:Cx}{tg l:Expr}{tl:TE}
def Ka (hl:PE X l tl):PI X tg l (QZ X.K tl):=by
 intro pins s σ H R I h
 refine cZ (hl pins s σ H _ I h) λv s1 ⟨x,H1,I1,r1,q1⟩=>?_
 obtain⟨a,xs,e,q⟩:=q1
 subst e
 cases r1
 rcases q with⟨hq,q⟩ | ⟨hq,q⟩
 ·obtain⟨its,rv,p,hz⟩:=I1.list hq
  refine TF p.isList ?_
  refine⟨s1.heap.objs.size,[s1.heap.objs.size],_,_,H1,rfl,I1.kept (t':=s1.toks) λb o e=>Ri _ e,p9 a _,⟨_,RB _ rfl,rfl,rfl⟩,λb hb=>?_,q⟩
  have e:b=s1.heap.objs.size:=by simpa using hb
  subst e
  exact I1.fpOk (Rh _) (I1.hok.fresh (Rh _))
 ·obtain⟨its,rv,p,hz⟩:=I1.tuple hq
  refine TV (show s1.heap.IsTuple a its.toArray from p) ?_
  refine⟨s1.heap.objs.size,[s1.heap.objs.size],_,_,H1,rfl,I1.kept (t':=s1.toks) λb o e=>Ri _ e,tK a _,⟨_,RB _ rfl,rfl,rfl⟩,λb hb=>?_,q⟩
  have e:b=s1.heap.objs.size:=by simpa using hb
  subst e
  exact I1.fpOk (Rh _) (I1.hok.fresh (Rh _))
end
section
variable {X:Cx}{Γ:Fx}{E:XK}{e a b c:Expr}{f fa fb:VF D}{L La Lb:@Ix}{md ma mb:Md}{pos:Pos}{st:Stmt}{sts:List Stmt}{m m':SF}{ta:VF Bool}{tg:Expr}
def qB {K:Frag}{B:@J_}{G H1:Hp}{p:Addr}{xs:List V}{ds:List D}(h:∀Gc H,aw G Gc->aw Gc H->jh B H1 H->ji K H p xs)(r:cP K G xs ds):Walk K B G H1 ds (DA K p):=λGc H i s1 s2 m=>by
 have hq:=h Gc H s1 s2 m
 refine⟨λhi=>⟨?_,λx H' y=>?_⟩,λhi=>⟨xs,hq,by rw[r.len];exact hi⟩⟩
 ·have hi':i < xs.length:=by rw[r.len];exact hi
  exact⟨xs,xs[i],hq,by simp[hi']⟩
 ·obtain⟨rfl,y⟩:=y
  obtain⟨d,e,q⟩:=r.at' (y xs hq)
  exact⟨Gc,d,Ext.refl s2,e,q.mono s1⟩
def yV {K:Frag}{B:@J_}{G H1:Hp}{p:Addr}{xs:List V}{ds:List D}(h:∀Gc H,aw G Gc->aw Gc H->jh B H1 H->gr K H p xs)(r:cP K G xs ds):Walk K B G H1 ds (JX K p):=λGc H i s1 s2 m=>by
 have hq:=h Gc H s1 s2 m
 refine⟨λhi=>⟨?_,λx H' y=>?_⟩,λhi=>⟨xs,hq,by rw[r.len];exact hi⟩⟩
 ·have hi':i < xs.length:=by rw[r.len];exact hi
  exact⟨xs,xs[i],hq,by simp[hi']⟩
 ·obtain⟨rfl,y⟩:=y
  obtain⟨d,e,q⟩:=r.at' (y xs hq)
  exact⟨Gc,d,Ext.refl s2,e,q.mono s1⟩
theorem Qg (hK:X.K=Γ.K)(ha:SE X Γ E a fa La .v):SI X Γ E tg a (bH fa) La .v:=by
 refine PI.post (Ka ha) λσ H Q ⟨env,G,B,β,I,o⟩=>?_
 refine⟨env,G,B,β,I,o.bnd.imp λd1 β1 h x G1 H1 I1 s1 m1 vx=>?_⟩
 obtain⟨ds,e,k⟩:=h.of
 rw[hK]
 have vx:Rp Γ.K G1 x d1:=vx
 cases d1 with
 |list l=>
  cases e
  cases vx with
  | @lst p xs _ hq r=>exact⟨p,xs,rfl,.inl ⟨.inl (Rd.mono (.inl hq) I1.sub),k _ G1 H1 I1 s1 m1 (qB (λGc H t1 t2 _=>.inl (Rd.mono (.inl hq) (t1.trans t2))) r)⟩⟩
 |tuple l=>
  cases e
  cases vx with
  | @tup p xs _ hq r=>exact⟨p,xs,rfl,.inr ⟨hq.grow I1.sub.grow,k _ G1 H1 I1 s1 m1 (yV (λGc H t1 t2 _=>hq.grow (t1.trans t2).grow) r)⟩⟩
 |_=>cases e
theorem iZ (hK:X.K=Γ.K)(ha:@SC):SI X Γ E tg a (bH fa) La .b:=by
 refine PI.post (Ka ha) λσ H Q ⟨env,G,B,β,I,o⟩=>?_
 refine⟨env,G,B,β,I,o.bnd.imp λd1 β1 h x G1 H1 I1 s1 m1 vx=>?_⟩
 obtain⟨ds,e,k⟩:=h.of
 rw[hK]
 have vx:=vx.brw I.boxThere
 cases d1 with
 |list l=>
  cases e
  rcases vx with vx | ⟨p,rfl,hb,xs,q,r⟩
  ·cases vx with
   | @lst p xs _ hq r=>exact⟨p,xs,rfl,.inl ⟨.inl (Rd.mono (.inl hq) I1.sub),k _ G1 H1 I1 s1 m1 (qB (λGc H t1 t2 _=>.inl (Rd.mono (.inl hq) (t1.trans t2))) r)⟩⟩
  ·exact⟨p,xs,rfl,.inl ⟨.inl (.inl q),k _ G1 H1 I1 s1 m1 (qB (λGc H t1 t2 mv=>.inl (.inl (mv.1 p _ q hb))) r)⟩⟩
 |tuple l=>
  cases e
  rcases vx with vx | ⟨p,rfl,hb,q⟩
  ·cases vx with
   | @tup p xs _ hq r=>exact⟨p,xs,rfl,.inr ⟨hq.grow I1.sub.grow,k _ G1 H1 I1 s1 m1 (yV (λGc H t1 t2 _=>hq.grow (t1.trans t2).grow) r)⟩⟩
  ·exact q.elim
 |_=>cases e
def g9 (lo:Int)(n:Nat):List D:=(List.range n).map λ(k:Nat)=>int (lo + k)
def jI (lo:Int)(n:Nat):(g9 lo n).length=n:=by unfold g9;simp
def Ez {K:Frag}{B:@J_}{G H1:Hp}(lo:Int)(n:Nat):Walk K B G H1 (g9 lo n) (El lo n):=λGc H i s1 s2 m=>by
 rw[jI]
 refine⟨λhi=>⟨hi,λx H' y=>?_⟩,λhi=>hi⟩
 obtain⟨rfl,rfl⟩:=y
 refine⟨Gc,.int (lo + i),Ext.refl s2,?_,.int _⟩
 unfold g9
 rw[RA,S6 hi];rfl
def JO (j:Int):Bool:=Nat.ble j.natAbs 1000000
def Ey {j:Int}(h:JO j=true): -(2 ^ 62)<=j/\j < 2 ^ 62:=by
 have:=Nat.le_of_ble_eq_true h
 omega
def Dq {j:Int}(h: -1000<=j)(h2:j<=10000):JO j=true:=Nat.ble_eq_true_of_le (@AT)
def fx (fa:VF D):@Tk:=λvs β=>(@Tm).bnd λx β1=>match x with
 | .int j=>if JO j=true then .ok (g9 0 j.toNat) β1 else .bad
 |_=>.bad
theorem ng {p:Pos}(hg:Gl X "range")(hm:X.mg "range"=none)(ha:@SC)(hs:starEach [a] X.env= [(false,eval a X.env)]:=by rfl)(hs':@M_:=by rfl):SI X Γ E tg (.Call (.Name "range" p) [a] [] pos) (fx fa) La md:=by
 refine PI.post (nN hg hm (ba ha cf hs') hs) λσ H Q ⟨env,G,B,β,I,o⟩=>?_
 refine⟨env,G,B,β,I,o.bnd.imp λd1 β1 h x G1 H1 I1 s1 m1 vx=>?_⟩
 have vx:=vx.brw I.boxThere
 cases d1 with
 |int j=>
  obtain rfl:=vx.int
  dsimp only at h
  by_cases hj:JO j=true
  ·rw[Rg hj] at h
   exact⟨j,rfl,(Ey hj).1,(Ey hj).2,h _ G1 H1 I1 s1 m1 (Ez 0 _)⟩
  ·rw[Rj hj] at h;exact h.elim
 |_=>exact h.elim
inductive Tg where
 |nm (i:Nat)
 |two (i j:Nat)
def pairD:D->Option (D×D)
 | .tuple [x,y]=>some (x,y)
 |_=>none
def EY {d x y:D}(h:pairD d=some (x,y)):d=.tuple [x,y]:=by
 unfold pairD at h
 split at h
 ·cases h;rfl
 ·cases h
def jg:Tg->D->En->Option En
 | .nm i,d,env=>some (env.set i (.fz d))
 | .two i j,d,env=>(pairD d).map λp=>(env.set i (.fz p.1)).set j (.fz p.2)
def pE:Tg->D->List Nv->Option (List Nv)
 | .nm i,d,vs=>some (vs.set i (.da d))
 | .two i j,d,vs=>(pairD d).map λp=>(vs.set i (.da p.1)).set j (.da p.2)
def AJ (env:En)(i:Nat)(s:Sl):vl (env.set i s)=(vl env).set i s.val:=by unfold vl;rw[List.map_set]
theorem Hd (t:Tg)(d:D)(env:En):(jg t d env).map vl=pE t d @PP:=by
 cases t with
 |nm i=>show some (vl _)=some _;rw[AJ];rfl
 |two i j=>
  show ((pairD d).map _).map vl=(pairD d).map _
  cases pairD d with
  |none=>rfl
  |some p=>show some (vl _)=some _;rw[AJ,AJ];rfl
def gT (Γ:Fx)(t:Tg):TG:=λv σ H Q=>∃env G B β d env',@Is/\Rp Γ.K G v d/\jg t d env=some env'/\∀σ',SR Γ B G H σ' env' β->Q σ' H
def SG (X:Cx)(Γ:Fx)(tg:Expr)(t:Tg):Prop:=PG X tg (gT Γ t)
def PG.post {X:Cx}{tg:Expr}{t u:TG}(h:PG X tg t)(m:∀v σ H Q,u v σ H Q->t v σ H Q):PG X tg u:=λpins s σ H v uu Q I r q=>h pins s σ H v uu Q I r (m v σ H Q q)
def dW {i:Nat}{x:Str}(hN:X.N.Nodup)(hi:X.N[i]? =some x:=by rfl)(hx:Loc X.env.scope x:=by first |exact Or.inl rfl |exact Or.inr rfl)(hf:X.fn x=true\/@On:=by first |exact .inl rfl |exact .inr rfl |assumption):SG X Γ (.Name x pos) (.nm i):=by
 refine PG.post (dX hN hi hx hf) λv σ H Q ⟨env,G,B,β,d,env',I,r,e,k⟩=>?_
 cases e
 exact k _ (I.set' i r)
theorem eR {i j:Nat}{x y:Str}{px py:Pos}{n:Nat}(hN:X.N.Nodup)(hc:X.calm=true:=by rfl)(hK:X.K=Γ.K:=by rfl)(hi:X.N[i]? =some x:=by rfl)(hj:X.N[j]? =some y:=by rfl)(hx:Loc X.env.scope x:=by first |exact Or.inl rfl |exact Or.inr rfl)(hy:Loc X.env.scope y:=by first |exact Or.inl rfl |exact Or.inr rfl)
  (hf:X.fn x=true\/@On:=by first |exact .inl rfl |exact .inr rfl |assumption) (hf':X.fn y=true\/X.env.scope.names.lookup y=some .local:=by first |exact .inl rfl |exact .inr rfl |assumption):SG X Γ (.Tuple [.Name x px,.Name y py] n pos) (.two i j):=by
 refine PG.post (sV (n:=2) hc (fB (dX hN hi hx hf) (fB (dX hN hj hy hf') pG))) λv σ H Q ⟨env,G,B,β,d,env',I,r,e,k⟩=>?_
 rw[hK]
 have e:(pairD d).map (λp=>(env.set i (.fz p.1)).set j (.fz p.2))=some env':=e
 cases q:pairD d with
 |none=>rw[q] at e;cases e
 |some p=>
  obtain⟨dx,dy⟩:=p
  rw[q] at e
  cases e
  obtain rfl:=EY q
  cases r with
  | @tup p xs _ hq r=>
   cases r with
   |cons r1 r=>
    cases r with
    |cons r2 r=>
     cases r
     exact⟨p,_,rfl,hq.grow I.sub.grow,rfl,_,_,rfl,_,_,rfl,rfl,k _ ((I.set' i r1).set' j r2)⟩
def mV (t:Tg)(m:SF):List D->SF
 | []=>λenv β=>.nx env β
 |d :: ds=>λenv β=>match jg t d env with
  |none=>.bad
  |some env1=>match m env1 β with
   | .nx env2 β2=>mV t m ds env2 β2
   | .ct env2 β2=>mV t m ds env2 β2
   | .bk env2 β2=>.nx env2 β2
   |r=>r
def mS (t:Tg)(L:@Ix)(fi:@Tk)(m:SF):SF:=λenv β=>toS (fi @PP β) λds β'=>mV t m ds (a8 L env) β'
def o8 {t:Tg}{fi:@Tk}{x:List Stmt}(hp:PassesOwn @Ev X.A X.env X.xe)(hc:X.calm=true)(hi:SI X Γ E tg e fi L .v)(hg:SG X Γ tg t)(hb:Fg X Γ E x m)(hs:∀x,foldedSetIterable e X.env x=pure x:=by intro _;rfl):SS X Γ E (.For tg e x [] pos) (mS t L fi m):=by
 refine PS.post (wx hp hc hi hg hb hs) λN σ H ⟨env,G,B,β,I,o⟩=>?_
 refine⟨env,G,B,β,I,cW o λds β' q J G' H' I' s' m' w=>?_⟩
 have w:Walk Γ.K B G' (λ_=>none) ds J:=w
 refine⟨λi n σ H=>n=ds.length - i/\i<=ds.length/\∃env G1 B β,SR Γ B G1 H σ env β/\aw G' G1/\uY Γ E G1 N (mV t m (ds.drop i) env β),⟨ds.length,@KM,Sb _,a8 L env,G',B,β',I',aw.refl _,by rw[List.drop_zero];exact uY.weak q s'⟩,?_⟩
 rintro i n σ H ⟨rfl,hi,env,G1,B1,β1,I1,s1,q⟩
 obtain⟨w1,w2⟩:=w G1 H i s1 I1.sub ⟨(λb o e=>by cases e),λb o u e=>by cases e⟩
 by_cases hlt:i < ds.length
 ·obtain⟨go,yl⟩:=w1 hlt
  refine .inr ⟨go,λσ H=>∃env G2 B β,SR Γ B G2 H σ env β/\aw G' G2/\uY Γ E G2 N (mV t m (ds.drop (i + 1)) env β),λσ2 H2 h=>⟨ds.length - (i + 1),@AT,rfl,hlt,h⟩,λx H2 y=>?_⟩
  obtain⟨G2,d,x2,ed,rd⟩:=yl x H2 y
  have I2:=I1.ext x2
  have q:=uY.weak q x2.gg
  rw[TK hlt] at q
  have ed':ds[i]=d:=by rw[Rf hlt] at ed;exact Option.some.inj ed
  rw[ed'] at q
  unfold mV at q
  cases eb:jg t d env with
  |none=>rw[eb] at q;exact q.elim
  |some env1=>
   rw[eb] at q
   refine⟨env,G2,B1,β1,d,env1,I2,rd,eb,λσ3 I3=>⟨env1,G2,B1,β1,I3,?_⟩⟩
   have s2:=s1.trans x2.gg
   dsimp only at q
   cases r:m env1 β1 with
   |nx env2 β2=>rw[r] at q;exact λB2 G3 H3 σ2 I2 s3=>⟨env2,G3,B2,β2,I2,s2.trans s3,uY.weak q s3⟩
   |ct env2 β2=>rw[r] at q;exact λB2 G3 H3 σ2 I2 s3=>⟨env2,G3,B2,β2,I2,s2.trans s3,uY.weak q s3⟩
   |bk env2 β2=>rw[r] at q;exact λB2 G3 H3 σ2 I2 s3=>q B2 G3 H3 σ2 I2 s3
   |rt d fr β2=>rw[r] at q;exact q
   |exc c=>rw[r] at q;exact q
   |bad=>rw[r] at q;exact q
 ·have e:i=ds.length:=@AT
  subst e
  rw[T9] at q
  exact .inl ⟨w2 (Rh _),q B1 G1 H σ I1 (aw.refl _)⟩
end
abbrev Fx.j9 (Γ:Fx)(H0 G0:Hp)(par:List Addr)(br:Nat->Bool)(bx:@J_):Fx:=⟨Γ.K,H0,G0,par,Γ.ca,br,bx⟩
def g8 (own:Nat)(ixs:@Ix)(vs:List Nv):List Nv:=List.replicate own .no ++ ixs.map λi=>(vs[i]?).getD .no
def NR:Option Sl->Sl
 |some (.ow d)=>.br d
 |some s=>s
 |none=>.no
def benv (own:Nat)(ixs:@Ix)(env:En):En:=List.replicate own .no ++ ixs.map λi=>NR env[i]?
theorem Jy (o:Option Sl):(NR o).val=(o.map Sl.val).getD .no:=by
 cases o with
 |none=>rfl
 |some s=>cases s <;> rfl
def HW (own:Nat)(ixs:@Ix)(env:En):vl (benv own ixs env)=g8 own ixs @PP:=by
 unfold vl benv g8
 rw[RS,List.map_replicate,Sz]
 congr 1
 refine SH λi _=>?_
 show (NR env[i]?).val=_
 rw[Jy,RA]
def Ak (env:En):Prop:=∀(i:Nat) (d:D),env[i]?≠some (.ow d)
theorem zi {env:En}(h:Ak env)(L:@Ix):a8 L env=env:=by
 unfold a8
 induction L with
 |nil=>rfl
 |cons i L ih=>
  rw[Ug]
  have:ig env i=env:=by
   unfold ig
   split
   ·rename_i d e;exact absurd e (h i d)
   ·rfl
  rw[this];exact ih
def vH (own:Nat)(ixs:@Ix)(env:En):Ak (benv own ixs env):=λi d e=>by
 unfold benv at e
 have hm:=RN e
 rcases Rw.mp hm with h |h
 ·have:=S0 h;cases this
 ·obtain⟨k,_,hk⟩:=Rz.mp h
  cases q:env[k]? with
  |none=>rw[q] at hk;cases hk
  |some s=>rw[q] at hk;cases s <;> cases hk
def tv {env:En}(h:Ak env)(i:Nat)(d:D):Ak (env.set i (.fz d)):=λj d' e=>by
 by_cases z:i=j
 ·subst z
  by_cases hi:i < env.length
  ·rw[RG hi] at e;cases e
  ·rw[Te (@AT)] at e;exact h _ _ e
 ·rw[RF z] at e;exact h _ _ e
theorem CL {env env1:En}{t:Tg}{d:D}(h:Ak env)(e:jg t d env=some env1):Ak env1:=by
 cases t with
 |nm i=>cases e;exact tv h i d
 |two i j=>
  have e:(pairD d).map _=some env1:=e
  cases q:pairD d with
  |none=>rw[q] at e;cases e
  |some p=>rw[q] at e;cases e;exact tv (tv h _ _) _ _
theorem CM {env env1:En}{t:Tg}{d:D}(e:jg t d env=some env1)(d':D):jg t d' env1=jg t d' env:=by
 cases t with
 |nm i=>cases e;show some _=some _;rw[set_set]
 |two i j=>
  have e:(pairD d).map _=some env1:=e
  cases q:pairD d with
  |none=>rw[q] at e;cases e
  |some p=>
   rw[q] at e;cases e
   show (pairD d').map _=(pairD d').map _
   cases pairD d' with
   |none=>rfl
   |some p'=>
    show some _=some _
    congr 1
    dsimp only
    by_cases z:i=j
    ·subst z;simp[set_set]
    ·rw[List.set_comm _ _ (Ne.symm z),set_set,set_set]
def Ext.mov {G H G' H':Hp}(x:Ext G H G' H')(B:@J_):jh B H H':=x.hh.mov B
section
variable {Γ:Fx}{B:@J_}{G H G1 H1 Gc Hc:Hp}{σ σ':St}{env envb:En}{β β':Int}{own:Nat}{ixs:@Ix}{Da:Addr}{acc:List V}
def AV (envb:En):Nat->Bool:=λj=>match envb[j]? with
 |some (.br _)=>true
 |_=>false
def SR.block (I:@Is)(own:Nat)(ixs:@Ix)(hD:H Da=none):SR (Γ.j9 (upd H Da (.lst [])) G (Da :: B.toList) (AV (benv own ixs env)) B) B G (upd H Da (.lst [])) (eY own ixs σ) (benv own ixs env) β:=by
 obtain⟨q1,q2,q3,q4⟩:=I.fresh hD
 have nB:∀b,B=some b->b≠Da:=λb e z=>q3 (by rw[<-z];exact e)
 refine⟨I.sub.trans (aw.new hD),aw.refl _,λb _ h=>h,λb o h _=>Kt.of h,λb hb=>?_,λb e=>e,λb e=>?_,?_,λi s e=>?_,λi j c d d' e=>absurd e (vH own ixs env i d)⟩
 ·rcases Rm.mp hb with z |z
  ·subst z;exact Mx.lst aE
  ·have z':B=some b:=by simpa using z
   exact Mx.lst (by rw[aC (nB b z')];exact (I.box b z').1)
 ·obtain⟨h1,h2,_⟩:=I.box b e
  exact⟨by rw[aC (nB b e)];exact h1,h2,.inl (Ru _ (by simpa using e))⟩
 ·unfold eY benv;simp
 ·by_cases hi:i < own
  ·unfold benv at e
   rw[RX (by simpa using hi),Sw,Rg hi] at e
   cases e;trivial
  ·have e0:=e
   unfold benv at e
   rw[R3 (by simpa using hi),Sj,RA] at e
   cases ek:ixs[i - own]? with
   |none=>rw[ek] at e;cases e
   |some k=>
    rw[ek] at e
    have e:NR env[k]? =s:=Option.some.inj e
    have es:(eY own ixs σ)[i]? =some ((σ[k]?).join):=by
     unfold eY
     rw[R3 (by simpa using hi),Sj,RA,ek];rfl
    rw[es]
    cases q:env[k]? with
    |none=>rw[q] at e;subst e;trivial
    |some t=>
     rw[q] at e
     have w:=I.slot k t q
     cases t with
     |no=>subst e;trivial
     |fz d=>subst e;obtain⟨v,h1,h2⟩:=w;exact⟨v,by rw[h1];rfl,h2⟩
     |bx=>subst e;obtain⟨a,h1,h2⟩:=w;exact⟨a,by rw[h1];rfl,h2⟩
     |ow d=>
      subst e
      obtain⟨a,h1,h2,h3,h4,h5⟩:=w
      obtain⟨o,ho⟩:=h5.obj
      have aD:a≠Da:=aR ho hD
      refine⟨by show AV _ i=true;unfold AV;rw[e0];rfl,a,by rw[h1];rfl,h4,?_,h5.mono (aw.refl _) λo q=>Kt.of (by rw[aC aD];exact q)⟩
      intro hm
      rcases Rm.mp hm with z |z
      ·exact aD z
      ·exact h4 (by simpa using z)
     |br d=>
      subst e
      obtain⟨b1,a,h1,h4,hp,h5⟩:=w
      obtain⟨o,ho⟩:=h5.obj
      have aD:a≠Da:=aR ho hD
      refine⟨by show AV _ i=true;unfold AV;rw[e0];rfl,a,by rw[h1];rfl,h4,?_,h5.mono (aw.refl _) λo q=>Kt.of (by rw[aC aD];exact q)⟩
      intro hm
      rcases Rm.mp hm with z |z
      ·exact aD z
      ·exact h4 (by simpa using z)
def SR.unblock (I:@Is){br:Nat->Bool}(hD:H Da=none)(J:SR (Γ.j9 (upd H Da (.lst [])) G (Da :: B.toList) br B) B Gc Hc σ' envb β'):SR Γ B Gc Hc σ env β'/\jh B H Hc/\Gc Da=none:=by
 obtain⟨q1,q2,q3,q4⟩:=I.fresh hD
 have up:∀{b:Addr},Mx H b->Mx (upd H Da (.lst [])) b:=λ{b} h=>h.same λo e=>Kt.of (by rw[aC (aR e hD)];exact e)
 have mv0:∀b o,H b=some o->B≠some b->Kt Hc b o:=λb o e n=>J.keep b o (show upd H Da (.lst []) b=some o by rw[aC (aR e hD)];exact e) λhm=>by
  rcases Rm.mp hm with z |z
  ·rw[z,hD] at e;cases e
  ·exact n (by simpa using z)
 have mv:jh B H Hc:=⟨mv0,λb o u e=>mv0 b _ e λz=>by rw[(I.box b z).1] at e;cases e⟩
 refine⟨⟨J.sub,I.old.trans J.old,λb h1 h2=>J.new b (up (I.thereM h1)) (I.new b h1 h2),λb o h1 h2=>A5 (I.keep b o h1 h2) mv λz=>?_,λb hb=>J.thereM (up (I.pin b hb)),I.fix,λb e=>?_,I.len,λi s e=>?_,I.sep⟩,mv,J.new Da (Mx.lst (show upd H Da (.lst []) Da=some (.lst []) from aE)) q2⟩
 ·obtain⟨_,_,h3⟩:=I.box b z
  rcases h3 with h3 |h3
  ·exact h2 h3
  ·rw[h1] at h3;cases h3
 ·obtain⟨j1,j2,_⟩:=J.box b e
  exact⟨j1,j2,(I.box b e).2.2⟩
 ·have w:=I.slot i s e
  cases s with
  |no=>trivial
  |fz d=>obtain⟨v,h1,h2⟩:=w;exact⟨v,h1,h2.mono J.old⟩
  |bx=>exact w
  |ow d=>
   obtain⟨a,h1,h2,h3,h4,h5⟩:=w
   exact⟨a,h1,h2,J.new a (up h5.mx) h3,h4,h5.mono J.old λo q=>mv.1 a o q h4⟩
  |br d=>
   obtain⟨b1,a,h1,h4,hp,h5⟩:=w
   exact⟨b1,a,h1,h4,hp,h5.mono J.old λo q=>mv.1 a o q h4⟩
def SR.updD {ys:List V}(J:@Is)(hp:Da∈Γ.par)(h0:Mx Γ.H0 Da)(g0:Γ.G0 Da=none)(hB:B≠some Da):SR Γ B G (upd H Da (.lst ys)) σ env β:=by
 have gD:=J.new Da h0 g0
 have ha:∀x y,H Da≠some (.a8 x y):=λx y w=>(J.pin Da hp).2 _ w trivial
 refine⟨λb u q=>nJ (J.sub b u q) (λz=>by rw[z,gD] at q;cases q) ha,J.old,J.new,λb u q n=>nJ (J.keep b u q n) (λz=>n (by rw[z];exact hp)) ha,λb hb=>?_,J.fix,λb e=>?_,J.len,λi s e=>?_,J.sep⟩
 ·by_cases z:b=Da
  ·subst z;exact Mx.lst aE
  ·exact (J.pin b hb).same λo e=>Kt.of (by rw[aC z];exact e)
 ·obtain⟨h1,h2⟩:=J.box b e
  exact⟨by rw[aC (λz=>hB (by rw[<-z];exact e))];exact h1,h2⟩
 ·have w:=J.slot i s e
  cases s with
  |no=>trivial
  |fz d=>exact w
  |bx=>exact w
  |ow d=>
   obtain⟨a,h1,h2,h3,h4,h5⟩:=w
   have aD:a≠Da:=λz=>h0.1 (by rw[<-z];exact h2)
   exact⟨a,h1,h2,h3,h4,h5.mono (aw.refl _) λo q=>Kt.of (by rw[aC aD];exact q)⟩
  |br d=>
   obtain⟨b1,a,h1,h4,hpa,h5⟩:=w
   have aD:a≠Da:=λz=>hpa (by rw[z];exact hp)
   exact⟨b1,a,h1,h4,hpa,h5.mono (aw.refl _) λo q=>Kt.of (by rw[aC aD];exact q)⟩
end
def R.okb {α γ:Type}(r:R α)(k:α->Int->R γ):R γ:=match r with
 | .ok a β=>k a β
 |_=>.bad
def iY (t:Tg)(ft:VF Bool)(fe:VF D)(vs:List Nv):List D->Int->R (List D)
 | [],β=>.ok [] β
 |d :: ds,β=>match pE t d vs with
  |none=>.bad
  |some vs1=>(ft vs1 β).okb λc β1=>if c=true then (fe vs1 β1).okb λx β2=>(iY t ft fe vs ds β2).okb λxs β3=>.ok (x :: xs) β3 else iY t ft fe vs ds β1
def aN (own:Nat)(ixs:@Ix)(t:Tg)(fi:@Tk)(ft:VF Bool)(fe:VF D):VF D:=λvs β=>(fi vs β).bnd λds β1=>if ds.length<=sizeLine then (iY t ft fe (g8 own ixs vs) ds β1).okb λxs β2=>.ok (.list xs) β2 else .bad
def i7:VF Bool:=λ_ β=>.ok true β
def JY (own:Nat)(ixs Lc:@Ix)(j:Nat):Bool:=decide (j < own) || (match ixs[j - own]? with
 |some i=>Lc.contains i
 |none=>false)
theorem Ik {α γ:Type}{Γ:Fx}{E:XK}{r:R α}{k:α->Int->R γ}{P:γ->Int->Prop}(h:Out Γ E (r.okb k) P):∃a β,r=.ok a β/\Out Γ E (k a β) P:=by
 cases r with
 |ok a β=>exact⟨a,β,rfl,h⟩
 |exc c=>exact h.elim
 |bad=>exact h.elim
section
variable {X:Cx}{Γ:Fx}{E:XK}{tg iter elt:Expr}{ifs:List Expr}{scope:Scope}{NB:@Id}{own:Nat}{ixs Li Lc Lt Le:@Ix}{t:Tg}{fi:@Tk}{ft:VF Bool}{fe:VF D}{pos:Pos}
def cp {X:Cx}{Γ:Fx}{E:XK}:E6 X [] (qT Γ E i7 []):=λpins s σ H Q I ⟨env,G,B,β,J,o⟩=>wG pins s σ H Q I (o G H J (aw.refl _) (jh.refl _ _))
def fj {X:Cx}{Γ:Fx}{E:XK}{c:Expr}{ta:VF Bool}{L:@Ix}(h:BO X Γ E c ta L):E6 X [c] (qT Γ E ta L):=BE h
def dS {NB:@Id}{scope:Scope}{C:Addr}{ex:List Addr}{s3:Shared}{H3:Hp}{pn:@Do}{P:Program}{w:World}:Passes (qv P w) @KB E0:=λpins σ H s e s' I h=>by
 obtain⟨_,_,_,_,_,_,_,_,_,q⟩:=h
 exact q.elim
abbrev gU (Γ:Fx)(t:Tg):TG:=λv σ H Q=>∃H0 G0 par br bx,gT (Γ.j9 H0 G0 par br bx) t v σ H Q
abbrev tU (Γ:Fx)(own:Nat)(ixs Lc:@Ix)(ft:VF Bool)(Lt:@Ix):TT:=λσ H Q=>∃H0 G0 par br bx,(∀j,JY own ixs Lc j=true->br j=false)/\qT (Γ.j9 H0 G0 par br bx) E0 ft Lt σ H Q
abbrev eU (Γ:Fx)(own:Nat)(ixs Lc:@Ix)(fe:VF D)(Le:@Ix):TE:=λσ H Q=>∃H0 G0 par br bx,(∀j,JY own ixs Lc j=true->br j=false)/\pT (Γ.j9 H0 G0 par br bx) E0 fe Le .v σ H Q
def JR {σ:St}{H:Hp}{Q:VK}(hLc:∀i,i∈Lc->Γ.br i=false)(h:pT Γ E (aN own ixs t fi ft fe) (Li ++ Lc) .w σ H Q):AZ own ixs (iT Γ E fi Li .b) (gU Γ t) (tU Γ own ixs Lc ft Lt) (eU Γ own ixs Lc fe Le) σ H Q:=by
 obtain⟨env,G,B,β,I,o⟩:=h
 refine⟨env,G,B,β,I,o.bnd.imp λds β1 h J G1 H1 I1 s1 m1 wk Da hD=>?_⟩
 have wk:Walk Γ.K B G1 H1 ds J:=wk
 by_cases hz:ds.length<=sizeLine
 case neg=>rw[Rj hz] at h;exact h.elim
 rw[Rg hz] at h
 obtain⟨xs0,β0,e0,h⟩:=Ik h
 have h:∀v G' H',SR Γ B G' H' σ (a8 (Li ++ Lc) env) β0->aw G G'->jh B H H'->VO Γ.K B H G' H' .w (.list xs0) v->Q v H':=h
 obtain⟨G2,I2,s2⟩:=I1.a8 Lc hLc
 rw[<-cu] at I2
 obtain⟨q1,q2,q3,q4⟩:=I2.fresh hD
 have Ib0:=I2.block own ixs hD
 generalize hbr:AV (benv own ixs (a8 (Li ++ Lc) env))=br at Ib0
 have hbo:∀j,JY own ixs Lc j=true->br j=false:=by
  intro j hj
  rw[<-hbr]
  unfold AV
  split
  ·rename_i d e
   exfalso
   unfold benv at e
   by_cases hjo:j < own
   ·rw[RX (by simpa using hjo),Sw,Rg hjo] at e;cases e
   ·rw[R3 (by simpa using hjo),Sj,RA] at e
    unfold JY at hj
    rw[Rt hjo,Bool.false_or] at hj
    cases ek:ixs[j - own]? with
    |none=>rw[ek] at hj;cases hj
    |some k=>
     rw[ek] at hj e
     have hk:k∈Lc:=by simpa using hj
     have e:NR (a8 (Li ++ Lc) env)[k]? =.br d:=Option.some.inj e
     cases q:(a8 (Li ++ Lc) env)[k]? with
     |none=>rw[q] at e;cases e
     |some s=>
      rw[q] at e
      cases s with
      |no=>cases e
      |fz _=>cases e
      |bx=>cases e
      |br d'=>
       obtain⟨b1,_⟩:=I2.slot k _ q
       rw[hLc k hk] at b1;cases b1
      |ow d'=>
       rw[cu] at q
       have key:∀(M:@Ix) (en:En),k∈M->∀d',(a8 M en)[k]?≠some (.ow d'):=by
        intro M
        induction M with
        |nil=>intro en hm;cases hm
        |cons i M ih=>
         intro en hm d' z
         rcases Rm.mp hm with y |y
         ·subst y
          have z1:(ig en k)[k]? =some (.ow d'):=sM (L:=M) z
          have z2:=xp z1
          unfold ig at z1
          rw[z2] at z1
          dsimp only at z1
          rw[RG (Rn.mp z2).1] at z1;cases z1
         ·exact ih (ig en i) y d' z
       exact key Lc _ hk d' q
  ·rfl
 have evb:vl (benv own ixs (a8 (Li ++ Lc) env))=g8 own ixs @PP:=by rw[HW,de]
 refine⟨λi n σ' H'=>n=ds.length - i/\i<=ds.length/\∃envb Gc β' acc accd,SR (Γ.j9 (upd H1 Da (.lst [])) G2 (Da :: B.toList) br B) B Gc H' σ' envb β'/\(envb=benv own ixs (a8 (Li ++ Lc) env)\/∃d,jg t d (benv own ixs (a8 (Li ++ Lc) env))=some envb)/\
   H' Da=some (.lst acc)/\cP Γ.K Gc acc accd/\accd.length<=i/\∃xs,iY t ft fe (g8 own ixs @PP) (ds.drop i) β'=.ok xs β0/\accd ++ xs=xs0,
  ⟨ds.length,@KM,Sb _,_,G2,β1,[],[],Ib0,.inl rfl,aE,.nil,Sb _,xs0,by rw[List.drop_zero];exact e0,rfl⟩,?_⟩
 rintro i n σ' H' ⟨rfl,hi',envb,Gc,β',acc,accd,Ib,eb,hacc,racc,lacc,xs,ec,exs⟩
 obtain⟨Io,mv,gD⟩:=I2.unblock hD Ib
 obtain⟨w1,w2⟩:=wk Gc H' i (s2.trans Ib.old) Ib.sub mv
 by_cases hlt:i < ds.length
 ·obtain⟨go,yl⟩:=w1 hlt
  refine .inr ⟨go,λσ' H'=>∃envb Gc β' acc accd,SR (Γ.j9 (upd H1 Da (.lst [])) G2 (Da :: B.toList) br B) B Gc H' σ' envb β'/\(envb=benv own ixs (a8 (Li ++ Lc) env)\/∃d,jg t d (benv own ixs (a8 (Li ++ Lc) env))=some envb)/\
   H' Da=some (.lst acc)/\cP Γ.K Gc acc accd/\accd.length<=i + 1/\∃xs,iY t ft fe (g8 own ixs @PP) (ds.drop (i + 1)) β'=.ok xs β0/\accd ++ xs=xs0,λσ2 H2 hh=>⟨ds.length - (i + 1),@AT,rfl,hlt,hh⟩,λx H2 y=>?_⟩
  obtain⟨G3,d,x3,ed,rd⟩:=yl x H2 y
  have I3:=Ib.ext x3
  have ed':ds[i]=d:=by rw[Rf hlt] at ed;exact Option.some.inj ed
  rw[TK hlt,ed'] at ec
  unfold iY at ec
  cases ebv:pE t d (g8 own ixs @PP) with
  |none=>rw[ebv] at ec;cases ec
  |some vs1=>
   rw[ebv] at ec
   dsimp only at ec
   obtain⟨env1,eb1,ev1⟩:∃env1,jg t d (benv own ixs (a8 (Li ++ Lc) env))=some env1/\vl env1=vs1:=by
    have:=Hd t d (benv own ixs (a8 (Li ++ Lc) env))
    rw[evb,ebv] at this
    cases q:jg t d (benv own ixs (a8 (Li ++ Lc) env)) with
    |none=>rw[q] at this;cases this
    |some env1=>rw[q] at this;exact⟨env1,rfl,Option.some.inj this⟩
   have eb2:jg t d envb=some env1:=by
    rcases eb with rfl | ⟨d0,eb⟩
    ·exact eb1
    ·rw[CM eb];exact eb1
   have no1:Ak env1:=CL (vH _ _ _) eb1
   have a2:H2 Da=some (.lst acc):=x3.hh _ _ hacc
   refine⟨_,_,_,_,_,envb,G3,B,β',d,env1,I3,rd,eb2,λσ3 I4=>?_⟩
   refine⟨_,_,_,_,_,hbo,env1,G3,B,β',I4,?_⟩
   rw[ev1]
   cases et:ft vs1 β' with
   |exc c=>rw[et] at ec;cases ec
   |bad=>rw[et] at ec;cases ec
   |ok c β2=>
    rw[et] at ec
    intro G4 H4 I5 s4 m4
    rw[zi no1] at I5
    have a4:H4 Da=some (.lst acc):=m4.1 _ _ a2 q3
    cases c with
    |false=>
     refine sy ⟨env1,G4,β2,acc,accd,I5,.inr ⟨d,eb1⟩,a4,racc.mono (x3.gg.trans s4),@AT,xs,?_,exs⟩
     exact ec
    |true=>
     refine ue ⟨_,_,_,_,_,hbo,env1,G4,B,β2,I5,?_⟩
     rw[ev1]
     have ec:((fe vs1 β2).okb λx β3=>(iY t ft fe (g8 own ixs @PP) (ds.drop (i + 1)) β3).okb λxs β4=>R.ok (x :: xs) β4)=R.ok xs β0:=ec
     cases ee:fe vs1 β2 with
     |exc c=>rw[ee] at ec;cases ec
     |bad=>rw[ee] at ec;cases ec
     |ok dx β3=>
      rw[ee] at ec
      intro v G5 H5 I6 s5 m5 vo
      rw[zi no1] at I6
      have a5:H5 Da=some (.lst acc):=m5.1 _ _ a4 q3
      have ec:((iY t ft fe (g8 own ixs @PP) (ds.drop (i + 1)) β3).okb λxs β4=>R.ok (dx :: xs) β4)=R.ok xs β0:=ec
      cases er:iY t ft fe (g8 own ixs @PP) (ds.drop (i + 1)) β3 with
      |exc c=>rw[er] at ec;cases ec
      |bad=>rw[er] at ec;cases ec
      |ok ys β4=>
       rw[er] at ec
       cases ec
       refine⟨acc,a5,by rw[racc.len];omega,env1,G5,β3,acc ++ [v],accd ++ [dx],?_,.inr ⟨d,eb1⟩,aE,(racc.mono ((x3.gg.trans s4).trans s5)).snoc vo,by rw[RD];simp;omega,ys,er,by rw[<-exs,S4];rfl⟩
       refine I6.updD (Ro ..) (Mx.lst (show upd H1 Da (.lst []) Da=some (.lst []) from aE)) (I2.sub.free hD) q3
 ·have e:i=ds.length:=@AT
  subst e
  rw[T9] at ec
  cases ec
  rw[Td] at exs
  subst exs
  refine .inl ⟨w2 (Rh _),⟨acc,hacc⟩,h _ Gc H' Io ((s1.trans s2).trans Ib.old) (m1.trans mv) ⟨Da,rfl,gi m1 I1.boxThere hD,gD,acc,hacc,racc⟩⟩
def bU (hg:∀H0 G0 par br bx C ex s3 H3 pn,SG @KB (Γ.j9 H0 G0 par br bx) tg t)(C:Addr)(ex:List Addr)(s3:Shared)(H3:Hp)(pn:@Do):PG @KB tg (gU Γ t):=by
 rintro pins s σ H v u Q I r ⟨H0,G0,par,br,bx,q⟩
 exact hg H0 G0 par br bx C ex s3 H3 pn pins s σ H v u Q I r q
def bP (Lc:@Ix)(hc:X.calm=true)(S:cz X NB own ixs scope)(hLc:∀i,i∈Lc->Γ.br i=false)(hi:SI X Γ E tg iter fi Li .b)
  (hg:∀H0 G0 par br bx C ex s3 H3 pn,SG @KB (Γ.j9 H0 G0 par br bx) tg t)
  (ht:∀H0 G0 par br bx C ex s3 H3 pn,(∀j,JY own ixs Lc j=true->br j=false)->E6 @KB ifs (qT (Γ.j9 H0 G0 par br bx) E0 ft Lt))
  (he:∀H0 G0 par br bx C ex s3 H3 pn,(∀j,JY own ixs Lc j=true->br j=false)->SE @KB (Γ.j9 H0 G0 par br bx) E0 elt fe Le .v)
  (hs:∀x,foldedSetIterable iter X.env x=pure x:=by intro _;rfl) :
  SE X Γ E @Os (aN own ixs t fi ft fe) (Li ++ Lc) .w:=by
 refine PE.post' (zC (g:=gU Γ t) (tt:=tU Γ own ixs Lc ft Lt) (te:=eU Γ own ixs Lc fe Le) hc S hi (bU hg) (λC ex s3 H3 pn=>?_) (λC ex s3 H3 pn=>?_) hs) λσ H Q h=>JR hLc h
 ·rintro pins s σ H Q I ⟨H0,G0,par,br,bx,b,q⟩
  exact ht H0 G0 par br bx C ex s3 H3 pn b pins s σ H Q I q
 ·rintro pins s σ H Q I ⟨H0,G0,par,br,bx,b,q⟩
  exact he H0 G0 par br bx C ex s3 H3 pn b pins s σ H Q I q
def l6 {i:Nat}{y:Str}{py spos:Pos}(Lc:@Ix)(hc:X.calm=true)(S:cz X NB own ixs scope)(hLc:∀i,i∈Lc->Γ.br i=false)(hi:SI X Γ E tg iter fi Li .b)
  (hg:∀H0 G0 par br bx C ex s3 H3 pn,SG @KB (Γ.j9 H0 G0 par br bx) tg t)
  (ht:∀H0 G0 par br bx C ex s3 H3 pn,(∀j,JY own ixs Lc j=true->br j=false)->E6 @KB ifs (qT (Γ.j9 H0 G0 par br bx) E0 ft Lt))
  (he:∀H0 G0 par br bx C ex s3 H3 pn,(∀j,JY own ixs Lc j=true->br j=false)->SE @KB (Γ.j9 H0 G0 par br bx) E0 elt fe Le .v)
  (hN:X.N.Nodup) (hy:X.N[i]? =some y:=by rfl) (hl:X.env.scope.names.lookup y=some .local:=by rfl)
  (hsw:swapsWith @Os (some (.Name y py)) spos.line X.env=pure true:=by rfl)
  (hs:∀x,foldedSetIterable iter X.env x=pure x:=by intro _;rfl) :
  SS X Γ E (.Assign [.Name y py] @Os spos) (b9 i (Li ++ Lc) (aN own ixs t fi ft fe)):=by
 refine PS.post (FU (g:=gU Γ t) (tt:=tU Γ own ixs Lc ft Lt) (te:=eU Γ own ixs Lc fe Le) hc S hi (bU hg) (λC ex s3 H3 pn=>?_) (λC ex s3 H3 pn=>?_) hN hy hl hsw hs) λN σ H ⟨env,G,B,β,I,o⟩=>?_
 ·rintro pins s σ H Q I ⟨H0,G0,par,br,bx,b,q⟩
  exact ht H0 G0 par br bx C ex s3 H3 pn b pins s σ H Q I q
 ·rintro pins s σ H Q I ⟨H0,G0,par,br,bx,b,q⟩
  exact he H0 G0 par br bx C ex s3 H3 pn b pins s σ H Q I q
 refine JR hLc ⟨env,G,B,β,I,cW o λd β' k v G' H' I' s' m' vo=>?_⟩
 obtain⟨G2,I2,s2,r⟩:=I.letW I' vo
 exact k B G2 H' _ (I2.set' i r) (s'.trans s2)
end
def fin:SO->FR
 | .nx _ _=>.ok .none false
 | .rt d fr _=>.ok d fr
 | .exc c=>.exc c
 |_=>.bad
def zP (n:Nat)(ds:List D):En:=ds.map Sl.fz ++ List.replicate (n - ds.length) .no
def aS (n p:Nat)(m:SF):@Cl:=λds=>if ds.length=p then fin (m (zP n ds) 0) else .bad
abbrev Fx.fn (K:Frag)(H G:Hp)(ca:Str->Addr):Fx:=⟨K,H,G,[],ca,λ_=>false,none⟩
def SR.start {K:Frag}{H G:Hp}{ca:Str->Addr}{N:@Id}{vs:List V}{ds:List D}(s:aw G H)(r:cP K G vs ds)(hn:ds.length<=N.length):SR (Fx.fn K H G ca) none G H (start N vs) (zP N.length ds) 0:=by
 have hl:=r.len
 refine⟨s,aw.refl _,λb _ h=>h,λb o h _=>Kt.of h,λb h=>(by cases h),λb h=>(by cases h),λb h=>(by cases h),?_,λi t e=>?_,λi j a d e h=>?_⟩
 ·unfold L2.start zP;simp;omega
 ·unfold zP at e
  by_cases hi:i < ds.length
  ·rw[RX (by simpa using hi),RA,Rf hi] at e
   cases e
   obtain⟨x,hx,rx⟩:=r.at (Rf hi)
   refine⟨x,?_,rx⟩
   unfold L2.start
   rw[RX (by simpa[hl] using hi),RA,hx];rfl
  ·rw[R3 (by simpa using hi),Sw] at e
   split at e
   ·cases e;trivial
   ·cases e
 ·unfold zP at h
  have hm:=RN h
  rcases Rw.mp hm with z |z
  ·obtain⟨_,_,z⟩:=Rz.mp z;cases z
  ·have:=S0 z;cases this
section
variable {P:Program}{w:World}{K:Frag}{mg:@Fr}{base:Heap}{ca:Str->Addr}
def aO {x qual:Str}{st:Stmt}{f:Addr}{fd:FuncData}{N ps:@Id}{k:Nat}{m:SF}(F:DV K x qual st f fd)(S:aB N ps (ar st))
  (hbody:∀(cdv:Value) (A:Around) (outer:List Env) (s:Shared) (H G:Hp) (E:XK),fm k (A.deeper (envOfC qual (ar st) s.heap.objs.size f cdv))->Fg (ra (qv P w) P w K mg base N qual (ar st) f cdv A outer s H E) (Fx.fn K H G ca) E (dw st) m) :
  gp P w K mg base (qv P w) (k + 1) f fd ps (Jk K ca ps.length (aS N.length ps.length m)):=by
 have hpn:ps.length<=N.length:=by have:=congrArg List.length S.pre;rw[R9] at this;omega
 refine F.JO S (λvs H Q E h=>?_) (λcdv A outer s H vs Q E hr h=>?_)
 ·obtain⟨G,ds,sG,hl,r,_⟩:=h
  rw[r.len];exact hl
 ·obtain⟨G,ds,sG,hl,r,h⟩:=h
  refine⟨_,hbody cdv A outer s H G E hr,?_⟩
  have I:=SR.start (ca:=ca) (N:=N) sG r (@AT)
  refine⟨_,G,none,0,I,?_⟩
  unfold aS at h
  rw[Rg hl] at h
  have fin':∀{B G' H' σ env β},SR (Fx.fn K H G ca) B G' H' σ env β->aw H H':=λJ b o e=>J.keep b o e (λz=>by cases z)
  cases q:m (zP N.length ds) 0 with
  |nx env β=>rw[q] at h;exact λB G' H' σ J s'=>h .non G' H' (fin' J) s' J.sub (λb h1 h2=>J.new b h1 h2) Rp.non
  |bk env β=>rw[q] at h;exact h.elim
  |ct env β=>rw[q] at h;exact h.elim
  |rt d fr β=>
   rw[q] at h
   refine λB G' H' σ env v J s' rv=>h v G' H' (fin' J) s' J.sub (λb h1 h2=>J.new b h1 h2) ?_
   cases fr with
   |true=>exact rv
   |false=>exact rv
  |exc c=>rw[q] at h;exact λH' kp=>h H' λb o e=>kp b o e (λz=>by cases z)
  |bad=>rw[q] at h;exact h.elim
def Hf {n:Nat}{F F':@Cl}(h:∀ds,ds.length=n->F' ds≠.bad->F ds=F' ds){vs:List V}{H:Hp}{Q:VK}{E:XK}(q:Jk K ca n F' vs H Q E):Jk K ca n F vs H Q E:=by
 obtain⟨G,ds,s,hl,r,q⟩:=q
 refine⟨G,ds,s,hl,r,?_⟩
 by_cases hb:F' ds=.bad
 ·rw[hb] at q;exact q.elim
 ·rw[h ds hl hb];exact q
def bK.imp {x:Str}{ps:@Id}{k:Nat}{F F':@Cl}(h:bK P w K mg base ca x ps k F)(i:∀ds,F' ds≠.bad->F ds=F' ds):bK P w K mg base ca x ps k F':=by
 obtain⟨f,fd,a,b,c,d⟩:=h.ex
 exact⟨⟨f,fd,a,b,c,d.imp λvs H Q E q=>Hf (λds _=>i ds) q⟩,λds hn=>h.len ds (by rw[i ds hn];exact hn)⟩
def aF {n p:Nat}{m:SF}(ds:List D)(h:aS n p m ds≠.bad):ds.length=p:=by
 unfold aS at h
 by_cases hl:ds.length=p
 ·exact hl
 ·rw[Rj hl] at h;exact absurd rfl h
end
section
variable {X:Cx}{Γ:Fx}{E:XK}{e a b c:Expr}{f fa fb:VF D}{L La Lb:@Ix}{md ma mb:Md}{pos apos cpos np:Pos}
def ug:Option Sl->Bool
 |some (.ow (.list _))=>true
 |_=>false
theorem pR {o:Option Sl}(h:ug o=true):∃ds,o=some (.ow (.list ds)):=by
 cases o with
 |none=>cases h
 |some s=>
  cases s with
  |ow d=>cases d with
   |list ds=>exact⟨ds,rfl⟩
   |_=>cases h
  |_=>cases h
def JQ (i:Nat)(env:En)(β:Int)(g:List D->Option (List D)):SO:=match env[i]? with
 |some (.ow (.list ds))=>(match g ds with
  |some es=>.nx (env.set i (.ow (.list es))) β
  |none=>.bad)
 |_=>.bad
def pB (i:Nat)(L:@Ix)(f:VF D):SF:=λenv β=>if ug env[i]? =true then toS (f @PP β) λd β'=>JQ i (a8 L env) β' λds=>if ds.length < sizeLine then some (ds ++ [d]) else none else .bad
def rD {Γ:Fx}{E:XK}{G:Hp}{N:Ends}{i:Nat}{env:En}{β:Int}{g:List D->Option (List D)}(h:uY Γ E G N (JQ i env β g)):∃ds es,env[i]? =some (.ow (.list ds))/\g ds=some es/\uY Γ E G N (.nx (env.set i (.ow (.list es))) β):=by
 unfold JQ at h
 split at h
 ·rename_i ds q
  cases e:g ds with
  |none=>rw[e] at h;exact h.elim
  |some es=>rw[e] at h;exact⟨ds,es,q,e,h⟩
 ·exact h.elim
def n9 (i:Nat){x:Str}(hb:∀j,Γ.br j=false)(he:SE X Γ E e f L .v)(hN:X.N[i]? =some x:=by rfl)(hv:BN X.env.scope x:=by first |exact Or.inl rfl |exact Or.inr (Or.inl rfl) |exact Or.inr (Or.inr rfl))(hd:@Go:=by decide)
  (hcd:(x == ("__classdict__":Str))=false:=by decide)
  (hbase:attributeBase (.Name x np) "append" X.env (eval (.Name x np) X.env)=eval (.Name x np) X.env:=by rfl)
  (hfew:((backTo cpos (starEach [e] X.env)).all (λx=> !x.1) && (backToKw cpos (keywordEach [] X.env)).all (λx=>x.1.isSome)
   && decide ([e].length + ([]:List Keyword).length + (if ([]:List Keyword).isEmpty then 0 else 1) < 30))=true:=by rfl)
  (hline:(apos.endLine == cpos.line)=true:=by rfl) (hs:starEach [e] X.env=(false,eval e X.env) :: starEach [] X.env:=by rfl)
  (hsw:swapsWith (.Call (.Attribute (.Name x np) "append" apos) [e] [] cpos) none pos.line X.env=pure false:=by rfl) :
  SS X Γ E (.Expr (.Call (.Attribute (.Name x np) "append" apos) [e] [] cpos) pos) (pB i L f):=by
 refine PS.post (rK (Ct TQ PySem.F.slot_list_append PySem.F.type_list_append qu (kU hN hv hd hcd) (ba he cf hs) hbase hfew hline hs rfl) hsw) λN σ H ⟨env,G,B,β,I,o⟩=>?_
 unfold pB at o
 by_cases hO:ug env[i]? =true
 case neg=>rw[Rj hO] at o;exact o.elim
 rw[Rg hO] at o
 obtain⟨ds0,q0⟩:=pR hO
 obtain⟨p,h1,_,_,_,xs,h5,_⟩:=I.slot i _ q0
 refine⟨_,h1,.inl ⟨rfl,xs,.inl (.inl h5)⟩,?_⟩
 refine⟨env,G,B,β,I,cW o λd β' k v G' H' I' s' m' vo=>?_⟩
 obtain⟨ds,es,q,eg,k⟩:=rD k
 by_cases hz:ds.length < sizeLine
 case neg=>rw[Rj hz] at eg;cases eg
 rw[Rg hz] at eg
 cases eg
 obtain⟨p',g1,_,_,_,ys,g5,g6⟩:=I'.slot i _ q
 rw[h1] at g1;cases g1
 refine⟨p,ys,v,rfl,rfl,g5,by rw[g6.len];exact hz,?_⟩
 exact k B G' _ σ (I'.write hb q h1 λH2 e2 s2=>⟨_,e2,g6.snoc vo⟩) s'
def Of:V->List V->@P_:=λx vs H Q=>∃l b xs zs,x=.ref l/\vs= [.ref b]/\H l=some (.lst xs)/\Rd H b (.lst zs)/\xs.length + zs.length<=sizeLine/\Q .non (upd H l (.lst (xs ++ zs)))
def Inv.lstR {pins:@Do}{σ:St}{H:Hp}{s:Shared}{l:Addr}{xs:List V}(I:@B_)(hH:Rd H l (.lst xs)):xs.length<=sizeLine/\∃(its:@G_) (n:Nat),Vals xs its/\xs.length=its.length/\s.heap.get? l=some {cls:=.type "list",data:=.seq its.toArray n}:=by
 obtain⟨z,its,n,r,e⟩:=hH.ok I.hok
 exact⟨z,its,n,r,r.length,e⟩
def Iw:M7 X "list.extend" Of:=by
 intro pins s σ H x vs v us Q I rx rv h
 obtain⟨l,b,xs,zs,rfl,rfl,hH,hB,hz,q⟩:=h
 cases rx
 obtain⟨u,rfl,ru⟩:=rv.one
 cases ru
 obtain⟨z,its,n,r,hl,e⟩:=I.lstM hH
 obtain⟨z2,its2,n2,r2,hl2,e2⟩:=I.lstR hB
 have hsz:its.toArray.size + its2.toArray.size<=sizeLine:=by rw[Ry,Ry];omega
 have hlong:¬(!its.toArray.isEmpty && Builtin.List.listTooLong (its.toArray.size + its2.toArray.size))=true:=by
  rw[yt hsz,Bool.and_false]
  exact RK
 refine call_meets F.slot_list_extend ⟨_,e,rfl⟩ F.entry_list_extend (F.args_list_extend_2 _ _)
  (AutoSeq1.list_extend_list_list_0 l its.toArray n b its2.toArray n2 hlong (by rw[Ry];omega) (@AT)) ⟨e,e2,?_⟩
 refine⟨.non,_,I.lset (its':=its ++ its2) hH e (@KM) (r.append r2) ?_,rfl,q⟩
 rw[RD]
 omega
def CS (i:Nat)(L:@Ix)(f:VF D):SF:=λenv β=>if ug env[i]? =true then toS (f @PP β) λd β'=>JQ i (a8 L env) β' λds=>match d with
 | .list es=>if ds.length + es.length<=sizeLine then some (ds ++ es) else none
 |_=>none else .bad
theorem Dd (i:Nat){x:Str}(hb:∀j,Γ.br j=false)(he:SE X Γ E e f L md)(hN:X.N[i]? =some x:=by rfl)(hv:BN X.env.scope x:=by first |exact Or.inl rfl |exact Or.inr (Or.inl rfl) |exact Or.inr (Or.inr rfl))(hd:@Go:=by decide)
  (hcd:(x == ("__classdict__":Str))=false:=by decide)
  (hbase:attributeBase (.Name x np) "extend" X.env (eval (.Name x np) X.env)=eval (.Name x np) X.env:=by rfl)
  (hfew:((backTo cpos (starEach [e] X.env)).all (λx=> !x.1) && (backToKw cpos (keywordEach [] X.env)).all (λx=>x.1.isSome)
   && decide ([e].length + ([]:List Keyword).length + (if ([]:List Keyword).isEmpty then 0 else 1) < 30))=true:=by rfl)
  (hline:(apos.endLine == cpos.line)=true:=by rfl) (hs:starEach [e] X.env=(false,eval e X.env) :: starEach [] X.env:=by rfl)
  (hsw:swapsWith (.Call (.Attribute (.Name x np) "extend" apos) [e] [] cpos) none pos.line X.env=pure false:=by rfl) :
  SS X Γ E (.Expr (.Call (.Attribute (.Name x np) "extend" apos) [e] [] cpos) pos) (CS i L f):=by
 refine PS.post (rK (Ct TQ PySem.F.slot_list_extend PySem.F.type_list_extend Iw (kU hN hv hd hcd) (ba he cf hs) hbase hfew hline hs rfl) hsw) λN σ H ⟨env,G,B,β,I,o⟩=>?_
 unfold CS at o
 by_cases hO:ug env[i]? =true
 case neg=>rw[Rj hO] at o;exact o.elim
 rw[Rg hO] at o
 obtain⟨ds0,q0⟩:=pR hO
 obtain⟨p,h1,_,_,_,xs,h5,_⟩:=I.slot i _ q0
 refine⟨_,h1,.inl ⟨rfl,xs,.inl (.inl h5)⟩,?_⟩
 refine⟨env,G,B,β,I,cW o λd β' k v G' H' I' s' m' vo=>?_⟩
 obtain⟨ds,es,q,eg,k⟩:=rD k
 cases d with
 |list fs=>
  dsimp only at eg
  by_cases hz:ds.length + fs.length<=sizeLine
  case neg=>rw[Rj hz] at eg;cases eg
  rw[Rg hz] at eg
  cases eg
  obtain⟨p',g1,_,_,_,ys,g5,g6⟩:=I'.slot i _ q
  rw[h1] at g1;cases g1
  obtain⟨pb,zs,rfl,hq,rz⟩:=(vo.brw I.boxThere).list I'.sub
  refine⟨p,pb,ys,zs,rfl,rfl,g5,hq,by rw[g6.len,rz.len];exact hz,?_⟩
  exact k B G' _ σ (I'.write hb q h1 λH2 e2 s2=>⟨_,e2,g6.append rz⟩) s'
 |_=>cases eg
def tZ (i:Nat)(Le Li:@Ix)(fe fi:VF D):SF:=λenv β=>toS (fe @PP β) λd β1=>if ug (a8 Le env)[i]? =true then toS (fi @PP β1) λk β2=>JQ i (a8 (Le ++ Li) env) β2 λds=>match k with
 | .int j=>(xR ds.length j).map λn=>ds.set n d
 |_=>none else .bad
theorem BZ (i:Nat){x:Str}{spos:Pos}(hb:∀j,Γ.br j=false)(he:SE X Γ E e f La .v)(hi:SE X Γ E a fa Lb mb)(hN:X.N[i]? =some x:=by rfl)(hv:BN X.env.scope x:=by first |exact Or.inl rfl |exact Or.inr (Or.inl rfl) |exact Or.inr (Or.inr rfl))(hd:@Go:=by decide)
  (hcd:(x == ("__classdict__":Str))=false:=by decide)
  (hA:∀v,assign (.Subscript (.Name x np) a spos) X.env v=(do
   let ov <-holding [v] (eval (.Name x np) X.env)
   let iv <-holding [v,ov] (eval a X.env)
   standAt spos
   holding [v,ov,iv] (setItem ov iv v)
   release [v,ov,iv] []):=by intro _;rfl)
  (hs:swapsWithSole [.Subscript (.Name x np) a spos] e pos.line X.env=pure false:=by rfl) (hw:swappedStores [.Subscript (.Name x np) a spos] e X.env=pure none:=by rfl)
  (h1:(assignEach [.Subscript (.Name x np) a spos] X.env).map (·.2)= [assign (.Subscript (.Name x np) a spos) X.env]:=by rfl) :
  SS X Γ E (.Assign [.Subscript (.Name x np) a spos] e pos) (tZ i La Lb f fa):=by
 refine PS.post (tY he (wM (kU hN hv hd hcd) hi set_list hA) hs hw h1) λN σ H ⟨env,G,B,β,I,o⟩=>?_
 refine⟨env,G,B,β,I,cW o λd β1 o v G1 H1 I1 s1 m1 vo=>?_⟩
 by_cases hO:ug (a8 La env)[i]? =true
 case neg=>rw[Rj hO] at o;exact o.elim
 rw[Rg hO] at o
 obtain⟨ds0,q0⟩:=pR hO
 obtain⟨p,h1,_,_,_,xs,h5,_⟩:=I1.slot i _ q0
 refine⟨_,h1,a8 La env,G1,B,β1,I1,?_⟩
 rw[de]
 refine cW o λk β2 o w G2 H2 I2 s2 m2 vi=>?_
 rw[<-cu] at I2
 obtain⟨ds,es,q,eg,o⟩:=rD o
 cases k with
 |int j=>
  dsimp only at eg
  obtain rfl:=(vi.brw I1.boxThere).int
  obtain⟨p',g1,_,_,_,ys,g5,g6⟩:=I2.slot i _ q
  rw[h1] at g1;cases g1
  cases en:xR ds.length j with
  |none=>rw[en] at eg;cases eg
  |some n=>
   rw[en] at eg
   cases eg
   have vo:Rp Γ.K G1 v d:=vo
   refine⟨p,ys,j,n,rfl,rfl,g5,by rw[g6.len];exact en,?_⟩
   exact o B G2 _ σ (I2.write hb q h1 λH3 e3 s3=>⟨_,e3,g6.set (vo.mono s2) n⟩) (s1.trans s2)
 |_=>cases eg
end
section
variable {K:Frag}{X:Cx}
def ua {g:Int->Int->V}{gd:D->@Pi}(h:∀dx dy d,gd dx dy=some d->∃i j,dx=.int i/\dy=.int j/\∀G,Rp K G (g i j) d):pe K (ye g) gd .v:=by
 intro B G H x y dx dy d Q s hB bx by' e k
 obtain⟨i,j,rfl,rfl,r⟩:=h _ _ _ e
 obtain rfl:=bx.int
 obtain rfl:=by'.int
 exact⟨i,j,rfl,rfl,k _ G H (Ext.refl s) (r G)⟩
def Bj {C:Int->Int->Prop}{g:Int->Int->V}{gd:D->@Pi}(h:∀dx dy d,gd dx dy=some d->∃i j,dx=.int i/\dy=.int j/\C i j/\∀G,Rp K G (g i j) d):pe K (rI C g) gd .v:=by
 intro B G H x y dx dy d Q s hB bx by' e k
 obtain⟨i,j,rfl,rfl,c,r⟩:=h _ _ _ e
 obtain rfl:=bx.int
 obtain rfl:=by'.int
 exact⟨i,j,rfl,rfl,c,k _ G H (Ext.refl s) (r G)⟩
def gI (c:Int->Int->Bool)(g:Int->Int->D):D->@Pi
 | .int i,.int j=>if c i j=true then some (g i j) else none
 |_,_=>none
def xw (g:Int->Int->D):D->@Pi
 | .int i,.int j=>some (g i j)
 |_,_=>none
def BQ {c:Int->Int->Bool}{g:Int->Int->D}{dx dy d:D}(h:gI c g dx dy=some d):∃i j,dx=.int i/\dy=.int j/\c i j=true/\d=g i j:=by
 unfold gI at h
 split at h
 ·split at h
  ·cases h;exact⟨_,_,rfl,rfl,by assumption,rfl⟩
  ·cases h
 ·cases h
def mN {g:Int->Int->D}{dx dy d:D}(h:xw g dx dy=some d):∃i j,dx=.int i/\dy=.int j/\d=g i j:=by
 unfold xw at h
 split at h
 ·cases h;exact⟨_,_,rfl,rfl,rfl⟩
 ·cases h
def qJ:D->@Pi:=xw λi j=>.int (i - j)
def ve:pe K (ye λi j=>.int (i - j)) qJ .v:=ua λdx dy d h=>by obtain⟨i,j,rfl,rfl,rfl⟩:=mN h;exact⟨i,j,rfl,rfl,λ_=>.int _⟩
def LA:D->@Pi:=gI (λ_ j=>decide (0 < j) && decide (j < 1073741824)) λi j=>.int (i / j)
def Nm:pe K (rI Ip λi j=>.int (i / j)) LA .v:=Bj λdx dy d h=>by obtain⟨i,j,rfl,rfl,c,rfl⟩:=BQ h;exact⟨i,j,rfl,rfl,by simpa[Ip] using c,λ_=>.int _⟩
def mX:D->@Pi:=gI (λ_ j=>decide (0 < j)) λi j=>.int (i % j)
def vh:pe K (rI (λ_ j=>0 < j) λi j=>.int (i % j)) mX .v:=Bj λdx dy d h=>by obtain⟨i,j,rfl,rfl,c,rfl⟩:=BQ h;exact⟨i,j,rfl,rfl,by simpa using c,λ_=>.int _⟩
def Km (i j:Int):Bool:=decide (0<=j) && decide (j<=1000000) && decide (i.natAbs < 2 ^ 64)
def Hy {i j:Int}(h:Km i j=true):Mb i j:=by
 unfold Km at h
 simp only[RC,Rq] at h
 exact⟨h.1.1,h.1.2,h.2⟩
def Mn:D->@Pi:=gI Km λi j=>.int (i * 2 ^ j.toNat)
def N8:pe K (rI Mb λi j=>.int (i * 2 ^ j.toNat)) Mn .v:=Bj λdx dy d h=>by obtain⟨i,j,rfl,rfl,c,rfl⟩:=BQ h;exact⟨i,j,rfl,rfl,Hy c,λ_=>.int _⟩
def Ew:D->@Pi:=xw λi j=>.int (Builtin.bitAnd i j)
def OD:pe K (ye λi j=>.int (Builtin.bitAnd i j)) Ew .v:=ua λdx dy d h=>by obtain⟨i,j,rfl,rfl,rfl⟩:=mN h;exact⟨i,j,rfl,rfl,λ_=>.int _⟩
def O5:D->@Pi:=xw λi j=>.int (Builtin.bitOr i j)
def Oi:pe K (ye λi j=>.int (Builtin.bitOr i j)) O5 .v:=ua λdx dy d h=>by obtain⟨i,j,rfl,rfl,rfl⟩:=mN h;exact⟨i,j,rfl,rfl,λ_=>.int _⟩
def qG:D->@Pi:=xw λi j=>.bool (decide (i < j))
def Bz:D->@Pi:=xw λi j=>.bool (decide (i<=j))
def Nr:D->@Pi:=xw λi j=>.bool (decide (j < i))
def zb:pe K (ye λi j=>.bl (decide (i < j))) qG .v:=ua λdx dy d h=>by obtain⟨i,j,rfl,rfl,rfl⟩:=mN h;exact⟨i,j,rfl,rfl,λ_=>.bl _⟩
def ID:pe K (ye λi j=>.bl (decide (i<=j))) Bz .v:=ua λdx dy d h=>by obtain⟨i,j,rfl,rfl,rfl⟩:=mN h;exact⟨i,j,rfl,rfl,λ_=>.bl _⟩
def NF:pe K (ye λi j=>.bl (decide (j < i))) Nr .v:=ua λdx dy d h=>by obtain⟨i,j,rfl,rfl,rfl⟩:=mN h;exact⟨i,j,rfl,rfl,λ_=>.bl _⟩
mutual
theorem Ck:∀d:D,d.canLay0=true->Gx d=true
 | .none,_=>rfl
 | .bool _,_=>rfl
 | .int _,_=>rfl
 | .str _,_=>rfl
 | .list ds,h=>by simp only[PyData.canLay0] at h;simp only[Gx];exact sZ ds h
 | .tuple ds,h=>by simp only[PyData.canLay0] at h;simp only[Gx];exact sZ ds h
 | .dict _,h=>by simp[PyData.canLay0] at h
theorem sZ:∀ds:List D,PyData.canLayAll0 ds=true->uZ ds=true
 | [],_=>rfl
 |d :: ds,h=>by
  simp only[PyData.canLayAll0,RC] at h
  simp only[uZ,RC]
  exact⟨Ck d h.1,sZ ds h.2⟩
end
def xy {d:D}(h:SeqAt.shaped d=true):Gx d=true:=Ck d (S9 h)
theorem Bk:∀{ds:List D},(ds.all SeqAt.shaped)=true->uZ ds=true
 | [],_=>rfl
 |d :: ds,h=>by
  rw[Ud,RC] at h
  simp only[uZ,RC]
  exact⟨xy h.1,Bk h.2⟩
def gq (neg:Bool)(x y:D):Option D:=if (SeqAt.shaped x && SeqAt.shaped y)=true then some (.bool (if neg then !PyData.eqv x y else PyData.eqv x y)) else none
def i5 {neg:Bool}:pe K (Kw K neg) (gq neg) .v:=by
 intro B G H x y dx dy d Q s hB bx by' e k
 unfold gq at e
 split at e
 ·rename_i h
  rw[RC] at h
  cases e
  exact⟨dx,dy,(bx.rpH s).rep (xy h.1),(by'.rpH s).rep (xy h.2),h.1,h.2,k _ G H (Ext.refl s) (.bl _)⟩
 ·cases e
def oN (neg:Bool)(x y:D):Option D:=match ni y with
 |some ds=>if (SeqAt.shaped x && ds.all SeqAt.shaped)=true then some (.bool (if neg then !(ds.any λe=>PyData.eqv e x) else ds.any λe=>PyData.eqv e x)) else none
 |none=>none
theorem ou.seq {B:@J_}{G H:Hp}{v:V}{d:D}{ds:List D}(h:ou K B G H v d)(e:ni d=some ds)(s:aw G H):∃a xs,v=.ref a/\(ji K H a xs\/gr K H a xs)/\cP K G xs ds:=by
 cases d with
 |list l=>cases e;obtain⟨a,xs,e,q,r⟩:=h.list s;exact⟨a,xs,e,.inl (.inl q),r⟩
 |tuple l=>cases e;obtain⟨a,xs,e,q,r⟩:=h.tuple s;exact⟨a,xs,e,.inr q,r⟩
 |_=>cases e
theorem xC {neg:Bool}:pe K (MM K neg) (oN neg) .v:=by
 intro B G H x y dx dy d Q s hB bx by' e k
 unfold oN at e
 cases q:ni dy with
 |none=>rw[q] at e;cases e
 |some ds=>
  rw[q] at e
  dsimp only at e
  split at e
  ·rename_i h
   rw[RC] at h
   cases e
   obtain⟨a,xs,rfl,hq,r⟩:=by'.seq q s
   refine⟨a,xs,dx,ds,rfl,hq,(r.mono s).reps (Bk h.2),(bx.rpH s).rep (xy h.1),h.1,λe he=>RH.mp h.2 e he,k _ G H (Ext.refl s) (.bl _)⟩
  ·cases e
def II:D->Bool
 | .none=>true
 |_=>false
theorem cP.ints {G:Hp}:∀ns:@Db,cP K G (ns.map V.int) (ns.map int)
 | []=>.nil
 |n :: ns=>.cons @Re (cP.ints ns)
theorem DX.noNone {G:Hp}{kvs:List (Key×V)}{d:D}{r:List (D×D)}(h:DX K G kvs ((.none,d) :: r)):False:=by
 generalize e:(PyData.none,d) :: r=l at h
 cases h with
 |nil=>cases e
 | @cons k x xs d' ds _ _=>
  injection e with e1 _
  injection e1 with e2 _
  cases k <;> cases e2
theorem DS.noNone {G:Hp}{kvs:List (List Key×V)}{d:D}{r:List (D×D)}(h:DS K G kvs ((.none,d) :: r)):False:=by
 generalize e:(PyData.none,d) :: r=l at h
 cases h with
 |nil=>cases e
 | @cons k x xs d' ds _ _=>
  injection e with e1 _
  injection e1 with e2 _
  cases e2
def ou.scr {B:@J_}{G H:Hp}{v:V}{ds:List D}(h:ou K B G H v (.dict [(.none,.list ds)]))(s:aw G H):∃a xs,v=.ref a/\ji K H a xs/\cP K G xs ds:=by
 rcases h with h | ⟨a,rfl,n,h⟩
 ·cases h with
  | @scr a ns q=>exact⟨a,_,rfl,s.seq q,cP.ints ns⟩
  |dK _ r=>exact r.noNone.elim
  |dT _ r=>exact r.noNone.elim
 ·rcases h with⟨_,_,r⟩ | ⟨_,_,r⟩
  ·exact r.noNone.elim
  ·exact r.noNone.elim
def bB:D->@Pi
 | .list ds,.int i=>m9 ds i
 | .tuple ds,.int i=>m9 ds i
 | .str z,.int i=>if z.length<=sizeLine then (m9 z.cps.toList i).map λc=>.str ⟨#[c]⟩ else none
 | .dict [(.none,.list ds)],.int i=>m9 ds i
 |_,_=>none
theorem xx {G:Hp}{xs:List V}{ds:List D}{i:Int}{d:D}(r:cP K G xs ds)(h:m9 ds i=some d):∃x,m9 xs i=some x/\Rp K G x d:=by
 unfold m9 at h ⊢
 rw[r.len]
 cases e:xR ds.length i with
 |none=>rw[e] at h;cases h
 |some j=>rw[e] at h;exact r.at h
theorem bA:pe K (QO K) bB .v:=by
 intro B G H x y dx dy d Q s hB bx by' e k
 cases dx with
 |list ds=>
  cases dy with
  |int i=>
   obtain rfl:=by'.int
   obtain⟨a,xs,rfl,q,r⟩:=bx.list s
   obtain⟨v,ev,rv⟩:=xx r e
   exact .inl ⟨a,xs,i,v,rfl,rfl,.inl q,ev,k _ G H (Ext.refl s) rv⟩
  |_=>cases e
 |tuple ds=>
  cases dy with
  |int i=>
   obtain rfl:=by'.int
   obtain⟨a,xs,rfl,q,r⟩:=bx.tuple s
   obtain⟨v,ev,rv⟩:=xx r e
   exact .inr (.inl ⟨a,xs,i,v,rfl,rfl,q,ev,k _ G H (Ext.refl s) rv⟩)
  |_=>cases e
 |str z=>
  cases dy with
  |int i=>
   obtain rfl:=by'.int
   obtain rfl:=bx.str
   simp only[bB] at e
   split at e
   ·rename_i hz
    cases q:m9 z.cps.toList i with
    |none=>rw[q] at e;cases e
    |some c=>rw[q] at e;cases e;exact .inr (.inr ⟨z,i,c,rfl,rfl,hz,q,k _ G H (Ext.refl s) (.str _)⟩)
   ·cases e
  |_=>cases e
 |none=>cases dy <;> cases e
 |bool b=>cases dy <;> cases e
 |int b=>cases dy <;> cases e
 |dict b=>
  obtain⟨ds,i,rfl,rfl,e⟩:∃ds i,b= [(.none,.list ds)]/\dy=.int i/\m9 ds i=some d:=by
   unfold bB at e
   split at e
   ·contradiction
   ·contradiction
   ·contradiction
   ·rename_i h;cases h;exact⟨_,_,rfl,rfl,e⟩
   ·cases e
  obtain rfl:=by'.int
  obtain⟨a,xs,rfl,q,r⟩:=bx.scr s
  obtain⟨v,ev,rv⟩:=xx r e
  exact .inl ⟨a,xs,i,v,rfl,rfl,q,ev,k _ G H (Ext.refl s) rv⟩
def cJ:@Pi
 | .list ds=>some (.int ds.length)
 | .tuple ds=>some (.int ds.length)
 | .str z=>if z.length<=sizeLine then some (.int z.length) else none
 | .dict [(.none,.list ds)]=>some (.int ds.length)
 |_=>none
def QH (K:Frag):List V->@P_:=λxs H Q=>∃x n,xs= [x]/\OF K x H n/\Q @Re H
def dQ:GQ K (λx=>QH K [x]) cJ .v:=by
 intro B G H x dx d Q s hB bx e k
 unfold cJ at e
 split at e
 ·cases e;obtain⟨a,xs,rfl,q,r⟩:=bx.list s;exact⟨_,_,rfl,.inl ⟨xs,.inl q,r.len.symm⟩,k _ G H (Ext.refl s) (.int _)⟩
 ·cases e;obtain⟨a,xs,rfl,q,r⟩:=bx.tuple s;exact⟨_,_,rfl,.inr ⟨xs,q,r.len.symm⟩,k _ G H (Ext.refl s) (.int _)⟩
 ·obtain rfl:=bx.str
  split at e
  ·rename_i hz;cases e;exact⟨_,_,rfl,⟨hz,rfl⟩,k _ G H (Ext.refl s) (.int _)⟩
  ·cases e
 ·cases e;obtain⟨a,xs,rfl,q,r⟩:=bx.scr s;exact⟨_,_,rfl,.inl ⟨xs,q,r.len.symm⟩,k _ G H (Ext.refl s) (.int _)⟩
 ·cases e
def gR:@Pi
 | .list ds=>some (.tuple ds)
 | .tuple ds=>some (.tuple ds)
 |_=>none
theorem iJ:GQ K (λx H Q=>∃p ys,[x]= [.ref p]/\((ji K H p ys/\∀l,H l=none->Q (.ref l) (upd H l (.tup ys)))\/(gr K H p ys/\Q (.ref p) H))) gR .v:=by
 intro B G H x dx d Q s hB bx e k
 cases dx with
 |list ds=>
  cases e
  obtain⟨a,xs,rfl,q,r⟩:=bx.list s
  refine⟨a,xs,rfl,.inl ⟨.inl q,λl hl=>?_⟩⟩
  have x:=Ext.new s (o:=.tup xs) hl
  exact k _ _ _ x (.tup (.inl (.inl aE)) (r.mono x.gg))
 |tuple ds=>
  cases e
  rcases bx with bx | ⟨_,_,_,z⟩
  ·cases bx with
   | @tup a xs _ hq r=>exact⟨a,xs,rfl,.inr ⟨hq.grow s.grow,k _ G H (Ext.refl s) (.tup hq r)⟩⟩
  ·exact z.elim
 |_=>cases e
def t5:@Pi
 | .list ds=>some (.list ds)
 | .tuple ds=>some (.list ds)
 |_=>none
def Ai:GQ K (λx H Q=>∃p ys,[x]= [.ref p]/\(ji K H p ys\/gr K H p ys)/\∀l,H l=none->Q (.ref l) (upd H l (.lst ys))) t5 .w:=by
 intro B G H x dx d Q s hB bx e k
 obtain⟨ds,e1,rfl⟩:∃ds,ni dx=some ds/\d=.list ds:=by
  cases dx <;> cases e <;> exact⟨_,rfl,rfl⟩
 obtain⟨a,xs,rfl,hq,r⟩:=bx.seq e1 s
 refine⟨a,xs,rfl,hq,λl hl=>?_⟩
 exact k _ _ _ (Ext.own s (o:=.lst xs) hl) ⟨l,rfl,hl,s.free hl,xs,aE,r⟩
def ny:List D->Option (List Bool)
 | []=>some []
 | .bool b :: ds=>(ny ds).map (b :: ·)
 |_=>none
theorem vM {G:Hp}:∀{ds:List D} {bs:List Bool} {xs:List V},ny ds=some bs->cP K G xs ds->xs=bs.map V.bl
 | [],bs,xs,e,r=>by cases e;cases r;rfl
 | .bool b :: ds,bs,xs,e,r=>by
  cases r with
  |cons r1 r2=>
   cases r1
   simp only[ny] at e
   cases q:ny ds with
   |none=>rw[q] at e;cases e
   |some cs=>rw[q] at e;cases e;rw[vM q r2];rfl
 | .none :: _,_,_,e,_=>by cases e
 | .int _ :: _,_,_,e,_=>by cases e
 | .str _ :: _,_,_,e,_=>by cases e
 | .list _ :: _,_,_,e,_=>by cases e
 | .tuple _ :: _,_,_,e,_=>by cases e
 | .dict _ :: _,_,_,e,_=>by cases e
def bY (f:List Bool->Bool):@Pi
 | .list ds=>(ny ds).map λbs=>.bool (f bs)
 |_=>none
theorem iP {f:List Bool->Bool}:GQ K (λx=>AR K f [x]) (bY f) .v:=by
 intro B G H x dx d Q s hB bx e k
 cases dx with
 |list ds=>
  simp only[bY] at e
  cases q:ny ds with
  |none=>rw[q] at e;cases e
  |some bs=>
   rw[q] at e
   cases e
   obtain⟨a,xs,rfl,hq,r⟩:=bx.list s
   obtain rfl:=vM q r
   exact⟨a,bs,rfl,.inl hq,k _ G H (Ext.refl s) (.bl _)⟩
 |_=>cases e
def JP:R2:=λx y H Q=>∃l b xs zs,x=.ref l/\y=.ref b/\Rd H l (.lst xs)/\Rd H b (.lst zs)/\xs.length + zs.length<=sizeLine/\∀p,H p=none->Q (.ref p) (upd H p (.lst (xs ++ zs)))
def js:m6 X (binaryOp .Add) JP:=by
 intro pins s σ H x y v u Q I rx ry h
 obtain⟨l,b,xs,zs,rfl,rfl,hH,hB,hz,q⟩:=h
 cases rx
 cases ry
 obtain⟨z,its,n,r,hl,e⟩:=I.lstR hH
 obtain⟨z2,its2,n2,r2,hl2,e2⟩:=I.lstR hB
 refine PySem.P.add_list e e2 ?_ (by rw[Ry,Ry];omega)
 have ea:its.toArray ++ its2.toArray=(its ++ its2).toArray:=@KM
 rw[ea]
 exact⟨.ref _,_,I.lnew (t':=s.toks) (r.append r2) (by rw[RD];omega),rfl,q _ I.fresh⟩
def jq:D->@Pi
 | .list a,.list b=>if a.length + b.length<=sizeLine then some (.list (a ++ b)) else none
 |_,_=>none
def pk:pe K JP jq .w:=by
 intro B G H x y dx dy d Q s hB bx by' e k
 cases dx <;> cases dy <;> first | (cases e;done) |skip
 rename_i a b
 simp only[jq] at e
 split at e
 ·rename_i hz
  cases e
  obtain⟨p,xs,rfl,q1,r1⟩:=bx.list s
  obtain⟨p2,ys,rfl,q2,r2⟩:=by'.list s
  refine⟨p,p2,xs,ys,rfl,rfl,q1,q2,by rw[r1.len,r2.len];exact hz,λl hl=>?_⟩
  exact k _ _ _ (Ext.own s (o:=.lst (xs ++ ys)) hl) ⟨l,rfl,hl,s.free hl,_,aE,r1.append r2⟩
 ·cases e
def bX:D->@Pi:=xw λi j=>.int (i + j)
def c3:pe K (ye λi j=>.int (i + j)) bX .v:=ua λdx dy d h=>by obtain⟨i,j,rfl,rfl,rfl⟩:=mN h;exact⟨i,j,rfl,rfl,λ_=>.int _⟩
def dR:D->@Pi:=gI (λi j=>(decide (-(2 ^ 64) < i) && decide (i < 2 ^ 64)) || (decide (-(2 ^ 64) < j) && decide (j < 2 ^ 64))) λi j=>.int (i * j)
def oQ:pe K (rI Gp λi j=>.int (i * j)) dR .v:=Bj λdx dy d h=>by obtain⟨i,j,rfl,rfl,c,rfl⟩:=BQ h;exact⟨i,j,rfl,rfl,by simpa[Gp] using c,λ_=>.int _⟩
def rk:D->@Pi
 | .list a,.int k=>if -(2 ^ 63)<=k/\k < 2 ^ 63/\a.length * k.toNat<=sizeLine then some (.list (List.replicate k.toNat a).flatten) else none
 |_,_=>none
def AM {a b:Expr}{fa fb:VF D}{La Lb:@Ix}{mb:Md}{Γ:Fx}{E:XK}{pos:Pos}(ha:SE X Γ E a fa La .w)(hb:SE X Γ E b fb Lb mb):SE X Γ E (.BinOp a .Mult b pos) (f2 fa fb rk) (La ++ Lb) .w:=by
 refine PE.post' (vp Er ha hb) λσ H Q ⟨env,G,B,β,I,o⟩=>?_
 refine⟨env,G,B,β,I,o.bnd.imp λd1 β1 h x G1 H1 I1 s1 m1 vx=>⟨a8 La env,G1,B,β1,I1,?_⟩⟩
 rw[de]
 refine h.bnd.imp λd2 β2 h y G2 H2 I2 s2 m2 vy=>?_
 obtain⟨d,e,k⟩:=h.of
 rw[<-cu] at I2
 obtain⟨p,rfl,p1,p2,p3⟩:=vx
 have by':=vy.brw I1.boxThere
 cases d1 <;> cases d2 <;> first | (cases e;done) |skip
 rename_i l j
 obtain rfl:=by'.int
 simp only[rk] at e
 split at e
 ·rename_i hz
  cases e
  obtain⟨xs,q,r⟩:=p3
  obtain⟨q1,q2,q3,q4⟩:=I.fresh p1
  have r2:=r.mono s2
  refine⟨p,j,xs,rfl,rfl,m2.1 _ _ q q3,hz.1,hz.2.1,by rw[r.len];exact hz.2.2,λl hl=>?_⟩
  have x:=Ext.own I2.sub (o:=.lst (List.replicate j.toNat xs).flatten) hl
  exact k _ _ _ (I2.ext x) ((s1.trans s2).trans x.gg) ((m1.trans m2).trans (x.hh.mov B)) ⟨l,rfl,gi (m1.trans m2) I2.boxThere hl,I2.sub.free hl,_,aE,r2.rep⟩
 ·cases e
def rb:@Pi
 | .int i=>some (.int (-i))
 |_=>none
theorem Fc:GQ K (rU λi=>.int (-i)) rb .v:=by
 intro B G H x dx d Q s hB bx e k
 cases dx with
 |int i=>cases e;obtain rfl:=bx.int;exact⟨i,rfl,k _ G H (Ext.refl s) (.int _)⟩
 |_=>cases e
def Nw:D->String
 | .none=>"NoneType"
 | .bool _=>"bool"
 | .int _=>"int"
 | .str _=>"str"
 | .list _=>"list"
 | .tuple _=>"tuple"
 | .dict _=>"dict"
def E5 (d:D)(T:String):Bool:=Nw d == T || (T == "int" && Nw d == "bool")
def fA:D->Bool
 | .dict ((.none,_) :: _)=>true
 |_=>false
def la (T:String)(d:D):Option D:=if fA d=true then none else some (.bool (E5 d T))
def QJ (K:Frag)(H:Hp)(x:V)(t:String):Prop:=IQ K H x t\/(t="dict"/\∃a kvs,x=.ref a/\H a=some (.dT kvs))
def Ow (K:Frag):List V->@P_:=λxs H Q=>∃x T t b,xs= [x,.ty T]/\QJ K H x t/\PySem.W.kitOne K (.type t) (.type T)=some b/\Q (.bl b) H
def EN:fC X (.builtin "isinstance") (Ow X.K):=by
 intro pins s σ H xs us Q I r h
 obtain⟨x,T,t,b,rfl,ty,e,q⟩:=h
 rcases ty with ty | ⟨rfl,a,kvs,rfl,hk⟩
 ·exact Eb pins s σ H _ us Q I r ⟨x,T,t,b,rfl,ty,e,q⟩
 ·obtain⟨u,c,rfl,rx,rc⟩:=vals2 r
  cases rc
  cases rx
  obtain⟨_,_,_,_,o,_,_,e2,ex,_⟩:=I.hok a _ hk
  exact Si PySem.W.kitx_dict I.kIn ⟨o,e2,ex.1⟩ e (λz=>nomatch z) λtk=>⟨.bl b,H,I.tok tk,rfl,q⟩
theorem ou.ty {B:@J_}{G H:Hp}{v:V}{d:D}(h:ou K B G H v d)(s:aw G H)(n:fA d=false):QJ K H v (Nw d):=by
 cases d with
 |none=>obtain rfl:=h.none;exact .inl .non
 |bool b=>obtain rfl:=h.bool;exact .inl (.bl b)
 |int b=>obtain rfl:=h.int;exact .inl (.int b)
 |str b=>obtain rfl:=h.str;exact .inl (.str b)
 |list b=>obtain⟨a,xs,rfl,q,_⟩:=h.list s;exact .inl (.lst (.inl q))
 |tuple b=>obtain⟨a,xs,rfl,q,_⟩:=h.tuple s;exact .inl (.tup q)
 |dict b=>
  rcases h with h | ⟨a,rfl,_,h⟩
  ·cases h with
   |scr _=>cases n
   |dK q _=>exact .inl (.dic (s _ _ q))
   |dT q _=>exact .inr ⟨rfl,_,_,rfl,s _ _ q⟩
  ·rcases h with⟨_,q,_⟩ | ⟨_,q,_⟩
   ·exact .inl (.dic q)
   ·exact .inr ⟨rfl,_,_,rfl,q⟩
theorem N0 {d:D}{T:String}(hT:T∈ ["int","bool","str","list","tuple","dict"]):PySem.W.kitOne K (.type (Nw d)) (.type T)=some (E5 d T):=by
 simp only[Rm,Sa,Tc] at hT
 cases d with
 |dict l=>rcases hT with rfl |rfl |rfl |rfl |rfl |rfl <;> rfl
 |none=>rcases hT with rfl |rfl |rfl |rfl |rfl |rfl <;> rfl
 |bool _=>rcases hT with rfl |rfl |rfl |rfl |rfl |rfl <;> rfl
 |int _=>rcases hT with rfl |rfl |rfl |rfl |rfl |rfl <;> rfl
 |str _=>rcases hT with rfl |rfl |rfl |rfl |rfl |rfl <;> rfl
 |list _=>rcases hT with rfl |rfl |rfl |rfl |rfl |rfl <;> rfl
 |tuple _=>rcases hT with rfl |rfl |rfl |rfl |rfl |rfl <;> rfl
def pd {a:Expr}{fa:VF D}{La:@Ix}{ma:Md}{Γ:Fx}{E:XK}{pos p p2:Pos}(T:String){y:Str}(hT:T∈ ["int","bool","str","list","tuple","dict"])(hK:X.K=Γ.K)(hg:Gl X "isinstance")(hm:X.mg "isinstance"=none)(hgT:Gl X y)(hmT:X.mg y=none)(hvT:bootBuiltins y=some (.type T))(ha:@SC)
  (hnT:y≠"__name__":=by decide) (hdT:(y == ("__debug__":Str))=false:=by decide)
  (he:starEach [a,.Name y p2] X.env=(false,eval a X.env) :: starEach [.Name y p2] X.env:=by rfl) (he2:starEach [.Name y p2] X.env=(false,eval (.Name y p2) X.env) :: starEach [] X.env:=by rfl) (hpl:(backTo pos (starEach [.Name y p2] X.env)).any (·.1)=false:=by rfl) :
  SE X Γ E (.Call (.Name "isinstance" p) [a,.Name y p2] [] pos) (f1 fa (la T)) La .v:=by
 refine PE.post' (lG EN hg hm (@FS) (ba ha (ba (Jh hgT hmT hvT (show RelV (.ty T) _ from rfl) hnT hdT) cf he2) he) @E_ @E_ he hpl) λσ H Q ⟨env,G,B,β,I,o⟩=>?_
 refine l5 (r:=λx H1 Q=>Ow X.K [x,.ty T] H1 Q) ?_ I o
 intro B G H x dx d Q s hB bx e k
 unfold la at e
 split at e
 ·cases e
 ·rename_i hn
  cases e
  rw[hK]
  exact⟨x,T,Nw dx,E5 dx T,rfl,bx.ty s (by simpa using hn),N0 hT,k _ G H (Ext.refl s) (.bl _)⟩
def gy (fa fb fc:VF D)(g g':D->@Pi):VF D:=λvs β=>(@Tm).bnd λx β1=>(fb vs β1).bnd λy β2=>match g x y with
 |some (.bool true)=>(fc vs β2).bnd λz β3=>R.of (g' y z) β3
 |some (.bool false)=>.ok (.bool false) β2
 |_=>.bad
theorem yk {a b c:Expr}{fa fb fc:VF D}{ma mb mc:Md}{Γ:Fx}{E:XK}{pos:Pos}{op op':CmpOp}{r r':R2}{g g':D->@Pi}(ho:m6 X (compareOp op) r)(ho':m6 X (compareOp op') r')(pr:pe Γ.K r g .v)(pr':pe Γ.K r' g' .v)(ha:SE X Γ E a fa [] ma)(hb:SE X Γ E b fb [] mb)(hc:SE X Γ E c fc [] mc)
  (hm:lastMarks [op,op'] [b,c]=false:=by with_unfolding_all rfl):SE X Γ E (.Compare a [op,op'] [b,c] pos) (gy fa fb fc g g') [] .v:=by
 refine PE.post' (ES ho ho' ha hb hc hm) λσ H Q ⟨env,G,B,β,I,o⟩=>?_
 refine two (W:=λx y H2=>r x y H2 λz H3=>∃k,z=.bl k/\(if k=true then pT Γ E fc [] mc σ H3 λw' H4=>r' y w' H4 Q else Q (.bl false) H3)) I (o.bnd.imp λd1 β1 h=>h.bnd.imp λd2 β2 h x y G2 H2 I2 s2 m2 bx by'=>?_)
 obtain⟨cb,ec,h⟩:∃cb,g d1 d2=some (.bool cb)/\Out Γ E (if cb=true then (fc @PP β2).bnd λz β3=>R.of (g' d2 z) β3 else .ok (.bool false) β2) λd β'=>∀v G' H',SR Γ B G' H' σ (a8 [] env) β'->aw G G'->jh B H H'->VO Γ.K B H G' H' .v d v->Q v H':=by
  split at h
  ·rename_i q;exact⟨true,q,by rw[Rg rfl];exact h⟩
  ·rename_i q;exact⟨false,q,by rw[Rj RK];exact h⟩
  ·exact h.elim
 refine pr B G2 H2 x y d1 d2 _ _ I2.sub I2.boxThere bx by' ec λv G' H' x' vo=>?_
 cases vo
 refine⟨cb,rfl,?_⟩
 have I3:=I2.ext x'
 cases cb with
 |false=>rw[Rj RK] at h;exact sy (h _ G' H' I3 (s2.trans x'.gg) (m2.trans (x'.mov B)) (.bl false))
 |true=>
  rw[Rg rfl] at h
  refine ue ⟨env,G',B,β2,I3,h.bnd.imp λd3 β3 h z G4 H4 I4 s4 m4 vz=>?_⟩
  obtain⟨d,e,k⟩:=h.of
  refine pr' B G4 H4 y z d2 d3 d Q I4.sub I4.boxThere (by'.mono (x'.gg.trans s4) ((x'.mov B).trans m4)) (vz.brw I3.boxThere) e λv G5 H5 x5 vo=>?_
  exact k v G5 H5 (I4.ext x5) (((s2.trans x'.gg).trans s4).trans x5.gg) (((m2.trans (x'.mov B)).trans m4).trans (x5.mov B)) vo
end
def fm.u1 {k:Nat}{A:Around}(r:fm k A):A.units + 100 < cLine:=by have:=r.un;omega
def QR (N:@Id)(sc:Scope)(NB:@Id)(own:Nat)(ixs:@Ix)(scope:Scope):Bool:=
 decide (scope.kind=.function) && (scope.names.all λy=>decide (scope.names.lookup y.1=some y.2)) &&
 (scope.names.all λy=>decide (y.2=.free->(sc.names.lookup y.1=some .cell\/sc.names.lookup y.1=some .free))) && decide NB.Nodup && decide (NB.length=own + ixs.length) &&
 ((List.range ixs.length).all λk=>decide (NB[own + k]? =N[ixs.getD k 0]?) && (match NB[own + k]? with |some x=>decide ((x,NameKind.free)∈scope.names) |none=>true))
def bG {X:Cx}{NB:@Id}{own:Nat}{ixs:@Ix}{scope:Scope}(h:QR X.N X.env.scope NB own ixs scope=true):cz X NB own ixs scope:=by
 unfold QR at h
 simp only[RC,RH,Rq,RW] at h
 obtain⟨⟨⟨⟨⟨h1,h3⟩,h4⟩,h5⟩,h6⟩,h7⟩:=h
 refine⟨h1,h3,h4,h5,h6,λk hk=>⟨(h7 k hk).1,λx hx=>?_⟩⟩
 have:=(h7 k hk).2
 rw[hx] at this
 simpa using this
section
variable {X:Cx}{Γ:Fx}{E:XK}{e a b c:Expr}{f fa fb fc:VF D}{L La Lb:@Ix}{md ma mb mc:Md}{pos:Pos}{K:Frag}
theorem Fd {op op':CmpOp}{r r':R2}{g g':D->@Pi}(ho:m6 X (compareOp op) r)(ho':m6 X (compareOp op') r')(pr:pe Γ.K r g .v)(pr':pe Γ.K r' g' .v)(ha:SE X Γ E a fa [] ma)(hb:SE X Γ E b fb [] mb)(hc:SE X Γ E c fc [] mc)
  (hm:lastMarks [op,op'] [b,c]=false:=by with_unfolding_all rfl):BO X Γ E (.Compare a [op,op'] [b,c] pos) (eO (gy fa fb fc g g')) []:=by
 refine PT.post (Ef ho ho' ha hb hc hm) λσ H Q ⟨env,G,B,β,I,o⟩=>?_
 refine two (W:=λx y H2=>r x y H2 λz H3=>∃k,z=.bl k/\(if k=true then pT Γ E fc [] mc σ H3 λw' H4=>r' y w' H4 (λx H'=>∃k,x=.bl k/\Q k H') else ∃k,V.bl false=.bl k/\Q k H3)) I (o.bnd.bnd.imp λd1 β1 h=>h.bnd.imp λd2 β2 h x y G2 H2 I2 s2 m2 bx by'=>?_)
 obtain⟨cb,ec,h⟩:∃cb,g d1 d2=some (.bool cb)/\Out Γ E (if cb=true then (fc @PP β2).bnd λz β3=>R.of (g' d2 z) β3 else .ok (.bool false) β2) λd β'=>Out Γ E (match d with | .bool c=>R.ok c β' |_=>.bad) λc β'=>∀G' H',SR Γ B G' H' σ (a8 [] env) β'->aw G G'->jh B H H'->Q c H':=by
  split at h
  ·rename_i q;exact⟨true,q,by rw[Rg rfl];exact h⟩
  ·rename_i q;exact⟨false,q,by rw[Rj RK];exact h⟩
  ·exact h.elim
 refine pr B G2 H2 x y d1 d2 _ _ I2.sub I2.boxThere bx by' ec λv G' H' x' vo=>?_
 cases vo
 refine⟨cb,rfl,?_⟩
 have I3:=I2.ext x'
 cases cb with
 |false=>rw[Rj RK] at h;exact sy ⟨false,rfl,h G' H' I3 (s2.trans x'.gg) (m2.trans (x'.mov B))⟩
 |true=>
  rw[Rg rfl] at h
  refine ue ⟨env,G',B,β2,I3,h.bnd.imp λd3 β3 h z G4 H4 I4 s4 m4 vz=>?_⟩
  obtain⟨d,e,k⟩:=h.of
  refine pr' B G4 H4 y z d2 d3 d _ I4.sub I4.boxThere (by'.mono (x'.gg.trans s4) ((x'.mov B).trans m4)) (vz.brw I3.boxThere) e λv G5 H5 x5 vo=>?_
  cases d with
  |bool c=>cases vo;exact⟨c,rfl,k G5 H5 (I4.ext x5) (((s2.trans x'.gg).trans s4).trans x5.gg) (((m2.trans (x'.mov B)).trans m4).trans (x5.mov B))⟩
  |_=>exact k.elim
def tN (fa:VF D)(neg:Bool):VF Bool:=λvs β=>(@Tm).bnd λx β1=>.ok (if neg then !II x else II x) β1
def oT (Γ:Fx)(E:XK)(f:VF (Option Int))(L:@Ix):TO:=λσ H Q=>∃env G B β,@Is/\
 Out Γ E (f @PP β) λd β'=>∀G' H',SR Γ B G' H' σ (a8 L env) β'->aw G G'->jh B H H'->Q d H'
def MS (X:Cx)(Γ:Fx)(E:XK)(e:Option Expr)(f:VF (Option Int))(L:@Ix):Prop:=PO X e (oT Γ E f L)
def rT:MS X Γ E none (λ_ β=>.ok none β) []:=λpins s σ H Q I ⟨env,G,B,β,J,o⟩=>Hs pins s σ H Q I (o G H J (aw.refl _) (jh.refl _ _))
def zj (fa:VF D):VF (Option Int):=λvs β=>(@Tm).bnd λx β1=>match x with
 | .int i=>.ok (some i) β1
 |_=>.bad
theorem rO (ha:@SC):MS X Γ E (some a) (zj fa) La:=λpins s σ H Q I ⟨env,G,B,β,J,o⟩=>by
 refine Js ha pins s σ H Q I ⟨env,G,B,β,J,o.bnd.imp λd1 β1 h x G1 H1 I1 s1 m1 vx=>?_⟩
 cases d1 with
 |int i=>exact⟨i,(vx.brw J.boxThere).int,h G1 H1 I1 s1 m1⟩
 |_=>exact h.elim
def cutD (xs:List D)(lo hi:Option Int):List D:=(xs.drop (HT.fu xs.length 0 lo)).take (HT.fu xs.length xs.length hi - HT.fu xs.length 0 lo)
def BW {G:Hp}{xs:List V}{ds:List D}(r:cP K G xs ds)(lo hi:Option Int):cP K G (tE xs lo hi) (cutD ds lo hi):=by
 unfold tE cutD
 rw[r.len]
 exact (r.drop _).take _
def IZ (fa:VF D)(fl fh:VF (Option Int)):VF D:=λvs β=>(@Tm).bnd λx β1=>(fl vs β1).bnd λl β2=>(fh vs β2).bnd λh β3=>match x with
 | .list ds=>.ok (.list (cutD ds l h)) β3
 |_=>.bad
theorem ze {lo hi:Option Expr}{fl fh:VF (Option Int)}{Ll Lh:@Ix}{p2:Pos}(hK:X.K=Γ.K)(ha:@SC)(hl:MS X Γ E lo fl Ll)(hh:MS X Γ E hi fh Lh):SE X Γ E (.Subscript a (.Slice lo hi none p2) pos) (IZ fa fl fh) (La ++ Ll ++ Lh) .w:=by
 refine PE.post' (yF Hz ha hl hh) λσ H Q ⟨env,G,B,β,I,o⟩=>?_
 refine⟨env,G,B,β,I,o.bnd.imp λd1 β1 h x G1 H1 I1 s1 m1 vx=>⟨a8 La env,G1,B,β1,I1,?_⟩⟩
 rw[de]
 refine h.bnd.imp λl β2 h G2 H2 I2 s2 m2=>⟨a8 Ll (a8 La env),G2,B,β2,I2,?_⟩
 rw[de,de]
 refine h.bnd.imp λu β3 h G3 H3 I3 s3 m3=>?_
 rw[<-cu,<-cu,<-S4] at I3
 have bx:=((vx.brw I.boxThere).mono s2 m2).mono s3 m3
 cases d1 with
 |list ds=>
  obtain⟨p,xs,rfl,hq,r⟩:=bx.list I3.sub
  rw[hK]
  refine⟨p,xs,rfl,.inl hq,λq hn=>?_⟩
  have x:=Ext.own I3.sub (o:=.lst (tE xs l u)) hn
  exact h _ _ _ (I3.ext x) ((s1.trans s2).trans s3) (((m1.trans m2).trans m3).trans (x.mov B)) ⟨q,rfl,gi ((m1.trans m2).trans m3) I3.boxThere hn,I3.sub.free hn,_,aE,BW r l u⟩
 |_=>exact h.elim
def so:pe K (λx y H Q=>∃i j,[x,y]= [.int i,.int j]/\Q (.int (if j > i then j else i)) H) (xw λi j=>.int (if j > i then j else i)) .v:=by
 intro B G H x y dx dy d Q s hB bx by' e k
 obtain⟨i,j,rfl,rfl,rfl⟩:=mN e
 obtain rfl:=bx.int
 obtain rfl:=by'.int
 exact⟨i,j,rfl,k _ G H (Ext.refl s) (.int _)⟩
def LH:pe K (λx y H Q=>∃i j,[x,y]= [.int i,.int j]/\Q (.int (if j < i then j else i)) H) (xw λi j=>.int (if j < i then j else i)) .v:=by
 intro B G H x y dx dy d Q s hB bx by' e k
 obtain⟨i,j,rfl,rfl,rfl⟩:=mN e
 obtain rfl:=bx.int
 obtain rfl:=by'.int
 exact⟨i,j,rfl,k _ G H (Ext.refl s) (.int _)⟩
end
structure fq (K:Frag)(mg:@Fr)(x:Str)(st:Stmt)(ps:@Id)(f:Addr)(fd:FuncData):Prop where
 mg:mg x=some (.ref f)
 F:DV K x x st f fd
 b:Binds K fd ps []
structure Exc (K:Frag)(mg:@Fr)(ca:Str->Addr)(x:Str):Prop where
 mg:mg x=some (.ref (ca x))
 ex:PySem.W.excIn K (ca x) [.type "ValueError",.type "Exception",.type "BaseException",.type "object"] "ValueError.__new__"=true
def Exc.ca {K:Frag}{mg:@Fr}{ca:Str->Addr}{x:Str}(h:Exc K mg ca x):ca x=ca x:=rfl
structure fP (mg:@Fr):Prop where
 len:mg "len"=none
 range:mg "range"=none
 enumerate:mg "enumerate"=none
 zip:mg "zip"=none
 min:mg "min"=none
 max:mg "max"=none
 sum:mg "sum"=none
 abs:mg "abs"=none
 sorted:mg "sorted"=none
 reversed:mg "reversed"=none
 int:mg "int"=none
 str:mg "str"=none
 bool:mg "bool"=none
 list:mg "list"=none
 tuple:mg "tuple"=none
 dict:mg "dict"=none
 set:mg "set"=none
 isinstance:mg "isinstance"=none
 repr:mg "repr"=none
 any:mg "any"=none
 all:mg "all"=none
 divmod:mg "divmod"=none
inductive FB where
 |ok (d:D) (fresh:Bool) (β:Int)
 |bad
def yw (K:Frag)(n:Nat)(F:List D->Int->FB):Sp:=λvs H Q _=>∃b rest G ds β,vs=.ref b :: rest/\H b=some (.lst [.int β])/\G b=none/\aw G H/\ds.length=n/\cP K G rest ds/\match F ds β with
 | .ok d fr β'=>∀v G' H',jh (some b) H H'->H' b=some (.lst [.int β'])->aw G G'->aw G' H'->(∀c,Mx H c->G c=none->G' c=none)->FV K H G' H' fr d v->Q v H'
 | .bad=>False
structure rq (P:Program)(w:World)(K:Frag)(mg:@Fr)(base:Heap)(x:Str)(ps:@Id)(k:Nat)(F:List D->Int->FB):Prop where
 ex:∃f fd,mg x=some (.ref f)/\PySem.W.keepIn K (.ref f)=true/\Binds K fd ps []/\gp P w K mg base (qv P w) k f fd ps (yw K (ps.length - 1) F)
 len:∀ds β,F ds β≠.bad->ds.length=ps.length - 1
def Aw (vs:List Nv)(i:Nat):Bool:=match vs[i]? with
 |some .bx=>true
 |_=>false
def rH (i:Nat)(F:List D->Int->FB)(fr:@Tk):VF D:=λvs β=>if Aw vs i=true then (fr vs β).bnd λds β1=>match F ds β1 with
 | .ok d _ β2=>.ok d β2
 | .bad=>.bad else .bad
def Pe (i:Nat)(F:List D->Int->FB)(fr:@Tk):VF D:=λvs β=>if Aw vs i=true then (fr vs β).bnd λds β1=>match F ds β1 with
 | .ok d true β2=>.ok d β2
 |_=>.bad else .bad
section
variable {X:Cx}{Γ:Fx}{E:XK}{e a b c:Expr}{f fa fb fc:VF D}{L La Lb:@Ix}{md ma mb mc:Md}{pos:Pos}{K:Frag}{es:List Expr}{fr:@Tk}
def IU {env:En}{i:Nat}(h:Aw @PP i=true):env[i]? =some .bx:=by
 unfold Aw at h
 split at h
 ·exact MX (by assumption)
 ·cases h
def HJ {env:En}{i j:Nat}{d:D}(h:(ig env i)[j]? =some (.br d)):env[j]? =some (.br d):=by
 unfold ig at h
 split at h
 ·rename_i d' e
  by_cases z:i=j
  ·subst z
   rw[RG (Rn.mp e).1] at h;cases h
  ·rw[RF z] at h;exact h
 ·exact h
theorem Mm {L:@Ix}{env:En}{j:Nat}{d:D}(h:(a8 L env)[j]? =some (.br d)):env[j]? =some (.br d):=by
 unfold a8 at h
 induction L generalizing env with
 |nil=>exact h
 |cons i L ih=>exact HJ (ih h)
def SR.calledB {p:Addr}{β β':Int}{G1 H1 G2 H2:Hp}{σ:St}{env:En}(I1:SR Γ (some p) G1 H1 σ env β)(h:jh (some p) H1 H2)(hp:H2 p=some (.lst [.int β']))(g:aw G1 G2)(s:aw G2 H2)(n:∀b,Mx H1 b->G1 b=none->G2 b=none):SR Γ (some p) G2 H2 σ env β':=by
 obtain⟨b1,b2,b3⟩:=I1.box p rfl
 refine⟨s,I1.old.trans g,λb n1 n2=>n b (I1.thereM n1) (I1.new b n1 n2),λb o e np=>A5 (I1.keep b o e np) h λz=>?_,λb hb=>?_,I1.fix,λb e=>?_,I1.len,λi t e=>?_,I1.sep⟩
 ·cases z
  rcases b3 with b3 |b3
  ·exact np b3
  ·rw[e] at b3;cases b3
 ·by_cases z:p=b
  ·subst z;exact Mx.lst hp
  ·exact (I1.pin b hb).same λo q=>h.1 b o q λy=>z (Option.some.inj y)
 ·cases e
  exact⟨hp,n p (Mx.lst b1) b2,b3⟩
 ·have q:=I1.slot i t e
  cases t with
  |no=>trivial
  |fz d=>obtain⟨v,h1,h2⟩:=q;exact⟨v,h1,h2.mono g⟩
  |ow d=>
   obtain⟨c,h1,h2,h3,h4,h5⟩:=q
   exact⟨c,h1,h2,n c h5.mx h3,h4,h5.mono g λo q=>h.1 c o q h4⟩
  |bx=>exact q
  |br d=>obtain⟨b1,c,h1,h4,hpp,h5⟩:=q;exact⟨b1,c,h1,h4,hpp,h5.mono g λo q=>h.1 c o q h4⟩
theorem Iy {F:List D->Int->FB}{ps:@Id}{Q:VK}{B:@J_}{G H:Hp}{σ:St}{env:En}{β:Int}{i:Nat}{p:Addr}(I:@Is)(hK:X.K=Γ.K)(hp:B=some p){wv:Bool}
  (h:Out Γ E (fr @PP β) λds β1=>Out Γ E (match F ds β1 with
   | .ok d true β2=>.ok d β2
   | .ok d false β2=>if wv=true then .bad else .ok d β2
   | .bad=>.bad) @KF) (hl:∀ds β,F ds β≠.bad->ds.length=ps.length - 1) :
  aT Γ E fr L σ H λvs H1=>yw X.K (ps.length - 1) F (.ref p :: vs) H1 Q E:=by
 subst hp
 refine⟨env,G,_,β,I,h.imp λds β1 k vs G1 H1 I1 s1 m1 r=>?_⟩
 obtain⟨b1,b2,b3⟩:=I1.box p rfl
 refine⟨p,vs,G1,ds,β1,rfl,b1,b2,I1.sub,hl ds β1 λz=>by rw[z] at k;exact k,by rw[hK];exact r,?_⟩
 cases q:F ds β1 with
 |bad=>rw[q] at k;exact k
 |ok d fr' β2=>
  rw[q] at k
  intro v G' H' hh hb hg hs hn fv
  have I2:=I1.calledB hh hb hg hs hn
  cases fr' with
  |true=>
   obtain⟨c,rfl,p1,p2,p3⟩:∃a,v=.ref a/\H1 a=none/\G' a=none/\Own X.K G' H' a d:=fv
   rw[hK] at p3
   have hp:=gi m1 I1.boxThere p1
   cases wv with
   |true=>exact k _ G' H' I2 (s1.trans hg) (m1.trans hh) ⟨c,rfl,hp,p2,p3⟩
   |false=>
    obtain⟨q1,q2,q3,q4⟩:=I1.fresh p1
    obtain⟨G3,I3,s3,r3⟩:=I2.letIn q1 p2 q3 q4 p3
    exact k _ G3 H' I3 ((s1.trans hg).trans s3) (m1.trans hh) r3
  |false=>
   cases wv with
   |true=>exact k.elim
   |false=>
    have fv:Rp X.K G' v d:=fv
    rw[hK] at fv
    exact k _ G' H' I2 (s1.trans hg) (m1.trans hh) fv
theorem LZ {F:List D->Int->FB}{ps:@Id}{Q:VK}{i:Nat}{σ:St}{H:Hp}(hK:X.K=Γ.K){wv:Bool}(hl:∀ds β,F ds β≠.bad->ds.length=ps.length - 1)(h:pT Γ E (if wv=true then Pe i F fr else rH i F fr) L (if wv=true then .w else .v) σ H Q) :
  HI i σ H λx H1=>aT Γ E fr L σ H1 λvs H2=>yw X.K (ps.length - 1) F (x :: vs) H2 Q E:=by
 obtain⟨env,G,B,β,I,o⟩:=h
 have hi:Aw @PP i=true:=by
  by_cases hi:Aw @PP i=true
  ·exact hi
  ·exfalso
   cases wv with
   |true=>simp only[SK] at o;unfold Pe at o;rw[Rj hi] at o;exact o
   |false=>simp only[Sr,SX] at o;unfold rH at o;rw[Rj hi] at o;exact o
 obtain⟨p,e1,e2⟩:=I.slot i _ (IU hi)
 refine⟨.ref p,e1,Iy (i:=i) (ps:=ps) I hK e2 (wv:=wv) ?_ hl⟩
 cases wv with
 |true=>
  simp only[SK] at o ⊢
  unfold Pe at o
  rw[Rg hi] at o
  refine o.bnd.imp λds β1 h=>?_
  cases q:F ds β1 with
  |bad=>rw[q] at h;exact h
  |ok d b β2=>rw[q] at h;cases b <;> exact h
 |false=>
  simp only[Sr,SX] at o ⊢
  unfold rH at o
  rw[Rg hi] at o
  refine o.bnd.imp λds β1 h=>?_
  cases q:F ds β1 with
  |bad=>rw[q] at h;exact h
  |ok d b β2=>rw[q] at h;cases b <;> exact h
def sN {x y:Str}{ps:@Id}{k:Nat}{F:List D->Int->FB}{p np:Pos}(i:Nat)(hf:rq X.prog X.w X.K X.mg X.base x ps k F)(hr:fm k X.A)(hx:Passes (qv X.prog X.w) X E)(hK:X.K=Γ.K)(hg:Gl X x)(ha:SA X Γ E es fr L)(hN:X.N[i]? =some y:=by rfl)(hv:BN X.env.scope y:=by first |exact Or.inl rfl |exact Or.inr (Or.inl rfl) |exact Or.inr (Or.inr rfl))(hd:(y == ("__debug__":Str))=false:=by decide)
  (hcd:(y == ("__classdict__":Str))=false:=by decide) (hdb:@Go:=by decide)
  (he:starEach (.Name y np :: es) X.env=(false,eval (.Name y np) X.env) :: @T_:=by rfl) (hpl:(backTo pos (@T_)).any (·.1)=false:=by rfl):SE X Γ E (.Call (.Name x p) (.Name y np :: es) [] pos) (rH i F fr) L .v:=by
 obtain⟨f,fd,hm,hk,hb,hF⟩:=hf.ex
 refine PE.post' (pH (dvs:=[]) hF hr hg hm hk hb .nil hx (ba (kU hN hv hd hcd) ha he) hdb he hpl) λσ H Q h=>?_
 have:=LZ (Q:=Q) (wv:=false) (ps:=ps) hK hf.len (by simpa using h)
 show HI i σ H λx H1=>aT Γ E fr L σ H1 λvs H2=>yw X.K (ps.length - 1) F ((x :: vs) ++ []) H2 Q E
 simpa using this
def D9:D->Option Int
 | .list [.int z]=>some z
 |_=>none
def Jf {d:D}{z:Int}(h:D9 d=some z):d=.list [.int z]:=by
 unfold D9 at h
 split at h
 ·cases h;rfl
 ·cases h
def Q9 (f0:VF D)(F:List D->Int->FB)(n:Int):VF D:=λvs β=>(f0 vs β).bnd λd0 β1=>match D9 d0 with
 |some z=>(match F [.int n] z with
  | .ok d _ _=>.ok d β1
  | .bad=>.bad)
 |none=>.bad
def wZ (env:En):En:=env.map λs=>match s with
 | .bx=>.no
 |s=>s
theorem E7 {env:En}{i:Nat}{s:Sl}(h:(wZ env)[i]? =some s)(n:s≠.no):env[i]? =some s/\s≠.bx:=by
 unfold wZ at h
 rw[RA] at h
 cases e:env[i]? with
 |none=>rw[e] at h;cases h
 |some t=>
  rw[e] at h
  have h:=Option.some.inj h
  cases t with
  |bx=>exact absurd h.symm n
  |no=>exact absurd h.symm n
  |fz d=>subst h;exact⟨rfl,λz=>by cases z⟩
  |ow d=>subst h;exact⟨rfl,λz=>by cases z⟩
  |br d=>subst h;exact⟨rfl,λz=>by cases z⟩
def B8 (i:Nat)(L:@Ix)(f:VF D):SF:=λenv β=>toS (f @PP β) λd _=>match D9 d with
 |some z=>.nx ((wZ (a8 L env)).set i .bx) z
 |none=>.bad
theorem Hx {i:Nat}{x:Str}{pos':Pos}(hbx:Γ.bx=none)(he:SE X Γ E e f L .w)(hN:X.N.Nodup)(hi:X.N[i]? =some x:=by rfl)(hx:Loc X.env.scope x:=by first |exact Or.inl rfl |exact Or.inr rfl)(hs:swapsWith e (some (.Name x pos')) pos.line X.env=pure false:=by rfl)(hf:X.fn x=true\/@On:=by first |exact .inl rfl |exact .inr rfl |assumption) :
  SS X Γ E (.Assign [.Name x pos'] e pos) (B8 i L f):=by
 refine PS.post (tV hN hi hx he hs hf) λN σ H ⟨env,G,B,β,I,o⟩=>?_
 refine⟨env,G,B,β,I,cW o λd β' k v G' H' I' s' m' vo=>?_⟩
 cases q:D9 d with
 |none=>rw[q] at k;exact k.elim
 |some z=>
  rw[q] at k
  obtain rfl:=Jf q
  obtain⟨p,rfl,h1,h2,xs,h3,r⟩:=vo
  have hx2:H' p=some (.lst [.int z]):=by
   cases r with
   |cons r1 r2=>
    cases r1
    cases r2
    exact h3
  obtain⟨q1,q2,q3,q4⟩:=I.fresh h1
  refine k (some p) G' H' _ ⟨I'.sub,I'.old,I'.new,I'.keep,I'.pin,λb e=>(by rw[hbx] at e;cases e),λb e=>?_,?_,λj t e=>?_,λj j' c d1 d2 e1 e2 e3 e4=>?_⟩ s'
  ·cases e;exact⟨hx2,h2,.inr q1⟩
  ·rw[SM,SM];unfold wZ;rw[Rb];exact I'.len
  ·by_cases hj:j=i
   ·subst hj
    by_cases hl:j < (wZ (a8 L env)).length
    ·rw[RG hl] at e
     cases e
     refine⟨p,?_,rfl⟩
     rw[RG]
     rw[I'.len];unfold wZ at hl;simpa using hl
    ·rw[SW (by rw[SM];omega)] at e;cases e
   ·rw[RF (Ne.symm hj)] at e ⊢
    by_cases hn:t=.no
    ·subst hn;trivial
    ·obtain⟨e1,nb⟩:=E7 e hn
     have w:=I'.slot j t e1
     cases t with
     |no=>trivial
     |fz d=>exact w
     |bx=>exact absurd rfl nb
     |ow d=>
      obtain⟨a',g1,g2,g3,g4,g5⟩:=w
      exact⟨a',g1,g2,g3,λy=>q4 j d (sM e1) (by cases y;exact g1),g5⟩
     |br d=>
      obtain⟨b1,a',g1,g4,hpp,g5⟩:=w
      have e0:env[j]? =some (.br d):=Mm e1
      obtain⟨_,a2,f1,_,_,f5⟩:=I.slot j _ e0
      rw[g1] at f1;cases f1
      obtain⟨o,ho⟩:=f5.obj
      exact⟨b1,a',g1,λy=>(by cases y;rw[h1] at ho;cases ho),hpp,g5⟩
  ·have back:∀{j:Nat} {d1:D},((wZ (a8 L env)).set i Sl.bx)[j]? =some (.ow d1)->j≠i/\(a8 L env)[j]? =some (.ow d1):=λ{j d1} e=>by
    by_cases hj:j=i
    ·subst hj
     by_cases hl:j < (wZ (a8 L env)).length
     ·rw[RG hl] at e;cases e
     ·rw[SW (by rw[SM];omega)] at e;cases e
    ·rw[RF (Ne.symm hj)] at e
     exact⟨hj,(E7 e (λy=>by cases y)).1⟩
   obtain⟨n1,w1⟩:=back e1
   obtain⟨n2,w2⟩:=back e2
   rw[RF (Ne.symm n1)] at e3
   rw[RF (Ne.symm n2)] at e4
   exact I'.sep j j' c d1 d2 w1 w2 e3 e4
end
section
variable {P:Program}{w:World}{K:Frag}{mg:@Fr}{base:Heap}{ca:Str->Addr}
def Hl:SO->FB
 | .nx _ β=>.ok .none false β
 | .rt d fr β=>.ok d fr β
 |_=>.bad
def Aj (n:Nat)(ds:List D):En:=.bx :: ds.map Sl.fz ++ List.replicate (n - 1 - ds.length) .no
def yK (n p:Nat)(m:SF):List D->Int->FB:=λds β=>if ds.length=p then Hl (m (Aj n ds) β) else .bad
abbrev Fx.fb (K:Frag)(H G:Hp)(ca:Str->Addr)(b:Addr):Fx:=⟨K,H,G,[b],ca,λ_=>false,some b⟩
def SR.startB {H G:Hp}{N:@Id}{b:Addr}{vs:List V}{ds:List D}{β:Int}(s:aw G H)(hb:H b=some (.lst [.int β]))(gb:G b=none)(r:cP K G vs ds)(hn:ds.length + 1<=N.length):SR (Fx.fb K H G ca b) (some b) G H (L2.start N (.ref b :: vs)) (Aj N.length ds) β:=by
 have hl:=r.len
 refine⟨s,aw.refl _,λc _ h=>h,λc o h _=>Kt.of h,λc h=>?_,λc h=>h,λc h=>?_,?_,λi t e=>?_,λi j a d e h=>?_⟩
 ·have:c=b:=by simpa using h
  subst this;exact Mx.lst hb
 ·cases h;exact⟨hb,gb,.inl (@KM)⟩
 ·unfold L2.start Aj;simp;omega
 ·cases i with
  |zero=>
   unfold Aj at e
   cases e
   exact⟨b,rfl,rfl⟩
  |succ i=>
   unfold Aj at e
   have e:(ds.map Sl.fz ++ List.replicate (N.length - 1 - ds.length) Sl.no)[i]? =some t:=by simpa using e
   by_cases hi:i < ds.length
   ·rw[RX (by simpa using hi),RA,Rf hi] at e
    cases e
    obtain⟨x,hx,rx⟩:=r.at (Rf hi)
    refine⟨x,?_,rx⟩
    unfold L2.start
    have hi':i < vs.length:=by rw[hl];exact hi
    rw[RX (by simp;exact hi'),RA,List.getElem?_cons_succ,hx];rfl
   ·rw[R3 (by simpa using hi),Sw] at e
    split at e
    ·cases e;trivial
    ·cases e
 ·unfold Aj at h
  have hm:=RN h
  rcases Rm.mp hm with z |hm
  ·cases z
  rcases Rw.mp hm with z |z
  ·obtain⟨_,_,z⟩:=Rz.mp z;cases z
  ·have:=S0 z;cases this
def zf {x qual:Str}{st:Stmt}{f:Addr}{fd:FuncData}{N:@Id}{ps:@Id}{k:Nat}{m:SF}(F:DV K x qual st f fd)(S:aB N ps (ar st))(hp:1<=ps.length)
  (hbody:∀(cdv:Value) (A:Around) (outer:List Env) (s:Shared) (H G:Hp) (b:Addr) (E:XK),fm k (A.deeper (envOfC qual (ar st) s.heap.objs.size f cdv))->Fg (ra (qv P w) P w K mg base N qual (ar st) f cdv A outer s H E) (Fx.fb K H G ca b) E (dw st) m) :
  gp P w K mg base (qv P w) (k + 1) f fd ps (yw K (ps.length - 1) (yK N.length (ps.length - 1) m)):=by
 have hpn:ps.length<=N.length:=by have:=congrArg List.length S.pre;rw[R9] at this;omega
 refine F.JO S (λvs H Q E h=>?_) (λcdv A outer s H vs Q E hr h=>?_)
 ·obtain⟨b,rest,G,ds,β,rfl,hb,gb,sG,hl,r,_⟩:=h
  rw[RL,r.len];omega
 ·obtain⟨b,rest,G,ds,β,rfl,hb,gb,sG,hl,r,h⟩:=h
  refine⟨_,hbody cdv A outer s H G b E hr,?_⟩
  have I:=SR.startB (ca:=ca) (N:=N) sG hb gb r (@AT)
  refine⟨_,G,some b,β,I,?_⟩
  unfold yK at h
  rw[Rg hl] at h
  have fin':∀{B G' H' σ env β},SR (Fx.fb K H G ca b) B G' H' σ env β->jh (some b) H H'/\H' b=some (.lst [.int β]):=λJ=>by
   have e:=J.fix b rfl
   have k:∀c o,H c=some o->some b≠some c->Kt _ c o:=λc o ec n=>J.keep c o ec λz=>n (show some b=some c by rw[show c=b by simpa using z])
   exact⟨⟨k,λc o u ec=>k c _ ec λz=>by cases z;rw[hb] at ec;cases ec⟩,(J.box b e).1⟩
  cases q:m (Aj N.length ds) β with
  |nx env β'=>rw[q] at h;exact λB G' H' σ J s'=>h .non G' H' (fin' J).1 (fin' J).2 s' J.sub (λc h1 h2=>J.new c h1 h2) Rp.non
  |bk env β'=>rw[q] at h;exact h.elim
  |ct env β'=>rw[q] at h;exact h.elim
  |rt d fr β'=>
   rw[q] at h
   refine λB G' H' σ env v J s' rv=>h v G' H' (fin' J).1 (fin' J).2 s' J.sub (λc h1 h2=>J.new c h1 h2) ?_
   cases fr with
   |true=>exact rv
   |false=>exact rv
  |exc c=>rw[q] at h;exact h.elim
  |bad=>rw[q] at h;exact h.elim
def zh {n p:Nat}{m:SF}(ds:List D)(β:Int)(h:yK n p m ds β≠.bad):ds.length=p:=by
 unfold yK at h
 by_cases hl:ds.length=p
 ·exact hl
 ·rw[Rj hl] at h;exact absurd rfl h
def rq.imp {x:Str}{ps:@Id}{k:Nat}{F F':List D->Int->FB}(h:rq P w K mg base x ps k F)(i:∀ds β,F' ds β≠.bad->F ds β=F' ds β):rq P w K mg base x ps k F':=by
 obtain⟨f,fd,a,b,c,d⟩:=h.ex
 refine⟨⟨f,fd,a,b,c,d.imp λvs H Q E q=>?_⟩,λds β hn=>h.len ds β (by rw[i ds β hn];exact hn)⟩
 obtain⟨b,rest,G,ds,β,e,hb,gb,s,hl,r,q⟩:=q
 refine⟨b,rest,G,ds,β,e,hb,gb,s,hl,r,?_⟩
 by_cases hF:F' ds β=.bad
 ·rw[hF] at q;exact q.elim
 ·rw[i ds β hF];exact q
end
def aA (p:Pr):D:=.tuple [.int p.1,.int p.2]
def tJ:D->Option Pr
 | .tuple [.int a,.int b]=>some (a,b)
 |_=>none
def yH {d:D}{p:Pr}(h:tJ d=some p):d=aA p:=by
 unfold tJ at h
 split at h
 ·cases h;rfl
 ·cases h
def CI (p:Pr):tJ (aA p)=some p:=rfl
def j0:List D->Option (@A_)
 | []=>some []
 |d :: ds=>match tJ d,j0 ds with
  |some p,some ps=>some (p :: ps)
  |_,_=>none
theorem nV:∀{ds:List D} {ps:@A_},j0 ds=some ps->ds=ps.map aA
 | [],ps,h=>by cases h;rfl
 |d :: ds,ps,h=>by
  unfold j0 at h
  split at h
  ·rename_i p qs h1 h2;cases h;rw[yH h1,nV h2];rfl
  ·cases h
theorem j4:∀ps:@A_,j0 (ps.map aA)=some ps
 | []=>rfl
 |p :: ps=>by
  show (match tJ (aA p),j0 (ps.map aA) with
   |some p,some ps=>some (p :: ps)
   |_,_=>none)=_
  rw[CI,j4 ps]
section
variable {K:Frag}{X:Cx}{G H:Hp}
theorem cP.pairs:∀{ps:@A_} {xs:List V},cP K G xs (ps.map aA)->bF K G xs ps
 | [],_,.nil=>.nil
 |p :: ps,_,.cons r t=>by
  cases r with
  |tup hq r=>
   cases r with
   |cons r1 r=>
    cases r with
    |cons r2 r=>cases r;cases r1;cases r2;exact .cons ⟨_,rfl,hq⟩ (cP.pairs t)
theorem bF.rps:∀{ps:@A_} {xs:List V},bF K G xs ps->cP K G xs (ps.map aA)
 | [],_,.nil=>.nil
 |p :: ps,_,.cons r t=>by
  obtain⟨a,rfl,q⟩:=r
  exact .cons (.tup q (.cons (.int _) (.cons (.int _) .nil))) (bF.rps t)
def Od (p:Pr):Bool:=decide (0<=p.1) && decide (p.1 < 8) && decide (0<=p.2) && decide (p.2 < 8)
def Lz {p:Pr}(h:Od p=true):Sm p:=by
 unfold Od at h
 simp only[RC,Rq] at h
 exact⟨⟨h.1.1.1,h.1.1.2⟩,h.1.2,h.2⟩
variable {Γ:Fx}{E:XK}{e a b c:Expr}{f fa fb fc:VF D}{L La Lb:@Ix}{md ma mb mc:Md}{pos:Pos}
end
section
variable {K:Frag}{X:Cx}{G H:Hp}{Γ:Fx}{E:XK}{e a b c:Expr}{f fa fb fc:VF D}{L La Lb:@Ix}{md ma mb mc:Md}{pos apos cpos np:Pos}
def iR:@Pi
 | .int n=>if 0<=n/\n<=1000 then some (.list (g9 0 n.toNat)) else none
 |_=>none
def CN (n:Nat):cP K G ((List.range n).map λ(i:Nat)=>V.int (i:Int)) (g9 0 n):=by
 have key:∀l:@Ix,cP K G (l.map λ(i:Nat)=>V.int (i:Int)) (l.map λ(k:Nat)=>int (0 + k)):=by
  intro l
  induction l with
  |nil=>exact .nil
  |cons x l ih=>exact .cons (by show Rp K G (.int (x:Int)) (.int (0 + (x:Int)));rw[Tv];exact .int _) ih
 exact key _
theorem AW {p1 p2 pos2:Pos}(hc:X.calm=true)(hg:Gl X "list")(hm:X.mg "list"=none)(hg2:Gl X "range")(hm2:X.mg "range"=none)(ha:@SC)
  (he:@M_:=by rfl)
  (he2:starEach [.Call (.Name "range" p2) [a] [] pos2] X.env=(false,eval (.Call (.Name "range" p2) [a] [] pos2) X.env) :: starEach [] X.env:=by rfl) :
  SE X Γ E (.Call (.Name "list" p1) [.Call (.Name "range" p2) [a] [] pos2] [] pos) (f1 fa iR) La .w:=by
 refine PE.post' (lF (uK hc) hg hm (@FS) (ba (lF Gr hg2 hm2 (@FS) (ba ha cf he) @E_ @E_ he) cf he2) @E_ @E_ he2) λσ H Q ⟨env,G,B,β,I,o⟩=>?_
 refine l5 (r:=λx H1 Q=>∃n:Int,[x]= [.int n]/\∀p,H1 p=none->(λ(y:V) (H2:Hp)=>∃(p:Addr) (n:Int),[y]= [V.ref p]/\H2 p=some (.bD 0 n)/\0<=n/\n<=1000/\∀l,H2 l=none->Q (.ref l) (upd H2 l (.lst ((List.range n.toNat).map λ(i:Nat)=>V.int (i:Int))))) (V.ref p) (upd H1 p (.bD 0 n))) ?_ I o
 intro B G H x dx d Q s hB bx e k
 cases dx with
 |int n=>
  obtain rfl:=bx.int
  simp only[iR] at e
  split at e
  ·rename_i hh
   cases e
   refine⟨n,rfl,λp hp=>⟨p,n,rfl,aE,hh.1,hh.2,λl hl=>?_⟩⟩
   have hlp:l≠p:=λz=>by subst z;rw[aE] at hl;cases hl
   have hlH:H l=none:=by rw[aC hlp] at hl;exact hl
   have x1:=Ext.own s (o:=.bD 0 n) hp
   have x2:=Ext.own x1.gh (o:=.lst ((List.range n.toNat).map λ(i:Nat)=>V.int (i:Int))) hl
   exact k _ _ _ (x1.trans x2) ⟨l,rfl,hlH,s.free hlH,_,aE,CN _⟩
  ·cases e
 |_=>cases e
noncomputable def nv (d:D):Option D:=match d with
 | .list ds=>(match j0 ds with
  |some ps=>if ps.all Od=true/\ps.Nodup/\ps.length < 64 then some (.list ((OM.jx 8 (OM.Mem ps)).map aA)) else none
  |none=>none)
 |_=>none
theorem Cm:GQ K (λx=>BB K [x]) nv .w:=by
 intro B G H x dx d Q s hB bx e k
 cases dx with
 |list ds=>
  simp only[nv] at e
  cases q2:j0 ds with
  |none=>rw[q2] at e;cases e
  |some ps=>
   rw[q2] at e
   dsimp only at e
   split at e
   ·rename_i hh
    obtain⟨h1,h2,h3⟩:=hh
    cases e
    obtain⟨p,xs,rfl,hq,r⟩:=bx.list s
    rw[nV q2] at r
    have pv:=(r.mono s).pairs
    have sm:∀p,p∈ps->Sm p:=λp hp=>Lz (RH.mp h1 p hp)
    refine⟨p,xs,ps,rfl,.inl hq,pv,sm,h2,h3,λl ws rs hl hpw hr hmem=>?_⟩
    have ers:rs=OM.jx 8 (OM.Mem ps):=OM.iH hr (OM.lO _ _) λx=>by
     rw[hmem x,OM.jQ]
     constructor
     ·intro hx;have hs:=sm x hx;exact⟨⟨⟨hs.1.1,hs.1.2⟩,hs.2.1,hs.2.2⟩,hx⟩
     ·intro hx;exact hx.2
    subst ers
    have hh:aw H (upd H l (.lst ws)):=aw.new hl
    refine k _ _ _ (Ext.tups s hh) ⟨l,rfl,hl,?_,ws,aE,?_⟩
    ·unfold jS
     rw[s.free hl,aE]
     exact Rj λy=>y
    ·refine bF.rps (Paired.mapP hpw λv p ⟨a,ea,qa⟩=>⟨a,ea,pw (s.trans hh) ?_⟩)
     exact qa.grow (jO.new hl)
   ·cases e
 |_=>cases e
def Cw (ds:List D)(k:D):Option (D×List D):=match k with
 | .int i=>if -(2 ^ 63)<=i/\i < 2 ^ 63 then (match seqIndex? i ds.length with
  |some n=>(match ds[n]? with
   |some d=>some (d,ds.eraseIdx n)
   |none=>none)
  |none=>none) else none
 |_=>none
def mz (i j:Nat)(L:@Ix)(f:VF D):SF:=λenv β=>if ug env[i]? =true/\ug env[j]? =true/\i≠j then toS (f @PP β) λk β'=>match (a8 L env)[j]? with
 |some (.ow (.list es))=>(match Cw es k with
  |some (d,es')=>JQ i ((a8 L env).set j (.ow (.list es'))) β' λds=>if ds.length < sizeLine then some (ds ++ [d]) else none
  |none=>.bad)
 |_=>.bad else .bad
theorem cP.eraseIdx:∀{xs:List V} {ds:List D} (i:Nat),cP K G xs ds->cP K G (xs.eraseIdx i) (ds.eraseIdx i)
 |_,_,_,.nil=>.nil
 |_,_,0,.cons _ t=>t
 |_,_,i + 1,.cons r t=>.cons r (cP.eraseIdx i t)
theorem DC (i j:Nat){x y:Str}{np2 apos2 cpos2:Pos}(hb:∀j,Γ.br j=false)(he:SE X Γ E e f L md)(hN:X.N[i]? =some x:=by rfl)(hv:BN X.env.scope x:=by first |exact Or.inl rfl |exact Or.inr (Or.inl rfl) |exact Or.inr (Or.inr rfl))(hd:@Go:=by decide)
  (hcd:(x == ("__classdict__":Str))=false:=by decide)
  (hN2:X.N[j]? =some y:=by rfl) (hv2:BN X.env.scope y:=by first |exact Or.inl rfl |exact Or.inr (Or.inl rfl) |exact Or.inr (Or.inr rfl)) (hd2:(y == ("__debug__":Str))=false:=by decide)
  (hcd2:(y == ("__classdict__":Str))=false:=by decide)
  (hbase:attributeBase (.Name x np) "append" X.env (eval (.Name x np) X.env)=eval (.Name x np) X.env:=by rfl)
  (hfew:((backTo cpos (starEach [.Call (.Attribute (.Name y np2) "pop" apos2) [e] [] cpos2] X.env)).all (λx=> !x.1) && (backToKw cpos (keywordEach [] X.env)).all (λx=>x.1.isSome)
   && decide ([Expr.Call (.Attribute (.Name y np2) "pop" apos2) [e] [] cpos2].length + ([]:List Keyword).length + (if ([]:List Keyword).isEmpty then 0 else 1) < 30))=true:=by rfl)
  (hline:(apos.endLine == cpos.line)=true:=by rfl) (hs:starEach [.Call (.Attribute (.Name y np2) "pop" apos2) [e] [] cpos2] X.env=(false,eval (.Call (.Attribute (.Name y np2) "pop" apos2) [e] [] cpos2) X.env) :: starEach [] X.env:=by rfl)
  (hbase2:attributeBase (.Name y np2) "pop" X.env (eval (.Name y np2) X.env)=eval (.Name y np2) X.env:=by rfl)
  (hfew2:((backTo cpos2 (starEach [e] X.env)).all (λx=> !x.1) && (backToKw cpos2 (keywordEach [] X.env)).all (λx=>x.1.isSome)
   && decide ([e].length + ([]:List Keyword).length + (if ([]:List Keyword).isEmpty then 0 else 1) < 30))=true:=by rfl)
  (hline2:(apos2.endLine == cpos2.line)=true:=by rfl) (hs2:starEach [e] X.env=(false,eval e X.env) :: starEach [] X.env:=by rfl)
  (hsw:swapsWith (.Call (.Attribute (.Name x np) "append" apos) [.Call (.Attribute (.Name y np2) "pop" apos2) [e] [] cpos2] [] cpos) none pos.line X.env=pure false:=by rfl) :
  SS X Γ E (.Expr (.Call (.Attribute (.Name x np) "append" apos) [.Call (.Attribute (.Name y np2) "pop" apos2) [e] [] cpos2] [] cpos) pos) (mz i j L f):=by
 refine PS.post (rK (Ct TQ PySem.F.slot_list_append PySem.F.type_list_append qu (kU hN hv hd hcd)
  (ba (Ct TQ PySem.F.slot_list_pop PySem.F.type_list_pop Gq (kU hN2 hv2 hd2 hcd2) (ba he cf hs2) hbase2 hfew2 hline2 hs2 rfl) cf hs) hbase hfew hline hs rfl) hsw) λN σ H ⟨env,G,B,β,I,o⟩=>?_
 unfold mz at o
 by_cases hO:ug env[i]? =true/\ug env[j]? =true/\i≠j
 case neg=>rw[Rj hO] at o;exact o.elim
 rw[Rg hO] at o
 obtain⟨hO1,hO2,hij⟩:=hO
 obtain⟨ds0,q0⟩:=pR hO1
 obtain⟨es0,w0⟩:=pR hO2
 obtain⟨p,h1,_,_,_,xs,h5,_⟩:=I.slot i _ q0
 obtain⟨q,k1,_,_,_,ys,k5,_⟩:=I.slot j _ w0
 refine⟨_,h1,.inl ⟨rfl,xs,.inl (.inl h5)⟩,?_⟩
 refine⟨_,k1,.inl ⟨rfl,ys,.inl (.inl k5)⟩,?_⟩
 refine⟨env,G,B,β,I,cW o λkd β' k v G' H' I' s' m' vo=>?_⟩
 cases ej:(a8 L env)[j]? with
 |none=>rw[ej] at k;exact k.elim
 |some sj=>
  rw[ej] at k
  cases sj with
  |ow dj=>
   cases dj with
   |list es=>
    dsimp only at k
    cases ep:Cw es kd with
    |none=>rw[ep] at k;exact k.elim
    |some pr=>
     obtain⟨d,es'⟩:=pr
     rw[ep] at k
     dsimp only at k
     unfold Cw at ep
     cases kd <;> first | (cases ep;done) |skip
     rename_i ii
     dsimp only at ep
     split at ep
     ·rename_i hr
      cases eI:seqIndex? ii es.length with
      |none=>rw[eI] at ep;cases ep
      |some n=>
       rw[eI] at ep
       dsimp only at ep
       cases eD:es[n]? with
       |none=>rw[eD] at ep;cases ep
       |some d0=>
        rw[eD] at ep
        cases ep
        obtain rfl:=(vo.brw I.boxThere).int
        obtain⟨q',g1,_,_,_,zs,g5,g6⟩:=I'.slot j _ ej
        rw[k1] at g1;cases g1
        obtain⟨xv,ex,rx⟩:=g6.at eD
        refine⟨q,zs,ii,n,xv,rfl,rfl,g5,hr.1,hr.2,by rw[g6.len];exact eI,ex,?_⟩
        have I2:=I'.write hb ej k1 (o:=.lst (zs.eraseIdx n)) (d':=.list (es.eraseIdx n)) λH2 e2 s2=>⟨_,e2,g6.eraseIdx n⟩
        obtain⟨ds,fs,eq,eg,k⟩:=rD k
        by_cases hz:ds.length < sizeLine
        case neg=>rw[Rj hz] at eg;cases eg
        rw[Rg hz] at eg
        cases eg
        obtain⟨p',f1,_,_,_,us,f5,f6⟩:=I2.slot i _ eq
        rw[h1] at f1;cases f1
        refine⟨p,us,xv,rfl,rfl,f5,by rw[f6.len];exact hz,?_⟩
        exact k B G' _ σ (I2.write hb eq h1 λH2 e2 s2=>⟨_,e2,f6.snoc rx⟩) s'
     ·cases ep
   |_=>exact k.elim
  |_=>exact k.elim
end
def gN:List D->Int->FB
 | [.int m],β=>if 0 < m/\m < 1073741824 then .ok (.int (β % m)) false (β / m) else .bad
 |_,_=>.bad
def Cs {ds:List D}{β:Int}(h:gN ds β≠.bad):∃m,ds= [.int m]/\0 < m/\m < 1073741824:=by
 unfold gN at h
 split at h
 ·rename_i m
  by_cases hh:0 < m/\m < 1073741824
  ·exact⟨m,rfl,hh.1,hh.2⟩
  ·rw[Rj hh] at h;exact absurd rfl h
 ·exact absurd rfl h
def wA {m β:Int}(h0:0 < m)(h1:m < 1073741824):gN [.int m] β=.ok (.int (β % m)) false (β / m):=Rg ⟨h0,h1⟩
section
variable {P:Program}{w:World}{K:Frag}{mg:@Fr}{base:Heap}
def IL {X:Cx}{i j:Nat}{x y:Str}{px py pos:Pos}{k:Nat}(hN:X.N.Nodup)(hi:X.N[i]? =some x)(hj:X.N[j]? =some y)(hx:@On)(hy:X.env.scope.names.lookup y=some .local)(hc:X.calm=true) :
  PG X (.Tuple [.Name x px,.Name y py] k pos) (IW X.K 2 (sf (oz i) (sf (oz j) Hq))):=
 sV hc (fB (dX hN hi (Or.inl hx) (Or.inr hx)) (fB (dX hN hj (Or.inl hy) (Or.inr hy)) pG))
def FC {b:Addr}{β m:Int}{H:Hp}{Q:VK}{G:Hp}(hb:H b=some (.lst [.int β]))(s:aw G H){p:Addr}(hp:H p=none)
  (kk:∀v G' H',jh (some b) H H'->H' b=some (.lst [.int (β / m)])->aw G G'->aw G' H'->(∀c,Mx H c->G c=none->G' c=none)->FV K H G' H' false (.int (β % m)) v->Q v H') (gb:G b=none) :
  Q (.int (β % m)) (upd (upd H p (.tup [.int (β / m),.int (β % m)])) b (.lst [.int (β / m)])):=by
 have hbp:b≠p:=aR hb hp
 refine kk _ G _ ⟨λc o e n=>Kt.of (by rw[aC (λz=>n (by rw[z])),aC (aR e hp)];exact e),λc o u e=>by rw[aC (λz=>by rw[z,hb] at e;cases e),aC (aR e hp)];exact e⟩ aE (aw.refl _) (λc o e=>?_) (λc _ h=>h) (.int _)
 obtain⟨u,eu,_⟩:=(s c o e).some
 exact nJ (nJ (s c o e) (aR eu hp) λx y w=>by rw[hp] at w;cases w) (λz=>by rw[z,gb] at e;cases e) λx y w=>by rw[aC hbp,hb] at w;cases w
end
end L2
namespace L2
open PySem PySem.SeqAt PySem.Spec PyProof.Rows
def v9 {M:Model}{A:Around}{E:@EQ}{s:Shared}{β:Type}{b:Nat}(f:Nat->β->Sem (ForInStep β))(I:@Ix->β->Shared->Prop)(Q:β->Shared->Prop)
  (turn:∀x rest b s,I (x :: rest) b s->wpAny M A (f x b) (λr s'=>match r with | .yield b'=>I rest b' s' | .done b'=>Q b' s') E s)
  (fin:∀b s,I [] b s->Q b s) (c:β) (h:I (List.range' 0 b) c s):wpAny M A (forIn [0:b] c f) Q E s:=by
 rw[Std.Legacy.Range.forIn_eq_forIn_range']
 simp only[Std.Legacy.Range.size,Nat.sub_zero,Nat.add_sub_cancel,Nat.div_one]
 exact wpAny_forIn_list f I Q turn fin _ c h
def uQ (l:Addr)(items:Array Value)(n:Nat)(dd:@J_)(sl:Array (Option Value))(x:Value)(e:Value->Bool)(j:Nat)(hj:j < items.size)
  (hit:e items[j]=true) (hno:∀m (hm:m < items.size),m < j->e items[m]=false) :
  Meets (Builtin.«tuple.index» ⟨[.ref l,x],[]⟩)
   (λA R s=>s.heap.get? l=some {cls:=.type "tuple",dict:=dd,data:=.seq items n,slots:=sl}/\(∀y,y∈items->EqAt A.in1 s y x (e y))/\R (.ok (.ret (.int j s.toks))) {s with toks:=s.toks + 1}):=
 .of_wp λprog w A R s h=>by
  obtain⟨hp,g,d,tk,os⟩:=s;obtain⟨hl,he,h⟩:=h
  wp_walk using wpAny_loadPart' hl,v9 _ (λrest b s'=>b.1=none/\s'=⟨hp,g,d,tk,os⟩/\∃i,i<=j/\rest=List.range' i (items.size - i)) _
  case turn=>
   rintro y rest b s' ⟨hb,rfl,i,hi,hr⟩
   obtain⟨m,hm⟩:∃m,items.size - i=m + 1:=⟨items.size - i - 1,@AT ⟩
   rw[hm,List.range'_succ] at hr
   obtain⟨rfl,rfl⟩:=List.cons.inj hr
   have hlt:y < items.size:=@AT
   have e1:items[y]? =some items[y]:=by simp[hlt]
   simp only[e1]
   refine Ra (he _ (Array.getElem_mem hlt) prog w _ _ ?_)
   by_cases z:y=j
   ·subst z
    rw[hit]
    wp_walk
    exact⟨_,rfl,h⟩
   ·rw[hno y hlt (@AT)]
    wp_walk
    exact⟨rfl,rfl,y + 1,@AT,by congr 1;omega⟩
  case fin=>
   rintro b s' ⟨hb,rfl,i,hi,hr⟩
   obtain⟨m,hm⟩:∃m,items.size - i=m + 1:=⟨items.size - i - 1,@AT ⟩
   rw[hm,List.range'_succ] at hr
   cases hr
  case h=>
   exact⟨rfl,rfl,0,Sb _,by rw[Nat.min_self];rfl⟩
section
variable {K:Frag}{X:Cx}{G H:Hp}{Γ:Fx}{E:XK}{e a b c:Expr}{f fa fb fc:VF D}{L La Lb:@Ix}{md ma mb mc:Md}{pos apos cpos np:Pos}
def z7 (k:Int):Value->Bool
 | .int i _=>i == k
 |_=>false
theorem oX {k:Int}:∀{ns:@Db} {us:@G_} (i:Nat) (h:i < us.length) (h2:i < ns.length),Vals (ns.map V.int) us->z7 k us[i]=(ns[i] == k)
 | [],_,_,_,h2,_=>absurd h2 (TX _)
 |n :: ns,_,0,_,_,.cons r _=>by obtain⟨t,rfl⟩:=r;rfl
 |n :: ns,_,i + 1,h,h2,.cons _ rs=>oX i (Nat.lt_of_succ_lt_succ h) (Nat.lt_of_succ_lt_succ h2) rs
theorem yM {k:Int}{t:Tok}(A:Around)(s:Shared):∀{ns:@Db} {us:@G_},Vals (ns.map V.int) us->∀y∈us,EqAt A s y (.int k t) (z7 k y)
 | [],_,.nil,y,hy=>by cases hy
 |n :: ns,_,.cons r rs,y,hy=>by
  rcases Rm.mp hy with z |z
  ·subst z;obtain⟨t',rfl⟩:=r;exact EqAt.int_int n t' k t
  ·exact yM A s rs y z
def Ic (K:Frag):V->List V->@P_:=λx vs H Q=>∃(a:Addr) (ns:@Db) (k:Int),x=.ref a/\vs= [.int k]/\gr K H a (ns.map V.int)/\k∈ns/\Q (.int (ns.idxOf k:Nat)) H
def CY:M7 X "tuple.index" (Ic X.K):=by
 intro pins s σ H x vs v us Q I rx rv h
 obtain⟨a,ns,k,rfl,rfl,hq,hk,q⟩:=h
 cases rx
 obtain⟨u,rfl,ru⟩:=vals1 rv
 obtain⟨t,rfl⟩:=ru
 obtain⟨its,rs,pl,hz⟩:=I.tuple hq
 obtain⟨⟨cls,dd,data,sl⟩,ho,hc,n,hd⟩:=id pl
 simp only at hc hd
 subst hc hd
 have hj:ns.idxOf k < ns.length:=Sh.mpr hk
 have hlen:its.length=ns.length:=by rw[<-rs.length,Rb]
 refine call_meets PySem.F.slot_tuple_index ⟨_,ho,rfl⟩ PySem.F.entry_tuple_index (PySem.F.args_tuple_index_2 _ _)
  (uQ a its.toArray n dd sl (.int k t) (z7 k) (ns.idxOf k) (by simpa[hlen] using hj) ?_ ?_) ⟨ho,λy hy=>yM _ _ rs y (by simpa using hy),?_⟩
 ·have:=oX (k:=k) (ns.idxOf k) (@AT) hj rs
  simpa[TY hj] using this
 ·intro m hm hlt
  have hm':m < ns.length:=by simpa[hlen] using hm
  have hne:ns[m]≠k:=λz=>by
   have:=List.not_of_lt_findIdx (p:=(· == k)) hlt
   simp[z] at this
  have:=oX (k:=k) m (@AT) hm' rs
  rw[beq_eq_false_iff_ne.mpr hne] at this;simpa using this
 ·exact⟨.int (ns.idxOf k:Nat),H,I.tok _,⟨_,rfl⟩,q⟩
def Inv.tupleP {pins:@Do}{σ:St}{s:Shared}{p:Addr}{xs:List V}(I:@B_)(h:gr X.K H p xs):s.TypeIs (.ref p) "tuple"/\∀a,Value.ref p=.ref a->∃ob,s.heap.get? a=some ob/\ob.dict=none:=by
 rcases h with h | ⟨o,its,n,hk,hc,hs,hz,r,hd⟩
 ·obtain⟨_,_,_,o,e,c,n,d,hd⟩:=h.ok I.hok
  exact⟨⟨o,e,c⟩,λa z=>by cases z;exact⟨o,e,hd⟩⟩
 ·exact⟨⟨o,I.kIn p o hk,hc⟩,λa z=>by cases z;exact⟨o,I.kIn p o hk,hd⟩⟩
def PL (K:Frag)(r:V->List V->@P_)(to:TE)(t:TA):TE:=λσ H Q=>to σ H λx H1=>(∃p xs,x=.ref p/\gr K H1 p xs)/\t σ H1 λxs H2=>r x xs H2 Q
def Mh {o e:Expr}{es:List Expr}{to:TE}{t:TA}{name:Str}{apos cpos:Pos}{id:String}{r:V->List V->@P_}(slot:Slot "tuple" name id)(hty:typeOf (.builtin id)=pure (.type "method_descriptor"))(hm:M7 X id r)(ho:PE X o to)(ha:PA X (e :: es) t)
  (hbase:attributeBase o name X.env (eval o X.env)=eval o X.env:=by rfl)
  (hfew:((backTo cpos (starEach (e :: es) X.env)).all (λx=> !x.1) && (backToKw cpos (keywordEach [] X.env)).all (λx=>x.1.isSome)
   && decide ((e :: es).length + ([]:List Keyword).length + (if ([]:List Keyword).isEmpty then 0 else 1) < 30))=true:=by rfl)
  (hline:(apos.endLine == cpos.line)=true:=by rfl) (hs:starEach (e :: es) X.env=(false,eval e X.env) :: @T_:=by rfl) (hplain:(backTo cpos (@T_)).any (·.1)=false:=by rfl) :
  PE X (.Call (.Attribute o name apos) (e :: es) [] cpos) (PL X.K r to t):=by
 intro pins s σ H Q I h
 refine wpAny_Call_method_late hbase hfew hline rfl (cZ (ho pins s σ H _ I h) λv s1 ⟨x,H1,I1,r1,⟨p,ys,ex,hr⟩,q1⟩=>?_)
 subst ex
 cases r1
 obtain⟨h1,h2⟩:=I1.tupleP hr
 refine⟨"tuple",id,PySem.F.plainAttrs_tuple,slot,hty,h1,h2,?_⟩
 have hA:=ha cpos pins s1 σ H1 _ I1 q1
 rw[hs] at hA ⊢
 refine Calls.callWith_builtin (by show (false || (backTo cpos (@T_)).any (·.1))=false;rw[hplain] <;> rfl) (Calls.evalArgs_plain ?_)
 exact cZ hA λus s2 ⟨vs,H2,I2,r2,q2⟩=>hm pins s2 σ H2 (.ref p) vs (.ref p) us Q I2 rfl r2 q2
def lq:List D->Option (@Db)
 | []=>some []
 | .int i :: ds=>(lq ds).map (i :: ·)
 |_=>none
theorem sI:∀{ds:List D} {ns:@Db},lq ds=some ns->ds=ns.map int
 | [],ns,h=>by cases h;rfl
 | .int i :: ds,ns,h=>by
  unfold lq at h
  cases q:lq ds with
  |none=>rw[q] at h;cases h
  |some ms=>rw[q] at h;cases h;rw[sI q];rfl
 | .none :: _,_,h=>by cases h
 | .bool _ :: _,_,h=>by cases h
 | .str _ :: _,_,h=>by cases h
 | .list _ :: _,_,h=>by cases h
 | .tuple _ :: _,_,h=>by cases h
 | .dict _ :: _,_,h=>by cases h
theorem lJ:∀ns:@Db,lq (ns.map int)=some ns
 | []=>rfl
 |n :: ns=>by show (lq (ns.map int)).map (n :: ·)=_;rw[lJ ns];rfl
theorem sD:∀{ns:@Db} {xs:List V},cP K G xs (ns.map int)->xs=ns.map V.int
 | [],_,.nil=>rfl
 |n :: ns,_,.cons r t=>by cases r;rw[sD t];rfl
def JC (d y:D):Option D:=match d,y with
 | .tuple ds,.int k=>(match lq ds with
  |some ns=>if k∈ns then some (.int (ns.idxOf k:Nat)) else none
  |none=>none)
 |_,_=>none
def BP:D->Bool
 | .tuple _=>true
 |_=>false
def pj (fa fb:VF D):VF D:=λvs β=>(@Tm).bnd λx β1=>if BP x=true then (fb vs β1).bnd λy β2=>R.of (JC x y) β2 else .bad
theorem tf (hK:X.K=Γ.K)(ha:@SC)(hb:SE X Γ E b fb Lb mb)
  (hbase:attributeBase a "index" X.env (eval a X.env)=eval a X.env:=by rfl)
  (hfew:((backTo cpos (starEach [b] X.env)).all (λx=> !x.1) && (backToKw cpos (keywordEach [] X.env)).all (λx=>x.1.isSome)
   && decide ([b].length + ([]:List Keyword).length + (if ([]:List Keyword).isEmpty then 0 else 1) < 30))=true:=by rfl)
  (hline:(apos.endLine == cpos.line)=true:=by rfl) (hs:starEach [b] X.env=(false,eval b X.env) :: starEach [] X.env:=by rfl) :
  SE X Γ E (.Call (.Attribute a "index" apos) [b] [] cpos) (pj fa fb) (La ++ Lb) .v:=by
 refine PE.post' (Mh PySem.F.slot_tuple_index PySem.F.type_tuple_index CY ha (ba hb cf hs) hbase hfew hline hs rfl) λσ H Q ⟨env,G,B,β,I,o⟩=>?_
 refine⟨env,G,B,β,I,o.bnd.imp λd1 β1 h x G1 H1 I1 s1 m1 vx=>?_⟩
 have vx:=vx.brw I.boxThere
 cases d1 with
 |tuple ds=>
  rw[Rg (show BP (.tuple ds)=true from rfl)] at h
  obtain⟨p,xs,rfl,hq,r⟩:=vx.tuple I1.sub
  refine⟨⟨p,xs,rfl,by rw[hK];exact hq⟩,?_⟩
  refine⟨a8 La env,G1,B,β1,I1,?_⟩
  rw[de]
  refine h.bnd.imp λd2 β2 h y G2 H2 I2 s2 m2 vy=>?_
  obtain⟨d,e,k⟩:=h.of
  have vy:=vy.brw I1.boxThere
  cases d2 with
  |int kk=>
   obtain rfl:=vy.int
   simp only[JC] at e
   cases q:lq ds with
   |none=>rw[q] at e;cases e
   |some ns=>
    rw[q] at e
    dsimp only at e
    split at e
    ·rename_i hk
     cases e
     have eds:=sI q
     subst eds
     have exs:=sD r
     subst exs
     have hq2:gr X.K H2 p (ns.map V.int):=by
      rw[hK]
      rcases hq with hq |hq
      ·rcases vx with vx | ⟨_,_,_,vx⟩
       ·cases vx with
        |tup g1 r9=>have z9:=sD r9;subst z9;exact (g1.grow (s2.trans I2.sub).grow)
       ·exact vx.elim
      ·exact .inr hq
     exact⟨p,ns,kk,rfl,rfl,hq2,hk,k _ G2 H2 (by rw[cu];exact I2) (s1.trans s2) (m1.trans m2) (.int _)⟩
    ·cases e
  |_=>simp only[JC] at e;cases e
 |_=>exact h.elim
abbrev Fx.at (Γ:Fx)(H0:Hp):Fx:=⟨Γ.K,H0,Γ.G0,Γ.par,Γ.ca,Γ.br,Γ.bx⟩
end
end L2
namespace L2
open PySem
section
variable {α γ:Type}
@[simp] theorem tI (a:α)(β:Int)(k:α->Int->R γ):(R.ok a β).bnd k=k a β:=rfl
@[simp] theorem OT (c:Str)(k:α->Int->R γ):(R.exc c:R α).bnd k=.exc c:=rfl
@[simp] theorem OV (k:α->Int->R γ):(R.bad:R α).bnd k=.bad:=rfl
@[simp] theorem QD (a:α)(β:Int)(k:α->Int->R γ):(R.ok a β).okb k=k a β:=rfl
@[simp] theorem xO (a:α)(β:Int):R.of (some a) β=.ok a β:=rfl
@[simp] theorem of_none (β:Int):(R.of none β:R α)=.bad:=rfl
@[simp] theorem Pl (a:α)(β:Int)(k:α->Int->SO):toS (.ok a β) k=k a β:=rfl
@[simp] theorem OK (c:Str)(k:α->Int->SO):toS (.exc c:R α) k=.exc c:=rfl
@[simp] theorem OY (k:α->Int->SO):toS (.bad:R α) k=.bad:=rfl
end
section
variable (f fa fb fc:VF D)(t u:VF Bool)(m m':SF)(vs:List Nv)(β:Int)(env:En)(i j:Nat)(L:@Ix)
@[simp] theorem JK:gv i vs β=R.of (dat vs[i]?) β:=rfl
@[simp] theorem Ae (d:D):dat (some (.da d))=some d:=rfl
@[simp] theorem QE (d:D):cst d vs β=.ok d β:=rfl
@[simp] theorem QL (g:@Pi):f1 fa g vs β=(@Tm).bnd λx β1=>R.of (g x) β1:=rfl
@[simp] theorem QU (g:D->@Pi):f2 fa fb g vs β=(@Tm).bnd λx β1=>(fb vs β1).bnd λy β2=>R.of (g x y) β2:=rfl
@[simp] theorem Cd:ao vs β=.ok [] β:=rfl
@[simp] theorem cM (fr:@Tk):aa fa fr vs β=(@Tm).bnd λx β1=>(fr vs β1).bnd λxs β2=>.ok (x :: xs) β2:=rfl
@[simp] theorem zK:i3 fa vs β=(@Tm).bnd λx β1=>R.of (Lr x) β1:=rfl
@[simp] theorem wc:pC t vs β=(t vs β).bnd λc β1=>.ok (!c) β1:=rfl
@[simp] theorem Mw:Gg t u vs β=(t vs β).bnd λc β1=>if c=true then u vs β1 else .ok false β1:=rfl
@[simp] theorem rC:pN t u vs β=(t vs β).bnd λc β1=>if c=true then .ok true β1 else u vs β1:=rfl
@[simp] theorem QN (n:Bool):tN fa n vs β=(@Tm).bnd λx β1=>.ok (if n then !II x else II x) β1:=rfl
@[simp] theorem Eu:NT t fa fb vs β=(t vs β).bnd λc β1=>if c=true then fa vs β1 else fb vs β1:=rfl
@[simp] theorem gC (c:Bool){β1:Int}(h:@Tm=.ok (.bool c) β1):eO fa vs β=.ok c β1:=by unfold eO;rw[h];rfl
@[simp] theorem AG:vl []= []:=rfl
@[simp] theorem xq (s:Sl):vl (s :: env)=s.val :: vl env:=rfl
@[simp] theorem zQ (d:D):(Sl.fz d).val=.da d:=rfl
@[simp] theorem PX (d:D):(Sl.ow d).val=.da d:=rfl
@[simp] theorem Pj:Sl.no.val=.no:=rfl
@[simp] theorem PR:Sl.bx.val=.bx:=rfl
@[simp] theorem OJ:a8 [] env=env:=rfl
@[simp] theorem M4:a8 (i :: L) env=a8 L (ig env i):=rfl
@[simp] theorem OL:aJ m m' env β=(match m env β with
 | .nx env' β'=>m' env' β'
 |r=>r):=rfl
@[simp] theorem Qh:lx L t m m' env β=toS (t @PP β) λc β'=>if c=true then m (a8 L env) β' else m' (a8 L env) β':=rfl
@[simp] theorem du:bS f env β=toS (f @PP β) λd β'=>.rt d false β':=rfl
@[simp] theorem ub:kc f env β=toS (f @PP β) λd β'=>.rt d true β':=rfl
@[simp] theorem Pq:m8 env β=.nx env β:=rfl
@[simp] theorem cO:b9 i L f env β=toS (f @PP β) λd β'=>.nx ((a8 L env).set i (.fz d)) β':=rfl
@[simp] theorem lI:lu i L f env β=toS (f @PP β) λd β'=>.nx ((a8 L env).set i (.ow d)) β':=rfl
@[simp] theorem eQ:dY L f env β=toS (f @PP β) λ_ β'=>.nx (a8 L env) β':=rfl
end
def aH {m m':SF}{env env':En}{β β':Int}(h:m env β=.nx env' β'):aJ m m' env β=m' env' β':=by unfold aJ;rw[h]
def jm {m m':SF}{env:En}{β β':Int}{d:D}{b:Bool}(h:m env β=.rt d b β'):aJ m m' env β=.rt d b β':=by unfold aJ;rw[h]
def mU {L:@Ix}{t:VF Bool}{m m':SF}{env:En}{β β':Int}(h:t @PP β=.ok true β'):lx L t m m' env β=m (a8 L env) β':=by unfold lx;rw[h];rfl
def j7 {L:@Ix}{t:VF Bool}{m m':SF}{env:En}{β β':Int}(h:t @PP β=.ok false β'):lx L t m m' env β=m' (a8 L env) β':=by unfold lx;rw[h];rfl
def ak {F:@Cl}{fr:@Tk}{vs:List Nv}{β β1:Int}{ds:List D}{d:D}{b:Bool}(h:fr vs β=.ok ds β1)(e:F ds=.ok d b):aq F fr vs β=.ok d β1:=by unfold aq;rw[h];dsimp only[R.bnd];rw[e]
def EJ {F:@Cl}{fr:@Tk}{vs:List Nv}{β β1:Int}{ds:List D}{d:D}(h:fr vs β=.ok ds β1)(e:F ds=.ok d true):vN F fr vs β=.ok d β1:=by unfold vN;rw[h];dsimp only[R.bnd];rw[e]
def cQ {fa:VF D}{g:@Pi}{vs:List Nv}{β β1:Int}{x d:D}(h:@Tm=.ok x β1)(e:g x=some d):f1 fa g vs β=.ok d β1:=by unfold f1;rw[h];dsimp only[R.bnd];rw[e];rfl
def aG {fa fb:VF D}{g:D->@Pi}{vs:List Nv}{β β1 β2:Int}{x y d:D}(h:@Tm=.ok x β1)(h':fb vs β1=.ok y β2)(e:g x y=some d):f2 fa fb g vs β=.ok d β2:=by unfold f2;rw[h];dsimp only[R.bnd];rw[h'];dsimp only[R.bnd];rw[e];rfl
def oM {i:Nat}{F:List D->Int->FB}{fr:@Tk}{vs:List Nv}{β β1 β2:Int}{ds:List D}{d:D}{b:Bool}(hi:Aw vs i=true)(h:fr vs β=.ok ds β1)(e:F ds β1=.ok d b β2):rH i F fr vs β=.ok d β2:=by unfold rH;rw[Rg hi,h];dsimp only[R.bnd];rw[e]
def sz (n:Nat)(h:n<=1000):n<=sizeLine:=by rw[R7];omega
def N5 (n:Nat)(h:n<=1000):n < sizeLine:=by rw[R7];omega
def iM {fr:@Tk}{vs:List Nv}{β β1:Int}{ds:List D}(h:fr vs β=.ok ds β1)(hz:ds.length<=1000):cq fr vs β=.ok (.tuple ds) β1:=by unfold cq;rw[h];exact Rg (sz _ hz)
def nX {fr:@Tk}{vs:List Nv}{β β1:Int}{ds:List D}(h:fr vs β=.ok ds β1)(hz:ds.length<=1000):fo fr vs β=.ok (.list ds) β1:=by unfold fo;rw[h];exact Rg (sz _ hz)
def wa {i:Nat}{env:En}{β:Int}{g:List D->Option (List D)}{ds es:List D}(h:env[i]? =some (.ow (.list ds)))(e:g ds=some es):JQ i env β g=.nx (env.set i (.ow (.list es))) β:=by unfold JQ;rw[h];dsimp only;rw[e]
def rQ {i:Nat}{L:@Ix}{f:VF D}{env:En}{β β':Int}{ds:List D}{d:D}(hi:env[i]? =some (.ow (.list ds)))(hf:f @PP β=.ok d β')(hL:(a8 L env)[i]? =some (.ow (.list ds)))(hz:ds.length<=1000):pB i L f env β=.nx ((a8 L env).set i (.ow (.list (ds ++ [d])))) β':=by
 unfold pB
 rw[Rg (by rw[hi];rfl),hf]
 exact wa hL (Rg (N5 _ hz))
def zM {i j:Nat}{L:@Ix}{f:VF D}{env:En}{β β':Int}{ds es es':List D}{k d:D}(hi:env[i]? =some (.ow (.list ds)))(hj:env[j]? =some (.ow (.list es)))(hij:i≠j)(hf:f @PP β=.ok k β')(hL:a8 L env=env)(hp:Cw es k=some (d,es'))(hz:ds.length<=1000):mz i j L f env β=.nx ((env.set j (.ow (.list es'))).set i (.ow (.list (ds ++ [d])))) β':=by
 unfold mz
 rw[Rg ⟨by rw[hi];rfl,by rw[hj];rfl,hij⟩,hf,hL]
 dsimp only[toS]
 rw[hj]
 dsimp only
 rw[hp]
 exact wa (by rw[RF (Ne.symm hij)];exact hi) (Rg (N5 _ hz))
def zy {i:Nat}{Le Li:@Ix}{fe fi:VF D}{env:En}{β β1 β2:Int}{ds:List D}{d:D}{k:Int}{n:Nat}(he:fe @PP β=.ok d β1)(h1:(a8 Le env)[i]? =some (.ow (.list ds)))(hi:fi @PP β1=.ok (.int k) β2)(h2:(a8 (Le ++ Li) env)[i]? =some (.ow (.list ds)))(hk:xR ds.length k=some n):tZ i Le Li fe fi env β=.nx ((a8 (Le ++ Li) env).set i (.ow (.list (ds.set n d)))) β2:=by
 unfold tZ
 rw[he]
 dsimp only[toS]
 rw[Rg (by rw[h1];rfl),hi]
 exact wa h2 (by dsimp only;rw[hk];rfl)
theorem sk {t:Tg}{ft:VF Bool}{fe:VF D}{vs:List Nv}(g:D->Bool)(h:D->D):∀{ds:List D} {β:Int},(∀d,d∈ds->∃vs1,pE t d vs=some vs1/\ft vs1 β=.ok (g d) β/\(g d=true->fe vs1 β=.ok (h d) β))->iY t ft fe vs ds β=.ok ((ds.filter g).map h) β
 | [],β,_=>rfl
 |d :: ds,β,hh=>by
  obtain⟨vs1,e1,e2,e3⟩:=hh d (Ro ..)
  have ih:=sk (t:=t) (ft:=ft) (fe:=fe) (vs:=vs) g h (ds:=ds) (β:=β) λd' hd=>hh d' (Ru _ hd)
  unfold iY
  rw[e1]
  dsimp only
  rw[e2]
  dsimp only[R.okb]
  cases q:g d with
  |true=>
   rw[Rg rfl,e3 q]
   dsimp only
   rw[ih,List.filter_cons_of_pos q];rfl
  |false=>
   rw[Rj RK,ih,List.filter_cons_of_neg (by rw[q];exact RK)]
def Ad {own:Nat}{ixs:@Ix}{t:Tg}{fi:@Tk}{ft:VF Bool}{fe:VF D}{vs:List Nv}{β β1:Int}{ds:List D}(g:D->Bool)(h:D->D)(hi:fi vs β=.ok ds β1)(hz:ds.length<=1000)
  (hh:∀d,d∈ds->∃vs1,pE t d (g8 own ixs vs)=some vs1/\ft vs1 β1=.ok (g d) β1/\(g d=true->fe vs1 β1=.ok (h d) β1)):aN own ixs t fi ft fe vs β=.ok (.list ((ds.filter g).map h)) β1:=by
 unfold aN
 rw[hi]
 dsimp only[R.bnd]
 rw[Rg (sz _ hz),sk g h hh];rfl
def vB {own:Nat}{ixs:@Ix}{t:Tg}{fi:@Tk}{fe:VF D}{vs:List Nv}{β β1:Int}{ds:List D}(h:D->D)(hi:fi vs β=.ok ds β1)(hz:ds.length<=1000)
  (hh:∀d,d∈ds->∃vs1,pE t d (g8 own ixs vs)=some vs1/\fe vs1 β1=.ok (h d) β1):aN own ixs t fi i7 fe vs β=.ok (.list (ds.map h)) β1:=by
 rw[Ad (ft:=i7) (λ_=>true) h hi hz λd hd=>let ⟨vs1,e1,e2⟩:=hh d hd;⟨vs1,e1,rfl,λ_=>e2⟩]
 rw[List.filter_eq_self.mpr @Ch]
def bL {α:Type}{own:Nat}{ixs:@Ix}{t:Tg}{fi:@Tk}{fe:VF D}{vs:List Nv}{β β1:Int}{l:List α}{e:α->D}(h:α->D)(hi:fi vs β=.ok (l.map e) β1)(hz:l.length<=1000)
  (hh:∀x,x∈l->∃vs1,pE t (e x) (g8 own ixs vs)=some vs1/\fe vs1 β1=.ok (h x) β1):aN own ixs t fi i7 fe vs β=.ok (.list (l.map h)) β1:=by
 unfold aN
 rw[hi]
 dsimp only[R.bnd]
 rw[Rg (sz _ (by rw[Rb];exact hz))]
 have key:∀m:List α,(∀x,x∈m->x∈l)->iY t i7 fe (g8 own ixs vs) (m.map e) β1=.ok (m.map h) β1:=by
  intro m
  induction m with
  |nil=>intro _;rfl
  |cons x m ih=>
   intro hm
   obtain⟨vs1,e1,e2⟩:=hh x (hm x (Ro ..))
   rw[Sx]
   unfold iY
   rw[e1]
   dsimp only
   show (R.ok true β1).okb _=_
   dsimp only[R.okb]
   rw[Rg rfl,e2]
   dsimp only
   rw[ih λy hy=>hm y (Ru _ hy)];rfl
 rw[key l λ_ h=>h];rfl
def cm {α:Type}{own:Nat}{ixs:@Ix}{t:Tg}{fi:@Tk}{ft:VF Bool}{fe:VF D}{vs:List Nv}{β β1:Int}{l:List α}{e:α->D}(g:α->Bool)(h:α->D)(hi:fi vs β=.ok (l.map e) β1)(hz:l.length<=1000)
  (hh:∀x,x∈l->∃vs1,pE t (e x) (g8 own ixs vs)=some vs1/\ft vs1 β1=.ok (g x) β1/\(g x=true->fe vs1 β1=.ok (h x) β1)):aN own ixs t fi ft fe vs β=.ok (.list ((l.filter g).map h)) β1:=by
 unfold aN
 rw[hi]
 dsimp only[R.bnd]
 rw[Rg (sz _ (by rw[Rb];exact hz))]
 have key:∀m:List α,(∀x,x∈m->x∈l)->iY t ft fe (g8 own ixs vs) (m.map e) β1=.ok ((m.filter g).map h) β1:=by
  intro m
  induction m with
  |nil=>intro _;rfl
  |cons x m ih=>
   intro hm
   obtain⟨vs1,e1,e2,e3⟩:=hh x (hm x (Ro ..))
   have ih:=ih λy hy=>hm y (Ru _ hy)
   rw[Sx]
   unfold iY
   rw[e1]
   dsimp only
   rw[e2]
   dsimp only[R.okb]
   cases q:g x with
   |true=>
    rw[Rg rfl,e3 q]
    dsimp only
    rw[ih,List.filter_cons_of_pos q];rfl
   |false=>
    rw[Rj RK,ih,List.filter_cons_of_neg (by rw[q];exact RK)]
 rw[key l λ_ h=>h];rfl
theorem lH {t:Tg}{m:SF}(Pv:Nat->En->Int->Prop):∀{ds:List D} {k:Nat} {env:En} {β:Int},Pv k env β->
  (∀i d env β,ds[i]? =some d->Pv (k + i) env β->∃env1,jg t d env=some env1/\∃env2 β2,m env1 β=.nx env2 β2/\Pv (k + i + 1) env2 β2)->∃env' β',mV t m ds env β=.nx env' β'/\Pv (k + ds.length) env' β'
 | [],k,env,β,h0,_=>⟨env,β,rfl,h0⟩
 |d :: ds,k,env,β,h0,hs=>by
  obtain⟨env1,e1,env2,β2,e2,h1⟩:=hs 0 d env β rfl h0
  obtain⟨env',β',e3,h2⟩:=lH Pv (t:=t) (m:=m) (ds:=ds) (k:=k + 1) h1 λi d' en be hi hp=>by
   have:=hs (i + 1) d' en be (by simpa using hi) (by rw[show k + (i + 1)=k + 1 + i by omega];exact hp)
   rw[show k + (i + 1) + 1=k + 1 + i + 1 by omega] at this
   exact this
  refine⟨env',β',?_,by rw[RL,show k + (ds.length + 1)=k + 1 + ds.length by omega];exact h2⟩
  unfold mV
  rw[e1]
  dsimp only
  rw[e2]
  exact e3
theorem jX {L:@Ix}{t:VF Bool}{m:SF}(Pv:Nat->En->Int->Prop)(Dn:En->Int->Prop):∀{n k:Nat} {env:En} {β:Int},k < n->Pv k env β->
  (∀k env β,Pv k env β->∃c β1,t @PP β=.ok c β1/\((c=false/\Dn (a8 L env) β1)\/(c=true/\∃env2 β2 k',m (a8 L env) β1=.nx env2 β2/\k' < k/\Pv k' env2 β2)))->∃env' β',i4 L t m n env β=.nx env' β'/\Dn env' β'
 | 0,k,env,β,hk,_,_=>@AT
 |n + 1,k,env,β,hk,h0,hs=>by
  obtain⟨c,β1,e1,hc⟩:=hs k env β h0
  unfold i4
  rw[e1]
  dsimp only[toS]
  rcases hc with⟨rfl,hd⟩ | ⟨rfl,env2,β2,k',e2,hl,h1⟩
  ·exact⟨_,_,rfl,hd⟩
  ·rw[Rg rfl,e2]
   exact jX Pv Dn (n:=n) (k:=k') (@AT) h1 hs
end L2
namespace RM
open PySem L2
def sx:SF:=(bS (g7 (f1 (gv 0) (la "int")) (f1 (f1 (gv 0) (la "bool")) Gi)))
def sE (cL:@Cl):SF:=(bS (g7 (aq cL @K_) (gy @FM (gv 0) (gv 1) Bz qG)))
def vY (cL:@Cl):SF:=(bS (g7 (aq cL @K_) (gy @Fa (gv 0) (cst (.int 8)) Bz Bz)))
def vq (bJ:@Cl):SF:=(aJ (lx ([] ++ @GT) (pN (pC (i3 (f1 (gv 0) (la "tuple")))) (eO (f2 (f1 (gv 0) cJ) (cst (.int 2)) (gq true))))
 (bS (cst (.bool false)))
 m8)
 (bS (g7 (aq bJ (aa @R_ (aa (gv 1) ao))) (aq bJ (aa (f2 (gv 0) @Fa bB) (aa (gv 1) ao))))))
def jD:SF:=(kc (aN 1 [0] (.nm 0) (fx (f2 (gv 0) (gv 0) dR)) i7 (cq (aa (f2 (gv 0) (gv 1) LA) (aa (f2 (gv 0) (gv 1) mX) ao)))))
def tR:SF:=(bS (f1 (aN 2 [] (.two 0 1) (bH (gv 0)) i7 (f2 (gv 0) (gv 1) (gq false))) (bY λbs=>bs.any id)))
def jP (jF jK lC hJ:@Cl):SF:=(aJ (lx ([] ++ @GT) (pN (pC (i3 (f1 (gv 0) (la "tuple")))) (eO (f2 (f1 (gv 0) cJ) (cst (.int 2)) (gq true))))
 (bS (cst (.bool false)))
 m8)
 (aJ (b9 1 @GT @R_)
 (aJ (b9 2 @GT (f2 (gv 0) @Fa bB))
 (aJ (lx (([1] ++ []) ++ []) (pN (pC (i3 (aq jF (aa (gv 1) ao)))) (pC (i3 (f1 (gv 2) (la "tuple")))))
 (bS (cst (.bool false)))
 m8)
 (aJ (lx ([] ++ [1]) (pC (i3 (f1 (aN 1 [1] (.nm 0) (bH (gv 2)) i7 (aq jK @Fk)) (bY λbs=>bs.all id))))
 (bS (cst (.bool false)))
 m8)
 (bS (g7 (f2 (gv 2) (aq lC (aa (gv 1) (aa (gv 2) ao))) (gq false)) (f1 (aq hJ (aa (gv 2) ao)) Gi))))))))
def qP:SF:=(bS (g7 (f2 (gv 1) (gv 2) (gq true)) (g7 (f2 (cq (aa (gv 1) (aa (gv 2) ao))) (f2 (gv 0) @Fa bB) (oN true)) (f2 (cq (aa (gv 2) (aa (gv 1) ao))) (f2 (gv 0) @Fa bB) (oN true)))))
def rV (aK aV gf:@Cl):SF:=(aJ (dY ([0] ++ []) (aq aK @K_))
 (kc (aN 2 [0] (.two 0 1) (bH (aq aV (aa @R_ ao))) (i3 (aq gf (aa (gv 2) @Fk))) (cq @Fk))))
def mn:SF:=(aJ (b9 3 @GT (f2 (gv 0) @Fa bB))
 (aJ (lx ([] ++ [2]) (pC (i3 (f1 (aN 2 [1,2,3] (.two 0 1) (bH (gv 3)) (eO (f2 (gv 1) (gv 2) (gq false))) (f2 (cq (aa (gv 0) (aa (gv 3) ao))) (gv 4) (oN false))) (bY λbs=>bs.all id))))
 (bS (cst (.bool false)))
 m8)
 (bS (f1 (aN 2 [2,1,3] (.two 0 1) (bH (gv 3)) (eO (f2 (gv 0) (gv 2) (gq false))) (f2 (cq (aa (gv 3) (aa (gv 1) ao))) (gv 4) (oN false))) (bY λbs=>bs.all id)))))
def oA (nY h9:@Cl):SF:=(kc (aN 2 [0] (.two 0 1) (bH (aq nY @K_)) (i3 (aq h9 (aa (gv 2) @Fk))) (cq @Fk)))
def Ou:D->Bool
 | .int _=>true
 |_=>false
def nA:@Cl
 | [d]=>if fA d=true then .bad else .ok (.bool (Ou d)) false
 |_=>.bad
def w8 {d:D}(h:fA d=false):nA [d]=.ok (.bool (Ou d)) false:=Rj (by rw[h];exact RK)
def HV (ds:List D)(h:nA ds≠.bad):aS 1 1 sx ds=nA ds:=by
 unfold nA at h
 split at h
 ·rename_i d
  cases q:fA d with
  |true=>rw[q] at h;exact absurd rfl h
  |false=>
   rw[w8 q]
   have e1:la "int" d=some (.bool (E5 d "int")):=by unfold la;rw[q];rfl
   have e2:la "bool" d=some (.bool (E5 d "bool")):=by unfold la;rw[q];rfl
   show fin (bS (g7 (f1 (gv 0) (la "int")) (f1 (f1 (gv 0) (la "bool")) Gi)) [.fz d] 0)=_
   unfold bS g7 f1 gv
   simp only[xq,AG,zQ,List.getElem?_cons_zero,Ae,xO,tI,e1,e2]
   cases d <;> rfl
 ·exact absurd rfl h
def kX (d:D)(n:Int):Bool:=match d with
 | .int i=>decide (0<=i/\i < n)
 |_=>false
def fN:@Cl
 | [d,.int n]=>if fA d=true then .bad else .ok (.bool (kX d n)) false
 |_=>.bad
def xJ {d:D}{n:Int}(h:fA d=false):fN [d,.int n]=.ok (.bool (kX d n)) false:=Rj (by rw[h];exact RK)
def yJ {i lo n:Int}{vs:List Nv}{β:Int}{fa fb fc:VF D}{g':D->@Pi}{q:Bool}(ha:@Tm=.ok (.int lo) β)(hb:fb vs β=.ok (.int i) β)(hc:fc vs β=.ok @Re β)(hq:g' (.int i) @Re=some (.bool q)):gy fa fb fc Bz g' vs β=.ok (.bool (decide (lo<=i) && q)) β:=by
 unfold gy
 rw[ha];dsimp only[R.bnd];rw[hb];dsimp only[R.bnd]
 show (match (some (PyData.bool (decide (lo<=i))):Option D) with
  |some (.bool true)=>_
  |some (.bool false)=>_
  |_=>_)=_
 by_cases h:lo<=i
 ·rw[Rk h]
  dsimp only
  rw[hc]
  dsimp only[R.bnd]
  rw[hq];rfl
 ·rw[Rt h];rfl
def JI (ds:List D)(h:fN ds≠.bad):aS 2 2 (sE nA) ds=fN ds:=by
 unfold fN at h
 split at h
 ·rename_i d n
  cases q:fA d with
  |true=>rw[q] at h;exact absurd rfl h
  |false=>
   rw[xJ q]
   show fin (bS (g7 (aq nA @K_) (gy @FM (gv 0) (gv 1) Bz qG)) [.fz d,.fz @Re] 0)=_
   unfold bS g7 aq
   simp only[xq,AG,zQ,cM,Cd,JK,List.getElem?_cons_zero,Ae,xO,tI,w8 q]
   cases d with
   |int i=>
    show fin (toS (gy @FM (gv 0) (gv 1) Bz qG [.da (.int i),.da @Re] 0) _)=_
    rw[yJ (lo:=0) (i:=i) (n:=n) rfl rfl rfl rfl]
    show FR.ok (.bool (decide (0<=i) && decide (i < n))) false=.ok (.bool (decide (0<=i/\i < n))) false
    rw[Bool.decide_and]
   |_=>rfl
 ·exact absurd rfl h
def JV (d:D):Bool:=match d with
 | .int i=>decide (1<=i/\i<=8)
 |_=>false
def oG:@Cl
 | [d]=>if fA d=true then .bad else .ok (.bool (JV d)) false
 |_=>.bad
def Eh {d:D}(h:fA d=false):oG [d]=.ok (.bool (JV d)) false:=Rj (by rw[h];exact RK)
def Lj (ds:List D)(h:oG ds≠.bad):aS 1 1 (vY nA) ds=oG ds:=by
 unfold oG at h
 split at h
 ·rename_i d
  cases q:fA d with
  |true=>rw[q] at h;exact absurd rfl h
  |false=>
   rw[Eh q]
   show fin (bS (g7 (aq nA @K_) (gy @Fa (gv 0) (cst (.int 8)) Bz Bz)) [.fz d] 0)=_
   unfold bS g7 aq
   simp only[xq,AG,zQ,cM,Cd,JK,List.getElem?_cons_zero,Ae,xO,tI,w8 q]
   cases d with
   |int i=>
    show fin (toS (gy @Fa (gv 0) (cst (.int 8)) Bz Bz [.da (.int i)] 0) _)=_
    rw[yJ (lo:=1) (i:=i) (n:=8) rfl rfl rfl rfl]
    show FR.ok (.bool (decide (1<=i) && decide (i<=8))) false=.ok (.bool (decide (1<=i/\i<=8))) false
    rw[Bool.decide_and]
   |_=>rfl
 ·exact absurd rfl h
def pairF:@Cl
 | [d,.int n]=>(match tJ d with
  |some p=>.ok (.bool (decide ((0<=p.1/\p.1 < n)/\(0<=p.2/\p.2 < n)))) false
  |none=>.bad)
 |_=>.bad
def Ff (p:Pr)(n:Int):pairF [aA p,.int n]=.ok (.bool (decide ((0<=p.1/\p.1 < n)/\(0<=p.2/\p.2 < n)))) false:=rfl
def Lg (ds:List D)(h:pairF ds≠.bad):aS 2 2 (vq fN) ds=pairF ds:=by
 unfold pairF at h
 split at h
 ·rename_i d n
  cases q:tJ d with
  |none=>rw[q] at h;exact absurd rfl h
  |some p=>
   obtain rfl:=yH q
   rw[Ff]
   obtain⟨a,b⟩:=p
   show fin (toS (g7 (aq fN (aa @R_ (aa (gv 1) ao))) (aq fN (aa (f2 (gv 0) @Fa bB) (aa (gv 1) ao))) [.da (.tuple [.int a,.int b]),.da @Re] 0) λd β'=>.rt d false β')=_
   have e1:aq fN (aa @R_ (aa (gv 1) ao)) [.da (.tuple [.int a,.int b]),.da @Re] 0=.ok (.bool (decide (0<=a/\a < n))) 0:=rfl
   have e2:aq fN (aa (f2 (gv 0) @Fa bB) (aa (gv 1) ao)) [.da (.tuple [.int a,.int b]),.da @Re] 0=.ok (.bool (decide (0<=b/\b < n))) 0:=rfl
   unfold g7
   rw[e1]
   dsimp only[R.bnd]
   by_cases c:0<=a/\a < n
   ·rw[Rk c,e2]
    show FR.ok (.bool (decide (0<=b/\b < n))) false=.ok (.bool (decide ((0<=a/\a < n)/\(0<=b/\b < n)))) false
    simp[c]
   ·rw[Rt c]
    show FR.ok (.bool false) false=.ok (.bool (decide ((0<=a/\a < n)/\(0<=b/\b < n)))) false
    simp[c]
 ·exact absurd rfl h
def ag (n:Nat)(l:@A_):D:=.tuple [.int n,@S_]
open Classical in
noncomputable def vD (f:Nat->@A_->FR):D->FR:=λd=>if h:∃nl:Nat×@A_,d=ag nl.1 nl.2/\OM.Ord nl.1 nl.2 then f (Classical.choose h).1 (Classical.choose h).2 else .bad
def JF {p q:Pr}(h:aA p=aA q):p=q:=by
 obtain⟨a,b⟩:=p
 obtain⟨c,d⟩:=q
 unfold aA at h
 simp at h
 rw[h.1,h.2]
theorem qM:∀{l m:@A_},l.map aA=m.map aA->l=m
 | [],[],_=>rfl
 | [],_ :: _,h=>by cases h
 |_ :: _,[],h=>by cases h
 |p :: l,q :: m,h=>by
  simp only[Sx,List.cons.injEq] at h
  rw[JF h.1,qM h.2]
def GK {n m:Nat}{l k:@A_}(h:ag n l=ag m k):n=m/\l=k:=by
 unfold ag at h
 simp only[PyData.tuple.injEq,List.cons.injEq,int.injEq,and_true] at h
 exact⟨@AT,qM h.2⟩
def yU {f:Nat->@A_->FR}{n:Nat}{l:@A_}(O:@KK):vD f (ag n l)=f n l:=by
 unfold vD
 have h:∃nl:Nat×@A_,ag n l=ag nl.1 nl.2/\OM.Ord nl.1 nl.2:=⟨(n,l),rfl,O⟩
 rw[dif_pos h]
 obtain⟨e,_⟩:=Classical.choose_spec h
 obtain⟨e1,e2⟩:=GK e
 rw[<-e1,<-e2]
def yS {f:Nat->@A_->FR}{d:D}(h:vD f d≠.bad):∃n l,d=ag n l/\@KK:=by
 unfold vD at h
 by_cases q:∃nl:Nat×@A_,d=ag nl.1 nl.2/\OM.Ord nl.1 nl.2
 ·obtain⟨nl,e,O⟩:=q;exact⟨nl.1,nl.2,e,O⟩
 ·rw[dif_neg q] at h;exact absurd rfl h
noncomputable def fg:@Cl
 | [.int n,d]=>(match ni d with
  |some ds=>(match j0 ds with
   |some ps=>(open Classical in if 1<=n/\n<=8/\OM.Wn n.toNat ps then .ok (.tuple ((OM.jx n.toNat (OM.Tr (OM.Mem ps))).map aA)) false else .bad)
   |none=>.bad)
  |none=>.bad)
 |_=>.bad
def EG {n:Nat}{ps:@A_}(h1:1<=n)(h8:n<=8)(w:OM.Wn n ps):fg [.int n,.tuple (ps.map aA)]=.ok (.tuple ((OM.jx n (OM.Tr (OM.Mem ps))).map aA)) false:=by
 unfold fg
 simp only[ni,j4]
 rw[Rg ⟨@AT,@AT,by rw[RT];exact w⟩,RT]
def mR:@Cl
 | [.tuple ds]=>(match j0 ds with
  |some ps=>if ps.length<=1000 then .ok (.bool (ps.any λp=>decide (p.1=p.2))) false else .bad
  |none=>.bad)
 |_=>.bad
theorem gn {α:Type}(f:α->Bool):∀l:List α,ny (l.map λx=>PyData.bool (f x))=some (l.map f)
 | []=>rfl
 |x :: l=>by
  show (ny (l.map λx=>PyData.bool (f x))).map (f x :: ·)=_
  rw[gn f l];rfl
def Lo (ds:List D)(h:mR ds≠.bad):aS 1 1 tR ds=mR ds:=by
 unfold mR at h
 split at h
 ·rename_i ds
  cases q:j0 ds with
  |none=>rw[q] at h;exact absurd rfl h
  |some ps=>
   rw[q] at h
   dsimp only at h
   by_cases hz:ps.length<=1000
   case neg=>rw[Rj hz] at h;exact absurd rfl h
   obtain rfl:=nV q
   have e:mR [.tuple (ps.map aA)]=.ok (.bool (ps.any λp=>decide (p.1=p.2))) false:=by
    unfold mR;simp only[j4];rw[Rg hz]
   rw[e]
   have ec:aN 2 [] (.two 0 1) (bH (gv 0)) i7 (f2 (gv 0) (gv 1) (gq false)) [.da (.tuple (ps.map aA))] 0=.ok (.list (ps.map λp=>PyData.bool (decide (p.1=p.2)))) 0:=by
    exact bL (l:=ps) (e:=aA) (λp=>PyData.bool (decide (p.1=p.2))) rfl hz λp hp=>⟨_,rfl,rfl⟩
   show fin (toS ((aN 2 [] (.two 0 1) (bH (gv 0)) i7 (f2 (gv 0) (gv 1) (gq false)) [.da (.tuple (ps.map aA))] 0).bnd λx β1=>R.of (bY (λbs=>bs.any id) x) β1) λd β'=>.rt d false β')=_
   rw[ec]
   simp only[tI,bY]
   rw[gn]
   simp[fin,List.any_map]
 ·exact absurd rfl h
def qr (p:Pr):SeqAt.shaped (aA p)=true:=rfl
theorem Bi:∀l:@A_,PyData.canLayAll0 (l.map aA)=true
 | []=>rfl
 |p :: l=>by
  show ((aA p).canLay0 && PyData.canLayAll0 (l.map aA))=true
  rw[Bi l];rfl
theorem Cu:∀l:@A_,PyData.depthAll (l.map aA)<=1
 | []=>by show (0:Nat)<=1;omega
 |p :: l=>by
  show max (aA p).depth (PyData.depthAll (l.map aA))<=1
  have h1:(aA p).depth=1:=by simp[aA,PyData.depth,PyData.depthAll]
  have h2:=Cu l
  omega
def sg (l:@A_):SeqAt.shaped (@S_)=true:=by
 unfold SeqAt.shaped
 have h1:(PyData.tuple (l.map aA)).canLay0=true:=by simp only[PyData.canLay0];exact Bi l
 have h2:(PyData.tuple (l.map aA)).depth<=64:=by simp only[PyData.depth];have:=Cu l;omega
 rw[h1,Rk h2];rfl
def FW (p q:Pr):PyData.eqv (aA p) (aA q)=decide (p=q):=by
 obtain⟨a,b⟩:=p
 obtain⟨c,d⟩:=q
 simp only[aA,PyData.eqv,PyData.eqvAll,Bool.and_true]
 rw[Sf]
 simp
theorem Cq:∀l m:@A_,PyData.eqvAll (l.map aA) (m.map aA)=decide (l=m)
 | [],[]=>rfl
 | [],_ :: _=>rfl
 |_ :: _,[]=>rfl
 |p :: l,q :: m=>by
  show (PyData.eqv (aA p) (aA q) && PyData.eqvAll (l.map aA) (m.map aA))=_
  rw[FW,Cq l m,Sf]
  simp
def jk {n:Nat}{l:@A_}(O:@KK):l.length < 64:=by
 have h8:=O.hi
 have e:=O.closed
 by_cases h:l.length < 64
 ·exact h
 ·exfalso
  have h1:l.length<=n * n:=by rw[<-e];exact OM.GC _ _
  have h2:n * n<=64:=Ss h8 h8
  have hn:n=8:=by
   by_cases h7:n<=7
   ·have:n * n<=7 * 7:=Ss h7 h7
    omega
   ·omega
  have hlen:l.length=n * n:=by subst hn;omega
  have hg:l=OM.bw n:=by
   refine OM.sub_eq O.ris (OM.dD n) (λx hx=>OM.aY.mpr (O.wn x hx)) ?_
   rw[hlen];unfold OM.bw;simp
  have:((0:Int),(0:Int))∈l:=by rw[hg];exact OM.aY.mpr ⟨⟨@AT,@AT ⟩,@AT,@AT ⟩
  exact O.irr 0 this
def ET {n:Nat}(h1:1<=n)(h8:n<=8):oG [.int n]=.ok (.bool true) false:=by
 rw[Eh rfl]
 show FR.ok (.bool (decide (1<=(n:Int)/\(n:Int)<=8))) false=_
 rw[Rk (@AT)]
def yv (neg:Bool)(l m:@A_):gq neg (@S_) (.tuple (m.map aA))=some (.bool (if neg then !decide (l=m) else decide (l=m))):=by
 unfold gq
 rw[sg,sg]
 simp only[Bool.and_self,SK,PyData.eqv,Cq]
def HN {n:Nat}{l:@A_}(O:@KK):mR [@S_]=.ok (.bool false) false:=by
 have hl:=jk O
 unfold mR
 simp only[j4]
 rw[Rg (@AT)]
 have:(l.any λp=>decide (p.1=p.2))=false:=by
  rw[List.any_eq_false]
  intro p hp
  simp only[Rq]
  intro e
  obtain⟨a,b⟩:=p
  simp only at e
  subst e
  exact O.irr a hp
 rw[this]
def DD {n:Nat}{l:@A_}(O:@KK):aS 3 1 (jP oG pairF fg mR) [ag n l]=.ok (.bool true) false:=by
 have hl:=jk O
 show fin (jP oG pairF fg mR [@C_,.no,.no] 0)=_
 unfold jP
 rw[aH (env':=[@C_,.no,.no]) (β':=0) (by rfl)]
 rw[aH (env':=[@C_,.fz @Re,.no]) (β':=0) (by rfl)]
 rw[aH (env':=[@C_,.fz @Re,.fz (@S_)]) (β':=0) (by rfl)]
 have e4:aq oG (aa (gv 1) ao) [.da (ag n l),.da @Re,.da (@S_)] 0=.ok (.bool true) 0:=ak rfl (ET O.lo O.hi)
 rw[aH (env':=[@C_,.fz @Re,.fz (@S_)]) (β':=0) ?h4]
 case h4=>
  refine j7 ?_
  show pN (pC (i3 (aq oG (aa (gv 1) ao)))) _ [.da (ag n l),.da @Re,.da (@S_)] 0=_
  rw[rC,wc,zK,e4]
  rfl
 have e5:aN 1 [1] (.nm 0) (bH (gv 2)) i7 (aq pairF @Fk) [.da (ag n l),.da @Re,.da (@S_)] 0=.ok (.list (l.map λ_=>PyData.bool true)) 0:=by
  refine bL (l:=l) (e:=aA) (λ_=>PyData.bool true) rfl (@AT) λp hp=>⟨_,rfl,?_⟩
  refine ak (b:=false) (ds:=[aA p,.int n]) rfl ?_
  rw[Ff,Rk (by have:=O.wn p hp;exact this)]
 rw[aH (env':=[@C_,.fz @Re,.fz (@S_)]) (β':=0) ?h5]
 case h5=>
  refine j7 ?_
  show pC (i3 (f1 (aN 1 [1] (.nm 0) (bH (gv 2)) i7 (aq pairF @Fk)) (bY λbs=>bs.all id))) [.da (ag n l),.da @Re,.da (@S_)] 0=_
  rw[wc,zK,cQ (d:=.bool true) e5 (by simp only[bY];rw[gn];simp)]
  rfl
 have e6:aq fg (aa (gv 1) (aa (gv 2) ao)) [.da (ag n l),.da @Re,.da (@S_)] 0=.ok (@S_) 0:=ak rfl (by rw[EG O.lo O.hi O.wn,O.closed])
 have e7:aq mR (aa (gv 2) ao) [.da (ag n l),.da @Re,.da (@S_)] 0=.ok (.bool false) 0:=ak rfl (HN O)
 show fin (toS (g7 (f2 (gv 2) (aq fg (aa (gv 1) (aa (gv 2) ao))) (gq false)) (f1 (aq mR (aa (gv 2) ao)) Gi) [.da (ag n l),.da @Re,.da (@S_)] 0) _)=_
 unfold g7
 rw[aG (d:=.bool true) (x:=@S_) rfl e6 (by rw[yv];simp)]
 dsimp only[R.bnd]
 rw[cQ (d:=.bool true) e7 rfl]
 rfl
noncomputable def jT:@Cl
 | [d]=>vD (λ_ _=>.ok (.bool true) false) d
 |_=>.bad
def vc {n:Nat}{l:@A_}(O:@KK):jT [ag n l]=.ok (.bool true) false:=by simp only[jT];exact yU O
def As (ds:List D)(h:jT ds≠.bad):aS 3 1 (jP oG pairF fg mR) ds=jT ds:=by
 unfold jT at h
 split at h
 ·obtain⟨n,l,rfl,O⟩:=yS h
  rw[DD O,vc O]
 ·exact absurd rfl h
noncomputable def iW:@Cl
 | [d]=>vD (λ_ _=>.ok .none false) d
 |_=>.bad
def oW {n:Nat}{l:@A_}(O:@KK):iW [ag n l]=.ok .none false:=by simp only[iW];exact yU O
abbrev eh (ns:@Db):D:=.dict [(.none,.list (ns.map int))]
def sC {i j:Int}(h: -(2 ^ 64) < i/\i < 2 ^ 64):dR (.int i) (.int j)=some (.int (i * j)):=Rg (by dsimp only;rw[Rk h.1,Rk h.2];rfl)
def FQ {i j:Int}(h: -(2 ^ 64) < j/\j < 2 ^ 64):dR (.int i) (.int j)=some (.int (i * j)):=Rg (by dsimp only;rw[Rk h.1,Rk h.2,Bool.and_self,Bool.or_true])
def qj {i j:Int}(h:0 < j):mX (.int i) (.int j)=some (.int (i % j)):=Rg (Rk h)
def JM {i j:Int}(h:0 < j)(h2:j < 1073741824):LA (.int i) (.int j)=some (.int (i / j)):=Rg (by dsimp only;rw[Rk h,Rk h2];rfl)
theorem oq {α β:Type}(f:α->β)(l:List α)(i:Int):m9 (l.map f) i=(m9 l i).map f:=by
 unfold m9
 rw[Rb]
 cases xR l.length i with
 |none=>rfl
 |some j=>simp
def FP {α:Type}{l:List α}{k:Nat}(h:k < l.length):m9 l (k:Int)=some l[k]:=kM (Rf h)
def Gv {fa fb:VF D}{vs:List Nv}{β β1 β2:Int}{i j:Int}(h:@Tm=.ok (.int i) β1)(h':fb vs β1=.ok (.int j) β2):eO (f2 fa fb qG) vs β=.ok (decide (i < j)) β2:=gC _ _ _ _ (aG h h' rfl)
def ju {neg:Bool}{fa fb:VF D}{vs:List Nv}{β β1 β2:Int}{i j:Int}(h:@Tm=.ok (.int i) β1)(h':fb vs β1=.ok (.int j) β2):eO (f2 fa fb (gq neg)) vs β=.ok (if neg then !decide (i=j) else decide (i=j)) β2:=by
 refine gC _ _ _ _ (aG h h' ?_)
 cases neg <;> rfl
theorem lay_ints:∀ns:@Db,PyData.canLayAll0 (ns.map int)=true
 | []=>rfl
 |n :: ns=>by
  show ((int n).canLay0 && PyData.canLayAll0 (ns.map int))=true
  rw[lay_ints ns];rfl
theorem yP:∀ns:@Db,PyData.depthAll (ns.map int)=0
 | []=>rfl
 |n :: ns=>by
  show max (int n).depth (PyData.depthAll (ns.map int))=0
  rw[yP ns];rfl
def shaped_ints (ns:@Db):SeqAt.shaped (.list (ns.map int))=true:=by
 unfold SeqAt.shaped
 have h1:(PyData.list (ns.map int)).canLay0=true:=by simp only[PyData.canLay0];exact lay_ints ns
 have h2:(PyData.list (ns.map int)).depth<=64:=by simp only[PyData.depth];rw[yP];omega
 rw[h1,Rk h2];rfl
theorem yE:∀l m:@Db,PyData.eqvAll (l.map int) (m.map int)=decide (l=m)
 | [],[]=>rfl
 | [],_ :: _=>rfl
 |_ :: _,[]=>rfl
 |p :: l,q :: m=>by
  show ((p == q) && PyData.eqvAll (l.map int) (m.map int))=_
  rw[yE l m,Sf]
  simp
def Gz (neg:Bool)(l m:@Db):gq neg (.list (l.map int)) (.list (m.map int))=some (.bool (if neg then !decide (l=m) else decide (l=m))):=by
 unfold gq
 rw[shaped_ints,shaped_ints]
 simp only[Bool.and_self,SK,PyData.eqv,yE]
theorem sY {α:Type}:∀{l:List α} {k:Nat} {x:α},l[k]? =some x->(x :: l.eraseIdx k).Perm l
 | [],_,_,h=>by simp at h
 |y :: l,0,x,h=>by simp at h;subst h;exact List.Perm.refl _
 |y :: l,k + 1,x,h=>by
  have h:l[k]? =some x:=by simpa using h
  have ih:=sY h
  show (x :: y :: l.eraseIdx k).Perm (y :: l)
  exact (List.Perm.swap y x _).trans (ih.cons y)
theorem vV {α β:Type}(f:α->β):∀(l:List α) (k:Nat),(l.map f).eraseIdx k=(l.eraseIdx k).map f
 | [],_=>rfl
 |_ :: _,0=>rfl
 |x :: l,k + 1=>by simp[vV f l k]
def B0 {n:Nat}{l:@A_}(h1:1<=n)(h8:n<=8)(w:OM.Wn n l)(nd:l.Nodup)(irr:∀a,(a,a)∉l):l.length < 64:=by
 have:=OM.zX (l:=(0,0) :: l) (m:=OM.bw n) (R5.mpr ⟨irr 0,nd⟩) (λx hx=>by
  rcases Rm.mp hx with e |e
  ·subst e;exact OM.aY.mpr ⟨⟨@KM,by simp;omega⟩,@KM,by simp;omega⟩
  ·exact OM.aY.mpr (w x e))
 have hg:(OM.bw n).length=n * n:=by unfold OM.bw;simp
 have hn:n * n<=64:=Ss h8 h8
 rw[hg,RL] at this
 omega
def MD {n:Nat}{l:@A_}(h8:n<=8)(w:OM.Wn n l):l.all Od=true:=by
 rw[RH]
 intro p hp
 have:=w p hp
 unfold Od
 rw[Rk this.1.1,Rk (@AT:p.1 < 8),Rk this.2.1,Rk (@AT:p.2 < 8)];rfl
def mw {a b:List D}(h:a.length + b.length<=10000):jq (.list a) (.list b)=some (.list (a ++ b)):=Rg (by rw[R7];omega)
def bD (n:Nat):@Db:=(List.range n).map λ(k:Nat)=>(k:Int)
def b7 (n:Nat):(bD n).length=n:=by unfold bD;simp
def az {n:Nat}{x:Int}:x∈bD n↔0<=x/\x < n:=by
 unfold bD
 rw[Rz]
 constructor
 ·rintro⟨k,hk,rfl⟩
  have:=RW.mp hk
  omega
 ·intro h
  exact⟨x.toNat,RW.mpr (@AT),@AT ⟩
def fR (n:Nat):(bD n).Nodup:=by
 unfold bD
 rw[TB,TH]
 exact (TB.mp List.nodup_range).imp λ{a b} h e=>h (@AT)
def lB (n:Nat):g9 0 n=(bD n).map int:=by
 unfold g9 bD
 rw[Sz]
 refine SH λk _=>?_
 show int (0 + (k:Int))=_
 rw[Tv];rfl
theorem pQ {lo:Int}{n i:Nat}{d:D}(h:(g9 lo n)[i]? =some d):i < n/\d=.int (lo + i):=by
 unfold g9 at h
 rw[RA] at h
 cases q:(List.range n)[i]? with
 |none=>rw[q] at h;cases h
 |some j=>
  rw[q] at h
  cases h
  obtain⟨hi,ej⟩:=Rn.mp q
  rw[R4] at hi
  rw[List.getElem_range] at ej
  subst ej
  exact⟨hi,rfl⟩
def yn {n:Nat}(h:n<=1000):iR @Re=some (.list ((bD n).map int)):=by
 unfold iR
 dsimp only
 rw[Rg ⟨@AT,@AT ⟩,RT,lB]
def fy {fa:VF D}{vs:List Nv}{β β1:Int}{n:Nat}(h:@Tm=.ok @Re β1)(hn:n<=1000):fx fa vs β=.ok (g9 0 n) β1:=by
 unfold fx
 rw[h]
 simp only[tI]
 rw[Rg (Dq (@AT) (@AT)),RT]
def jU {t:Tg}{L:@Ix}{fi:@Tk}{m:SF}{env:En}{β β1:Int}{ds:List D}(h:fi @PP β=.ok ds β1):mS t L fi m env β=mV t m ds (a8 L env) β1:=by unfold mS;rw[h];rfl
def sO {m:Nat}(h:1<=m)(h2:m<=1000)(β:Int):∃j:Nat,j < m/\gN [.int m] β=.ok (.int (j:Int)) false (β / m):=by
 refine⟨(β % m).toNat,?_,?_⟩
 ·have h0:=Tx β (b:=(m:Int)) (@AT)
  have h3:=Tt β (b:=(m:Int)) (@AT)
  omega
 ·rw[wA (@AT) (@AT)]
  have h0:=Tx β (b:=(m:Int)) (@AT)
  rw[show ((β % m).toNat:Int)=β % m by omega]
theorem xB (p:Pr):∀l:@A_,((l.map aA).any λe=>PyData.eqv e (aA p))=decide (p∈l)
 | []=>rfl
 |q :: l=>by
  rw[Sx,Ta,xB p l,FW,Sf]
  simp only[SV,Rq,Rm]
  exact⟨λh=>h.imp Eq.symm id,λh=>h.imp Eq.symm id⟩
def BI (l:@A_):(l.map aA).all SeqAt.shaped=true:=by
 rw[RH]
 intro d hd
 obtain⟨p,_,rfl⟩:=Rz.mp hd
 exact qr p
def oi (neg:Bool)(p:Pr)(l:@A_):oN neg (aA p) (@S_)=some (.bool (if neg then !decide (p∈l) else decide (p∈l))):=by
 unfold oN
 simp only[ni,qr,BI,Bool.and_self,SK,xB]
def Hb (neg:Bool)(p:Pr)(l:@A_):oN neg (aA p) (.list (l.map aA))=some (.bool (if neg then !decide (p∈l) else decide (p∈l))):=by
 unfold oN
 simp only[ni,qr,BI,Bool.and_self,SK,xB]
def nW (neg:Bool)(i j:Int):gq neg (.int i) (.int j)=some (.bool (if neg then !decide (i=j) else decide (i=j))):=rfl
theorem Bb {fa fb:VF D}{vs:List Nv}{β:Int}{a b:Bool}(h:@Tm=.ok (.bool a) β)(h':fb vs β=.ok (.bool b) β):g7 fa fb vs β=.ok (.bool (a && b)) β:=by
 unfold g7
 rw[h]
 dsimp only[R.bnd]
 cases a with
 |true=>exact h'
 |false=>rfl
def cX {fa fb:VF D}{vs:List Nv}{β:Int}{a b:Int}(h:@Tm=.ok (.int a) β)(h':fb vs β=.ok (.int b) β):cq (aa fa (aa fb ao)) vs β=.ok (aA (a,b)) β:=by
 refine iM (ds:=[.int a,.int b]) ?_ (@KM)
 rw[cM,h]
 dsimp only[R.bnd]
 rw[cM,h'];rfl
def GO (l:@A_)(p:Pr):Bool:= !decide (p.1=p.2) && (!decide ((p.1,p.2)∈l) && !decide ((p.2,p.1)∈l))
def N2 {n:Nat}{l:@A_}{fa:VF D}{vs:List Nv}{β:Int}(h:@Tm=.ok (ag n l) β):f2 fa @Fa bB vs β=.ok (@S_) β:=aG h rfl rfl
def MQ {n:Nat}{l:@A_}{fa:VF D}{vs:List Nv}{β:Int}(h:@Tm=.ok (ag n l) β):f2 fa @FM bB vs β=.ok @Re β:=aG h rfl rfl
def Ox:@Cl:=aS 3 3 qP
def Qu (n:Nat)(l:@A_)(a b:Int):Ox [ag n l,.int a,.int b]=.ok (.bool (GO l (a,b))) false:=by
 show fin (toS (g7 (f2 (gv 1) (gv 2) (gq true)) (g7 (f2 (cq (aa (gv 1) (aa (gv 2) ao))) (f2 (gv 0) @Fa bB) (oN true)) (f2 (cq (aa (gv 2) (aa (gv 1) ao))) (f2 (gv 0) @Fa bB) (oN true))) [.da (ag n l),.da (.int a),.da (.int b)] 0) _)=_
 rw[Bb (aG (x:=.int a) (y:=.int b) rfl rfl (nW true a b)) (Bb (aG (cX (a:=a) (b:=b) rfl rfl) (N2 (n:=n) (l:=l) rfl) (oi true (a,b) l)) (aG (cX (a:=b) (b:=a) rfl rfl) (N2 (n:=n) (l:=l) rfl) (oi true (b,a) l)))]
 rfl
def eB:@Cl:=aS 1 1 jD
def rF {n:Nat}(h1:1<=n)(h8:n<=8):eB [.int n]=.ok (.list ((OM.bw n).map aA)) true:=by
 have hm:n * n<=64:=Ss h8 h8
 have e:aN 1 [0] (.nm 0) (fx (f2 (gv 0) (gv 0) dR)) i7 (cq (aa (f2 (gv 0) (gv 1) LA) (aa (f2 (gv 0) (gv 1) mX) ao))) [.da @Re] 0=.ok (.list ((OM.bw n).map aA)) 0:=by
  have hi:fx (f2 (gv 0) (gv 0) dR) [.da @Re] 0=.ok ((List.range (n * n)).map λ(k:Nat)=>int (0 + (k:Int))) 0:=by
   refine fy (n:=n * n) (aG (x:=.int n) (y:=.int n) rfl rfl ?_) (@AT)
   rw[sC ⟨@AT,@AT ⟩];rfl
  rw[bL (l:=List.range (n * n)) (e:=λ(k:Nat)=>int (0 + (k:Int))) (λk=>aA (((k / n:Nat):Int),((k % n:Nat):Int))) hi (by rw[R4];omega) λk hk=>⟨_,rfl,?_⟩]
  ·unfold OM.bw;rw[Sz];rfl
  ·refine cX (aG (x:=.int (0 + (k:Int))) (y:=.int n) rfl rfl ?_) (aG (x:=.int (0 + (k:Int))) (y:=.int n) rfl rfl ?_)
   ·rw[JM (@AT) (@AT),Tv];rfl
   ·rw[qj (@AT),Tv];rfl
 show fin (jD [.fz @Re] 0)=_
 unfold jD
 rw[ub,show vl [Sl.fz @Re]= [.da @Re] from rfl,e];rfl
def oB (n:Nat)(l:@A_):@A_:=(OM.bw n).filter (GO l)
def dC (n:Nat):(OM.bw n).length=n * n:=by unfold OM.bw;simp
def HP {n:Nat}{l:@A_}(h8:n<=8):(oB n l).length<=64:=by
 have h1:(oB n l).length<=(OM.bw n).length:=Se _ _
 rw[dC] at h1
 have:n * n<=64:=Ss h8 h8
 omega
def cH {n:Nat}{l:@A_}{p:Pr}:p∈oB n l↔((0<=p.1/\p.1 < n)/\(0<=p.2/\p.2 < n))/\GO l p=true:=by
 unfold oB;rw[Rl,OM.aY]
noncomputable def sP:@Cl:=aS 1 1 (rV iW eB Ox)
def eS {fa:VF D}{vs:List Nv}{β:Int}{c:Bool}(h:@Tm=.ok (.bool c) β):i3 fa vs β=.ok c β:=by rw[zK,h];rfl
def Ij {n:Nat}{l:@A_}(O:@KK):sP [ag n l]=.ok (.list ((oB n l).map aA)) true:=by
 have hm:n * n<=64:=Ss O.hi O.hi
 show fin (rV iW eB Ox [@C_] 0)=_
 unfold rV
 rw[aH (env':=[@C_]) (β':=0) ?g1]
 case g1=>
  show toS (aq iW @K_ [.da (ag n l)] 0) _=_
  rw[ak (ds:=[ag n l]) rfl (oW O)];rfl
 have e:aN 2 [0] (.two 0 1) (bH (aq eB (aa @R_ ao))) (i3 (aq Ox (aa (gv 2) @Fk))) (cq @Fk) [.da (ag n l)] 0=.ok (.list ((oB n l).map aA)) 0:=by
  have hi:bH (aq eB (aa @R_ ao)) [.da (ag n l)] 0=.ok ((OM.bw n).map aA) 0:=by
   unfold bH
   rw[ak (ds:=[.int n]) rfl (rF O.lo O.hi)];rfl
  exact cm (l:=OM.bw n) (e:=aA) (GO l) aA hi (by rw[dC];omega) λp hp=>⟨_,rfl,eS (ak (ds:=[ag n l,.int p.1,.int p.2]) rfl (Qu n l p.1 p.2)),λ_=>cX rfl rfl⟩
 show fin (toS (aN 2 [0] (.two 0 1) (bH (aq eB (aa @R_ ao))) (i3 (aq Ox (aa (gv 2) @Fk))) (cq @Fk) [.da (ag n l)] 0) _)=_
 rw[e];rfl
end RM
namespace L2
open PySem PySem.Spec PyProof.Rows
section
variable {X:Cx}{pins:@Do}{σ:St}{H:Hp}{s:Shared}
def Inv.turnedL {t':Nat}{ch:List Addr}{h':Heap}(I:@B_)(k:∀b o,b∉ch->s.heap.get? b=some o->h'.get? b=some o)(hf:∀b∈ch,lg X pins H b):Inv X pins σ H {s with heap:=h',toks:=t'}:=by
 have nit:∀b u,H b=some u->b∉ch:=λb u e z=>by rw[(hf b z).1] at e;cases e
 have nL:X.env.locals∉ch:=λz=>(hf _ z).2.1 rfl
 refine I.step (g':=s.gens) (d':=s.drawn) (ch:=ch) (λb hb=>?_) (λb o _ _ hc e _=>k b o hc e) (λb o _ _ hc e _=>⟨o.slots,k b o hc e⟩) (λ_ _ _ _ n=>n)
  (λb o hc e=>⟨o,k b o hc e⟩) (λ_ _ e=>e) (λ_ _ _ e=>e) (λb ps e=>⟨#[],by rw[e];simp⟩) (λm hm=>?_) (λb u e=>?_) I.bare
 ·obtain⟨f0,f1,f2,f3,f4,f5⟩:=hf b hb
  exact⟨f3,f1,f4,f5⟩
 ·obtain⟨o,es,ep,ho,r⟩:=hm
  exact⟨o,es,ep,k _ o nL ho,r⟩
 ·refine (I.hok b u e).stay (λc v hc q=>k c v ?_ q) (λ_ q=>q) λ_ _ q=>q
  rcases hc with z |z
  ·rw[z];exact nit b u e
  ·exact nit c _ z
end
def MP {n:Nat}(i j:Nat)(h:(i == j)=false):(n + i:Nat)≠n + j:=by
 have:i≠j:=by simpa using h
 omega
section
variable {X:Cx}{Γ:Fx}{E:XK}{e a b c:Expr}{f fa fb:VF D}{L La Lb:@Ix}{md ma mb:Md}{pos:Pos}
def yy (i j:Nat)(La Lb:@Ix)(fa fb:VF D):SF:=λenv β=>toS (fa @PP β) λd1 β1=>toS (fb @PP β1) λd2 β2=>.nx (((a8 (La ++ Lb) env).set i (.fz d1)).set j (.fz d2)) β2
def Bp {i j:Nat}{x y:Str}{px py pt:Pos}{kt k2 pt2}(hN:X.N.Nodup)(hij:i≠j)(ha:SE X Γ E a fa La .v)(hb:SE X Γ E b fb Lb .v)(hc:X.calm=true:=by rfl)(hi:X.N[i]? =some x:=by rfl)(hj:X.N[j]? =some y:=by rfl)
  (hx:@On:=by rfl) (hy:X.env.scope.names.lookup y=some .local:=by rfl)
  (hs1:starEach [a,b] X.env=(false,eval a X.env) :: starEach [b] X.env:=by rfl) (hs2:starEach [b] X.env=(false,eval b X.env) :: starEach [] X.env:=by rfl)
  (hw:swappedStores [.Tuple [.Name x px,.Name y py] kt pt] (.Tuple [a,b] k2 pt2) X.env=pure (some [x,y]):=by rfl)
  (hs:swapsWithSole [.Tuple [.Name x px,.Name y py] kt pt] (.Tuple [a,b] k2 pt2) pos.line X.env=pure false:=by rfl) :
  SS X Γ E (.Assign [.Tuple [.Name x px,.Name y py] kt pt] (.Tuple [a,b] k2 pt2) pos) (yy i j La Lb fa fb):=by
 refine PS.post (KO hc hN hi hj hij hx hy (ba ha (ba hb cf hs2) hs1) hw hs) λN σ H ⟨env,G,B,β,I,o⟩=>?_
 refine⟨env,G,B,β,I,cW o λd1 β1 k v G1 H1 I1 s1 m1 vo=>⟨a8 La env,G1,B,β1,I1,?_⟩⟩
 rw[de]
 refine cW k λd2 β2 k w G2 H2 J s2 m2 vo2=>?_
 have vo:Rp Γ.K G1 v d1:=vo
 have vo2:Rp Γ.K G2 w d2:=vo2
 refine⟨_,_,rfl,k B G2 H2 _ ?_ (s1.trans s2)⟩
 rw[cu]
 exact (J.set' i (vo.mono s2)).set' j vo2
end
end L2
namespace RM
open PySem L2
def kR (aK:@Cl):SF:=(aJ (dY ([0] ++ []) (aq aK @K_))
 (dY ([1] ++ []) (aq aK (aa (gv 1) ao))))
def gB:SF:=(kc (aN 2 [1] (.two 0 1) (bH (f2 (gv 0) @Fa bB)) i7 (cq (aa (f2 (gv 0) (gv 2) bX) (aa (f2 (gv 1) (gv 2) bX) ao)))))
def jz:SF:=(aJ (b9 2 (@GT ++ []) (f2 (f2 (cst (.int 7919)) (gv 1) dR) (cst (.int 13)) bX))
 (aJ (lx @GT (eO (f2 (gv 1) (f1 (gv 0) cJ) qG))
 (b9 2 @GT (f2 (gv 0) (gv 1) bB))
 m8)
 (aJ (lx (@GT ++ []) (eO (f2 (f2 (gv 2) (cst (.int 2)) mX) @FM (gq false)))
 (kc (fo (aa (f2 (gv 2) (cst (.int 2)) LA) ao)))
 m8)
 (aJ (b9 3 [] @FM)
 (aJ (mS (.nm 4) [] (fx (cst (.int 16)))
 (aJ (b9 5 ((((@GT ++ []) ++ @GT) ++ []) ++ []) (f2 (f2 (f2 (f2 (f2 (gv 2) (cst (.int 2147483647)) mX) (cst (.int 48271)) dR) (f2 (cst (.int 7919)) (gv 4) dR) bX) @Fa bX) (cst (.int 2147483647)) mX))
 (aJ (b9 5 (@GT ++ []) (f2 (f2 (gv 5) (gv 5) dR) (cst (.int 2147483629)) mX))
 (b9 3 (@GT ++ (([] ++ @GT) ++ [])) (f2 (f2 (gv 3) (cst (.int 2147483647)) dR) (f2 (f2 (gv 5) (f2 (gv 5) (cst (.int 13)) bX) dR) (cst (.int 2147483647)) mX) bX)))))
 (kc (fo (aa (gv 3) ao))))))))
def fE (bo:List D->Int->FB):SF:=(aJ (lu 2 [] (f1 (gv 1) t5))
 (aJ (lu 3 [] (fo ao))
 (aJ (i4 @GT (eO (f2 (gv 2) (fo ao) (gq true)))
 (mz 3 2 @GT (rH 0 bo (aa (f1 (gv 2) cJ) ao))) 1000)
 (bS (f1 (gv 3) gR)))))
def kL:SF:=(aJ (lu 2 [] (fo ao))
 (aJ (mS (.nm 3) [] (fx (gv 0))
 (mS (.nm 4) [] (fx (gv 0))
 (lx (@GT ++ @GT) (Gg (eO (f2 (gv 3) (gv 4) (gq true))) @Tl)
 (pB 2 ([3] ++ ([4] ++ [])) (cq (aa (gv 3) (aa (gv 4) ao))))
 m8)))
 (bS (f1 (gv 2) gR))))
def jE (fZ:@Cl)(bo cS:List D->Int->FB):SF:=(aJ (b9 2 ([] ++ ([1] ++ [])) (f2 @Fa (rH 0 bo (aa (gv 1) ao)) bX))
 (aJ (b9 3 (([] ++ @GT) ++ []) (aN 1 [0,2] (.nm 0) (fx (f2 @Fa (rH 0 bo (aa (cst (.int 3)) ao)) bX)) i7 (rH 1 cS (aa (f1 (gv 2) iR) ao))))
 (bS (cq (aa (gv 2) (aa (aq fZ (aa (gv 2) (aa (gv 3) ao))) ao))))))
end RM
namespace L2
open PySem PySem.Spec PyProof.Rows
section
variable {κ:Type}[DecidableEq κ]
def I0 (kvs:List (κ×V))(k:κ):Option V:=(kvs.find? λkv=>decide (kv.1=k)).map (·.2)
def putK (kvs:List (κ×V))(k:κ)(v:V):List (κ×V):=
 if (kvs.any λkv=>decide (kv.1=k))=true then kvs.map (λkv=>if kv.1=k then (kv.1,v) else kv) else kvs ++ [(k,v)]
theorem Fi.getD {o:Option V}{u:Option Value}{d:V}{d':Value}(r:Fi o u)(rd:RelV d d'):RelV (o.getD d) (u.getD d'):=by
 cases o with
 |none=>cases u with
  |none=>exact rd
  |some _=>exact (show False from r).elim
 |some _=>cases u with
  |none=>exact (show False from r).elim
  |some _=>exact r
theorem KV.any {kvs:List (κ×V)}{vs:List (κ×Value)}(r:KV kvs vs)(k:κ):(kvs.any λkv=>decide (kv.1=k))=vs.any λkv=>decide (kv.1=k):=by
 unfold KV at r
 induction r with
 |nil=>rfl
 |cons h t ih=>rw[Ta,Ta,ih,h.1]
end
def HG (H:Hp)(a:Addr)(y:V)(r:Option V):Prop:=
 (∃kvs k,Rd H a (.dK kvs)/\y=kV k/\r=I0 kvs k)\/∃kvs k b,Rd H a (.dT kvs)/\y=.ref b/\Rd H b (.tup (k.map kV))/\r=I0 kvs k
def Jb (H:Hp)(a:Addr)(y v:V)(H':Hp):Prop:=
 (∃kvs k,H a=some (.dK kvs)/\y=kV k/\kvs.length < sizeLine/\H'=upd H a (.dK (putK kvs k v)))\/
 ∃kvs k b,H a=some (.dT kvs)/\y=.ref b/\Rd H b (.tup (k.map kV))/\kvs.length < sizeLine/\H'=upd H a (.dT (putK kvs k v))
def HG.k {H:Hp}{a:Addr}{kvs:List (Key×V)}{k:Key}(e:H a=some (.dK kvs)):HG H a (kV k) (I0 kvs k):=.inl ⟨kvs,k,.inl e,rfl,rfl⟩
def HG.t {H:Hp}{a b:Addr}{kvs:List (List Key×V)}{k:List Key}(e:H a=some (.dT kvs))(eb:Rd H b (.tup (k.map kV))):HG H a (.ref b) (I0 kvs k):=.inr ⟨kvs,k,b,.inl e,rfl,eb,rfl⟩
def Jb.k {H:Hp}{a:Addr}{kvs:List (Key×V)}{k:Key}{v:V}(e:H a=some (.dK kvs))(hl:kvs.length < sizeLine):Jb H a (kV k) v (upd H a (.dK (putK kvs k v))):=.inl ⟨kvs,k,e,rfl,hl,rfl⟩
def Jb.t {H:Hp}{a b:Addr}{kvs:List (List Key×V)}{k:List Key}{v:V}(e:H a=some (.dT kvs))(eb:Rd H b (.tup (k.map kV)))(hl:kvs.length < sizeLine) :
  Jb H a (.ref b) v (upd H a (.dT (putK kvs k v))):=.inr ⟨kvs,k,b,e,rfl,eb,hl,rfl⟩
section
variable {X:Cx}{pos:Pos}
end
mutual
def MR:D->Bool
 | .list ds=>GI ds
 | .tuple ds=>GI ds
 | .dict kvs=> !kvs.isEmpty && kvs.all λkv=>match kv.1,kv.2 with
  | .str _,.int _=>true
  |_,_=>false
 |_=>true
def GI:List D->Bool
 | []=>true
 |d :: ds=>MR d && GI ds
end
section
variable {prog:Program}{w:World}{A:Around}{E:@EQ}{s:Shared}{it t:Addr}{i:Nat}{xs:Array Value}{Q:@EQ}
theorem Qv (hi:s.heap.IsTupleIter it t i)(ht:s.heap.IsTuple t xs)
  (k1:∀x,xs[i]? =some x->∀h',h'.IsTupleIter it t (i + 1)->Heap.SameBut it s.heap h'->Q x {s with heap:=h'})
  (k2:xs[i]? =none->A.handled=none/\∀h' e,Heap.ExtBut it s.heap h'->(∃o,h'.get? e=some o/\o.cls=.type "StopIteration")->E (.ref e) {s with heap:=h'}) :
  wpAny @TW A (Builtin.SmallTypes.nextOf (.ref it)) Q E s:=by
 obtain⟨o,ho,hc,hd⟩:=id hi
 obtain⟨ol,hol, -,nl,hdl⟩:=ht
 refine Ra (wpAny_callSpecial?_slot (name:=Str.ofString "__next__") hi.typeIs F.slot_tuple_iterator_next (wpAny_call_entry F.slot_tuple_iterator_next hi.typeIs F.entry_tuple_iterator_next ?_ (F.args_tuple_iterator_next_1 _)))
 refine (show wpAny _ _ (field (.ref it) 0 >>= _) _ _ s from Ra (TL ho hd (x:=.ref t) rfl ?_))
 refine (show wpAny _ _ (if (Value.ref t == Value.none)=true then _ else _) _ _ s from ?_)
 rw[Rj (by exact RK)]
 refine (show wpAny _ _ (field (.ref it) 1 >>= _) _ _ s from Ra (TL ho hd (x:=.int i 0) rfl ?_))
 refine (show wpAny _ _ (seqItems? (.ref t) >>= _) _ _ s from Ra (wpAny_seqItems hol hdl ?_))
 cases hx:xs[i]? with
 |some x=>
  simp only[RT,hx]
  refine Ra (Uu ho hd (@KM) (Rv ⟨x,rfl,Rv (k1 x hx _ ?_ (Heap.SameBut.update ..))⟩))
  refine⟨_,T5 _ ho (Obj.isFreed_of_fields (Us hd _)),(Obj.cls_mapFields ..).trans hc,?_⟩
  rw[Us hd]
  simp[rawInt]
 |none=>
  obtain⟨hh,hE⟩:=k2 hx
  simp only[RT,hx]
  refine Ra (wpAny_rule (Ra (Uu ho hd (@KM) (show wpAny _ _ (newExc (.type "StopIteration") [] >>= _) _ _ _ from Ra ?_))))
  simp only[newExc,newTuple]
  refine Ra (S3 (Ra (m:=firstArgMember _ _) (wpAny_of_eq (a:=Value.none) (by first |rfl | (simp only[firstArgMember];rfl)) (S3 ?_ (by size_fits)))) (by size_fits))
  simp only[raiseNew]
  refine Ra (wpAny_handled ?_)
  have hh':A.in1.handled=none:=hh
  first |rw[hh'] |rw[hh]
  exact Ra (Rv (wpAny_throw (hE _ _ (((Heap.SameBut.update ..).extBut.push _).push _) ⟨_,RB _ rfl,rfl⟩)))
def Kz (hh:A.handled=none)(hne:t≠it)(xs:Array Value):Draws prog w A it [it,t] xs.size (λi v=>xs[i]? =some v) (λi h=>h.IsTupleIter it t i/\h.IsTuple t xs) where
 live:=λ_ _ st=>let ⟨o,ho,_⟩:=st.1;⟨o,ho⟩
 frame:=λ_ _ _ st hk=>⟨st.1.at λo e=>hk it (@KM) o e,st.2.at λo e=>hk t (@KM) o e⟩
 item:=λi s Q E hi st k=>Qv st.1 st.2 (λx hx h' q1 q2=>k x h' s.toks hx ⟨q1,st.2.extBut q2.extBut hne⟩ q2) λz=>by simp at z;omega
 done:=λs Q E st k=>Qv st.1 st.2 (λx hx=>by simp at hx) λ_=>⟨hh,k⟩
end
abbrev Lx (t:Addr):Obj:={cls:=.type "tuple_iterator",data:=.fields #[.ref t,.int 0 0]}
abbrev O7 (it:Addr):Obj:={cls:=.type "enumerate",data:=.fields #[.none,.bool false,.ref it,rawInt 0,.none,.none]}
def Eg (t:Addr)(xs:Array Value)(n:Nat)(dc:@J_)(sl:Array (Option Value)) :
  Meets (Builtin.«enumerate.__new__» ⟨[.type "enumerate",.ref t],[]⟩) (λ_ R s=>s.heap.get? t=some ⟨.type "tuple",dc,.seq xs n,sl⟩/\
   R (.ok (.ret (.ref (s.heap.push (Lx t)).objs.size))) {s with heap:=(s.heap.push (Lx t)).push (O7 s.heap.objs.size)}):=by
 refine .of_wp λprog w A R s h=>?_
 obtain⟨hp,g,d,tk,os⟩:=s
 obtain⟨hl,h⟩:=h
 have sb:=sub_enumerate
 have hT:Heap.IsTuple (Shared.heap ⟨hp,g,d,tk,os⟩) t xs:=⟨_,hl,rfl,n,rfl⟩
 wp_walk using Ut hl
 refine wpAny_stack_any λst=>Rv ?_
 split
 ·rename_i c _ _ _ _ _
  cases (c == Value.type "enumerate") <;> (wp_walk using Ut hl,TV hT;exact⟨_,rfl,h⟩)
 ·wp_walk using Ut hl,TV hT
  exact⟨_,rfl,h⟩
section
variable {prog:Program}{w:World}{A:Around}{E:@EQ}{s:Shared}
def Ar {t:Addr}{xs:Array Value}{Q:@EQ}(hT:s.heap.IsTuple t xs)
  (k:∀h',IsEnum h' (s.heap.objs.size + 1) s.heap.objs.size 0 .none->h'.IsTupleIter s.heap.objs.size t 0->(∀b o,s.heap.get? b=some o->h'.get? b=some o)->Q (.ref (s.heap.objs.size + 1)) {s with heap:=h'}) :
  wpAny @TW A (call (.type "enumerate") [.ref t]) Q E s:=by
 obtain⟨⟨c,dc,dt,sl⟩,hl,hc,n,hd⟩:=hT
 have hc:c=.type "tuple":=hc
 have hd:dt=.seq xs n:=hd
 subst hc hd
 refine callType_new F.called_enumerate @E_ (F.typeCall_enumerate_1 _) (F.newCall_enumerate_1 _) (λob=>F.args_object_init_2 ob _) F.entry_enumerate_new (Eg t xs n dc sl) ⟨hl,?_⟩
 have hz:(s.heap.push (Lx t)).objs.size=s.heap.objs.size + 1:=S2 ..
 have g2:((s.heap.push (Lx t)).push (O7 s.heap.objs.size)).get? (s.heap.push (Lx t)).objs.size=some (O7 s.heap.objs.size):=RB _ rfl
 have g1:((s.heap.push (Lx t)).push (O7 s.heap.objs.size)).get? s.heap.objs.size=some (Lx t):=Ri _ (RB _ rfl)
 rw[hz] at g2
 show _/\_
 rw[hz]
 exact⟨⟨_,g2,rfl⟩,k _ g2 ⟨_,g1,rfl,rfl⟩ λb o e=>Ri _ (Ri _ e)⟩
end
def L7 {prog:Program}{w:World}{A:Around}{it t:Addr}{xs:Array Value}(hh:A.handled=none)(i:Nat)(hx:xs[i]? =none):Draws prog w A it [it,t] i (λ_ _=>False) (λj h=>j=i/\h.IsTupleIter it t i/\h.IsTuple t xs) where
 live:=λ_ _ st=>let ⟨o,ho,_⟩:=st.2.1;⟨o,ho⟩
 frame:=λ_ _ _ st hk=>⟨st.1,st.2.1.at λo e=>hk it (@KM) o e,st.2.2.at λo e=>hk t (@KM) o e⟩
 item:=λj s Q E hi st k=>absurd st.1 (@AT)
 done:=λs Q E st k=>Qv st.2.1 st.2.2 (λx h=>by rw[hx] at h;cases h) λ_=>⟨hh,k⟩
def Qt (K:Frag)(a:Addr):It:=
 ⟨λi H=>∃xs x,gr K H a xs/\xs[i]? =some x,
  λi H v H'=>∃x t,H t=none/\(∀xs,gr K H a xs->xs[i]? =some x)/\v=.ref t/\H'=upd H t (.tup [.int i,x]),
  λi H=>∃xs,gr K H a xs/\xs.length<=i⟩
abbrev ur (n:Nat):@Ix:=[n + 1,n]
def DQ {h:Heap}{a n:Addr}{i:Nat}{its:Array Value}{b:Addr}(p:h.IsTuple a its)(q:h.IsTupleIter n b i):a≠n:=λz=>by
 subst z
 obtain⟨o,e,c,_⟩:=p
 obtain⟨o',e',c',_⟩:=q
 rw[e] at e';cases e'
 rw[c] at c'
 simp at c'
def Dx {h:Heap}{a n it:Addr}{i:Int}{its:Array Value}{old:Value}(p:h.IsTuple a its)(q:IsEnum h n it i old):n≠a:=λz=>by
 subst z
 obtain⟨o,e,c,_⟩:=p
 rw[q] at e;cases e
 simp at c
def A6 {P:Program}{w:World}{K:Frag}{elts:List Expr}{x1}{pos:Pos}(a:Addr)(n:Nat):Turn P w K (.Tuple elts x1 pos) (Qt K a) (ur n) (n + 1)
  (λi h=>(∃old,IsEnum h (n + 1) n i old)/\h.IsTupleIter n a i) where
 mem:=@KM
 obj:=λi h st c hc=>by
  obtain⟨⟨old,z1⟩,⟨o2,z2,_,d2⟩⟩:=st
  simp only[ur,Rm,Sa,Tc] at hc
  rcases hc with rfl |rfl
  ·exact⟨_,z1,λv z=>by
    have z':Data.fields _=Data.cell v:=z
    cases z'⟩
  ·exact⟨o2,z2,λv z=>by rw[d2] at z;cases z⟩
 keep:=λi h h' st k=>by
  obtain⟨⟨old,z1⟩,z2⟩:=st
  exact⟨⟨old,k _ (@KM) _ z1⟩,z2.at λo e=>k _ (@KM) o e⟩
 item:=by
  intro X hP hw hK hc i pins s σ H E I hf st hg
  subst hP hw hK
  obtain⟨xs,x,ha,hx⟩:=hg
  obtain⟨its,rv,p,hz⟩:=I.tuple ha
  have p:s.heap.IsTuple a its.toArray:=p
  obtain⟨u0,hu0,ru0⟩:=rv.get hx
  obtain⟨⟨old,z1⟩,z2⟩:=st
  have hh:X.A.in1.handled=none:=I.ok.hd hc
  have hlt:i < its.toArray.size:=by
   have:=Rn.mp hu0
   simpa using this.1
  refine wpAny_pyNext_enum_itemD (Kz hh (DQ p z2) its.toArray) z1 ⟨z2,p⟩ hlt (MP 1 0 rfl) (by
   simp only[Rm,Sa,Tc,not_or]
   exact⟨MP 1 0 rfl,Dx p z1⟩) λu h' tk hu q1 q2 q3 q4 q5=>?_
  have eu:u0=u:=by
   have hu:its.toArray[i]? =some u:=hu
   rw[List.getElem?_toArray,hu0] at hu
   exact Option.some.inj hu
  subst eu
  refine⟨_,rfl,wpAny_letOwnedTupleGo_enum (s:={s with heap:=h',toks:=tk + 1}) q1 λh2 r1 r2=>?_⟩
  have r2:∀c,c≠n + 1->h2.get? c=h'.get? c:=r2.2
  have lz:n + 1 < s.heap.objs.size:=Rx z1
  have hT:H s.heap.objs.size=none:=I.hok.fresh (Rh _)
  have I1:Inv X pins σ (upd H s.heap.objs.size (.tup [.int i,x])) {s with heap:=s.heap.push {cls:=.type "tuple",data:=.seq #[.int i tk,u0]},toks:=s.toks}:=
   I.laid (λb o e=>Ri _ e) (Rh _) ⟨by show 2<=sizeLine;rw[R7];omega,[.int i tk,u0],.cons ⟨tk,rfl⟩ (.cons ru0 .nil),tw.new _ _⟩
  have hf':∀c∈ur n,lg X pins (upd H s.heap.objs.size (.tup [.int i,x])) c:=λc hc=>⟨by
   rw[aC (λz=>?_)]
   ·exact (hf c hc).1
   ·subst z
    simp only[ur,Rm,Sa,Tc] at hc
    omega,(hf c hc).2⟩
  have I2:Inv X pins σ (upd H s.heap.objs.size (.tup [.int i,x])) {s with heap:=h2,toks:=tk + 1}:=by
   refine I1.turnedL (ch:=ur n) (λc o hc e=>?_) hf'
   have e:(s.heap.push {cls:=.type "tuple",data:=.seq #[.int i tk,u0]}).get? c=some o:=e
   simp only[ur,Rm,Sa,Tc,not_or] at hc
   rw[r2 c hc.1]
   by_cases z:c=s.heap.objs.size
   ·subst z
    rw[RB _ rfl] at e
    rw[<-e];exact q3
   ·refine q5 c o hc.1 hc.2 ?_
    rw[Heap.get?_push_ne _ _ _ z] at e
    exact e
  refine⟨@Ty,_,I2,rfl,⟨x,_,hT,λxs' h'=>?_,rfl,rfl⟩,⟨⟨u0,r1⟩,q2.1.at λo e=>(r2 _ (MP 0 1 rfl)).trans e⟩,λc hc=>(hf' c hc).1⟩
  rw[I.tuple_inj h' ha];exact hx
 done:=by
  intro X hP hw hK hc i pins s σ H E I hf st hg
  subst hP hw hK
  obtain⟨xs,ha,hl⟩:=hg
  obtain⟨its,rv,p,hz⟩:=I.tuple ha
  obtain⟨⟨old,z1⟩,z2⟩:=st
  have hh:X.A.in1.handled=none:=I.ok.hd hc
  have l1:=rv.length
  refine wpAny_pyNext_enum_endD (L7 hh i (xs:=its.toArray) (by simp;omega)) z1 ⟨rfl,z2,p⟩ λh' q=>⟨rfl,?_⟩
  refine I.turnedL (t':=s.toks) (ch:=ur n) (λc o hc e=>?_) hf
  simp only[ur,Rm,Sa,Tc,not_or] at hc
  exact q c o hc.2 e
 self:=λ_ _ _ _ _ st h=>by
  obtain⟨⟨old,z1⟩,_⟩:=st
  exact T1 z1 h
def vk:bootBuiltins "enumerate"=some (.type "enumerate"):=@FS
section
variable {X:Cx}{Γ:Fx}{E:XK}{e a b c:Expr}{f fa fb:VF D}{L La Lb:@Ix}{md ma mb:Md}{pos:Pos}
def dU (ds:List D):List D:=ds.mapIdx λi d=>.tuple [.int i,d]
def Fy {K:Frag}{B:@J_}{G H1:Hp}{p:Addr}{xs:List V}{ds:List D}(hp:gr K G p xs)(r:cP K G xs ds):Walk K B G H1 (dU ds) (Qt K p):=λGc H i s1 s2 m=>by
 have hp':=hp.grow (s1.trans s2).grow
 have l1:=r.len
 have lz:(dU ds).length=ds.length:=by unfold dU;rw[List.length_mapIdx]
 refine⟨λhi=>⟨?_,λx H' y=>?_⟩,λhi=>⟨xs,hp',@AT ⟩⟩
 ·have h1:i < xs.length:=@AT
  exact⟨xs,xs[i],hp',by simp[h1]⟩
 ·obtain⟨x,t,ht,hx,rfl,rfl⟩:=y
  obtain⟨d,ed,rd⟩:=r.at' (hx xs hp')
  have xn:=Ext.new s2 (o:=.tup [.int i,x]) ht
  refine⟨upd Gc t (.tup [.int i,x]),.tuple [.int i,d],xn,?_,.tup (.inl (.inl aE)) (.cons (.int i) (.cons (rd.mono (s1.trans xn.gg)) .nil))⟩
  unfold dU
  rw[Ua,ed];rfl
end
end L2
namespace L2
open PySem PySem.Spec PyProof.Rows PySem.MeetsSeq PySem.MeetsSeq2 PySem.MeetsSeq3
def Kf (K:Frag):R2:=λx y H Q=>∃a b xs ys,x=.ref a/\y=.ref b/\gr K H a xs/\gr K H b ys/\xs.length + ys.length<=sizeLine/\
 (xs= []->Q (.ref b) H)/\(xs≠ []->ys= []->Q (.ref a) H)/\(xs≠ []->ys≠ []->∀p,H p=none->Q (.ref p) (upd H p (.tup (xs ++ ys))))
section
variable {X:Cx}
def lN:m6 X (binaryOp .Add) (Kf X.K):=by
 intro pins s σ H x y v u Q I rx ry h
 obtain⟨a,b,xs,ys,rfl,rfl,ha,hb,hz,q0,q1,q2⟩:=h
 by_cases hx:xs= []
 ·cases rx
  cases ry
  obtain⟨its,r1,p1,_⟩:=I.tuple ha
  obtain⟨its2,r2,p2,_⟩:=I.tuple hb
  obtain⟨⟨cls,dd,data,sl⟩,ho,hc,n,hd⟩:=id p1
  obtain⟨⟨cls2,dd2,data2,sl2⟩,ho2,hc2,n2,hd2⟩:=id p2
  simp only at hc hd hc2 hd2
  subst hc hd hc2 hd2
  have he:its= []:=r1.nil_iff.mpr hx
  exact concat_meets ⟨_,ho,rfl⟩ ⟨_,ho2,rfl⟩ noFill_tuple_add seq_tuple_add PySem.F.slot_tuple_add PySem.F.entry_tuple_add (Uo _ _)
   (tuple_addW0 a b its.toArray its2.toArray n n2 dd dd2 sl sl2 (by simp[he])) ⟨ho,ho2,.ref b,H,I,rfl,q0 hx⟩
 ·exact Jp pins s σ H _ _ v u Q I rx ry ⟨a,b,xs,ys,rfl,rfl,ha,hb,hx,hz,q1 hx,q2 hx⟩
end
def kK:D->@Pi
 | .tuple a,.tuple b=>if a.length + b.length<=sizeLine then some (.tuple (a ++ b)) else none
 |_,_=>none
def qC {K:Frag}:pe K (Kf K) kK .v:=by
 intro B G H x y dx dy d Q s hB bx by' e k
 cases dx <;> cases dy <;> first | (cases e;done) |skip
 rename_i a b
 simp only[kK] at e
 split at e
 ·rename_i hz
  cases e
  rcases bx with bx | ⟨_,_,_,q⟩
  case inr=>exact q.elim
  rcases by' with by' | ⟨_,_,_,q⟩
  case inr=>exact q.elim
  cases bx with
  | @tup p xs _ hp r1=>
   cases by' with
   | @tup q ys _ hq r2=>
    refine⟨p,q,xs,ys,rfl,rfl,hp.grow s.grow,hq.grow s.grow,by rw[r1.len,r2.len];exact hz,λz=>?_,λz z'=>?_,λ_ _ l hl=>?_⟩
    ·subst z
     cases r1
     exact k _ G H (Ext.refl s) (.tup hq r2)
    ·subst z'
     cases r2
     rw[Td] at k
     exact k _ G H (Ext.refl s) (.tup hp r1)
    ·have xn:=Ext.new s (o:=.tup (xs ++ ys)) hl
     exact k _ _ _ xn (.tup (.inl (.inl aE)) ((r1.append r2).mono xn.gg))
 ·cases e
end L2
namespace L2.ST
open PySem PySem.SetTable
section
variable {prog:Program}{w:World}{A:Around}{E:@EQ}{s:Shared}
set_option maxHeartbeats 3200000 in
theorem uA {l:Addr}{vs:@G_}{ns:@Db}{T:String}{itO:Obj}{St:Addr->Nat->Heap->Prop}{Q:@EQ}(X:Src prog w s.heap l vs T itO St)(hh:A.handled=none)(hi:PyProof.Rows.IntsAre vs ns)(hb:vs.length + 1 < scanBound)
  (h:∀(h':Heap) (tk:Nat),h'.SetOf (intKind prog w) s.heap.objs.size (λk'=>(PyProof.Rows.firstMet (λi=>ns.getD i 0) vs.length).any (· == k')) (PyProof.Rows.firstMet (λi=>ns.getD i 0) vs.length).length->(∀b o,s.heap.get? b=some o->h'.get? b=some o)->Q (@Ty) {s with heap:=h',toks:=tk}) :
  wpAny @TW A (call (.type "set") [.ref l]) Q E s:=by
 obtain⟨c0,tl0,hmro0⟩:=TM.mro
 have hmade0:=TM.made
 have hsub0:=TM.sub
 refine wpAny_call (codeAny_of_tree ?_)
 show wpAny _ _ (callAny (.type "set") ⟨[.ref l],[]⟩) _ _ _
 refine Rv ⟨Code.quiet_builtin _ (@FS),Uh F.entry_type_call ?_⟩
 (rw[Around.under_plain (weight_type_call_type "set" [.ref l] []) rfl])
 have g1:=TM.notType
 have g2:=TM.canCreate
 have g3:=F.typeCall_set_1 (.ref l)
 repeat (any_goals (first |assumption |wp_step))
 refine Ul (yB (.ref l) (E:=E) (Q1:=λobj s1=>obj=@Ty/\s1={s with heap:=s.heap.push {cls:=.type "set",dict:=none,data:=.set #[] 0 (.fresh 0 0 (x6 w))}}) ⟨rfl,rfl⟩) λr s1 hr=>?_
 cases r with
 |error e=>exact hr
 |ok fl=>
  cases fl with
  |ret obj=>
   obtain⟨rfl,rfl⟩:=hr
   generalize hO:({cls:=.type "set",dict:=none,data:=.set #[] 0 (.fresh 0 0 (x6 w))}:Obj)=O
   have hS0:(s.heap.push O).get? s.heap.objs.size=some O:=RB _ (by rw[<-hO];rfl)
   have hT0:Shared.TypeIs {s with heap:=s.heap.push O} (@Ty) "set":=⟨_,hS0,by rw[<-hO]⟩
   have g4:=TM.init.lookup
   have g5:=TM.init.bind (@Ty)
   repeat (any_goals (first |assumption |wp_step))
   refine Ul (codeAny_call_builtin (R:=wants (λr s2=>r=.none/\∃h' tk,s2={s with heap:=h',toks:=tk}/\h'.SetOf (intKind prog w) s.heap.objs.size (λk'=>(PyProof.Rows.firstMet (λi=>ns.getD i 0) vs.length).any (· == k')) (PyProof.Rows.firstMet (λi=>ns.getD i 0) vs.length).length/\(∀b o,s.heap.get? b=some o->h'.get? b=some o)) E)
    TM.init.plain F.entry_set_init (check_set_init_1 hT0 ?_)) λr2 s2 hr2=>?_
   ·obtain⟨ol,hol,hcl⟩:=X.ty
    have hol':(s.heap.push O).get? l=some ol:=Ri _ hol
    have e1:=X.ns
    have e2:=X.nf
    have e3:=X.nd
    have hTl:Shared.TypeIs {s with heap:=s.heap.push O} (.ref l) T:=⟨ol,hol',hcl⟩
    have hdat:O.data=.set #[] 0 (.fresh 0 0 (x6 w)):=by rw[<-hO]
    (unfold Builtin.«set.__init__» noKeywords Builtin.Frozenset.updateFrom)
    subst hO
    obtain⟨oc,od,odt,osl⟩:=ol
    simp only at hcl
    subst hcl
    (generalize hPI0:pyIter=PI0)
    wp_walk
    subst hPI0
    have kp:∀b o,s.heap.get? b=some o->(s.heap.push {cls:=.type "set",dict:=none,data:=.set #[] 0 (.fresh 0 0 (x6 w))}).get? b=some o:=λb o e=>Ri _ e
    refine X.it _ _ _ _ kp ?_
    refine Ra (wpAny_runValue ?_)
    have hlS:l < s.heap.objs.size:=Rx hol
    have hh3:A.in1.in1.in1.handled=none:=by simp[hh]
    have hneI:l≠(s.heap.push {cls:=.type "set",dict:=none,data:=.set #[] 0 (.fresh 0 0 (x6 w))}).objs.size:=by
     rw[S2];exact R6 (Nat.lt_succ_of_lt hlS)
    have hSf:s.heap.objs.size∉ [(s.heap.push {cls:=.type "set",dict:=none,data:=.set #[] 0 (.fresh 0 0 (x6 w))}).objs.size,l]:=by
     rw[S2]
     intro z
     rcases Rm.mp z with e |z
     ·exact absurd e (R6 (Nat.lt_succ_self _))
     ·exact absurd (RE.mp z) (Nat.ne_of_gt hlS)
    refine PyProof.Rows.codeAny_set_update_loopS ((X.wk _ _ hh3 hneI).toS) s.heap.objs.size hSf (λi=>ns.getD i 0) (λi v e=>PyProof.Rows.IntsAre.int_at hi i v e) hb (vs.length - 0) 0 _ (@AT) (Sb _) (X.st _ kp) ?_ ?_
    ·exact PyProof.Rows.SetOf_congr ((PyProof.Rows.setObjOf_fresh (knd:=intKind prog w) (x6 w)).setOf (Ri _ hS0) (by unfold scanBound;omega)) (λ_=>rfl) rfl
    ·intro s' hm F'
     obtain⟨h',g',d',tk,os'⟩:=s'
     have eg:g'=s.gens:=hm.gens
     have ed:d'=s.drawn:=hm.drawn
     have eo:os'=s.os:=hm.os
     subst eg;subst ed;subst eo
     show wpAny _ _ _ _ _ _
     refine Rv ?_
     show wpAny _ _ (ret Value.none) _ _ _
     refine Rv ⟨rfl,h',tk,rfl,F',λb o e=>hm.heap b o (λz=>?_) (Ri _ (kp b o e))⟩
     have hlt:=Rx e
     rw[S2] at z
     rcases Rm.mp z with z |z
     ·exact absurd hlt (by rw[z];exact RU _)
     ·rw[RE.mp z] at hlt
      exact absurd hlt (Nat.not_lt.mpr (Nat.le_succ _))
   ·cases r2 with
    |error e=>exact hr2
    |ok fl2=>
     cases fl2 with
     |ret r=>
      obtain⟨rfl,h',tk,rfl,hF,hk⟩:=hr2
      repeat (any_goals (first |assumption |wp_step))
      exact h _ _ hF hk
     |_=>exact hr2.elim
  |_=>exact hr.elim
end
end L2.ST
namespace L2
open PySem PyProof.Rows
section
variable {X:Cx}{K:Frag}{pins:List V}{σ:St}{H:Hp}{s:Shared}{E:XK}
def MW (ns:@Db)(k:Int):Bool:=(firstMet (λi=>ns.getD i 0) ns.length).any (· == k)
def uz (ns:@Db):Nat:=(firstMet (λi=>ns.getD i 0) ns.length).length
def Ki (K:Frag):List V->@P_:=λxs H Q=>∃a ns,xs= [.ref a]/\(ji K H a (ns.map V.int)\/gr K H a (ns.map V.int))/\ns.length<=1000/\∀S,H S=none->Q (.ref S) (upd H S (.set (MW ns) (uz ns)))
def C3 (hc:X.calm=true):fC X (.type "set") (Ki X.K):=by
 intro pins s σ H xs us Q I r h
 obtain⟨a,ns,rfl,hq,hz,q⟩:=h
 obtain⟨u,rfl,rx⟩:=vals1 r
 cases rx
 have hh:=I.ok.hd hc
 have core:∀{its:@G_} {T:String} {itO:Obj} {St:Addr->Nat->Heap->Prop},Vals (ns.map V.int) its->L2.ST.Src X.prog X.w s.heap a its T itO St->wpAny @Ev X.A (call (.type "set") [.ref a]) (EP X pins σ Q) X.xe s:=λ{its T itO St} rv src=>by
  have hl:its.length=ns.length:=by rw[<-rv.length,Rb]
  refine L2.ST.uA src hh (intsAre_of rv) (by unfold scanBound;omega) λh' tk F k=>?_
  rw[hl] at F
  exact⟨.ref _,_,I.laid (t':=tk) (o:=.set (MW ns) (uz ns)) k (Rh _) F,rfl,q _ (I.hok.fresh (Rh _))⟩
 rcases hq with hq |hq
 ·obtain⟨its,rv,pl,hz⟩:=I.list hq
  exact core rv (L2.ST.Src.list pl.isList)
 ·obtain⟨its,rv,pl,hz⟩:=I.tuple hq
  exact core rv (L2.ST.Src.tuple pl)
def DH:fC X (.builtin "len") (λxs H Q=>∃S f n,xs= [.ref S]/\H S=some (.set f n)/\Q @Re H):=by
 intro pins s σ H xs us Q I r h
 obtain⟨S,f,n,rfl,hS,q⟩:=h
 obtain⟨u,rfl,rx⟩:=vals1 r
 cases rx
 obtain⟨o,es,ep,t,ho,hex,hd,_,_,hb,hf,e⟩:s.heap.SetOf (intKind X.prog X.w) S f n:=I.hok _ _ hS
 refine call_len_set ho hex hd hf (by unfold scanBound at hb;omega) ⟨.int n,H,I.tok _,⟨_,by rw[e]⟩,q⟩
def rL (d:D):Option D:=match ni d with
 |some ds=>(match lq ds with
  |some ns=>if ns.length<=1000 then some (.int (uz ns)) else none
  |none=>none)
 |none=>none
theorem cP.intsB {G:Hp}:∀{ns:@Db} {xs:List V},cP K G xs (ns.map int)->xs=ns.map V.int
 | [],_,.nil=>rfl
 |n :: ns,_,.cons r t=>by cases r;rw[cP.intsB t];rfl
variable {Γ:Fx}{e a b c:Expr}{f fa fb fc:VF D}{L La Lb:@Ix}{md ma mb mc:Md}{pos:Pos}
theorem Cz {p1 p2 pos2:Pos}(hc:X.calm=true)(hK:X.K=Γ.K)(hg:Gl X "len")(hm:X.mg "len"=none)(hg2:Gl X "set")(hm2:X.mg "set"=none)(ha:@SC)
  (he:@M_:=by rfl)
  (he2:starEach [.Call (.Name "set" p2) [a] [] pos2] X.env=(false,eval (.Call (.Name "set" p2) [a] [] pos2) X.env) :: starEach [] X.env:=by rfl) :
  SE X Γ E (.Call (.Name "len" p1) [.Call (.Name "set" p2) [a] [] pos2] [] pos) (f1 fa rL) La .v:=by
 refine PE.post' (lG DH hg hm (@FS) (ba (lF (C3 hc) hg2 hm2 (@FS) (ba ha cf he) @E_ @E_ he) cf he2) @E_ @E_ he2) λσ H Q ⟨env,G,B,β,I,o⟩=>?_
 refine l5 (r:=λx H1 Q=>Ki X.K [x] H1 λy H2=>∃S f n,[y]= [V.ref S]/\H2 S=some (.set f n)/\Q @Re H2) ?_ I o
 intro B G H x dx d Q s hB bx e k
 rw[hK]
 unfold rL at e
 cases q:ni dx with
 |none=>rw[q] at e;cases e
 |some ds=>
  rw[q] at e
  dsimp only at e
  cases q2:lq ds with
  |none=>rw[q2] at e;cases e
  |some ns=>
   rw[q2] at e
   dsimp only at e
   split at e
   ·rename_i hz
    cases e
    obtain⟨p,xs,rfl,hq,r⟩:=bx.seq q s
    rw[sI q2] at r
    have r:=r.intsB
    subst r
    exact⟨p,ns,rfl,hq,hz,λS hS=>⟨S,_,_,rfl,aE,k _ _ _ (Ext.own s hS) (.int _)⟩⟩
   ·cases e
end
end L2
namespace L2
open PySem
mutual
def tP:D->Bool
 | .none=>true
 | .bool _=>true
 | .int _=>true
 | .str _=>true
 | .tuple ds=>gZ ds
 | .list _=>false
 | .dict _=>false
def gZ:List D->Bool
 | []=>true
 |d :: ds=>tP d && gZ ds
end
section
variable {P:Program}{w:World}{K:Frag}{mg:@Fr}{base:Heap}{ca:Str->Addr}{G G' H H':Hp}
mutual
theorem Rp.flat (s:aw G H)(s':aw G' H):∀{x:V} {d:D},Rp K G' x d->tP d=true->Rp K (jS G H) x d
 |_,_,.non,_=>.non
 |_,_,.bl b,_=>.bl b
 |_,_,.int i,_=>.int i
 |_,_,.str x,_=>.str x
 |_,_,.tup h hs,e=>.tup (pw s (h.grow s'.grow)) (cP.flat s s' hs (by simpa[tP] using e))
 |_,_,.lst h hs,e=>by simp[tP] at e
 |_,_,.scr h,e=>by simp[tP] at e
 |_,_,.dK h hs,e=>by simp[tP] at e
 |_,_,.dT h hs,e=>by simp[tP] at e
theorem cP.flat (s:aw G H)(s':aw G' H):∀{xs:List V} {ds:List D},cP K G' xs ds->gZ ds=true->cP K (jS G H) xs ds
 |_,_,.nil,_=>.nil
 |_,_,.cons h hs,e=>by
  simp only[gZ,RC] at e
  exact .cons (Rp.flat s s' h e.1) (cP.flat s s' hs e.2)
end
def z6 (F:@Cl):@Cl:=λds=>match F ds with
 | .ok (.list es) false=>.ok (.list es) (gZ ds && gZ es)
 |r=>r
def IG {F:@Cl}{ds es:List D}(e:F ds=.ok (.list es) false)(h1:gZ ds=true)(h2:gZ es=true):z6 F ds=.ok (.list es) true:=by
 unfold z6;rw[e];dsimp only;rw[h1,h2];rfl
def K7:Hp:=λ_=>none
def yu:aw K7 H:=λb o e=>by cases e
theorem HZ {b:Addr}{o:HO}(h:jS K7 H b=some o):Fz o:=by
 unfold jS at h
 have e:K7 b=none:=rfl
 rw[e] at h
 cases q:H b with
 |none=>rw[q] at h;cases h
 |some u=>
  rw[q] at h
  dsimp only at h
  split at h
  ·rename_i f;cases h;exact f
  ·cases h
def Jx {n:Nat}{F:@Cl}{vs:List V}{Q:VK}{E:XK}(q:Jk K ca n (z6 F) vs H Q E):Jk K ca n F vs H Q E:=by
 obtain⟨G,ds,sG,hl,r,q⟩:=q
 by_cases z:∃es,F ds=.ok (.list es) false/\gZ ds=true/\gZ es=true
 ·obtain⟨es,e,h1,h2⟩:=z
  rw[IG e h1 h2] at q
  have sn:aw (jS K7 G) H:=(pY yu).trans sG
  refine⟨jS K7 G,ds,sn,hl,r.flat yu (aw.refl _) h1,?_⟩
  rw[e]
  intro v G' H' hh g1 g2 hn fv
  have fv:Rp K G' v (.list es):=fv
  cases fv with
  | @lst a xs _ ha hs=>
   have hH':H' a=some (.lst xs):=g2 _ _ ha
   have hHa:H a=none:=by
    cases z:H a with
    |none=>rfl
    |some o=>
     have z':=FG (hh _ _ z) hH'
     subst z'
     have hm:Mx H a:=Mx.lst z
     have:jS K7 G a=none:=by
      cases y:jS K7 G a with
      |none=>rfl
      |some o=>
       have y':=FG (sn _ _ y) z
       subst y'
       exact (HZ y).elim
     rw[hn a hm this] at ha
     cases ha
   have sG':aw G H':=sG.trans hh
   refine q (.ref a) (jS G H') H' hh p8 (pY sG') (λb m e=>by rw[wV hh m];exact e) ?_
   refine⟨a,rfl,hHa,?_,xs,hH',hs.flat sG' g2 h2⟩
   unfold jS
   rw[sG.free hHa,hH']
   exact Rj λf=>f
 ·have:z6 F ds=F ds:=by
   unfold z6
   split
   ·rename_i es e
    have hf:(gZ ds && gZ es)=false:=by
     cases y:(gZ ds && gZ es) with
     |false=>rfl
     |true=>rw[RC] at y;exact absurd ⟨es,e,y.1,y.2⟩ z
    rw[hf,e]
   ·rfl
  rw[this] at q
  exact⟨G,ds,sG,hl,r,q⟩
def bK.new {x:Str}{ps:@Id}{k:Nat}{F:@Cl}(h:bK P w K mg base ca x ps k F):bK P w K mg base ca x ps k (z6 F):=by
 obtain⟨f,fd,a,b,c,d⟩:=h.ex
 refine⟨⟨f,fd,a,b,c,d.imp λvs H Q E q=>Jx q⟩,λds hn=>h.len ds λz=>hn ?_⟩
 unfold z6;rw[z]
end
section
variable {K:Frag}{h:Heap}{mg:@Fr}
theorem Bx {α:Type}{P:List α->Prop}(q:∀a,P [a]):∀us:List α,us.length=1->P us
 | [a],_=>q a
theorem ln2 {α:Type}{P:List α->Prop}(q:∀a b,P [a,b]):∀us:List α,us.length=2->P us
 | [a,b],_=>q a b
theorem DU {α:Type}{P:List α->Prop}(q:∀a b c,P [a,b,c]):∀us:List α,us.length=3->P us
 | [a,b,c],_=>q a b c
theorem Qi {α:Type}{P:List α->Prop}(q:∀a b c d,P [a,b,c,d]):∀us:List α,us.length=4->P us
 | [a,b,c,d],_=>q a b c d
theorem QV {α:Type}{P:List α->Prop}(q:∀a b c d e,P [a,b,c,d,e]):∀us:List α,us.length=5->P us
 | [a,b,c,d,e],_=>q a b c d e
def aP (x:Str)(st:Stmt)(ps:@Id):Prop:=∀(kV doc pm:Value) (an:@J_) (cdv ct:Value) (us:@G_),us.length=ps.length->bindArgs (PySem.W.fnOf x x (jw st) (dw st) (ar st) .none kV doc pm an cdv ct) ⟨us,[]⟩=pure (ps.zip us)
structure Fo (K:Frag)(mg:@Fr)(x:Str)(st:Stmt)(ps:@Id):Prop where
 ex:∃f fd,fq K mg x st ps f fd
def bc {x:Str}{st:Stmt}{ps:@Id}{f:Addr}{oc:Value}{od an:@J_}{sl:Array (Option Value)}{kV doc pm cdv ct:Value}(X:K.In h)(G:h.Ns mainGlobals mg)(b:aP x st ps)(a:PySem.W.nsIn K mainGlobals x=some (some (.ref f)))
  (l:K.lookup f=some ⟨oc,od,.func (PySem.W.fnOf x x (jw st) (dw st) (ar st) .none kV doc pm an cdv ct),sl⟩) (c:PySem.W.codeIn K cdv x=true) (k:PySem.W.keepIn K (.ref f)=true):Fo K mg x st ps:=
 ⟨⟨f,_,PySem.W.mg_of X G a,tX l c k,(tX l c k).binds b⟩⟩
def P5:@Id:=["len","range","enumerate","zip","min","max","sum","abs","sorted","reversed","int","str","bool","list","tuple","dict","set","isinstance","repr","any","all","divmod"]
def PN (K:Frag):Bool:=P5.all λx=>match PySem.W.nsIn K mainGlobals x with
 |some none=>true
 |_=>false
def MJ (q:PN K=true){x:Str}(hx:x∈P5):PySem.W.nsIn K mainGlobals x=some none:=by
 have:=RH.mp q x hx
 split at this
 ·assumption
 ·cases this
def Nl (X:K.In h)(G:h.Ns mainGlobals mg)(q:PN K=true):fP mg:=by
 have key:∀{x:Str},x∈P5->mg x=none:=λhx=>PySem.W.mg_none_of X G (MJ q hx)
 constructor <;> exact key @E_
end
section
variable {X:Cx}{P:Program}{w:World}{K:Frag}{mg:@Fr}{base:Heap}{ca:Str->Addr}
def t6 (step:(@Cl)->@Cl):Nat->@Cl
 | 0=>λ_=>.bad
 |n + 1=>step (t6 step n)
end
end L2
namespace L2
open PySem PySem.Spec PyProof.Rows
def IE {prog:Program}{w:World}{A:Around}{it t:Addr}{xs:Array Value}(hh:A.handled=none)(i:Nat)(hx:xs[i]? =none):Draws prog w A it [it,t] i (λ_ _=>False) (λj h=>j=i/\h.IsListIter it t i/\h.IsList t xs) where
 live:=λ_ _ st=>let ⟨o,ho,_⟩:=st.2.1;⟨o,ho⟩
 frame:=λ_ _ _ st hk=>⟨st.1,st.2.1.at λo e=>hk it (@KM) o e,st.2.2.at λo e=>hk t (@KM) o e⟩
 item:=λj s Q E hi st k=>absurd st.1 (@AT)
 done:=λs Q E st k=>wpAny_nextOf_list_end hh st.2.1 st.2.2 hx k
def HB (K:Frag)(a:Addr):It:=
 ⟨λi H=>∃xs x,ji K H a xs/\xs[i]? =some x,
  λi H v H'=>∃x t,H t=none/\(∀xs,ji K H a xs->xs[i]? =some x)/\v=.ref t/\H'=upd H t (.tup [.int i,x]),
  λi H=>∃xs,ji K H a xs/\xs.length<=i⟩
def DP {h:Heap}{a n:Addr}{i:Nat}{its:Array Value}{b:Addr}(p:h.IsList a its)(q:h.IsListIter n b i):a≠n:=λz=>by
 subst z
 obtain⟨o,e,c,_⟩:=p
 obtain⟨o',e',c',_⟩:=q
 rw[e] at e';cases e'
 rw[c] at c'
 simp at c'
def Dg {h:Heap}{a n it:Addr}{i:Int}{its:Array Value}{old:Value}(p:h.IsList a its)(q:IsEnum h n it i old):n≠a:=λz=>by
 subst z
 obtain⟨o,e,c,_⟩:=p
 rw[q] at e;cases e
 simp at c
def tM {P:Program}{w:World}{K:Frag}{elts:List Expr}{x1}{pos:Pos}(a:Addr)(n:Nat):Turn P w K (.Tuple elts x1 pos) (HB K a) (ur n) (n + 1)
  (λi h=>(∃old,IsEnum h (n + 1) n i old)/\h.IsListIter n a i) where
 mem:=@KM
 obj:=λi h st c hc=>by
  obtain⟨⟨old,z1⟩,⟨o2,z2,_,d2⟩⟩:=st
  simp only[ur,Rm,Sa,Tc] at hc
  rcases hc with rfl |rfl
  ·exact⟨_,z1,λv z=>by
    have z':Data.fields _=Data.cell v:=z
    cases z'⟩
  ·exact⟨o2,z2,λv z=>by rw[d2] at z;cases z⟩
 keep:=λi h h' st k=>by
  obtain⟨⟨old,z1⟩,z2⟩:=st
  exact⟨⟨old,k _ (@KM) _ z1⟩,z2.at λo e=>k _ (@KM) o e⟩
 item:=by
  intro X hP hw hK hc i pins s σ H E I hf st hg
  subst hP hw hK
  obtain⟨xs,x,ha,hx⟩:=hg
  obtain⟨its,rv,p,hz⟩:=I.list ha
  have p:s.heap.IsList a its.toArray:=p.isList
  obtain⟨u0,hu0,ru0⟩:=rv.get hx
  obtain⟨⟨old,z1⟩,z2⟩:=st
  have hh:X.A.in1.handled=none:=I.ok.hd hc
  have hlt:i < its.toArray.size:=by
   have:=Rn.mp hu0
   simpa using this.1
  refine wpAny_pyNext_enum_itemD (Draws.list hh n a (DP p z2) its.toArray) z1 ⟨z2,p⟩ hlt (MP 1 0 rfl) (by
   simp only[Rm,Sa,Tc,not_or]
   exact⟨MP 1 0 rfl,Dg p z1⟩) λu h' tk hu q1 q2 q3 q4 q5=>?_
  have eu:u0=u:=by
   have hu:its.toArray[i]? =some u:=hu
   rw[List.getElem?_toArray,hu0] at hu
   exact Option.some.inj hu
  subst eu
  refine⟨_,rfl,wpAny_letOwnedTupleGo_enum (s:={s with heap:=h',toks:=tk + 1}) q1 λh2 r1 r2=>?_⟩
  have r2:∀c,c≠n + 1->h2.get? c=h'.get? c:=r2.2
  have lz:n + 1 < s.heap.objs.size:=Rx z1
  have hT:H s.heap.objs.size=none:=I.hok.fresh (Rh _)
  have I1:Inv X pins σ (upd H s.heap.objs.size (.tup [.int i,x])) {s with heap:=s.heap.push {cls:=.type "tuple",data:=.seq #[.int i tk,u0]},toks:=s.toks}:=
   I.laid (λb o e=>Ri _ e) (Rh _) ⟨by show 2<=sizeLine;rw[R7];omega,[.int i tk,u0],.cons ⟨tk,rfl⟩ (.cons ru0 .nil),tw.new _ _⟩
  have hf':∀c∈ur n,lg X pins (upd H s.heap.objs.size (.tup [.int i,x])) c:=λc hc=>⟨by
   rw[aC (λz=>?_)]
   ·exact (hf c hc).1
   ·subst z
    simp only[ur,Rm,Sa,Tc] at hc
    omega,(hf c hc).2⟩
  have I2:Inv X pins σ (upd H s.heap.objs.size (.tup [.int i,x])) {s with heap:=h2,toks:=tk + 1}:=by
   refine I1.turnedL (ch:=ur n) (λc o hc e=>?_) hf'
   have e:(s.heap.push {cls:=.type "tuple",data:=.seq #[.int i tk,u0]}).get? c=some o:=e
   simp only[ur,Rm,Sa,Tc,not_or] at hc
   rw[r2 c hc.1]
   by_cases z:c=s.heap.objs.size
   ·subst z
    rw[RB _ rfl] at e
    rw[<-e];exact q3
   ·refine q5 c o hc.1 hc.2 ?_
    rw[Heap.get?_push_ne _ _ _ z] at e
    exact e
  refine⟨@Ty,_,I2,rfl,⟨x,_,hT,λxs' h'=>?_,rfl,rfl⟩,⟨⟨u0,r1⟩,q2.1.at λo e=>(r2 _ (MP 0 1 rfl)).trans e⟩,λc hc=>(hf' c hc).1⟩
  rw[I.list_inj h' ha];exact hx
 done:=by
  intro X hP hw hK hc i pins s σ H E I hf st hg
  subst hP hw hK
  obtain⟨xs,ha,hl⟩:=hg
  obtain⟨its,rv,p,hz⟩:=I.list ha
  obtain⟨⟨old,z1⟩,z2⟩:=st
  have hh:X.A.in1.handled=none:=I.ok.hd hc
  have l1:=rv.length
  refine wpAny_pyNext_enum_endD (IE hh i (xs:=its.toArray) (by simp;omega)) z1 ⟨rfl,z2,p.isList⟩ λh' q=>⟨rfl,?_⟩
  refine I.turnedL (t':=s.toks) (ch:=ur n) (λc o hc e=>?_) hf
  simp only[ur,Rm,Sa,Tc,not_or] at hc
  exact q c o hc.2 e
 self:=λ_ _ _ _ _ st h=>by
  obtain⟨⟨old,z1⟩,_⟩:=st
  exact T1 z1 h
def PH (K:Frag)(ta:TA):TI:=λσ H R=>ta σ H λvs H2=>∃a xs,vs= [.ref a]/\ji K H2 a xs/\R (HB K a) H2
section
variable {X:Cx}
theorem LR {a:Expr}{ta:TA}{p pos pt:Pos}{elts:List Expr}{x1}(hg:Gl X "enumerate")(hm:X.mg "enumerate"=none)(ha:PA X [a] ta)(hs:starEach [a] X.env= [(false,eval a X.env)]:=by rfl) :
  PI X (.Tuple elts x1 pt) (.Call (.Name "enumerate" p) [a] [] pos) (PH X.K ta):=by
 intro pins s σ H R I h
 refine Call_ (oK I hg hm vk (Ts (cZ (ha pos pins s σ H _ I h) λus s1 ⟨vs,H1,I1,r1,q1⟩=>?_) hs rfl))
 obtain⟨a,xs,e,h1,q⟩:=q1
 subst e
 cases r1 with
 |cons r rr=>
  cases rr
  cases r
  obtain⟨its,rv,p1,hz⟩:=I1.list h1
  refine call_enumerate_list p1.isList λh' z1 z2 _ z3=>?_
  refine T1 z1 ⟨_,ur s1.heap.objs.size,_,_,H1,rfl,I1.kept (t':=s1.toks) z3,tM a s1.heap.objs.size,⟨⟨_,z1⟩,z2⟩,λc hc=>?_,q⟩
  have:s1.heap.objs.size<=c:=by
   simp only[ur,Rm,Sa,Tc] at hc
   rcases hc with rfl |rfl <;> first |exact Rh _ |exact Nat.le_add_right _ _
  exact I1.fpOk this (I1.hok.fresh this)
end
section
variable {X:Cx}{Γ:Fx}{E:XK}{e a b c:Expr}{f fa fb:VF D}{L La Lb:@Ix}{md ma mb:Md}{pos:Pos}
def Jm (fa:VF D):@Tk:=λvs β=>(@Tm).bnd λx β1=>match x with
 | .list ds=>.ok (dU ds) β1
 |_=>.bad
def zd {K:Frag}{B:@J_}{G H1:Hp}{p:Addr}{xs:List V}{ds:List D}(hp:∀Gc H,aw G Gc->aw Gc H->jh B H1 H->ji K H p xs)(r:cP K G xs ds):Walk K B G H1 (dU ds) (HB K p):=λGc H i s1 s2 m=>by
 have hp':=hp Gc H s1 s2 m
 have l1:=r.len
 have lz:(dU ds).length=ds.length:=by unfold dU;rw[List.length_mapIdx]
 refine⟨λhi=>⟨?_,λx H' y=>?_⟩,λhi=>⟨xs,hp',@AT ⟩⟩
 ·have h1:i < xs.length:=@AT
  exact⟨xs,xs[i],hp',by simp[h1]⟩
 ·obtain⟨x,t,ht,hx,rfl,rfl⟩:=y
  obtain⟨d,ed,rd⟩:=r.at' (hx xs hp')
  have xn:=Ext.new s2 (o:=.tup [.int i,x]) ht
  refine⟨upd Gc t (.tup [.int i,x]),.tuple [.int i,d],xn,?_,.tup (.inl (.inl aE)) (.cons (.int i) (.cons (rd.mono (s1.trans xn.gg)) .nil))⟩
  unfold dU
  rw[Ua,ed];rfl
theorem yx {p pt:Pos}{elts:List Expr}{x1}(hK:X.K=Γ.K)(hg:Gl X "enumerate")(hm:X.mg "enumerate"=none)(ha:SE X Γ E a fa La .v)(hs:starEach [a] X.env= [(false,eval a X.env)]:=by rfl)(hs':@M_:=by rfl) :
  SI X Γ E (.Tuple elts x1 pt) (.Call (.Name "enumerate" p) [a] [] pos) (Jm fa) La .v:=by
 refine PI.post (LR hg hm (ba ha cf hs') hs) ?_
 rintro σ H Q ⟨env,G,B,β,I,o⟩
 refine⟨env,G,B,β,I,o.bnd.imp λd1 β1 h x G1 H1 I1 s1 m1 vx=>?_⟩
 have vx:Rp Γ.K G1 x d1:=vx
 rw[hK]
 cases d1 with
 |list ds=>
  cases vx with
  | @lst p xs _ hq r=>exact⟨p,xs,rfl,.inl (Rd.mono (.inl hq) I1.sub),h _ G1 H1 I1 s1 m1 (zd (λGc H t1 t2 _=>.inl (Rd.mono (.inl hq) (t1.trans t2))) r)⟩
 |_=>exact h.elim
end
end L2
section
namespace HT
open PySem PySem.Spec PyProof.Rows
section
variable {prog:Program}{w:World}{A:Around}{E:@EQ}{s:Shared}
def ox {t sl:Addr}{items:Array Value}{vl vu:Value}{lo hi:Option Int}{Q:@EQ}(ht:IsTup s.heap t items)(hs:s.heap.IsSliceOf sl vl vu .none)(pl:IsPart vl lo)(pu:IsPart vu hi)
  (hw:fu items.size 0 lo=0/\fu items.size items.size hi=items.size) (h:Q (.ref t) s):wpAny @TW A (getItem (.ref t) (.ref sl)) Q E s:=by
 obtain⟨os,hos,hcs,hds⟩:=id hs
 have hTs:s.TypeIs (.ref sl) "slice":=⟨os,hos,hcs⟩
 unfold getItem
 try with_reducible refine S1 ?_
 first |refine Ra (Rv ?_) |skip
 refine Ra (wpAny_sequenceKey ht.typeIs @E_ ?_)
 refine Ra (wpAny_callSpecial?_slot (name:=Str.ofString "__getitem__") ht.typeIs Sv
  (wpAny_call_entry Sv ht.typeIs entry_tuple_getitem ?_ (args_tuple_getitem _ _)))
 show wpAny _ _ (Builtin.Tuple.tupleItemsOf (.ref t) >>= _) _ _ s
 refine Ra (tupleItemsOf_ ht ?_)
 refine Ra (wpAny_typeOf hTs ?_)
 rw[Rg @E_]
 refine Ra (ly hs pl pu ?_)
 rw[hw.1,hw.2]
 show wpAny _ _ (if (((0:Nat):Int) == 0 && (1:Int) == 1 && (items.size - 0) == items.size)=true then _ else _) _ _ s
 rw[Rg (@KM)]
 refine Ra ?_
 unfold Builtin.Tuple.tupleIsExact
 first
  |refine Ra (wpAny_typeOf ht.typeIs (Rv ?_))
  |refine Ra (wpAny_typeOf ht.typeIs ?_)
 first |rw[Rg @E_] |skip
 first
  |exact Ra (wpAny_rule (Rv ⟨_,rfl,Rv h⟩))
  |exact Ra (Ra (wpAny_rule (Rv ⟨_,rfl,Rv h⟩)))
end
end HT
namespace L2
open PySem PySem.Spec PyProof.Rows
section
variable {X:Cx}{Γ:Fx}{E:XK}{e a b c:Expr}{f fa fb fc:VF D}{L La Lb:@Ix}{md ma mb mc:Md}{pos:Pos}
def P7 (K:Frag):V->Option Int->Option Int->@P_:=λx lo hi H Q=>∃a xs,x=.ref a/\gr K H a xs/\
 ((HT.fu xs.length 0 lo=0/\HT.fu xs.length xs.length hi=xs.length)->Q (.ref a) H)/\
 (¬(HT.fu xs.length 0 lo=0/\HT.fu xs.length xs.length hi=xs.length)->∀p,H p=none->Q (.ref p) (upd H p (.tup (tE xs lo hi))))
def HA:OX X (P7 X.K):=by
 intro pins s σ H x v vl vu lo hi sl Q I rx hs pl pu h
 obtain⟨a,xs,rfl,hx,hw,q⟩:=h
 by_cases z:HT.fu xs.length 0 lo=0/\HT.fu xs.length xs.length hi=xs.length
 ·have hw:=hw z
  cases rx
  obtain⟨its,r,ht,hz⟩:=I.tuple hx
  have hlen:its.toArray.size=xs.length:=by rw[Ry];exact r.length.symm
  refine⟨"tuple",_,Sv.lookup,ht.typeIs,?_⟩
  exact HT.ox ht hs pl pu (by rw[hlen];exact z) ⟨.ref a,H,I,rfl,hw⟩
 ·exact KS pins s σ H (.ref a) v vl vu lo hi sl Q I rx hs pl pu ⟨a,xs,rfl,hx,z,q z⟩
def wy (fa:VF D)(fl fh:VF (Option Int)):VF D:=λvs β=>(@Tm).bnd λx β1=>(fl vs β1).bnd λl β2=>(fh vs β2).bnd λh β3=>match x with
 | .tuple ds=>.ok (.tuple (cutD ds l h)) β3
 |_=>.bad
def AN {ds:List D}{lo hi:Option Int}(h:HT.fu ds.length 0 lo=0/\HT.fu ds.length ds.length hi=ds.length):cutD ds lo hi=ds:=by
 unfold cutD;rw[h.1,h.2];simp
theorem vC {lo hi:Option Expr}{fl fh:VF (Option Int)}{Ll Lh:@Ix}{p2:Pos}(hK:X.K=Γ.K)(ha:@SC)(hl:MS X Γ E lo fl Ll)(hh:MS X Γ E hi fh Lh):SE X Γ E (.Subscript a (.Slice lo hi none p2) pos) (wy fa fl fh) (La ++ Ll ++ Lh) .v:=by
 refine PE.post' (yF HA ha hl hh) ?_
 rintro σ H Q ⟨env,G,B,β,I,o⟩
 refine⟨env,G,B,β,I,o.bnd.imp λd1 β1 h x G1 H1 I1 s1 m1 vx=>⟨a8 La env,G1,B,β1,I1,?_⟩⟩
 rw[de]
 refine h.bnd.imp λl β2 h G2 H2 I2 s2 m2=>⟨a8 Ll (a8 La env),G2,B,β2,I2,?_⟩
 rw[de,de]
 refine h.bnd.imp λu β3 h G3 H3 I3 s3 m3=>?_
 rw[<-cu,<-cu,<-S4] at I3
 have bx:=((vx.brw I.boxThere).mono s2 m2).mono s3 m3
 cases d1 with
 |tuple ds=>
  obtain⟨p,xs,rfl,hq,r⟩:=bx.tuple I3.sub
  rw[hK]
  dsimp only at h
  refine⟨p,xs,rfl,hq,λz=>?_,λhw q hn=>?_⟩
  ·rw[r.len] at z
   rw[AN z] at h
   refine h _ _ _ I3 ((s1.trans s2).trans s3) ((m1.trans m2).trans m3) ?_
   rcases bx with bx | ⟨_,_,_,bx⟩
   ·exact bx
   ·exact bx.elim
  ·have x:=Ext.new I3.sub (o:=.tup (tE xs l u)) hn
   exact h _ _ _ (I3.ext x) (((s1.trans s2).trans s3).trans x.gg) (((m1.trans m2).trans m3).trans (x.mov B)) (.tup (.inl (.inl aE)) ((BW r l u).mono x.gg))
 |_=>exact h.elim
end
end L2
end
namespace L2
open PySem PySem.Spec PyProof.Rows
def Qa (K:Frag)(ta:TA):TI:=λσ H R=>ta σ H λvs H2=>(∃a xs,vs= [.ref a]/\gr K H2 a xs/\R (Qt K a) H2)\/∃a xs,vs= [.ref a]/\ji K H2 a xs/\R (HB K a) H2
section
variable {X:Cx}
def LS {a:Expr}{ta:TA}{p pos pt:Pos}{elts:List Expr}{x1}(hg:Gl X "enumerate")(hm:X.mg "enumerate"=none)(ha:PA X [a] ta)(hs:starEach [a] X.env= [(false,eval a X.env)]:=by rfl) :
  PI X (.Tuple elts x1 pt) (.Call (.Name "enumerate" p) [a] [] pos) (Qa X.K ta):=by
 intro pins s σ H R I h
 refine Call_ (oK I hg hm vk (Ts (cZ (ha pos pins s σ H _ I h) λus s1 ⟨vs,H1,I1,r1,q1⟩=>?_) hs rfl))
 have fp:∀c∈ur s1.heap.objs.size,lg X pins H1 c:=λc hc=>by
  have:s1.heap.objs.size<=c:=by
   simp only[ur,Rm,Sa,Tc] at hc
   rcases hc with rfl |rfl <;> first |exact Rh _ |exact Nat.le_add_right _ _
  exact I1.fpOk this (I1.hok.fresh this)
 rcases q1 with⟨a,xs,e,h1,q⟩ | ⟨a,xs,e,h1,q⟩
 ·subst e
  cases r1 with
  |cons r rr=>
   cases rr
   cases r
   obtain⟨its,rv,p1,hz⟩:=I1.tuple h1
   exact Ar (show s1.heap.IsTuple a its.toArray from p1) λh' z1 z2 z3=>T1 z1 ⟨_,ur s1.heap.objs.size,_,_,H1,rfl,I1.kept (t':=s1.toks) z3,A6 a s1.heap.objs.size,⟨⟨_,z1⟩,z2⟩,fp,q⟩
 ·subst e
  cases r1 with
  |cons r rr=>
   cases rr
   cases r
   obtain⟨its,rv,p1,hz⟩:=I1.list h1
   exact call_enumerate_list p1.isList λh' z1 z2 _ z3=>T1 z1 ⟨_,ur s1.heap.objs.size,_,_,H1,rfl,I1.kept (t':=s1.toks) z3,tM a s1.heap.objs.size,⟨⟨_,z1⟩,z2⟩,fp,q⟩
end
section
variable {X:Cx}{Γ:Fx}{E:XK}{e a b c:Expr}{f fa fb:VF D}{L La Lb:@Ix}{md ma mb:Md}{pos:Pos}
def Lw (fa:VF D):@Tk:=λvs β=>(@Tm).bnd λx β1=>match ni x with
 |some ds=>.ok (dU ds) β1
 |none=>.bad
theorem LI {p pt:Pos}{elts:List Expr}{x1}(hK:X.K=Γ.K)(hg:Gl X "enumerate")(hm:X.mg "enumerate"=none)(ha:SE X Γ E a fa La .v)(hs:starEach [a] X.env= [(false,eval a X.env)]:=by rfl)(hs':@M_:=by rfl) :
  SI X Γ E (.Tuple elts x1 pt) (.Call (.Name "enumerate" p) [a] [] pos) (Lw fa) La .v:=by
 refine PI.post (LS hg hm (ba ha cf hs') hs) ?_
 rintro σ H Q ⟨env,G,B,β,I,o⟩
 refine⟨env,G,B,β,I,o.bnd.imp λd1 β1 h x G1 H1 I1 s1 m1 vx=>?_⟩
 have vx:Rp Γ.K G1 x d1:=vx
 rw[hK]
 cases d1 with
 |list ds=>
  cases vx with
  | @lst p xs _ hq r=>exact .inr ⟨p,xs,rfl,.inl (Rd.mono (.inl hq) I1.sub),h _ G1 H1 I1 s1 m1 (zd (λGc H t1 t2 _=>.inl (Rd.mono (.inl hq) (t1.trans t2))) r)⟩
 |tuple ds=>
  cases vx with
  | @tup p xs _ hq r=>exact .inl ⟨p,xs,rfl,hq.grow I1.sub.grow,h _ G1 H1 I1 s1 m1 (Fy hq r)⟩
 |_=>exact h.elim
end
end L2
namespace RM
open PySem L2
def n5 (bJ:@Cl):SF:=(aJ (lx ([] ++ @GT) (pN (pC (i3 (f1 (gv 0) (la "tuple")))) (eO (f2 (f1 (gv 0) cJ) (gv 1) (gq true))))
 (bS (cst (.bool false)))
 m8)
 (bS (g7 (f1 (aN 1 [1] (.nm 0) (bH (gv 0)) i7 (aq bJ @Fk)) (bY λbs=>bs.all id)) (f2 (f1 (gv 0) rL) (gv 1) (gq false)))))
def pI:SF:=(aJ (lu 1 (@GT ++ []) (f2 (fo (aa @FM ao)) (f1 (gv 0) cJ) rk))
 (aJ (mS (.two 2 3) [0] (Lw (gv 0))
 (tZ 1 [2] [] (gv 2) (gv 3)))
 (tm 1)))
def iE (jG eN:@Cl):SF:=(aJ (lx ([0] ++ (@GT ++ [])) (pC (i3 (aq jG (aa (gv 0) (aa (f2 (gv 1) @FM bB) ao)))))
 (bS (cst (.bool false)))
 m8)
 (aJ (b9 2 ([0] ++ []) (aq eN @K_))
 (bS (f1 (aN 2 [2] (.two 0 1) (bH (f2 (gv 1) @Fa bB)) i7 (f2 (f2 (gv 2) (gv 0) bB) (f2 (gv 2) (gv 1) bB) qG)) (bY λbs=>bs.all id)))))
def gL:SF:=(bS (f1 (aN 1 [1,2] (.nm 0) (bH (gv 0)) i7 (f2 (f2 (gv 0) (gv 1) bB) (f2 (gv 0) (gv 2) bB) qG)) (bY λbs=>bs.all id)))
def gx (eN aV c9:@Cl):SF:=(aJ (b9 2 @GT (aN 1 [] (.nm 0) (bH (gv 1)) i7 (aq eN @K_)))
 (bS (f1 (aN 2 [2] (.two 0 1) (bH (aq aV @K_)) (i3 (aq c9 (aa (gv 2) @Fk))) (cq @Fk)) gR)))
def my (dJ:@Cl):SF:=(aJ (lx ([] ++ @GT) (pN (pC (i3 (f1 (gv 0) (la "list")))) (eO (f2 (f1 (gv 0) cJ) @FM (gq false))))
 (bS (cst (.bool false)))
 m8)
 (bS (f1 (aN 1 [1] (.nm 0) (bH (gv 0)) i7 (aq dJ @Fk)) (bY λbs=>bs.all id))))
def zZ (aK hW dg:@Cl):SF:=(aJ (dY ([1] ++ []) (aq aK (aa (gv 1) ao)))
 (bS (g7 (aq hW @Fk) (f2 (aq dg (aa (f2 (gv 1) @FM bB) @K_)) (f2 (gv 1) @Fa bB) (gq false)))))
def jl:SF:=(bS (f2 (gv 0) (f2 @Fa (gv 1) Mn) O5))
def iB (aM:@Cl):SF:=(aJ (lu 1 (@GT ++ @GT) (f2 (fo (aa @FM ao)) @R_ rk))
 (aJ (mS (.two 2 3) @GT (bH (f2 (gv 0) @Fa bB))
 (tZ 1 (@GT ++ ([2] ++ [])) [] (aq aM (aa (f2 (gv 1) (gv 3) bB) (aa (gv 2) ao))) (gv 3)))
 (tm 1)))
def iL (aM:@Cl):SF:=(aJ (lu 2 [] (fo ao))
 (aJ (mS (.two 3 4) [0] (Jm (gv 0))
 (lx ((([1] ++ ([3] ++ [])) ++ []) ++ (@GT ++ [])) (Gg (eO (f2 (aq aM (aa (gv 1) (aa (gv 3) ao))) (gv 1) (gq true))) (eO (f2 (f2 (gv 1) (gv 4) Ew) (gv 4) (gq false))))
 (pB 2 [3] (gv 3))
 m8))
 (tm 2)))
def kS (dI aM:@Cl):SF:=(aJ (lu 2 [] (fo ao))
 (aJ (b9 3 [] @FM)
 (aJ (i4 @GT (eO (f2 (f1 (gv 2) cJ) (f1 (gv 0) cJ) qG))
 (aJ (b9 4 ([0] ++ ([3] ++ [])) (aq dI (aa (gv 0) (aa (gv 3) ao))))
 (aJ (b9 5 @GT (aN 1 [1] (.nm 0) (bH (gv 4)) (eO (f2 (gv 0) (gv 1) (oN true))) (gv 0)))
 (aJ (pB 2 (@GT ++ []) (f2 (f2 (gv 5) (gv 4) jq) @FM bB))
 (b9 3 ([3] ++ (@GT ++ [])) (aq aM (aa (gv 3) (aa (f2 (gv 2) (f1 @Fa rb) bB) ao))))))) 1000)
 (bS (f1 (gv 2) gR)))))
end RM
namespace L2
open PySem PyProof.Rows
section
variable {X:Cx}{K:Frag}{E:XK}
variable {Γ:Fx}{e a b c:Expr}{f fa fb fc:VF D}{L La Lb:@Ix}{md ma mb mc:Md}{pos:Pos}
def SI.vb {tg:Expr}{fi:@Tk}(h:SI X Γ E tg e fi L .v):SI X Γ E tg e fi L .b:=PI.post h λσ H Q ⟨env,G,B,β,I,o⟩=>⟨env,G,B,β,I,o.imp λds β' k J G' H' a b c w=>k J G' H' a b c w.any⟩
end
end L2
namespace L2
open PySem PySem.Spec PyProof.Rows
section
variable {K:Frag}{X:Cx}{G H:Hp}{Γ:Fx}{E:XK}{e a b c:Expr}{f fa fb fc:VF D}{L La Lb:@Ix}{md ma mb mc:Md}{pos apos cpos np:Pos}{fr:@Tk}
def MO (i j k:Int):Int:=if j > i then (if k > j then k else j) else (if k > i then k else i)
def Di (hc:X.calm=true):fC X (.builtin "max") (λxs H Q=>∃i j k,xs= [.int i,.int j,.int k]/\Q (.int (MO i j k)) H):=by
 intro pins s σ H xs us Q I r h
 obtain⟨i,j,k,rfl,q⟩:=h
 obtain⟨u1,u2,u3,rfl,⟨t1,rfl⟩,⟨t2,rfl⟩,⟨t3,rfl⟩⟩:∃u1 u2 u3,us= [u1,u2,u3]/\RelV (.int i) u1/\RelV (.int j) u2/\RelV (.int k) u3:=by
  cases r with
  |cons r1 r=>cases r with
   |cons r2 r=>cases r with
    |cons r3 r=>cases r;exact⟨_,_,_,rfl,r1,r2,r3⟩
 refine max_three_ints (I.ok.hd hc) λh' tk kp=>⟨_,H,I.kept kp,?_,q⟩
 unfold MO
 split <;> split <;> exact⟨_,rfl⟩
def BJ:List D->Option D
 | [.int i,.int j,.int k]=>some (.int (MO i j k))
 |_=>none
def IP {ds:List D}{d:D}(h:BJ ds=some d):∃i j k,ds= [.int i,.int j,.int k]/\d=.int (MO i j k):=by
 unfold BJ at h
 split at h
 ·cases h;exact⟨_,_,_,rfl,rfl⟩
 ·cases h
def Cf (fr:@Tk):VF D:=λvs β=>(fr vs β).bnd λds β1=>R.of (BJ ds) β1
theorem JE {p:Pos}(hc:X.calm=true)(hg:Gl X "max")(hm:X.mg "max"=none)(ha:SA X Γ E [a,b,c] fr L)
  (he:starEach [a,b,c] X.env=(false,eval a X.env) :: starEach [b,c] X.env:=by rfl) (hpl:(backTo pos (starEach [b,c] X.env)).any (·.1)=false:=by rfl):SE X Γ E (.Call (.Name "max" p) [a,b,c] [] pos) (Cf fr) L .v:=by
 refine PE.post' (lG (Di hc) hg hm (@FS) ha @E_ @E_ he hpl) λσ H Q ⟨env,G,B,β,I,o⟩=>?_
 refine⟨env,G,B,β,I,o.bnd.imp λds β1 k xs G1 H1 I1 s1 m1 r=>?_⟩
 cases q:BJ ds with
 |none=>rw[q] at k;exact k.elim
 |some d=>
  rw[q] at k
  obtain⟨i,j,l,rfl,rfl⟩:=IP q
  cases r with
  |cons r1 r=>cases r with
   |cons r2 r=>cases r with
    |cons r3 r=>
     cases r
     cases r1
     cases r2
     cases r3
     exact⟨i,j,l,rfl,k _ G1 H1 I1 s1 m1 (.int _)⟩
end
end L2
namespace L2
open PySem PyProof.Rows
section
variable {X:Cx}{K:Frag}{σ:St}{G H:Hp}{s:Shared}{E:XK}
def kP (p:Int×Int):List Key:=[.inl p.1,.inl p.2]
def Ms {p q:Int×Int}:kP p=kP q↔p=q:=by
 unfold kP
 constructor
 ·intro h
  simp at h
  exact Prod.ext h.1 h.2
 ·intro h;rw[h]
abbrev KP (K:Frag)(G:Hp):List (List Key×V)->List ((Int×Int)×D)->Prop:=Paired λa b=>a.1=kP b.1/\Rp K G a.2 b.2
theorem KP.any {kvs:List (List Key×V)}{acc:List ((Int×Int)×D)}(h:KP K G kvs acc)(p:Int×Int):(kvs.any λkv=>decide (kv.1=kP p))=acc.any λkv=>decide (kv.1=p):=by
 induction h with
 |nil=>rfl
 |cons h _ ih=>
  rw[Ta,Ta,ih,h.1]
  congr 1
  rw[SD];exact Ms
end
end L2
section
namespace L2.ST
open PySem PySem.W PyProof.Rows
end L2.ST
namespace L2
open PySem PyProof.Rows
section
variable {X:Cx}{K:Frag}{σ:St}{G H:Hp}{s:Shared}{E:XK}
def Bd (K:Frag)(H:Hp):List V->@LE->Prop:=Paired λv r=>∃b,v=.ref b/\gr K H b (r.map V.int)
theorem Bd.grow {G H:Hp}(s:aw G H):∀{vs:List V} {rs:@LE},Bd K G vs rs->Bd K H vs rs
 |_,_,.nil=>.nil
 |_,_,.cons ⟨b,e,q⟩ t=>.cons ⟨b,e,q.grow s.grow⟩ (Bd.grow s t)
end
end L2
end
namespace L2
open PySem PyProof.Rows
section
variable {X:Cx}{K:Frag}{σ:St}{G H:Hp}{s:Shared}{E:XK}
theorem vE {α β:Type}{F:α->β->Prop}:∀{l₁:List α} {l₂:List β},Paired F l₁ l₂->∀{i:Nat} {a:α} {b:β},l₁[i]? =some a->l₂[i]? =some b->F a b
 |_,_,.nil,_,_,_,e,_=>by simp at e
 |_,_,.cons h t,0,_,_,e,e'=>by simp at e e';subst e e';exact h
 |_,_,.cons h t,i + 1,_,_,e,e'=>vE t (i:=i) (by simpa using e) (by simpa using e')
theorem o7 (bt:Nat->Nat->Bool):∀k,argBest bt k<=k
 | 0=>Rh _
 |k + 1=>by
  unfold argBest
  split
  ·exact Rh _
  ·exact Nat.le_succ_of_le (o7 bt k)
end
end L2
namespace L2
open PySem PySem.Spec PyProof.Rows
def C6:SF:=λ_ _=>.bad
section
variable {X:Cx}{Γ:Fx}{E:XK}
def uj {st:Stmt}:SS X Γ E st C6:=λpins s σ H D I ⟨env,G,B,β,J,o⟩=>o.elim
end
end L2
namespace L2.ST
open PySem PySem.SetTable
def Q5 (k:Int):Prop:=0<=k/\k < 8
structure Ny (f:Int->Int)(led:Bool)(h:Heap)(S:Addr)(es:List (Int×Value)):Prop where
 ex:∃o ep t,h.get? S=some o/\o.ExactSet/\o.data=.set es.toArray ep t/\Tab t (es.map (·.1))/\t.led=led
 el:∀e,e∈es->∃k tk,e=(f k,.int k tk)/\Q5 k
 nd:(es.map (·.1)).Nodup
def Ny.len {f:Int->Int}{led:Bool}{h:Heap}{S:Addr}{es:List (Int×Value)}(P:Ny f led h S es):es.length<=8:=by
 have:=gm (m:=(List.range 8).map λ(k:Nat)=>f (k:Int)) P.nd λx hx=>by
  obtain⟨e,he,rfl⟩:=Rz.mp hx
  obtain⟨k,tk,rfl,h0,h8⟩:=P.el e he
  exact Rz.mpr ⟨k.toNat,RW.mpr (@AT),by show f ((k.toNat:Nat):Int)=f k;rw[Int.toNat_of_nonneg h0]⟩
 simpa using this
end L2.ST
namespace L2
open PySem PySem.Spec PyProof.Rows
section
variable {Γ:Fx}{B:@J_}{G H G3 H3:Hp}{σ σ3:St}{env env' env3:En}{β β3:Int}
def SR.shape (I:@Is)(J:SR Γ B G3 H3 σ3 env3 β3)(hbr:∀j,Γ.br j=false)(s:aw G G3)(m:jh B H H3)(hl:σ3.length=env'.length)(he:∀(j:Nat) (t:Sl),env'[j]? =some t->t=Sl.no\/(env[j]? =some t/\σ3[j]? =σ[j]?)):SR Γ B G H3 σ3 env' β3:=by
 refine⟨s.trans J.sub,I.old,I.new,J.keep,J.pin,I.fix,λb e=>⟨(J.box b e).1,(I.box b e).2⟩,hl,λj t q=>?_,λj k c d1 d2 q1 q2 q3 q4=>?_⟩
 ·rcases he j t q with rfl | ⟨e,es⟩
  ·trivial
  ·have w:=I.slot j t e
   rw[es]
   cases t with
   |no=>trivial
   |fz d=>exact w
   |ow d=>
    obtain⟨c,w1,w2,w3,w4,w5⟩:=w
    exact⟨c,w1,w2,w3,w4,w5.mono (aw.refl _) λo q=>m.1 c o q w4⟩
   |bx=>exact w
   |br d=>obtain⟨b1,_⟩:=w;rw[hbr j] at b1;cases b1
 ·rcases he j _ q1 with z | ⟨e1,s1⟩
  ·cases z
  ·rcases he k _ q2 with z | ⟨e2,s2⟩
   ·cases z
   ·rw[s1] at q3;rw[s2] at q4
    exact I.sep j k c d1 d2 e1 e2 q3 q4
structure DI (Γ:Fx)(d0:D)(σ:St)(H:Hp)(β:Int)(cs:@LE)(B:@J_)(G:Hp)(a:Addr)(bs:List Addr):Prop where
 sr:SR Γ B G H σ [.bx,.fz d0,.no,.no,.no] β
 fa:σ[2]? =some (some (.ref a))
 ha:H a=some (.lst (bs.map V.ref))
 len:bs.length=cs.length
 hb:∀(k:Nat) (b:Addr),bs[k]? =some b->H b=some (.lst ((cs.getD k []).map V.int))
 h0:∀b,b∈a :: bs->Γ.H0 b=none/\G b=none/\B≠some b
 nd:(a :: bs).Nodup
end
section
variable {Γ:Fx}{B:@J_}{G H G2 H2:Hp}{σ:St}{β:Int}{d0:D}{cs:@LE}{a:Addr}{bs:List Addr}
def DI.ext (I:DI Γ d0 σ H β cs B G a bs)(hbr:∀j,Γ.br j=false)(x:Ext G H G2 H2):DI Γ d0 σ H2 β cs B G a bs:=by
 refine⟨I.sr.shape (I.sr.ext x) hbr x.gg (x.hh.mov B) I.sr.len λj t e=>.inr ⟨e,rfl⟩,I.fa,x.hh _ _ I.ha,I.len,λk b e=>x.hh _ _ (I.hb k b e),I.h0,I.nd⟩
end
end L2
namespace L2.HM
open PySem PySem.W PySem.Spec PyProof.Rows
structure KV (V:@Do->Shared->Prop)(l:Addr)(n:Nat)(Pv:Nat->Value->Prop):Prop where
 get:∀own z,V own z->∀p,p∈own->z.heap.get? p.1=some p.2
 put:∀own own' z h' tk,V own z->(∀b o,b∉own.map (·.1)->z.heap.get? b=some o->h'.get? b=some o)->own'.map (·.1)=own.map (·.1)->(∀p,p∈own'->h'.get? p.1=some p.2/\∀v,p.2.data≠.cell v)->V own' {z with heap:=h',toks:=tk}
 drop:∀own z h' tk,V own z->(∀b o,b∉own.map (·.1)->z.heap.get? b=some o->h'.get? b=some o)->V [] {z with heap:=h',toks:=tk}
 lst:∀own z,V own z->∃its:@G_,z.heap.IsList l its.toArray/\its.length=n/\∀i v,its[i]? =some v->Pv i v
 add:∀z oI oS,oI.isFreed=false->oS.isFreed=false->(∀v,oI.data≠.cell v)->(∀v,oS.data≠.cell v)->V [] z->V [((z.heap.push oI).objs.size,oS),(z.heap.objs.size,oI)] {z with heap:=(z.heap.push oI).push oS}
section
variable {prog:Program}{w:World}{A:Around}{E:@EQ}{l q I S:Addr}{n:Nat}{Pv:Nat->Value->Prop}{R:Result->Shared->Prop}{V:@Do->Shared->Prop}
theorem CG (k:KV V l n Pv)(kf:Nat->Int)(hh:A.handled=none)(hlI:l≠I)(hSI:S≠I)
  (turn:∀(i:Nat) (v:Value) own z,Pv i v->V own z->wpAny @TW A.in1 (call (.ref q) [v]) (λx z'=>∃t,x=.int (kf i) t/\V own z') (λ_ _=>False) z)
  (hR:∀i v z',Pv i v->(∀j,j < n->kf i<=kf j/\(j < i->kf i < kf j))->V [] z'->R (.ok (.ret v)) z') :
  ∀(r j i:Nat) (z:Shared) (vb:Value) (tb:Tok) (c:Nat) (oI:Obj),n - (j + 1)=r->j + 1<=n->
   V [(S,seqObj "list" #[vb,.int (kf i) tb] c),(I,oI)] z->z.heap.IsListIter I l (j + 1)->Pv i vb->i<=j->(∀j',j'<=j->kf i<=kf j'/\(j' < i->kf i < kf j'))->
   codeAny @TW A (.builtin "min.loop" ⟨[.ref I,.ref q,.ref S],[]⟩) R z:=by
 have hname:(toString "min" ++ toString ".loop":String)="min.loop":=by decide
 intro r
 induction r with
 |zero=>
  intro j i z vb tb c oI hr hj hV hit hvb hij hbest
  have hin:j + 1=n:=@AT
  obtain⟨its,hls,hln,hpv⟩:=k.lst _ _ hV
  have W:=Walks.list (prog:=prog) (w:=w) (A:=A.in1) hh I l hlI its.toArray
  have hsz:its.toArray.size=n:=by rw[Ry];exact hln
  have nS:=k.get _ _ hV (S,seqObj "list" #[vb,.int (kf i) tb] c) (.head _)
  refine Uh PySem.F.entry_min_loop ?_
  rw[T8 SN _]
  show wpAny _ A.in1 (seqItems? (.ref S) >>= _) _ _ _
  refine Ra (wpAny_seqItems nS rfl ?_)
  show wpAny _ A.in1 (tryCatch (pyNext (.ref I)) _ >>= _) _ _ _
  refine Ra (T7 (W.done _ _ _ ⟨by rw[hsz,<-hin];exact hit,hls⟩ λh' tk' hk'=>?_))
  have hS':=hk' S _ (by simpa using hSI) nS
  show wpAny _ A.in1 (updateSeq S (λ_=>#[]) >>= _) _ _ _
  refine Ra ?_
  refine wpAny_updateSeq hS' rfl (Ra (wpAny_letGo (Rv ?_)))
  refine hR i vb _ hvb (λj' hj'=>hbest j' (@AT)) (k.drop _ z (h'.update S (Obj.mapSeq λ_=>(#[]:Array Value))) tk' hV λb o hb e=>?_)
  have hb1:b≠S:=λz=>hb (by rw[z];exact .head _)
  have hb2:b≠I:=λz=>hb (by rw[z];exact .tail _ (.head _))
  exact (So _ _ (Ne.symm hb1)).trans (hk' b o (by simpa using hb2) e)
 |succ r ih=>
  intro j i z vb tb c oI hr hj hV hit hvb hij hbest
  have hlt:j + 1 < n:=@AT
  obtain⟨its,hls,hln,hpv⟩:=k.lst _ _ hV
  have W:=Walks.list (prog:=prog) (w:=w) (A:=A.in1) hh I l hlI its.toArray
  have hsz:its.toArray.size=n:=by rw[Ry];exact hln
  have nS:=k.get _ _ hV (S,seqObj "list" #[vb,.int (kf i) tb] c) (.head _)
  refine Uh PySem.F.entry_min_loop ?_
  rw[T8 SN _]
  show wpAny _ A.in1 (seqItems? (.ref S) >>= _) _ _ _
  refine Ra (wpAny_seqItems nS rfl ?_)
  show wpAny _ A.in1 (tryCatch (pyNext (.ref I)) _ >>= _) _ _ _
  refine Ra (T7 (W.item (j + 1) _ _ _ (by rw[hsz];exact hlt) ⟨hit,hls⟩ λv h' tk' hP hst' hk'=>?_))
  have hv:Pv (j + 1) v:=hpv _ _ (by simpa using hP)
  obtain⟨oI',hoI',hoc,hod⟩:=id hst'.1
  have V1:V [(S,seqObj "list" #[vb,.int (kf i) tb] c),(I,oI')] {z with heap:=h',toks:=tk'}:=k.put _ _ _ _ tk' hV (λb o hb e=>hk' b o (by simpa using λz=>hb (by rw[z];exact .tail _ (.head _))) e) rfl λp hp=>by
   rcases Rm.mp hp with rfl |hp
   ·exact⟨hk' S _ (by simpa using hSI) nS,λv z=>by cases z⟩
   ·rw[RE.mp hp];exact⟨hoI',λv z=>by rw[hod] at z;cases z⟩
  show wpAny _ A.in1 (tryCatch (holding [v] (call (.ref q) [v])) _ >>= _) _ _ _
  refine Ra (T7 (S1 (Sy (turn (j + 1) v _ _ hv V1) (λx s'' he=>?_) λ_ _ hF=>hF.elim)))
  obtain⟨t2,rfl,V2⟩:=he
  have nS2:=k.get _ _ V2 (S,seqObj "list" #[vb,.int (kf i) tb] c) (.head _)
  have nI2:=k.get _ _ V2 (I,oI') (.tail _ (.head _))
  have hit2:s''.heap.IsListIter I l (j + 1 + 1):=⟨oI',nI2,hoc,hod⟩
  show wpAny _ A.in1 (tryCatch (holding [v,.int (kf (j + 1)) t2] (richCompare .Lt (.int (kf (j + 1)) t2) (.int (kf i) tb) >>= _)) _ >>= _) _ _ _
  refine Ra (T7 (S1 (Ra (CmpOf.ints_lt (prog:=prog) (w:=w) (A:=A.in1) (P:=λi v=>∃t,v=.int (kf i) t) kf (λi v h=>h) (j + 1) i _ _ _ _ _ ⟨t2,rfl⟩ ⟨tb,rfl⟩ ?_))))
  refine Ra (S1 (Sn ?_))
  refine Ra (wpAny_letGo (Rv ?_))
  by_cases hb':kf (j + 1) < kf i
  ·have s1:=Heap.SameBut.update s''.heap S (Obj.mapSeq λ_=>#[v,.int (kf (j + 1)) t2])
   obtain⟨c2,hc2⟩:∃c2,(s''.heap.update S (Obj.mapSeq λ_=>#[v,.int (kf (j + 1)) t2])).get? S=some (seqObj "list" #[v,.int (kf (j + 1)) t2] c2):=⟨_,get?_update_seq nS2 λ_=>#[v,.int (kf (j + 1)) t2]⟩
   simp only[hb',decide_true,SK]
   refine Ra ?_
   refine wpAny_updateSeq nS2 rfl (Ra (wpAny_letGo ?_))
   rw[hname]
   refine Rv ⟨plainId_quiet SN _,ih (j + 1) (j + 1) _ v t2 c2 oI' (@AT) hlt (k.put _ _ _ _ s''.toks V2 (λb o hb e=>?_) rfl λp hp=>?_) ⟨oI',(s1.2 I hSI.symm).trans nI2,hoc,hod⟩ hv (Rh _) λj' hj'=>?_⟩
   ·exact (s1.2 b λz=>hb (by rw[z];exact .head _)).trans e
   ·rcases Rm.mp hp with rfl |hp
    ·exact⟨hc2,λv z=>by cases z⟩
    ·rw[RE.mp hp]
     exact⟨(s1.2 I hSI.symm).trans nI2,λv z=>by rw[hod] at z;cases z⟩
   ·by_cases e:j'=j + 1
    ·subst e
     exact⟨@AT,λ_=>@AT ⟩
    ·have hb1:=hbest j' (@AT)
     have hb2:=hb1.1
     exact⟨@AT,λ_=>@AT ⟩
  ·simp only[hb',decide_false,Sr,SX]
   refine Ra (wpAny_letGo ?_)
   rw[hname]
   refine Rv ⟨plainId_quiet SN _,ih (j + 1) i _ vb tb c oI' (@AT) hlt V2 hit2 hvb (@AT) λj' hj'=>?_⟩
   by_cases e:j'=j + 1
   ·subst e
    exact⟨@AT,λ_=>@AT ⟩
   ·exact hbest j' (@AT)
def Qx {s:Shared}{Q:@EQ}(k:KV V l n Pv)(kf:Nat->Int)(hh:A.handled=none)(hV:V [] s)(hne:0 < n)
  (turn:∀(i:Nat) (v:Value) own z,Pv i v->V own z->wpAny @TW A.in1 (call (.ref q) [v]) (λx z'=>∃t,x=.int (kf i) t/\V own z') (λ_ _=>False) z)
  (hQ:∀i v z',Pv i v->(∀j,j < n->kf i<=kf j/\(j < i->kf i < kf j))->V [] z'->Q v z') :
  wpAny @TW A (call (.builtin "min") [.ref l] [(Str.ofString "key",.ref q)]) Q E s:=by
 have hname:(toString "min" ++ toString ".loop":String)="min.loop":=by decide
 obtain⟨its0,hls,_,_⟩:=k.lst _ _ hV
 obtain⟨ol,hol,_⟩:=id hls
 have hll:l < s.heap.objs.size:=Rx hol
 refine kmk_tree PySem.F.kind_min PySem.F.plain_min PySem.F.entry_min (kmk_min_key _ _) ?_
 show wpAny _ A.in1 (Builtin.Builtins.bindParams "min" ["key","default"] 0 ⟨[],[(Str.ofString "key",.ref q)]⟩ >>= _) _ _ s
 refine Ra (wpAny_of_eq (show Builtin.Builtins.bindParams "min" ["key","default"] 0 ⟨[],[(Str.ofString "key",.ref q)]⟩=pure [some (.ref q),none] from rfl) ?_)
 refine Ra (Rv ?_)
 refine Ra (TF hls ?_)
 refine Ra (wpAny_newList ?_ (Sb _))
 rw[hname]
 have hS:(s.heap.push {cls:=.type "list_iterator",data:=.fields #[.ref l,.int 0 0]}).objs.size=s.heap.objs.size + 1:=S2 ..
 have hlI:l≠s.heap.objs.size:=R6 hll
 have hSI:(s.heap.push {cls:=.type "list_iterator",data:=.fields #[.ref l,.int 0 0]}).objs.size≠s.heap.objs.size:=by rw[hS];exact Nat.ne_of_gt (Nat.lt_succ_self _)
 have V0:=k.add s {cls:=.type "list_iterator",data:=.fields #[.ref l,.int 0 0]} (seqObj "list" #[] 0) rfl rfl (λv z=>by cases z) (λv z=>by cases z) hV
 generalize hSd:(s.heap.push {cls:=.type "list_iterator",data:=.fields #[.ref l,.int 0 0]}).objs.size=S at hSI V0
 refine Rv ⟨plainId_quiet SN _,?_⟩
 have gS:=k.get _ _ V0 (S,seqObj "list" #[] 0) (.head _)
 have gI:=k.get _ _ V0 (s.heap.objs.size,_) (.tail _ (.head _))
 obtain⟨its,hls0,hln,hpv⟩:=k.lst _ _ V0
 have W:=Walks.list (prog:=prog) (w:=w) (A:=A.in1) hh s.heap.objs.size l hlI its.toArray
 have hsz:its.toArray.size=n:=by rw[Ry];exact hln
 refine Uh PySem.F.entry_min_loop ?_
 rw[T8 SN _]
 show wpAny _ A.in1 (seqItems? (.ref _) >>= _) _ _ _
 refine Ra (wpAny_seqItems gS rfl ?_)
 show wpAny _ A.in1 (tryCatch (pyNext (@Ty)) _ >>= _) _ _ _
 refine Ra (T7 (W.item 0 _ _ _ (by rw[hsz];exact hne) ⟨⟨_,gI,rfl,rfl⟩,hls0⟩ λv h' tk' hP hst' hk'=>?_))
 have hv:Pv 0 v:=hpv _ _ (by simpa using hP)
 obtain⟨oI',hoI',hoc,hod⟩:=id hst'.1
 have V1:=k.put _ [(S,seqObj "list" #[] 0),(s.heap.objs.size,oI')] _ h' tk' V0 (λb o hb e=>hk' b o (by simpa using λz=>hb (by rw[z];exact .tail _ (.head _))) e) rfl λp hp=>by
  rcases Rm.mp hp with rfl |hp
  ·exact⟨hk' S _ (by simpa using hSI) gS,λv z=>by cases z⟩
  ·rw[RE.mp hp];exact⟨hoI',λv z=>by rw[hod] at z;cases z⟩
 show wpAny _ A.in1 (tryCatch (holding [v] (call (.ref q) [v])) _ >>= _) _ _ _
 refine Ra (T7 (S1 (Sy (turn 0 v _ _ hv V1) (λx s'' he=>?_) λ_ _ hF=>hF.elim)))
 obtain⟨t2,rfl,V2⟩:=he
 have nS2:=k.get _ _ V2 (S,seqObj "list" #[] 0) (.head _)
 have nI2:=k.get _ _ V2 (s.heap.objs.size,oI') (.tail _ (.head _))
 have s1:=Heap.SameBut.update s''.heap S (Obj.mapSeq λ_=>#[v,.int (kf 0) t2])
 obtain⟨c2,hc2⟩:∃c2,(s''.heap.update S (Obj.mapSeq λ_=>#[v,.int (kf 0) t2])).get? S=some (seqObj "list" #[v,.int (kf 0) t2] c2):=⟨_,get?_update_seq nS2 λ_=>#[v,.int (kf 0) t2]⟩
 show wpAny _ A.in1 (updateSeq S (λ_=>#[v,.int (kf 0) t2]) >>= _) _ _ _
 refine Ra ?_
 refine wpAny_updateSeq nS2 rfl ?_
 rw[hname]
 refine Rv ⟨plainId_quiet SN _,CG k kf hh hlI hSI turn hQ _ 0 0 _ v t2 c2 oI' rfl hne (k.put _ _ _ _ s''.toks V2 (λb o hb e=>(s1.2 b λz=>hb (by rw[z];exact .head _)).trans e) rfl λp hp=>?_) ⟨oI',(s1.2 _ hSI.symm).trans nI2,hoc,hod⟩ hv (Rh _) λj' hj'=>?_⟩
 ·rcases Rm.mp hp with rfl |hp
  ·exact⟨hc2,λv z=>by cases z⟩
  ·rw[RE.mp hp]
   exact⟨(s1.2 _ hSI.symm).trans nI2,λv z=>by rw[hod] at z;cases z⟩
 ·have e:j'=0:=@AT
  subst e
  exact⟨@AT,λh=>absurd h (RU _)⟩
end
end L2.HM
namespace L2
open PySem PySem.Spec PyProof.Rows
section
variable {X:Cx}{pins:@Do}{σ:St}{H:Hp}{l:Addr}{xs:List V}
def QF (X:Cx)(pins:@Do)(σ:St)(H:Hp)(own:@Do)(z:Shared):Prop:=∃H',Inv X (pins ++ own) σ H' z/\aw H H'/\∀p,p∈own->lg X pins H' p.1
def LX (hl:H l=some (.lst xs)):HM.KV (QF X pins σ H) l xs.length (λi v=>∃x,xs[i]? =some x/\RelV x v):=by
 refine⟨λown z ⟨H',I,s,f⟩ p hp=>(I.pin p (RJ _ (RJ _ hp))).1,?_,?_,?_,?_⟩
 ·rintro own own' z h' tk ⟨H',I,s,f⟩ kk eo hg
  have hf:∀b,b∈own.map (·.1)->lg X pins H' b:=λb hb=>by
   obtain⟨p,hp,rfl⟩:=Rz.mp hb
   exact f p hp
  have It:=I.unpinned.turnedL (t':=tk) (ch:=own.map (·.1)) kk hf
  have hf':∀p,p∈own'->lg X pins H' p.1:=λp hp=>hf p.1 (by rw[<-eo];exact Rz.mpr ⟨p,hp,rfl⟩)
  refine⟨H',It.pins_of λp hp=>?_,s,hf'⟩
  rcases Rw.mp hp with hp |hp
  ·exact It.pin p (RJ _ hp)
  ·obtain⟨a1,a2,a3,_⟩:=hf' p hp
   exact⟨(hg p hp).1,a1,a2,a3,(hg p hp).2⟩
 ·rintro own z h' tk ⟨H',I,s,f⟩ kk
  have hf:∀b,b∈own.map (·.1)->lg X pins H' b:=λb hb=>by
   obtain⟨p,hp,rfl⟩:=Rz.mp hb
   exact f p hp
  exact⟨H',by rw[Td];exact I.unpinned.turnedL (t':=tk) (ch:=own.map (·.1)) kk hf,s,λp hp=>by cases hp⟩
 ·rintro own z ⟨H',I,s,f⟩
  obtain⟨its,rv,pl,hz⟩:=I.list (.inl (.inl (s _ _ hl)))
  refine⟨its,pl.isList,rv.length.symm,λi v e=>?_⟩
  have hi:i < xs.length:=by rw[rv.length];exact (Rn.mp e).1
  exact⟨xs[i],Rf hi,vE rv (Rf hi) e⟩
 ·rintro z oI oS n1 n2 h1 h2 ⟨H',I,s,f⟩
  rw[Td] at I
  have kp:∀b u,z.heap.get? b=some u->((z.heap.push oI).push oS).get? b=some u:=λb u e=>Ri _ (Ri _ e)
  have I2:Inv X pins σ H' {z with heap:=(z.heap.push oI).push oS}:=I.kept (t':=z.toks) kp
  have sz:(z.heap.push oI).objs.size=z.heap.objs.size + 1:=S2 ..
  have fI:lg X pins H' z.heap.objs.size:=I.fpOk (Rh _) (I.hok.fresh (Rh _))
  have fS:lg X pins H' (z.heap.push oI).objs.size:=I.fpOk (by rw[sz];exact Nat.le_succ _) (I.hok.fresh (by rw[sz];exact Nat.le_succ _))
  have hf:∀p,p∈ [((z.heap.push oI).objs.size,oS),(z.heap.objs.size,oI)]->lg X pins H' p.1:=λp hp=>by
   rcases Rm.mp hp with rfl |hp
   ·exact fS
   ·rw[RE.mp hp];exact fI
  refine⟨H',I2.pins_of λp hp=>?_,s,hf⟩
  rcases Rw.mp hp with hp |hp
  ·exact I2.pin p (RJ _ hp)
  ·obtain⟨a1,a2,a3,_⟩:=hf p hp
   rcases Rm.mp hp with rfl |hp
   ·exact⟨RB _ n2,a1,a2,a3,h2⟩
   ·rw[RE.mp hp] at a1 a2 a3 ⊢
    exact⟨Ri _ (RB _ n1),a1,a2,a3,h1⟩
def Gy {s:Shared}{q:Addr}{Q:VK}{E:@EQ}(I:@B_)(hh:X.A.handled=none)(hl:H l=some (.lst xs))(hne:0 < xs.length)(kf:Nat->Int)
  (turn:∀(i:Nat) (x:V) (v:Value) own z H',xs[i]? =some x->RelV x v->Inv X (pins ++ own) σ H' z->aw H H'->
   wpAny @Ev X.A.in1 (call (.ref q) [v]) (λu z'=>∃t H'',u=.int (kf i) t/\Inv X (pins ++ own) σ H'' z'/\aw H' H'') (λ_ _=>False) z)
  (hQ:∀i x H',xs[i]? =some x->(∀j,j < xs.length->kf i<=kf j/\(j < i->kf i < kf j))->aw H H'->Q x H') :
  wpAny @Ev X.A (call (.builtin "min") [.ref l] [(Str.ofString "key",.ref q)]) (EP X pins σ Q) E s:=by
 refine HM.Qx (LX (X:=X) (pins:=pins) (σ:=σ) hl) kf hh ⟨H,by rw[Td];exact I,aw.refl _,λp hp=>by cases hp⟩ hne ?_ ?_
 ·rintro i v own z ⟨x,ex,rx⟩ ⟨H',I',s',f'⟩
  refine Sy (turn i x v own z H' ex rx I' s') (λu z' ⟨t,H'',e,I'',s''⟩=>⟨t,e,H'',I'',s'.trans s'',λp hp=>?_⟩) λ_ _ h=>h
  obtain⟨a1,a2⟩:=f' p hp
  exact⟨(I''.pin p (RJ _ (RJ _ hp))).2.1,a2⟩
 ·rintro i v z' ⟨x,ex,rx⟩ hb ⟨H',I',s',_⟩
  rw[Td] at I'
  exact⟨x,H',I',rx,hQ i x H' ex hb s'⟩
end
abbrev Ht (X:Cx)(qual:Str)(scope:Scope)(C q:Addr)(cdv:Value):Env:=PySem.W.envX qual scope C q cdv (jc X.env.cells scope.names [])
def zR (X:Cx)(A:Around)(NB:@Id)(qual:Str)(scope:Scope)(q:Addr)(cdv:Value)(s3:Shared)(H3:Hp)(pn:@Do):Cx:=
 {X with A:=A.deeper (Ht X qual scope s3.heap.objs.size q cdv),N:=NB,s₀:=s3,H₀:=H3,env:=Ht X qual scope s3.heap.objs.size q cdv,outer:=X.stack,stack:=Ht X qual scope s3.heap.objs.size q cdv :: X.stack,ex:=[],fn:=λ_=>false,pn:=pn,xe:=λ_ _=>False}
section
variable {X:Cx}{NB:@Id}{ixs:@Ix}{scope:Scope}{pins:@Do}{σ:St}{H:Hp}{s:Shared}
def C1 {A:Around}{qual:Str}{q:Addr}{cdv:Value}{y:Str}{v:V}{u:Value}(S:cz X NB 1 ixs scope)(nc:∀y∈scope.names,y.2≠.cell)(I:@B_)(hA:A.frames=some X.stack)(hh:A.handled=none)(hy:NB[0]? =some y)(hloc:scope.names.lookup y=some .local)(rv:RelV v u){h1:Heap}{tk:Nat}
  (hn:h1.Ns s.heap.objs.size (λx=>[(y,u)].reverse.lookup x)) (hk:∀b o,s.heap.get? b=some o->h1.get? b=some o) :
  Inv (zR X A NB qual scope q cdv s H (X.pn ++ pins)) [] (some v :: ixs.map λi=>(σ[i]?).join) H {s with heap:=h1,toks:=tk}:=by
 have stk:=I.stack
 have frees:∀{x:Str},(x,NameKind.free)∈scope.names->∃c,@No:=λ{x} hx=>I.ok.has x (S.frees _ hx rfl)
 have clE:∀{x:Str} {c:Addr},(jc X.env.cells scope.names []).lookup x=some c->(x,NameKind.free)∈scope.names/\@No:=λ{x c} h=>by
  rcases n6 h with⟨a,b⟩ |a
  ·obtain⟨c',e⟩:=frees a
   rw[e] at b
   exact⟨a,by rw[e,b];rfl⟩
  ·simp at a
 have isFree:∀{x:Str},(scope.names.lookup x=some .cell\/scope.names.lookup x=some .free)->(x,NameKind.free)∈scope.names:=λ{x} h=>by
  rcases h with h |h
  ·exact absurd rfl (nc _ (Sk h))
  ·exact Sk h
 have neN:∀b o,s.heap.get? b=some o->b≠s.heap.objs.size:=λb o e=>R6 (Rx e)
 have noA:∀b:Addr,b∉(zR X A NB qual scope q cdv s H (X.pn ++ pins)).ex:=λb z=>absurd (show b∈([]:List Addr) from z) (@KM)
 have ok:(zR X A NB qual scope q cdv s H (X.pn ++ pins)).Ok:=
  ⟨I.ok.mod,S.kind,rfl,rfl,Rh _,λx y c h1 h2=>I.ok.inj x y c (clE h1).2 (clE h2).2,λx hx=>⟨_,om (.inl (isFree hx))⟩,λx c h=>(by cases h),λ_=>hh,Around.frames_deeper hA,.inr ⟨rfl,rfl⟩,λb hb=>absurd hb (noA b),I.bs,Sd I.ok.bsz I.sz,λb _ _=>noA b,λb hb=>absurd hb (noA b),stk,I.stkFree⟩
 refine⟨ok,rfl,I.bare,Un.kept hk,⟨_,hn,λi x v' h1' h2' h3'=>?_⟩,λx c h=>?_,I.hok.fresh (Rh _),λx c h=>I.freeC x c (clE h).2,λp hp=>?_,I.hok.kept hk,?_⟩
 ·have h1':NB[i]? =some x:=h1'
  cases i with
  |zero=>
   rw[hy] at h1'
   cases h1'
   have h2':some v=some v':=by simpa using h2'
   cases h2'
   exact⟨u,rv,.inl ⟨hloc,@KM ⟩⟩
  |succ k=>
   have hk':k < ixs.length:=by
    have:=(Rn.mp h1').1
    rw[S.len] at this;omega
   obtain⟨e1,e2⟩:=S.at' k hk'
   rw[Nat.add_comm 1 k] at e1 e2
   have hm:=e2 x h1'
   rw[List.getElem?_cons_succ,RA,Rf hk'] at h2'
   simp only[Option.map_some,Option.some.injEq] at h2'
   have hix:ixs.getD k 0=ixs[k]:=by simp[hk']
   have hσ:σ[ixs[k]]? =some (some v'):=by
    cases e:σ[ixs[k]]? with
    |none=>rw[e] at h2';cases h2'
    |some o=>rw[e] at h2';simp at h2';rw[h2']
   rw[e1,hix] at h1'
   have hkind:=S.frees _ hm rfl
   have hvis:BN X.env.scope x:=hkind.elim (λz=>.inr (.inl z)) (λz=>.inr (.inr z))
   obtain⟨m,hm',hl⟩:=I.loc
   obtain⟨u',r,look⟩:=hl _ x v' h1' hσ hvis
   refine⟨u',r,.inr ⟨.inr (S.names _ hm),?_⟩⟩
   rcases look with⟨z,_⟩ | ⟨_,c,hc,hcell⟩
   ·rcases hkind with q |q
    ·rw[q] at z;cases z
    ·rw[q] at z;cases z
   ·refine⟨c,?_,?_⟩
    ·have:=om (cells:=X.env.cells) (cs:=[]) (.inl hm)
     rw[hc] at this
     exact this
    ·obtain⟨o,ho,hd⟩:=hcell
     exact⟨o,hk _ _ ho,hd⟩
 ·obtain⟨v,o,ho,hd⟩:=I.cell x c (clE h).2
  exact⟨v,o,hk _ _ ho,hd⟩
 ·have hp':p∈X.pn ++ pins:=by
   rcases Rw.mp hp with z |z
   ·exact z
   ·cases z
  obtain⟨e,n,ne,nf,d⟩:=I.pin p hp'
  refine⟨hk _ _ e,n,neN _ _ e,λz=>?_,d⟩
  rcases Rm.mp (I.stkSub _ z) with q |q
  ·exact ne q
  ·exact nf q
 ·show (some v :: ixs.map λi=>(σ[i]?).join).length=NB.length
  rw[S.len];simp;omega
end
def CP {prog:Program}{w:World}{A:Around}{R:Result->Shared->Prop}{s:Shared}{a:Addr}{args:Args}{o:Obj}{fd:FuncData}{body:Expr}{qn:Str}(hroom:A.depth < recursionLimit)
  (ho:s.heap.get? a=some o)
  (hd':o.data=.func fd) (hco:fd.scope.isCoroutine=false) (hgen:fd.scope.isGenerator=false) (hbody:fd.body=.expr body) (hcd:s.heap.CodeRec fd.code qn)
  (h:wpAny @TW A.in1 (bindArgs fd args) (λbinds s₁=>
   wpAny @TW A.in1 (newFunctionEnv fd.scope fd.globals fd.closure binds (qn ++ ".<locals>.") (some a) fd.code none fd.builtins)
    (λenv s₂=>s₂.heap.NoLimit/\codeAny @TW A (.expr body env) R s₂) (λe s'=>R (.error e) s') s₁) (λe s'=>R (.error e) s') s) :
  codeAny @TW A (.call (.ref a) args) R s:=by
 refine codeAny_of_tree ?_
 show wpAny _ A.in1 (callAny (.ref a) args) _ _ s
 simp only[callAny]
 refine Ra (wpAny_load ho ?_)
 obtain⟨c,oc,vs,tq,hc,hoc,hdc,hq⟩:=hcd
 simp only[hd',callFunction,hco,hgen,hbody,hc]
 rw[hc] at h
 refine Ra (m:=field (.ref c) 1) (TL hoc hdc hq (Ra (Rv ?_)))
 exact Ra (Sy h (λbinds s₁ h₁=>Ra (Sy h₁ (λenv s₂ h₂=>Ra (wpAny_enterFrame h₂.1 hroom
  (Rv (And.intro rfl h₂.2)))) λ_ _ h'=>h')) λ_ _ h'=>h')
section
variable {X:Cx}{NB:@Id}{ixs:@Ix}{scope:Scope}{pins:@Do}{σ:St}{H:Hp}{s:Shared}
def FL {A:Around}{name qual:Str}{params:Arguments}{body:Expr}{pm ctv:Value}{q c':Addr}{y:Str}{v:V}{u:Value}{te:TE}{Q:VK}{qn:Str}
  (S:cz X NB 1 ixs scope) (nc:∀y∈scope.names,y.2≠.cell) (hco:scope.isCoroutine=false) (hgen:scope.isGenerator=false) (I:@B_) (hA:A.frames=some X.stack) (hh:A.handled=none) (hd:A.depth < recursionLimit) (hy:NB[0]? =some y) (hloc:scope.names.lookup y=some .local) (rv:RelV v u)
  (ho:s.heap.get? q=some (PySem.W.kla_obj name qual params body scope (jc X.env.cells scope.names []) pm c' ctv)) (hcd:s.heap.CodeRec (.ref c') qn)
  (hb:bindArgs (PySem.W.kla_fn name qual params body scope (jc X.env.cells scope.names []) pm (.ref c') ctv) ⟨[u],[]⟩=pure [(y,u)])
  (he:PE (zR X A NB qn scope q (.ref c') s H (X.pn ++ pins)) body te) (h:te (some v :: ixs.map λi=>(σ[i]?).join) H Q) :
  wpAny @Ev A (call (.ref q) [u]) (EP X pins σ Q) (λ_ _=>False) s:=by
 refine wpAny_call ?_
 refine CP hd ho rfl hco hgen rfl hcd ?_
 rw[hb]
 refine Rv (wpAny_newFunctionEnv nc (λx hx=>by rw[RE] at hx;rw[hx];exact hloc) (λh1 hn hsb=>?_) S.kind)
 have hk:∀b o,s.heap.get? b=some o->h1.get? b=some o:=λb o e=>hsb.extBut b o (R6 (Rx e)) (Ri _ e)
 have lim:s.heap.NoLimit:=I.ok.mod.nolimit.keeps λb o e=>I.bk b o e
 refine⟨lim.keeps hk,?_⟩
 show codeAny _ _ (.expr body (Ht X qn scope s.heap.objs.size q (.ref c'))) _ _
 refine PySem.W.kla_codeExpr ?_
 have I':=C1 (qual:=qn) (q:=q) (cdv:=.ref c') (tk:=s.toks + [(y,u)].length) S nc I hA hh hy hloc rv hn hk
 refine Sy (he [] _ _ H Q I' h) (λu' s' ⟨x,H',I2,rx,qx⟩=>?_) λe s' hx=>hx.elim
 exact I.after ⟨x,H',I2.os,I2.bare,I2.base,I2.hok,rx,qx⟩
end
def NO (X:Cx)(kr:St->V->V->@P_):Prop:=∀(pins:@Do) (s:Shared) (σ:St) (H:Hp) (q:Addr) (x:V) (u:Value) (Q:VK),@B_->RelV x u->kr σ (.ref q) x H Q->wpAny @Ev X.A.in1 (call (.ref q) [u]) (EP X pins σ Q) (λ_ _=>False) s
def Om (kr:St->V->V->@P_)(ta tl:TE):TE:=λσ H Q=>ta σ H λx H1=>tl σ H1 λf H2=>∃(l q:Addr) (xs:List V) (kf:Nat->Int),x=.ref l/\f=.ref q/\H2 l=some (.lst xs)/\0 < xs.length/\
 (∀(i:Nat) (y:V) (H':Hp),xs[i]? =some y->aw H2 H'->kr σ (.ref q) y H' λw H''=>w=.int (kf i)/\aw H' H'')/\
 ∀(i:Nat) (y:V) (H':Hp),xs[i]? =some y->(∀j,j < xs.length->kf i<=kf j/\(j < i->kf i < kf j))->aw H2 H'->Q y H'
section
variable {X:Cx}{a lam:Expr}{ta tl:TE}{p pos kp:Pos}{kr:St->V->V->@P_}
theorem CO (hc:X.calm=true)(hg:Gl X "min")(hm:X.mg "min"=none)(hkr:NO X kr)(ha:PE X a ta)(hl:PE X lam tl)(hv:bootBuiltins "min"=some (.builtin "min"):=by decide +kernel)
  (he:@M_:=by rfl):PE X (.Call (.Name "min" p) [a] [⟨some "key",lam,kp⟩] pos) (Om kr ta tl):=by
 intro pins s σ H Q I h
 refine Um (oK I hg hm hv ?_ @E_)
 let K2:V->V->@P3:=λx f H2=>∃(l q:Addr) (xs:List V) (kf:Nat->Int),x=.ref l/\f=.ref q/\H2 l=some (.lst xs)/\0 < xs.length/\
  (∀(i:Nat) (y:V) (H':Hp),xs[i]? =some y->aw H2 H'->kr σ (.ref q) y H' λw H''=>w=.int (kf i)/\aw H' H'')/\
  ∀(i:Nat) (y:V) (H':Hp),xs[i]? =some y->(∀j,j < xs.length->kf i<=kf j/\(j < i->kf i < kf j))->aw H2 H'->Q y H'
 let QK:V->List V->@P3:=λx fs H2=>match fs with
  | [f]=>K2 x f H2
  |_=>False
 let QA:List V->@P3:=λvs H1=>match vs with
  | [x]=>B3 tl Jn σ H1 (QK x)
  |_=>False
 have h':B3 ta Jn σ H QA:=h
 refine callWith_kw (cZ (ba ha cf he pos pins s σ H QA I h') λus s1 ⟨vs,H1,I1,r1,q1⟩=>?_) (by rw[he];rfl) (by rw[he];rfl) rfl rfl
 match vs,r1,q1 with
 | [],_,q1=>exact q1.elim
 |_ :: _ :: _,_,q1=>exact q1.elim
 | [x],r1,q1=>
  refine cZ (He hl LD pos pins s1 σ H1 (QK x) I1 q1) λws s2 ⟨zs,H2,I2,rz,q2⟩=>?_
  match zs,rz,q2 with
  | [],_,q2=>exact q2.elim
  |_ :: _ :: _,_,q2=>exact q2.elim
  | [f],rz,q2=>
   obtain⟨l,q,xs,kf,rfl,rfl,hL,hne,hk,hQ⟩:=q2
   obtain⟨u,rfl,ru⟩:=vals1 r1
   obtain⟨uf,rfl,rf⟩:=vals1 rz
   cases ru
   cases rf
   show wpAny @Ev X.A (call (.builtin "min") [.ref l] [(Str.ofString "key",.ref q)]) (EP X pins σ Q) _ s2
   refine Gy I2 (I2.ok.hd hc) hL hne kf (λi x v own z H' ex rx I' s'=>?_) λi x H' ex hb s'=>hQ i x H' ex hb s'
   refine Sy (hkr (pins ++ own) z σ H' q x v _ I' rx (hk i x H' ex s')) (λu' z' ⟨w,H'',I'',rw',e,s''⟩=>?_) λ_ _ hF=>hF
   subst e
   obtain⟨t,rfl⟩:=rw'
   exact⟨t,H'',rfl,I'',s''⟩
end
section
variable {X:Cx}{NB:@Id}{ixs:@Ix}{scope:Scope}
def zD (X:Cx)(params:Arguments)(body:Expr)(scope:Scope)(q:Addr)(H:Hp):Prop:=∃(name qual:Str) (pm ctv:Value) (c':Addr) (oc:Obj),
 H q=some (.a8 (PySem.W.kla_obj name qual params body scope (jc X.env.cells scope.names []) pm c' ctv) (.own 0))/\H c'=some (.a8 oc (.own 0))/\Iz oc
def zD.step {params:Arguments}{body:Expr}{q:Addr}{H H':Hp}(h:zD X params body scope q H)(s:aw H H'):zD X params body scope q H':=by
 obtain⟨name,qual,pm,ctv,c',oc,h1,h2,h3⟩:=h
 exact⟨name,qual,pm,ctv,c',oc,s _ _ h1,s _ _ h2,h3⟩
def Q7 (X:Cx)(params:Arguments)(body:Expr)(scope:Scope)(ixs:@Ix)(te:TE):St->V->V->@P_:=λσ f x H Q=>∃q,f=.ref q/\zD X params body scope q H/\te (some x :: ixs.map λi=>(σ[i]?).join) H Q
def Hn {params:Arguments}{body:Expr}{y:Str}{te:TE}(S:cz X NB 1 ixs scope)(nc:∀y∈scope.names,y.2≠.cell)(hco:scope.isCoroutine=false)(hgen:scope.isGenerator=false)(hc:X.calm=true)(hd:X.A.in1.depth < recursionLimit)(hy:NB[0]? =some y)(hloc:scope.names.lookup y=some .local)
  (hb:∀(name qual:Str) (pm ctv:Value) (c':Addr) (u:Value),bindArgs (PySem.W.kla_fn name qual params body scope (jc X.env.cells scope.names []) pm (.ref c') ctv) ⟨[u],[]⟩=pure [(y,u)])
  (he:∀qn q c' s H pn,PE (zR X X.A.in1 NB qn scope q (.ref c') s H pn) body te):NO X (Q7 X params body scope ixs te):=by
 rintro pins s σ H q x u Q I rx ⟨q',e,⟨name,qual,pm,ctv,c',oc,h1,h2,vs,qn,t,d1,d2⟩,h⟩
 cases e
 have g1:=(I.hok _ _ h1).1
 have g2:=(I.hok _ _ h2).1
 exact FL S nc hco hgen I I.env0.in1.frames (I.ok.hd hc) hd hy hloc rx g1 ⟨c',oc,vs,t,rfl,g2,d1,d2⟩ (hb name qual pm ctv c' u) (he qn q c' s H _) h
end
def M9 (X:Cx)(Tb:@P3)(params:Arguments)(body:Expr)(scope:Scope):TE:=λσ H Q=>Tb H/\∀q H',aw H H'->zD X params body scope q H'->Q (.ref q) H'
def nD (fb:VF D)(dr:D)(β:Int)(d:D):Option Int:=match fb [.da d,.da dr] β with
 | .ok (.int k) _=>some k
 |_=>none
def zv (ks:@Db):Nat:=argBest (λi j=>decide (ks.getD i 0 < ks.getD j 0)) (ks.length - 1)
def BC (ir:Nat)(fa fb:VF D):VF D:=λvs β=>(@Tm).bnd λx β1=>match x,dat vs[ir]? with
 | .list ds,some dr=>if 0 < ds.length/\ds.all (λd=>(nD fb dr β1 d).isSome)=true then R.of ds[zv (ds.map λd=>(nD fb dr β1 d).getD 0)]? β1 else .bad
 |_,_=>.bad
def tH {ks:@Db}(h:0 < ks.length):zv ks < ks.length/\∀i,i < ks.length->(∀j,j < ks.length->ks.getD i 0<=ks.getD j 0/\(j < i->ks.getD i 0 < ks.getD j 0))->i=zv ks:=by
 have h1:=o7 (λi j=>decide (ks.getD i 0 < ks.getD j 0)) (ks.length - 1)
 refine⟨by unfold zv;omega,λi hi hb=>?_⟩
 have first:∀n:Nat,n < ks.length->∀j,j<=n->ks.getD (argBest (λi j=>decide (ks.getD i 0 < ks.getD j 0)) n) 0<=ks.getD j 0/\(j < argBest (λi j=>decide (ks.getD i 0 < ks.getD j 0)) n->ks.getD (argBest (λi j=>decide (ks.getD i 0 < ks.getD j 0)) n) 0 < ks.getD j 0):=by
  intro n
  induction n with
  |zero=>
   intro _ j hj
   have:j=0:=@AT
   subst this
   exact⟨Int.le_refl _,λz=>absurd z (RU _)⟩
  |succ n ih=>
   intro hn j hj
   have ihn:=ih (@AT)
   have le:=o7 (λi j=>decide (ks.getD i 0 < ks.getD j 0)) n
   unfold argBest
   by_cases c:ks.getD (n + 1) 0 < ks.getD (argBest (λi j=>decide (ks.getD i 0 < ks.getD j 0)) n) 0
   ·rw[Rg (Rk c)]
    by_cases e:j=n + 1
    ·subst e;exact⟨Int.le_refl _,λz=>absurd z (RU _)⟩
    ·have:=(ihn j (@AT)).1
     exact⟨@AT,λ_=>@AT ⟩
   ·rw[Rj (by rw[Rq];exact c)]
    by_cases e:j=n + 1
    ·subst e;exact⟨@AT,λz=>@AT ⟩
    ·exact ihn j (@AT)
 have hB:=first (ks.length - 1) (@AT)
 show i=argBest _ (ks.length - 1)
 generalize argBest (λi j=>decide (ks.getD i 0 < ks.getD j 0)) (ks.length - 1)=b at hB h1
 have a1:=hB i (@AT)
 have a2:=hb b (@AT)
 rcases Nat.lt_trichotomy i b with z |z |z
 ·have:=a1.2 z;omega
 ·exact z
 ·have:=a2.2 z;omega
section
variable {X:Cx}{Γ:Fx}{E:XK}{a lam:Expr}{fa fb:VF D}{La Lb:@Ix}{ma mb:Md}{p pos kp:Pos}{NB:@Id}{scope:Scope}{params:Arguments}{body:Expr}{y:Str}{ir:Nat}{Tb:@P3}
theorem DG (hc:X.calm=true)(hK:X.K=Γ.K)(hg:Gl X "min")(hm:X.mg "min"=none)(ha:SE X Γ E a fa La .v)(hl:PE X lam (M9 X Tb params body scope))(hT:∀(B:@J_) (G H:Hp) σ env β,@Is->Tb H)
  (S:cz X NB 1 [ir] scope) (nc:∀y∈scope.names,y.2≠.cell) (hco:scope.isCoroutine=false) (hgen:scope.isGenerator=false) (hd:X.A.in1.depth < recursionLimit) (hy:NB[0]? =some y) (hloc:scope.names.lookup y=some .local)
  (hb:∀(name qual:Str) (pm ctv:Value) (c':Addr) (u:Value),bindArgs (PySem.W.kla_fn name qual params body scope (jc X.env.cells scope.names []) pm (.ref c') ctv) ⟨[u],[]⟩=pure [(y,u)])
  (he:∀H0 G0 qn q c' s H pn,SE (zR X X.A.in1 NB qn scope q (.ref c') s H pn) (Γ.j9 H0 G0 [] (λ_=>false) none) E0 body fb Lb .v)
  (hst:@M_:=by rfl):SE X Γ E (.Call (.Name "min" p) [a] [⟨some "key",lam,kp⟩] pos) (BC ir fa fb) La .v:=by
 let te:TE:=λσ H Q=>∃H0 G0,pT (Γ.j9 H0 G0 [] (λ_=>false) none) E0 fb Lb .v σ H Q
 have hkr:=Hn (te:=te) S nc hco hgen hc hd hy hloc hb λqn q c' s H pn pins s' σ' H' Q I ⟨H0,G0,h⟩=>he H0 G0 qn q c' s H pn pins s' σ' H' Q I h
 refine PE.post' (CO hc hg hm hkr ha hl (he:=hst)) λσ H Q ⟨env,G,B,β,I,o⟩=>?_
 refine⟨env,G,B,β,I,o.bnd.imp λd1 β1 h x G1 H1 I1 s1 m1 vx=>?_⟩
 refine⟨hT B G1 H1 σ _ β1 I1,λq H2 s2 hlam=>?_⟩
 cases d1 with
 |list ds=>
  cases edr:dat (@PP)[ir]? with
  |none=>rw[edr] at h;exact h.elim
  |some dr=>
  rw[edr] at h
  dsimp only at h
  by_cases hz:0 < ds.length/\ds.all (λd=>(nD fb dr β1 d).isSome)=true
  case neg=>rw[Rj hz] at h;exact h.elim
  rw[Rg hz] at h
  obtain⟨d,ed,k⟩:=h.of
  have vx:Rp Γ.K G1 x (.list ds):=vx
  cases vx with
  | @lst l xs _ hq r=>
  have hl2:H2 l=some (.lst xs):=s2 _ _ (I1.sub _ _ hq)
  have hlen:=r.len
  refine⟨l,q,xs,λi=>(ds.map λd=>(nD fb dr β1 d).getD 0).getD i 0,rfl,rfl,hl2,@AT,λi y H' ey s'=>?_,λi y H' ey hbest s'=>?_⟩
  ·refine⟨q,rfl,hlam.step s',H',H',?_⟩
   obtain⟨di,edi,rdi⟩:=r.at' ey
   have sH:aw H1 H':=s2.trans s'
   have ry:Rp Γ.K H' y di:=rdi.mono (I1.sub.trans sH)
   have e1:(vl (a8 La env))[ir]? =some (.da dr):=by rw[de];exact join_some edr
   obtain⟨v,hv,rv⟩:∃v,σ[ir]? =some (some v)/\Rp Γ.K H' v dr:=by
    rcases Fw e1 with z |z |z
    ·obtain⟨v,w1,w2⟩:=I1.slot ir _ z
     exact⟨v,w1,w2.mono (I1.sub.trans sH)⟩
    ·obtain⟨c,w1,w2,w3,w4,w5⟩:=I1.slot ir _ z
     exact⟨_,w1,(ou.rpH (B:=B) (.inr ⟨c,rfl,w4,w5⟩) I1.sub).mono sH⟩
    ·obtain⟨_,c,w1,w4,_,w5⟩:=I1.slot ir _ z
     exact⟨_,w1,(ou.rpH (B:=B) (.inr ⟨c,rfl,w4,w5⟩) I1.sub).mono sH⟩
   have J:SR (Γ.j9 H' H' [] (λ_=>false) none) none H' H' (some y :: [ir].map λi=>(σ[i]?).join) [.fz di,.fz dr] β1:=by
    refine⟨aw.refl _,aw.refl _,λb _ h=>h,λb o e _=>Kt.of e,(λb hb=>by cases hb),λb e=>e,(λb e=>by cases e),rfl,λi t e=>?_,λi j c d1 d2 e=>?_⟩
    ·match i,e with
     | 0,e=>cases e;exact⟨y,rfl,ry⟩
     | 1,e=>cases e;exact⟨v,by simp[hv],rv⟩
     |i + 2,e=>simp at e
    ·match i,e with
     | 0,e=>cases e
     | 1,e=>cases e
     |i + 2,e=>simp at e
   refine⟨_,H',none,β1,J,?_⟩
   show Out _ _ (fb [.da di,.da dr] β1) _
   have hs:=RH.mp hz.2 di (RN edi)
   have ek:(ds.map λd=>(nD fb dr β1 d).getD 0).getD i 0=(nD fb dr β1 di).getD 0:=by
    rw[RP,RA,edi];rfl
   cases ef:fb [.da di,.da dr] β1 with
   |exc c=>unfold nD at hs;rw[ef] at hs;cases hs
   |bad=>unfold nD at hs;rw[ef] at hs;cases hs
   |ok dk β'=>
    unfold nD at hs
    rw[ef] at hs
    cases dk with
    |int kk=>
     intro w G'' H'' J2 _ _ vo
     have vo:Rp Γ.K G'' w (.int kk):=vo
     cases vo
     have e2:nD fb dr β1 di=some kk:=by unfold nD;rw[ef]
     exact⟨by dsimp only;rw[ek,e2];rfl,λb o e=>J2.keep b o e (by intro z;cases z)⟩
    |_=>cases hs
  ·have hks:(ds.map λd=>(nD fb dr β1 d).getD 0).length=ds.length:=Rb ..
   have hi:i < xs.length:=(Rn.mp ey).1
   have ei:=(tH (ks:=ds.map λd=>(nD fb dr β1 d).getD 0) (@AT)).2 i (@AT) λj hj=>hbest j (@AT)
   rw[<-ei] at ed
   obtain⟨y',ey',ry⟩:=r.at ed
   rw[ey] at ey'
   cases ey'
   have sH:aw H1 H':=s2.trans s'
   exact k y G1 H' (I1.ext ⟨sH,aw.refl _,I1.sub.trans sH,λ_ _=>rfl⟩) s1 (m1.trans (sH.mov B)) ry
 |_=>exact h.elim
end
section
variable {X:Cx}{pins:@Do}{σ:St}{H:Hp}{s:Shared}
def Inv.grow {P c':Addr}{ps more:Array Value}{oc:Obj}{h':Heap}{tk:Nat}(I:@B_)(hP:H P=some (.tbl ps))(hx:Heap.ExtBut P s.heap h')(htb:h'.get? P=some (PySem.W.tabObj (ps ++ more)))(hge:s.heap.objs.size<=c')(hoc:h'.get? c'=some oc) :
  Inv X pins σ (upd (upd H P (.tbl (ps ++ more))) c' (.a8 oc (.own 0))) {s with heap:=h',toks:=tk}:=by
 have lt:∀{b:Addr} {o:HO},H b=some o->b≠c':=λ{b o} e z=>by
  have:=I.hok.lt e
  rw[z] at this
  exact RU _ (RY this hge)
 have lts:∀{b:Addr} {o:Obj},s.heap.get? b=some o->b≠c':=λ{b o} e z=>by
  have:=Rx e
  rw[z] at this
  exact RU _ (RY this hge)
 have nP:∀{b:Addr},H b=none->b≠P:=λ{b} e z=>by rw[z,hP] at e;cases e
 have up:∀{b:Addr} {o:HO},H b=some o->b≠P->upd (upd H P (.tbl (ps ++ more))) c' (.a8 oc (.own 0)) b=some o:=λ{b o} e n=>by rw[aC (lt e),aC n];exact e
 refine I.step (g':=s.gens) (d':=s.drawn) (t':=tk) (ch:=[]) (λ_ z=>nomatch z) (λb o _ _ _ e n=>hx b o (nP n) e) (λb o _ _ _ e n=>⟨o.slots,hx b o (nP n) e⟩) (λb o _ e n=>by rw[aC (lts e),aC (nP n)];exact n) (λb o _ e=>?_)
  (λb xs e=>up e λz=>by rw[z,hP] at e;cases e) (λb o u e=>up e λz=>by rw[z,hP] at e;cases e) (λb ps' e=>?_) (λm hn=>hn.extBut hx (nP I.free)) (λb u e=>?_) I.bare
 ·by_cases z:b=P
  ·rw[z];exact⟨_,htb⟩
  ·exact⟨o,hx b o z e⟩
 ·by_cases z:b=P
  ·subst z
   rw[hP] at e
   cases e
   exact⟨more,by rw[aC (lt hP),aE]⟩
  ·exact⟨#[],by rw[up e z];simp⟩
 ·by_cases zc:b=c'
  ·subst zc
   rw[aE] at e
   cases e
   exact⟨hoc,oc,hoc⟩
  ·rw[aC zc] at e
   by_cases z:b=P
   ·subst z
    rw[aE] at e
    cases e
    exact htb
   ·rw[aC z] at e
    refine (I.hok b u e).stay (λb' u' hb' q=>hx b' u' (λzz=>?_) q) (λb' q=>up q λzz=>by rw[zz,hP] at q;cases q) λb' xs q=>?_
    ·rcases hb' with rfl |hb'
     ·exact z zz
     ·rw[zz,hP] at hb';cases hb'
    ·rcases q with q | ⟨o,q⟩
     ·exact .inl (up q λzz=>by rw[zz,hP] at q;cases q)
     ·exact .inr ⟨o,up q λzz=>by rw[zz,hP] at q;cases q⟩
def aw.grow_tbl {P c':Addr}{ps:Array Value}{oc:Obj}{l k:Value}(hP:H P=some (.tbl ps))(hc:H c'=none)(hi:Iz oc)(hl:∃i t,l=.int i t)(hk:∃i t,k=.int i t):aw H (upd (upd H P (.tbl (ps ++ #[l,k,.ref c']))) c' (.a8 oc (.own 0))):=by
 obtain⟨il,tl,rfl⟩:=hl
 obtain⟨ik,tk,rfl⟩:=hk
 intro b o e
 have nc:b≠c':=λz=>by rw[z,hc] at e;cases e
 have Pc:P≠c':=λz=>by rw[z,hc] at hP;cases hP
 by_cases z:b=P
 ·subst z
  rw[hP] at e
  cases e
  refine⟨#[.int il tl,.int ik tk,.ref c'],by rw[aC nc,aE],trivial,λc hcm=>?_⟩
  have:c=c':=by
   simp only[Rm,Sa,Tc] at hcm
   rcases hcm with z |z |z
   ·cases z
   ·cases z
   ·cases z;rfl
  subst this
  exact⟨oc,aE,hi⟩
 ·exact Kt.of (by rw[aC nc,aC z];exact e)
end
theorem EI:∀{l:@G_},GR l->TriplesOk l
 | [],_=>trivial
 | .int _ _ :: .int _ _ :: .ref _ :: r,h=>EI (l:=r) h
theorem BV {pos:Pos}{cv:Value}:∀{l:@G_},GR l->codeAmong pos l=some cv->∃c,cv=.ref c/\Value.ref c∈l
 | [],_,h=>by cases h
 | .int a b :: .int c d :: .ref e :: r,h,hc=>by
  unfold codeAmong at hc
  split at hc
  ·cases hc;exact⟨e,rfl,@KM ⟩
  ·obtain⟨c,e1,e2⟩:=BV (l:=r) h hc
   exact⟨c,e1,by simp[e2]⟩
def GW (P:Addr)(H:Hp):Prop:=∃ps,H P=some (.tbl ps)/\GR ps.toList/\∀c,Value.ref c∈ps.toList->∃o,H c=some (.a8 o (.own 0))/\Iz o
section
variable {X:Cx}{NB:@Id}{own:Nat}{ixs:@Ix}{scope:Scope}{params:Arguments}{body:Expr}{pos:Pos}{c P:Addr}
theorem KQ (S:cz X NB own ixs scope)(hdef:defaultsOf params X.env=([],[]))(hcode:X.env.code=.ref c)(C:PySem.W.CodeHd X.base c P)(hb:X.base.BuiltinsAt X.mg P)(hgP:mainGlobals≠P):PE X (.Lambda params body scope pos) (M9 X (GW P) params body scope):=by
 rintro pins s σ H Q I ⟨⟨ps,hP,htr,hrefs⟩,h⟩
 refine PySem.W.kla_eval hdef ?_
 have hcl:closureFor scope X.env=pure (jc X.env.cells scope.names []):=o6 λy hy e=>I.ok.has _ (S.frees y hy e)
 have hb':s.heap.BuiltinsAt X.mg P:=by
  obtain⟨bm,o,b1,b2,b3,b4,b5,b6⟩:=hb
  exact⟨bm,o,b1,b2,b3,b4,I.bk _ _ b5,b6⟩
 cases hca:codeAmong pos ps.toList with
 |none=>
  refine PySem.W.kla_makeFunction hcl I.ok.glob (I.mod.glob.keeps I.bk) hcode (C.keeps I.bk) (I.hok P _ hP) (EI htr) hca hgP hb' λc' ctv h' tk hx hge hlt hrec htb=>?_
  obtain⟨c2,oc,vs,t,e2,hoc,hd,hv⟩:=hrec
  cases e2
  have I1:=I.grow (tk:=tk) hP hx htb hge hoc
  have hc0:H c'=none:=I.hok.fresh hge
  have sm:=aw.grow_tbl (l:=rawInt pos.line) (k:=rawInt pos.col) hP hc0 (oc:=oc) ⟨vs,_,t,hd,hv⟩ ⟨_,_,rfl⟩ ⟨_,_,rfl⟩
  generalize hH1:upd (upd H P (.tbl (ps ++ #[rawInt pos.line,rawInt pos.col,.ref c']))) c' (.a8 oc (.own 0))=H1 at I1 sm
  have ec:H1 c'=some (.a8 oc (.own 0)):=by rw[<-hH1,aE]
  have ff:H1 h'.objs.size=none:=I1.hok.fresh (Rh _)
  have I2:=I1.laid (a:=h'.objs.size) (o:=.a8 @N_ (.own 0)) (t':=tk) (h':=h'.push @N_) (λb u e=>Ri _ e) (Rh _) ⟨RB _ rfl,_,RB _ rfl⟩
  exact⟨.ref h'.objs.size,_,I2,rfl,h _ _ (sm.trans (aw.new ff)) ⟨_,_,_,_,c',oc,aE,by rw[aC (aR ec ff)];exact ec,vs,_,t,hd,hv⟩⟩
 |some cv=>
  obtain⟨c',rfl,hm⟩:=BV htr hca
  obtain⟨oc,ec,hi⟩:=hrefs c' hm
  refine PySem.W.kla_makeFunctionHit hcl I.ok.glob (I.mod.glob.keeps I.bk) hcode (C.keeps I.bk) (I.hok P _ hP) (EI htr) hca hb' λctv h' tk hk hsz=>?_
  have I1:Inv X pins σ H {s with heap:=h',toks:=tk}:=I.kept (t':=tk) hk
  have ff:H h'.objs.size=none:=I1.hok.fresh (Rh _)
  have I2:=I1.laid (a:=h'.objs.size) (o:=.a8 @N_ (.own 0)) (t':=tk) (h':=h'.push @N_) (λb u e=>Ri _ e) (Rh _) ⟨RB _ rfl,_,RB _ rfl⟩
  exact⟨.ref h'.objs.size,_,I2,rfl,h _ _ (aw.new ff) ⟨_,_,_,_,c',oc,aE,by rw[aC (aR ec ff)];exact ec,hi⟩⟩
end
def GW.mono {P:Addr}{G G':Hp}(h:GW P G)(s:aw G G'):GW P G':=by
 obtain⟨ps,e,t,k⟩:=h
 obtain⟨m,e2,t2,k2⟩:=s P _ e
 refine⟨ps ++ m,e2,by rw[Tj];exact t.app t2,λc hc=>?_⟩
 rw[Tj,Rw] at hc
 rcases hc with hc |hc
 ·obtain⟨o,eo,io⟩:=k c hc;exact⟨o,s c _ eo,io⟩
 ·exact k2 c hc
def spT (T:Addr)(K:Frag)(ca:Str->Addr)(n:Nat)(F:@Cl):Sp:=λvs H Q E=>∃G ds,GW T G/\aw G H/\ds.length=n/\cP K G vs ds/\match F ds with
 | .ok d fr=>∀v G' H',aw H H'->aw G G'->aw G' H'->(∀b,Mx H b->G b=none->G' b=none)->FV K H G' H' fr d v->Q v H'
 | .exc c=>∀H',aw H H'->E (.ref (ca c)) none H'
 | .bad=>False
structure l0 (T:Addr)(P:Program)(w:World)(K:Frag)(mg:@Fr)(base:Heap)(ca:Str->Addr)(x:Str)(ps:@Id)(k:Nat)(F:@Cl):Prop where
 ex:∃f fd,mg x=some (.ref f)/\PySem.W.keepIn K (.ref f)=true/\Binds K fd ps []/\gp P w K mg base (qv P w) k f fd ps (spT T K ca ps.length F)
 len:∀ds,F ds≠.bad->ds.length=ps.length
section
variable {P:Program}{w:World}{K:Frag}{mg:@Fr}{base:Heap}{ca:Str->Addr}{T:Addr}
def P2 {x qual:Str}{st:Stmt}{f:Addr}{fd:FuncData}{N ps:@Id}{k:Nat}{sp:Sp}(F:DV K x qual st f fd)(S:aB N ps (ar st))(len:∀vs H Q E,sp vs H Q E->vs.length=ps.length)
  (hbody:∀(cdv:Value) (A:Around) (outer:List Env) (s:Shared) (H:Hp) (vs:List V) (Q:VK) (E:XK),fd.code=cdv->fm k (A.deeper (envOfC qual (ar st) s.heap.objs.size f cdv))->sp vs H Q E->
   ∃t,u6 (ra (qv P w) P w K mg base N qual (ar st) f cdv A outer s H E) (dw st) t/\t {nx:=λ_ H'=>Q .non H',rt:=Q} (start N vs) H):gp P w K mg base (qv P w) (k + 1) f fd ps sp:=by
 obtain⟨oc,od,kV,doc,pm,an,cdv,ct,osl,rfl,lk,hcd⟩:=F.ex
 exact EU lk hcd S len λA outer s H vs Q E hr hsp=>hbody cdv A outer s H vs Q E rfl hr hsp
def lM {x qual:Str}{st:Stmt}{f:Addr}{fd:FuncData}{N ps:@Id}{k:Nat}{m:SF}(F:DV K x qual st f fd)(S:aB N ps (ar st))
  (hbody:∀(cdv:Value) (A:Around) (outer:List Env) (s:Shared) (H G:Hp) (E:XK),fd.code=cdv->GW T G->fm k (A.deeper (envOfC qual (ar st) s.heap.objs.size f cdv))->Fg (ra (qv P w) P w K mg base N qual (ar st) f cdv A outer s H E) (Fx.fn K H G ca) E (dw st) m) :
  gp P w K mg base (qv P w) (k + 1) f fd ps (spT T K ca ps.length (aS N.length ps.length m)):=by
 have hpn:ps.length<=N.length:=by have:=congrArg List.length S.pre;rw[R9] at this;omega
 refine P2 F S (λvs H Q E h=>?_) (λcdv A outer s H vs Q E hcd hr h=>?_)
 ·obtain⟨G,ds,_,sG,hl,r,_⟩:=h
  rw[r.len];exact hl
 ·obtain⟨G,ds,tG,sG,hl,r,h⟩:=h
  refine⟨_,hbody cdv A outer s H G E hcd tG hr,?_⟩
  have I:=SR.start (ca:=ca) (N:=N) sG r (@AT)
  refine⟨_,G,none,0,I,?_⟩
  unfold aS at h
  rw[Rg hl] at h
  have fin':∀{B G' H' σ env β},SR (Fx.fn K H G ca) B G' H' σ env β->aw H H':=λJ b o e=>J.keep b o e (λz=>by cases z)
  cases q:m (zP N.length ds) 0 with
  |nx env β=>rw[q] at h;exact λB G' H' σ J s'=>h .non G' H' (fin' J) s' J.sub (λb h1 h2=>J.new b h1 h2) Rp.non
  |bk env β=>rw[q] at h;exact h.elim
  |ct env β=>rw[q] at h;exact h.elim
  |rt d fr β=>
   rw[q] at h
   refine λB G' H' σ env v J s' rv=>h v G' H' (fin' J) s' J.sub (λb h1 h2=>J.new b h1 h2) ?_
   cases fr with
   |true=>exact rv
   |false=>exact rv
  |exc c=>rw[q] at h;exact λH' kp=>h H' λb o e=>kp b o e (λz=>by cases z)
  |bad=>rw[q] at h;exact h.elim
def C0 {f:Addr}{fd:FuncData}{ps:@Id}{k:Nat}:gp P w K mg base (qv P w) k f fd ps (spT T K ca ps.length λ_=>.bad):=
 ⟨λvs H Q E h=>by obtain⟨_,_,_,_,_,_,h⟩:=h;exact h.elim,λA outer s H args us vs Q E _ _ _ _ h=>by obtain⟨_,_,_,_,_,_,h⟩:=h;exact h.elim⟩
def l0.imp {x:Str}{ps:@Id}{k:Nat}{F F':@Cl}(h:l0 T P w K mg base ca x ps k F)(i:∀ds,F' ds≠.bad->F ds=F' ds):l0 T P w K mg base ca x ps k F':=by
 obtain⟨f,fd,a,b,c,d⟩:=h.ex
 refine⟨⟨f,fd,a,b,c,d.imp λvs H Q E q=>?_⟩,λds hn=>h.len ds (by rw[i ds hn];exact hn)⟩
 obtain⟨G,ds,t,s,hl,r,q⟩:=q
 refine⟨G,ds,t,s,hl,r,?_⟩
 by_cases hb:F' ds=.bad
 ·rw[hb] at q;exact q.elim
 ·rw[i ds hb];exact q
theorem y1 {x:Str}{st:Stmt}{ps:@Id}{f:Addr}{fd:FuncData}{j:Nat}{step:(@Cl)->@Cl}(F:fq K mg x st ps f fd)
  (h:∀(k:Nat) (F':@Cl),j<=k->l0 T P w K mg base ca x ps k F'->l0 T P w K mg base ca x ps (k + 2) (step F')):∀n,l0 T P w K mg base ca x ps (j + 2 * n) (t6 step n)
 | 0=>⟨⟨f,fd,F.mg,F.F.kp,F.b,C0⟩,λds hn=>(hn rfl).elim⟩
 |n + 1=>h (j + 2 * n) _ (Nat.le_add_right _ _) (y1 F h n)
end
section
variable {X:Cx}{Γ:Fx}{E:XK}{a:Expr}{es:List Expr}{fr:@Tk}{L:@Ix}{pos:Pos}{T:Addr}
theorem Ay {F:@Cl}{ps:@Id}{Q:VK}{B:@J_}{G H:Hp}{σ:St}{env:En}{β:Int}(hT:GW T Γ.G0)(I:@Is)(hK:X.K=Γ.K){wv:Bool}
  (h:Out Γ E (if wv=true then vN F fr @PP β else aq F fr @PP β) @KF) (hl:∀ds,F ds≠.bad->ds.length=ps.length) :
  aT Γ E fr L σ H λvs H1=>spT T X.K Γ.ca ps.length F vs H1 Q E:=by
 refine⟨env,G,B,β,I,?_⟩
 have h:Out Γ E (fr @PP β) λds β1=>Out Γ E (match F ds with
   | .ok d true=>.ok d β1
   | .ok d false=>if wv=true then .bad else .ok d β1
   | .exc c=>.exc c
   | .bad=>.bad) @KF:=by
  cases wv with
  |true=>
   simp only[SK] at h ⊢
   refine h.bnd.imp λds β1 h=>?_
   cases q:F ds with
   |ok d b=>rw[q] at h;cases b <;> exact h
   |exc c=>rw[q] at h;exact h
   |bad=>rw[q] at h;exact h
  |false=>
   simp only[Sr,SX] at h ⊢
   refine h.bnd.imp λds β1 h=>?_
   cases q:F ds with
   |ok d b=>rw[q] at h;cases b <;> exact h
   |exc c=>rw[q] at h;exact h
   |bad=>rw[q] at h;exact h
 refine h.imp λds β1 k vs G1 H1 I1 s1 m1 r=>?_
 refine⟨G1,ds,hT.mono I1.old,I1.sub,?_,by rw[hK];exact r,?_⟩
 ·exact hl ds λz=>by rw[z] at k;exact k
 cases q:F ds with
 |bad=>rw[q] at k;exact k
 |exc c=>rw[q] at k;exact λH' s=>k H' (I1.kp s)
 |ok d b=>
  rw[q] at k
  intro v G' H' hh hg hs hn fv
  obtain⟨I2,m2⟩:=I1.called hh hg hs hn
  cases b with
  |true=>
   obtain⟨p,rfl,p1,p2,p3⟩:∃a,v=.ref a/\H1 a=none/\G' a=none/\Own X.K G' H' a d:=fv
   rw[hK] at p3
   have hp:=gi m1 I1.boxThere p1
   cases wv with
   |true=>exact k _ G' H' I2 (s1.trans hg) (m1.trans m2) ⟨p,rfl,hp,p2,p3⟩
   |false=>
    obtain⟨q1,q2,q3,q4⟩:=I1.fresh p1
    obtain⟨G3,I3,s3,r3⟩:=I2.letIn q1 p2 q3 q4 p3
    exact k _ G3 H' I3 ((s1.trans hg).trans s3) (m1.trans m2) r3
  |false=>
   cases wv with
   |true=>exact k.elim
   |false=>
    have fv:Rp X.K G' v d:=fv
    rw[hK] at fv
    exact k _ G' H' I2 (s1.trans hg) (m1.trans m2) fv
def eV {x:Str}{ps:@Id}{k:Nat}{F:@Cl}{p:Pos}(hT:GW T Γ.G0)(hf:l0 T X.prog X.w X.K X.mg X.base Γ.ca x ps k F)(hr:fm k X.A)(hx:Passes (qv X.prog X.w) X E)(hK:X.K=Γ.K)(hg:Gl X x)(ha:SA X Γ E (a :: es) fr L)(hdb:@Go:=by decide)
  (he:starEach (a :: es) X.env=(false,eval a X.env) :: @T_:=by rfl) (hpl:(backTo pos (@T_)).any (·.1)=false:=by rfl):SE X Γ E (.Call (.Name x p) (a :: es) [] pos) (aq F fr) L .v:=by
 obtain⟨f,fd,hm,hk,hb,hF⟩:=hf.ex
 refine PE.post' (pH (dvs:=[]) hF hr hg hm hk hb .nil hx ha hdb he hpl) λσ H Q ⟨env,G,B,β,I,o⟩=>?_
 show aT Γ E fr L σ H λvs H1=>spT T X.K Γ.ca ps.length F (vs ++ []) H1 Q E
 have:=Ay (Q:=Q) (wv:=false) (ps:=ps) hT I hK o hf.len
 simpa using this
end
structure DE (mg:@Fr)(base:Heap)(c T:Addr):Prop where
 hd:PySem.W.CodeHd base c T
 bt:base.BuiltinsAt mg T
 ne:mainGlobals≠T
def OG {X:Cx}{A:Around}{NB:@Id}{qual:Str}{scope:Scope}{q:Addr}{cdv:Value}{s3:Shared}{H3:Hp}{pn:@Do}{P:Program}{w:World}:Passes (qv P w) (zR X A NB qual scope q cdv s3 H3 pn) E0:=λpins σ H s e s' I h=>by
 obtain⟨_,_,_,_,_,_,_,_,_,q⟩:=h
 exact q.elim
theorem CV {P:Program}{w:World}{K:Frag}{mg mb:@Fr}{CX:Dw}{k:Nat}{fa a T c:Addr}{fd:FuncData}{x:Str}{sp:Sp}{s₁:Shared}{vs:@G_}{ns:@Db}
  (KX:K.In s₁.heap) (hns:s₁.heap.Ns mainGlobals mg) (hb:s₁.heap.Ns builtinsNs mb) (hbb:∀x:Str,x≠"__name__"->mb x=bootBuiltins x) (hlim:s₁.heap.NoLimit) (hsys:∃mm,s₁.heap.Ns sysModules mm) (hg:s₁.gens=#[])
  (hbm:∃bm ob,mg "__builtins__"=some (.ref bm)/\bm≠builtinsNs/\s₁.heap.get? bm=some ob/\ob.cls=.type "module"/\ob.dict=some builtinsNs/\ob.data=.plain)
  (hT:s₁.heap.get? T=some (PySem.W.tabObj #[])) (hKT:K.lookup T=none) (hcd:PySem.W.codeHdIn K c T=true)
  (ha:s₁.heap.get? a=some {cls:=.type "list",data:=.seq vs.toArray}) (hi:IntsAre vs ns) (hl:ns.length<=sizeLine) (hr:fm k callerA)
  (F:∀base:Heap,K.In base->base.Ns mainGlobals mg->DE mg base c T->gp P w K mg base CX k fa fd [x] sp) (hbind:∀(s:Shared) (u:Value),BindsTo s fd ⟨[u],[]⟩ [(x,u)])
  (hsp:∀H:Hp,H T=some (.tbl #[])->ji K H a (ns.map V.int)->sp [.ref a] H (λv _=>v=.bl true) λ_ _ _=>False)
  (hCX:∀H e s',CX [] H s₁ (λ_ _ _=>False) e s'->False) :
  codeAny (model P w) callerA (.call (.ref fa) ⟨[.ref a],[]⟩) (λr s'=>r=.ok (.ret (.bool true))/\OldK s₁.heap s'.heap/\s'.os=s₁.os/\AllBare s'.gens) s₁:=by
 have rv:=vn hi
 have lenV:=hi.length
 have aT:a≠T:=λz=>by rw[z,hT] at ha;cases ha
 have tabs:s₁.heap.TableAt c T #[]:=(PySem.W.codeHd_of_K KX hcd).tab hT
 have core:∀H:Hp,(∀b,b≠T->H b=none\/∃o xs,H b=some (.a8 o (.lst xs)))->H T=some (.tbl #[])->ji K H a (ns.map V.int)->pK P w H s₁.heap->(∀b,H b≠none->b=a\/b=T)->(H a≠none->K.lookup a=none)->
   codeAny (model P w) callerA (.call (.ref fa) ⟨[.ref a],[]⟩) (λr s'=>r=.ok (.ret (.bool true))/\OldK s₁.heap s'.heap/\s'.os=s₁.os/\AllBare s'.gens) s₁:=by
  intro H hO hHT hS hok hA hK
  have base_of:∀{b:Addr} {o:Obj},s₁.heap.get? b=some o->H b=none->(uF s₁.heap H).get? b=some o:=λe n=>Ex e n
  have noO:∀{b:Addr} {o:Obj},s₁.heap.get? b=some o->(∀xs n,o.data≠.seq xs n)->(∀ps,o.data≠.fields ps)->H b=none:=λ{b o} e d1 d2=>by
   cases q:H b with
   |none=>rfl
   |some u=>
    rcases hA b (by rw[q];simp) with e' |e'
    ·subst e'
     rw[ha] at e;cases e
     exact absurd rfl (d1 _ _)
    ·subst e'
     rw[hT] at e;cases e
     exact absurd rfl (d2 _)
  have nsK:∀{b:Addr} {m:@Fr},s₁.heap.Ns b m->(uF s₁.heap H).Ns b m:=λ{b m} ⟨o,es,ep,e,d,r⟩=>⟨o,es,ep,base_of e (noO e (λxs n z=>by rw[d] at z;cases z) λps z=>by rw[d] at z;cases z),d,r⟩
  have hKb:K.In (uF s₁.heap H):=λb o e=>base_of (KX b o e) (by
   cases q:H b with
   |none=>rfl
   |some u=>
    rcases hA b (by rw[q];simp) with e' |e'
    ·subst e'
     rw[hK (by rw[q];simp)] at e;cases e
    ·subst e'
     rw[hKT] at e;cases e)
  have hM:Mod K mg (uF s₁.heap H):=⟨hKb,nsK hns,⟨mb,nsK hb,hbb⟩,let ⟨mc,h1,h2⟩:=hlim;⟨mc,nsK h1,h2⟩,let ⟨mm,h1⟩:=hsys;⟨mm,nsK h1⟩⟩
  have neM:mainGlobals≠T:=λz=>by
   obtain⟨o,es,ep,e,d,_⟩:=hns
   rw[z,hT] at e
   cases e
   have d':Data.fields #[]=Data.dict es ep:=d
   cases d'
  have hL:DE mg (uF s₁.heap H) c T:=by
   refine⟨PySem.W.codeHd_of_K hKb hcd,?_,neM⟩
   obtain⟨bm,ob,b1,b2,b3,b4,b5,b6⟩:=hbm
   refine⟨bm,ob,b1,b2,λz=>?_,λz=>?_,base_of b3 (noO b3 (λxs n z=>by rw[b6] at z;cases z) λps z=>by rw[b6] at z;cases z),b4,b5,b6⟩
   ·obtain⟨o,es,ep,e,d,_⟩:=hns
    rw[<-z,b3] at e
    cases e
    rw[b6] at d
    cases d
   ·rw[z,hT] at b3
    cases b3
    cases b4
  have e0:Ao P w K mg (uF s₁.heap H) callerA [] s₁ H:=⟨rfl,hM,λb o e=>Hg e,Nat.le_of_eq (Dj _ _),trivial,λb hb=>absurd (show b∈([]:List Addr) from hb) (@KM),hok,.of_eq hg⟩
  refine Ul ((F _ hKb (nsK hns) hL).run callerA [] s₁ H ⟨[.ref a],[]⟩ [.ref a] [.ref a] _ _ hr e0 (hbind s₁ (.ref a)) (.cons rfl .nil) (hsp H hHT hS)) λr s' h=>?_
  cases r with
  |error e=>exact (hCX H e s' h).elim
  |ok fl=>
   cases fl with
   |next=>exact False.elim h
   |brk=>exact False.elim h
   |cont=>exact False.elim h
   |ret u=>
    obtain⟨v,H',os,bare,un,hok',r',q⟩:=h
    have q':v=.bl true:=q
    subst q'
    obtain rfl:u=Value.bool true:=r'
    refine⟨rfl,⟨λb o e=>?_,λb o e=>?_⟩,os,bare⟩
    ·by_cases bT:b=T
     ·subst bT
      rw[hT] at e
      cases e
      obtain⟨more,e2⟩:=un.tbls b _ hHT
      exact .inr (.inl ⟨tabs.isCodeTable,rfl,#[],more,rfl,hok' b _ e2⟩)
     ·refine .inl ?_
      cases q:H b with
      |none=>exact un.keep b o e q (by intro z;exact absurd (show b∈([]:List Addr) from z) (@KM)) (@KM)
      |some u=>
       rcases hO b bT with z | ⟨ob,xs,z⟩
       ·rw[q] at z;cases z
       ·have z2:=un.frzs b ob _ z
        obtain⟨e1,_⟩:=hok b _ z
        obtain⟨e2,_⟩:=hok' b _ z2
        rw[e] at e1;cases e1
        exact e2
    ·by_cases bT:b=T
     ·subst bT
      obtain⟨more,e2⟩:=un.tbls b _ hHT
      exact⟨_,hok' b _ e2⟩
     ·cases q:H b with
      |none=>exact⟨o,un.keep b o e q (by intro z;exact absurd (show b∈([]:List Addr) from z) (@KM)) (@KM)⟩
      |some u=>
       rcases hO b bT with z | ⟨ob,xs,z⟩
       ·rw[q] at z;cases z
       ·exact⟨_,(hok' b _ (un.frzs b ob _ z)).1⟩
 cases hk:K.lookup a with
 |some o=>
  have e:=KX a o hk
  rw[ha] at e
  cases e
  refine core (λb=>if b=T then some (.tbl #[]) else none) (λb n=>.inl (Rj n)) (Rg rfl) (.inr ⟨_,vs.toArray,_,hk,rfl,rfl,rfl,by rw[Ry,lenV];exact hl,by simpa using rv⟩) (λb u z=>?_) (λb z=>?_) λz=>absurd (Rj aT) z
  ·by_cases hb:b=T
   ·have z':=(Rg hb).symm.trans z
    cases z'
    subst hb
    exact hT
   ·have z':=(Rj hb).symm.trans z
    cases z'
  ·by_cases hb:b=T
   ·exact .inr hb
   ·exact absurd (Rj hb) z
 |none=>
  refine core (λb=>if b=T then some (.tbl #[]) else if b=a then some (.a8 {cls:=.type "list",data:=.seq vs.toArray} (.lst (ns.map V.int))) else none) (λb n=>?_) (Rg rfl) (.inl (.inr ⟨{cls:=.type "list",data:=.seq vs.toArray},(Rj aT).trans (Rg rfl)⟩)) (λb u z=>?_) (λb z=>?_) λ_=>hk
  ·by_cases hb:b=a
   ·exact .inr ⟨_,_,(Rj n).trans (Rg hb)⟩
   ·exact .inl ((Rj n).trans (Rj hb))
  ·by_cases hbT:b=T
   ·have z':=(Rg hbT).symm.trans z
    cases z'
    subst hbT
    exact hT
   ·have z:=(Rj hbT).symm.trans z
    by_cases hb:b=a
    ·have z':=(Rg hb).symm.trans z
     cases z'
     subst hb
     exact⟨ha,by rw[Rb];exact hl,vs,_,rv,ha⟩
    ·have z':=(Rj hb).symm.trans z
     cases z'
  ·by_cases hbT:b=T
   ·exact .inr hbT
   ·by_cases hb:b=a
    ·exact .inl hb
    ·exact absurd ((Rj hbT).trans (Rj hb)) z
def wt (T:Addr)(K:Frag):Sp:=λvs H Q _=>∃(a:Addr) (ns:@Db),vs= [.ref a]/\H T=some (.tbl #[])/\ji K H a (ns.map V.int)/\∀H',aw H H'->Q (.bl true) H'
def Eo {l:PySem.W.OpenLaw}{n k:Nat}{q:Program}{loose:@Id}{XP:(@Fr)->Heap->Prop}{YP:World->Heap->Prop}{d:DefRec}{K:Params->Frag}{T c:Addr}
  (hn:l.most=some n) (hn2:n<=sizeLine) (hdf:d.params.defaults= []) (hi:PyProof.Rows.importsNone q=true) (hr:fm k callerA)
  (hY:∀(w:World) (h:Heap),YP w h->(K w.params).In h) (hYT:∀(w:World) (h:Heap),YP w h->h.get? T=some (PySem.W.tabObj #[])) (hKT:∀p,(K p).lookup T=none) (hcd:∀p,PySem.W.codeHdIn (K p) c T=true)
  (F:∀(w:World) (mg:@Fr) (fa:Addr) (h:Heap),(K w.params).In h->h.Ns mainGlobals mg->mg d.name=some (.ref fa)->
   ∃fd:FuncData,(∀(s:Shared) (u:Value),BindsTo s fd ⟨[u],[]⟩ [("script",u)])/\
    ∀base:Heap,(K w.params).In base->base.Ns mainGlobals mg->DE mg base c T->gp l.prog w (K w.params) mg base (qv l.prog w) k fa fd ["script"] (wt T (K w.params))) :
  PySem.W.WalkO q loose XP YP l.row.toRowW d [] (λf vs=>PySem.call f vs):=by
 refine Att.y6 hn hdf λw s₀ s₁ mg mb fa o pm cd doc a vs ns G Y ho hd hcd' hmg hobj hints hlen hg=>?_
 have KX:=hY w _ Y
 obtain⟨fd,hb,hF⟩:=F w mg fa _ KX G.T.g hmg
 exact CV KX G.T.g G.T.b G.T.builtins G.T.nolimit (let ⟨mm,h1,_⟩:=(G.T.seer hi).mods;⟨mm,h1⟩) hg G.T.bmain (hYT w _ Y) (hKT _) (hcd _) hobj hints (Sd hlen hn2) hr hF hb (λH hO hS=>⟨a,ns,rfl,hO,hS,λ_ _=>rfl⟩) λH e s' z=>by
  obtain⟨_,_,_,_,_,_,_,_,_,z⟩:=z
  exact z
structure QQ (K:Frag)(mg:@Fr)(x:Str)(st:Stmt)(ps:@Id)(c:Addr):Prop where
 ex:∃f fd,fq K mg x st ps f fd/\fd.code=.ref c
def Mq {K:Frag}{mg:@Fr}{h:Heap}{x:Str}{st:Stmt}{ps:@Id}{f c:Addr}{oc:Value}{od an:@J_}{sl:Array (Option Value)}{kV doc pm ct:Value}(X:K.In h)(G:h.Ns mainGlobals mg)(b:aP x st ps)(a:PySem.W.nsIn K mainGlobals x=some (some (.ref f)))
  (l:K.lookup f=some ⟨oc,od,.func (PySem.W.fnOf x x (jw st) (dw st) (ar st) .none kV doc pm an (.ref c) ct),sl⟩) (hc:PySem.W.codeIn K (.ref c) x=true) (k:PySem.W.keepIn K (.ref f)=true):QQ K mg x st ps c:=
 ⟨⟨f,_,⟨PySem.W.mg_of X G a,tX l hc k,(tX l hc k).binds b⟩,rfl⟩⟩
def O8 {T:Addr}{H:Hp}(h:H T=some (.tbl #[])):GW T H:=⟨#[],h,trivial,λc hc=>by simp at hc⟩
end L2
namespace RM
open PySem L2
def lU:SF:=(bS (MU (f2 (f2 (gv 1) @FM bB) (f2 (gv 2) @Fa bB) (gq false)) (f2 (cq (aa (f2 (gv 1) @FM bB) (aa (f2 (gv 2) @Fa bB) ao))) (f2 (gv 0) @Fa bB) (oN false))))
def l9 (aM:@Cl):SF:=(bS (f2 (aq aM (aa (f2 (gv 0) (gv 2) bB) (aa (gv 1) ao))) (f2 (gv 0) (gv 2) bB) (gq false)))
def kj (bR:@Cl):SF:=(bS (aq bR (aa (gv 0) (aa (f2 (gv 1) @Fa bB) (aa (f2 (gv 1) @FM bB) ao)))))
def ku (bR:@Cl):SF:=(bS (aq bR (aa (gv 0) (aa (f2 (gv 1) @FM bB) (aa (f2 (gv 1) @Fa bB) ao)))))
def mi (bR aM:@Cl):SF:=(aJ (b9 2 ([] ++ [0]) (aN 1 [1,0] (.nm 0) (fx (f1 (gv 0) cJ)) (pN (eO (f2 (gv 0) (f2 (gv 1) @FM bB) (gq false))) (i3 (aq bR (aa (gv 2) (aa (f2 (gv 1) @FM bB) @K_))))) (gv 0)))
 (aJ (b9 3 (([] ++ @GT) ++ (@GT ++ [])) (aq aM (aa (f2 (gv 0) (f2 (gv 1) @Fa bB) bB) (aa (f2 (gv 1) @Fa bB) ao))))
 (kc (aN 2 [2,3] (.two 0 1) (Jm (gv 0)) i7 (NT (eO (f2 (gv 0) (gv 2) (oN false))) (f2 (gv 1) (gv 3) O5) (gv 1))))))
def kg (fO:@Cl):SF:=(aJ (lu 3 (([2] ++ []) ++ []) (fo (aa (fo (aa (gv 2) ao)) ao)))
 (aJ (b9 4 [1] (gv 1))
 (aJ (b9 5 [] @FM)
 (aJ (i4 ([0] ++ ((@GT ++ []) ++ ([2] ++ []))) (pC (i3 (aq fO (aa (gv 0) (aa (f2 (f2 (gv 3) (gv 5) bB) (f1 @Fa rb) bB) (aa (gv 2) ao))))))
 (aJ (b9 6 ([] ++ [0]) (aN 1 [0,3,5] (.nm 0) (bH (gv 4)) (i3 (aq fO (aa (gv 1) (aa (f2 (f2 (gv 2) (gv 3) bB) (f1 @Fa rb) bB) @K_)))) (gv 0)))
 (aJ (b9 4 @GT (aN 1 [6] (.nm 0) (bH (gv 4)) (eO (f2 (gv 0) (gv 1) (oN true))) (gv 0)))
 (aJ (CS 3 @GT (aN 1 [3,5] (.nm 0) (bH (gv 6)) i7 (f2 (f2 (gv 1) (gv 2) bB) (fo @K_) jq)))
 (b9 5 @GT (f2 (gv 5) @Fa bX))))) 1000)
 (bS (f2 (gv 3) (gv 5) bB))))))
def jH (cD cx gc ic:@Cl):SF:=(aJ (b9 5 (@GT ++ []) (f2 (f2 (gv 2) (gv 3) bB) @FM bB))
 (aJ (b9 6 (@GT ++ []) (f2 (f2 (gv 2) (gv 3) bB) @Fa bB))
 (aJ (lx ([5] ++ ([4] ++ [])) (i3 (aq cx (aa (gv 5) (aa (gv 4) ao))))
 (bS (cq (aa (cst (.str "ring")) (aa (gv 3) (aa (aq gc (aa (gv 0) (aa (gv 6) (aa (gv 4) ao)))) ao)))))
 m8)
 (bS (aq cD (aa (gv 0) (aa (gv 1) (aa (f2 (f2 (IZ (gv 2) (λ_ β=>.ok none β) (zj (gv 3))) (fo (aa (cq (aa (aq ic (aa (gv 5) (aa (gv 4) ao))) (aa (f2 (gv 6) (cq (aa (gv 4) ao)) kK) ao))) ao)) jq) (IZ (gv 2) (zj (f2 (gv 3) @Fa bX)) (λ_ β=>.ok none β)) jq) ao))))))))
def kH (cx:@Cl):SF:=(bS (f1 (aN 2 [1] (.two 0 1) (bH (gv 0)) (pC (i3 (aq cx (aa (gv 0) (aa (gv 2) ao))))) (gv 0)) cJ))
def fL (jJ gj fU fV:@Cl):SF:=(aJ (b9 3 @GT (aN 1 [2] (.nm 0) (bH (gv 1)) (pC (i3 (f1 (aN 2 [0] (.two 0 1) (bH (gv 1)) i7 (aq gj (aa (gv 0) (aa (gv 2) ao)))) (bY λbs=>bs.any id)))) (gv 0)))
 (aJ (lx @GT (eO (f2 (f1 (gv 3) cJ) @FM (gq false)))
 (bS (cq (aa (cst (.str "rows")) (aa (aN 2 [] (.two 0 1) (bH (gv 2)) i7 (aq fU (aa (gv 0) (aa (fo ao) ao)))) ao))))
 m8)
 (aJ (b9 4 [3] (BC 2 (gv 3) (aq fV (aa (gv 1) @K_))))
 (aJ (lu 5 [] (fo ao))
 (aJ (mS (.nm 6) [] (fx (f1 (gv 2) cJ))
 (aJ (b9 7 ([0] ++ ([3] ++ ([2] ++ ([6] ++ ([4] ++ []))))) (aq jJ (aa (gv 0) (aa (gv 3) (aa (gv 2) (aa (gv 6) (aa (gv 4) ao)))))))
 (aJ (lx (@GT ++ []) (eO (f2 (f2 (gv 7) @FM bB) (cst (.str "rows")) (gq false)))
 (tm 7)
 m8)
 (pB 5 [7] (gv 7)))))
 (bS (cq (aa (cst (.str "turn")) (aa (gv 4) (aa (f1 (gv 5) gR) ao))))))))))
def rG (dN cD dF:@Cl):SF:=(aJ (b9 2 (([0] ++ []) ++ @GT) (cq (aa (aq dN @K_) (aa (cq ao) ao))))
 (bS (aq cD (aa (gv 0) (aa (aq dF @K_) (aa (f2 (fo (aa (gv 2) ao)) (gv 1) rk) ao))))))
def fw (aK lS:@Cl):SF:=(aJ (dY ([0] ++ []) (aq aK @K_))
 (aJ (b9 1 [] @Fa)
 (aJ (b9 2 ([0] ++ ([1] ++ [])) (aq lS @Fk))
 (aJ (i4 (@GT ++ []) (eO (f2 (f2 (gv 2) @FM bB) (cst (.str "rows")) (gq true)))
 (aJ (b9 1 @GT (f2 (gv 1) @Fa bX))
 (b9 2 ([0] ++ ([1] ++ [])) (aq lS @Fk))) 1000)
 (bS (f2 (gv 2) @Fa bB))))))
def pL (bM:@Cl):SF:=(bS (f1 (aq bM @K_) cJ))
def jd (hX:@Cl):SF:=(lx ([0] ++ []) (pC (i3 (aq hX @K_)))
 C6
 m8)
def cg (aK bJ:@Cl):SF:=(aJ (dY ([0] ++ []) (aq aK @K_))
 (lx ([1] ++ (@GT ++ [])) (pC (i3 (aq bJ (aa (gv 1) (aa @R_ ao)))))
 C6
 m8))
def gW:SF:=(lx @GT (eO (f2 (gv 0) (cst (.int 8)) Nr))
 C6
 m8)
def iw (cy cw:@Cl):SF:=(aJ (dY ([0] ++ ([1] ++ [])) (aq cy @Fk))
 (dY ((@GT ++ @GT) ++ []) (aq cw (aa (f2 @R_ (f2 (gv 1) @FM bB) bX) ao))))
noncomputable def kn (aQ aV aZ:@Cl):SF:=(aJ (dY ([0] ++ ([1] ++ [])) (aq aQ @Fk))
 (aJ (b9 2 (@GT ++ @GT) (f2 @R_ (f2 (gv 1) @FM bB) bX))
 (aJ (b9 3 (([2] ++ []) ++ []) (aN 2 [0] (.two 0 1) (bH (aq aV (aa (gv 2) ao))) (eO (gy (gv 0) (f2 (gv 2) @FM bB) (gv 1) qG Bz)) (cq @Fk)))
 (bS (cq (aa (gv 2) (aa (f1 (f1 (f2 (f2 (f1 (f2 (gv 0) @Fa bB) t5) (aq aZ (aa (gv 1) (aa @R_ ao))) jq) (gv 3) jq) nv) gR) ao)))))))
def kA (aQ aZ:@Cl):SF:=(aJ (dY ([0] ++ ([1] ++ [])) (aq aQ @Fk))
 (bS (cq (aa (f2 @R_ (f2 (gv 1) @FM bB) bX) (aa (f1 (f2 (f1 (f2 (gv 0) @Fa bB) t5) (aq aZ (aa (gv 1) (aa @R_ ao))) jq) gR) ao)))))
def fG (cy bO cw:@Cl):SF:=(aJ (dY ([0] ++ ([2] ++ [])) (aq cy (aa (gv 0) (aa (gv 2) ao))))
 (aJ (dY ([0] ++ ([1] ++ [])) (aq bO @Fk))
 (dY (((@GT ++ @GT) ++ []) ++ []) (aq cw (aa (f2 (f2 @R_ (f2 (gv 2) @FM bB) bX) @Fa qJ) ao)))))
def gF:SF:=(aJ (lx @GT (eO (f2 (gv 0) (gv 1) qG))
 (tm 0)
 m8)
 (bS (f2 (gv 1) (f2 (f2 (gv 0) (gv 2) qJ) @Fa bX) (xw λi j=>.int (if j > i then j else i)))))
noncomputable def mM (bz c8 aV aZ:@Cl):SF:=(aJ (dY ([0] ++ ([1] ++ ([2] ++ []))) (aq bz (aa (gv 0) (aa (gv 1) (aa (gv 2) ao)))))
 (aJ (b9 3 ((@GT ++ @GT) ++ []) (f2 (f2 @R_ (f2 (gv 2) @FM bB) bX) @Fa qJ))
 (aJ (b9 4 ([] ++ [1]) (aN 1 [1,2] (.nm 0) (fx (gv 3)) i7 (aq c8 (aa (gv 0) (aa (gv 1) (aa (f2 (gv 2) @FM bB) ao))))))
 (aJ (b9 5 (([3] ++ []) ++ []) (aN 2 [4,0] (.two 0 1) (bH (aq aV (aa (gv 3) ao))) (eO (f2 (cq (aa (f2 (gv 2) (gv 0) bB) (aa (f2 (gv 2) (gv 1) bB) ao))) (f2 (gv 3) @Fa bB) (oN false))) (cq @Fk)))
 (bS (cq (aa (gv 3) (aa (f1 (f1 (f2 (gv 5) (aq aZ (aa (gv 2) (aa (gv 1) ao))) jq) nv) gR) ao))))))))
def wJ:SF:=(bS (NT (eO (f2 (gv 0) (gv 1) Nr)) (f2 (gv 0) (gv 2) bX) (gv 0)))
def kB (gJ:@Cl):SF:=(aJ (lx ([2] ++ ([0] ++ [])) (pC (i3 (aq gJ (aa (gv 2) @K_))))
 C6
 m8)
 (lx ([3] ++ ([1] ++ [])) (pC (i3 (aq gJ (aa (gv 3) (aa (gv 1) ao)))))
 C6
 m8))
def tT:SF:=(bS (f2 (gv 0) (f2 (gv 1) (f2 (f1 (gv 0) cJ) @Fa qJ) (xw λi j=>.int (if j < i then j else i))) bB))
def lV:SF:=(bS (f1 (aN 1 [1] (.nm 0) (bH (gv 0)) i7 (f2 (gv 0) (gv 1) bX)) gR))
def iI (aQ bC bZ a9:@Cl):SF:=(aJ (dY ([0] ++ ([1] ++ [])) (aq aQ @Fk))
 (aJ (dY ([0] ++ ([1] ++ ([2] ++ ([3] ++ [])))) (aq bC (aa (gv 0) (aa (gv 1) (aa (gv 2) (aa (gv 3) ao))))))
 (aJ (b9 4 @GT (f2 (f1 (gv 2) cJ) (f1 (gv 3) cJ) (xw λi j=>.int (if j > i then j else i))))
 (kc (aN 1 [2,3,0] (.nm 0) (fx (gv 4)) i7 (f2 (aq bZ (aa (gv 1) @K_)) (aq a9 (aa (aq bZ (aa (gv 2) @K_)) (aa (f2 (gv 3) @FM bB) ao))) kK))))))
def iG (aQ bC bZ a9:@Cl):SF:=(aJ (dY ([0] ++ ([1] ++ [])) (aq aQ @Fk))
 (aJ (dY ([0] ++ ([1] ++ ([2] ++ ([3] ++ [])))) (aq bC (aa (gv 0) (aa (gv 1) (aa (gv 2) (aa (gv 3) ao))))))
 (aJ (b9 4 (([] ++ ([] ++ @GT)) ++ []) (f2 (Cf (aa (f1 (gv 2) cJ) (aa (f1 (gv 3) cJ) (aa (cst (.int 2)) ao)))) @Fa qJ))
 (aJ (b9 5 ([] ++ [2,3]) (aN 1 [2,3,0] (.nm 0) (fx (gv 4)) i7 (f2 (aq bZ (aa (gv 1) @K_)) (aq a9 (aa (aq bZ (aa (gv 2) @K_)) (aa (f2 (gv 3) @FM bB) ao))) kK)))
 (kc (f2 (gv 5) (fo (aa (f2 (aq a9 (aa (aq bZ (aa (gv 3) (aa (gv 4) ao))) (aa @R_ ao))) (aq bZ (aa (gv 2) (aa (gv 4) ao))) kK) ao)) jq))))))
def gO (nQ a9:@Cl):SF:=(aJ (b9 3 @GT (pj (gv 0) (gv 1)))
 (aJ (b9 4 ([] ++ [1]) (f1 (aN 1 [1,2] (.nm 0) (bH (gv 0)) i7 (aq nQ (aa (gv 0) (aa (gv 1) (aa (f2 (f1 (gv 2) cJ) @Fa qJ) ao))))) gR))
 (bS (f2 (f2 (wy (gv 4) (λ_ β=>.ok none β) (zj (gv 3))) (aq a9 (aa (gv 2) (aa (gv 1) ao))) kK) (wy (gv 4) (zj (f2 (gv 3) @Fa bX)) (λ_ β=>.ok none β)) kK))))
def fJ (bz bC df bZ:@Cl):SF:=(aJ (dY ([0] ++ ([1] ++ ([2] ++ []))) (aq bz (aa (gv 0) (aa (gv 1) (aa (gv 2) ao)))))
 (aJ (dY ([0] ++ ([2] ++ ([3] ++ ([4] ++ [])))) (aq bC (aa (gv 0) (aa (gv 2) (aa (gv 3) (aa (gv 4) ao))))))
 (aJ (b9 5 @GT (f2 (f1 (gv 3) cJ) (f1 (gv 4) cJ) (xw λi j=>.int (if j > i then j else i))))
 (kc (aN 1 [3,1,4] (.nm 0) (fx (gv 5)) i7 (aq df (aa (aq bZ (aa (gv 1) @K_)) (aa (gv 2) (aa (aq bZ (aa (gv 3) @K_)) ao)))))))))
def Bm (ie bM iS eM fQ eH gJ dG dH cR:@Cl)(dv bo:List D->Int->FB):SF:=(aJ (B8 1 ([0] ++ @GT) (vN ie (aa (gv 0) (aa @FM ao))))
 (aJ (yy 2 3 @GT @GT (rH 1 dv (aa (cst (.int 3)) ao)) (rH 1 dv (aa (cst (.int 3)) ao)))
 (aJ (b9 4 (@GT ++ []) (rH 1 bo (aa (f2 (gv 2) @FM bB) ao)))
 (aJ (yy 5 6 ([2] ++ []) ([3] ++ []) (aq bM (aa (gv 2) ao)) (aq bM (aa (gv 3) ao)))
 (aJ (b9 7 @GT (f2 (f1 (gv 5) cJ) (f1 (gv 6) cJ) (xw λi j=>.int (if j > i then j else i))))
 (aJ (lx (((([2] ++ ([3] ++ [])) ++ []) ++ []) ++ ((([2] ++ ([4] ++ ([3] ++ []))) ++ []) ++ [])) (pN (eO (f2 (aq iS (aa (aq eM (aa (gv 2) (aa (gv 3) ao))) ao)) (gv 7) (gq true))) (eO (f2 (aq iS (aa (aq fQ (aa (gv 2) (aa (gv 4) (aa (gv 3) ao)))) ao)) (gv 7) (gq true))))
 (bS (cst (.bool false)))
 m8)
 (aJ (lx ((([2] ++ ([3] ++ [])) ++ []) ++ @GT) (eO (f2 (aq iS (aa (aq eH (aa (gv 2) (aa (gv 3) ao))) ao)) (f2 (cst (.int 2)) (gv 7) (xw λi j=>.int (if j > i then j else i))) (gq true)))
 (bS (cst (.bool false)))
 m8)
 (aJ (lx (([2] ++ ([3] ++ ([5] ++ ([6] ++ [])))) ++ (([2] ++ ([3] ++ [])) ++ [])) (pC (i3 (aq gJ (aa (aq dG (aa (gv 2) (aa (gv 3) (aa (gv 5) (aa (gv 6) ao))))) (aa (aq eM (aa (gv 2) (aa (gv 3) ao))) ao)))))
 (bS (cst (.bool false)))
 m8)
 (aJ (lx (([2] ++ ([3] ++ ([5] ++ ([6] ++ [])))) ++ (([2] ++ ([3] ++ [])) ++ [])) (pC (i3 (aq gJ (aa (aq dH (aa (gv 2) (aa (gv 3) (aa (gv 5) (aa (gv 6) ao))))) (aa (aq eH (aa (gv 2) (aa (gv 3) ao))) ao)))))
 (bS (cst (.bool false)))
 m8)
 (bS (aq gJ (aa (aq cR (aa (gv 2) (aa (gv 4) (aa (gv 3) (aa (gv 5) (aa (gv 6) ao)))))) (aa (aq fQ (aa (gv 2) (aa (gv 4) (aa (gv 3) ao)))) ao)))))))))))))
end RM
namespace RQ
open PySem L2 RM
def top (i:Nat):Stmt:=PySem.Challenge.pw_rowsorder_k65_whole_fewest_of_builds.main.body.getD i (.Pass ⟨0,0,0,0⟩)
section
variable {P:Program}{w:World}{K:Frag}{mg:@Fr}{base:Heap}{ca:Str->Addr}
abbrev mr:Stmt:=top 2
def y7:aB ["thing"] ["thing"] (ar mr):=@AC
def xM {f:Addr}{fd:FuncData}(F:fq K mg "is_whole" mr ["thing"] f fd)(B:fP mg):bK P w K mg base ca "is_whole" ["thing"] 1 (aS 1 1 (sx)):=
 ⟨⟨f,fd,F.mg,F.F.kp,F.b,aO (N:=["thing"]) (k:=0) F.F y7 λcdv A outer s H G E hr=>
  (ay (aX (lR (pd "int" @E_ rfl rfl B.isinstance rfl B.int (@FS) (ae 0)) (lX (Ea (pd "bool" @E_ rfl rfl B.isinstance rfl B.bool (@FS) (ae 0)))) @Ch)))⟩,@IO ⟩
abbrev mB:Stmt:=top 3
def yd:aB ["thing","bound"] ["thing","bound"] (ar mB):=@AC
def wz {f:Addr}{fd:FuncData}{cL:@Cl}(F:fq K mg "is_below" mB ["thing","bound"] f fd)(B:fP mg)(ij:bK P w K mg base ca "is_whole" ["thing"] 1 cL):bK P w K mg base ca "is_below" ["thing","bound"] 2 (aS 2 2 (sE cL)):=
 ⟨⟨f,fd,F.mg,F.F.kp,F.b,aO (N:=["thing","bound"]) (k:=1) F.F yd λcdv A outer s H G E hr=>
  (ay (aX (lR (av ij @At aL rfl rfl (ab (af 0 rfl) ah)) (lX (yk By qN ID zb ax (ae 0) (ae 1))) @Ch)))⟩,@IO ⟩
abbrev oj:Stmt:=top 4
def zL:aB ["thing"] ["thing"] (ar oj):=@AC
def yQ {f:Addr}{fd:FuncData}{cL:@Cl}(F:fq K mg "is_many" oj ["thing"] f fd)(B:fP mg)(ij:bK P w K mg base ca "is_whole" ["thing"] 1 cL){kT:Tok}(dM:mg "MOST_THINGS"=some (.int 8 kT)):bK P w K mg base ca "is_many" ["thing"] 2 (aS 1 1 (vY cL)):=
 ⟨⟨f,fd,F.mg,F.F.kp,F.b,aO (N:=["thing"]) (k:=1) F.F zL λcdv A outer s H G E hr=>
  (ay (aX (lR (av ij @At aL rfl rfl (ab (af 0 rfl) ah)) (lX (yk By By ID ID ax (ae 0) (Bq (by rfl) dM))) @Ch)))⟩,@IO ⟩
abbrev nR:Stmt:=top 5
def Ah:aB ["thing","many"] ["thing","many"] (ar nR):=@AC
def yW {f:Addr}{fd:FuncData}{bJ:@Cl}(F:fq K mg "is_pair" nR ["thing","many"] f fd)(B:fP mg)(c5:bK P w K mg base ca "is_below" ["thing","bound"] 2 bJ):bK P w K mg base ca "is_pair" ["thing","many"] 3 (aS 2 2 (vq bJ)):=
 ⟨⟨f,fd,F.mg,F.F.kp,F.b,aO (N:=["thing","many"]) (k:=2) F.F Ah λcdv A outer s H G E hr=>
  (au (dE (zr.t (tj (dO (cC rfl (pd "tuple" @E_ rfl rfl B.isinstance rfl B.tuple (@FS) (ae 0)))) (oZ (cj (jL hr.units) i5 (aW bE dQ rfl B.len R0 (ae 0)) ax (bV _))) @Ch))
  (ay (aX mQ))
  cF)
  (ay (aX (lR (av c5 @At aL rfl rfl (ab @L_ (ab (af 1 rfl) ah))) (lX (av c5 @At aL rfl rfl (ab @L_ (ab (af 1 rfl) ah)))) @Ch))))⟩,@IO ⟩
abbrev oh:Stmt:=top 6
def zT:aB ["thing","many"] ["thing","many"] (ar oh):=@AC
def yz {f:Addr}{fd:FuncData}{bJ:@Cl}(F:fq K mg "is_line" oh ["thing","many"] f fd)(B:fP mg)(c5:bK P w K mg base ca "is_below" ["thing","bound"] 2 bJ):bK P w K mg base ca "is_line" ["thing","many"] 3 (aS 2 2 (n5 bJ)):=
 ⟨⟨f,fd,F.mg,F.F.kp,F.b,aO (N:=["thing","many"]) (k:=2) F.F zT λcdv A outer s H G E hr=>
  (au (dE (zr.t (tj (dO (cC rfl (pd "tuple" @E_ rfl rfl B.isinstance rfl B.tuple (@FS) (ae 0)))) (oZ (cj (jL hr.units) i5 (aW bE dQ rfl B.len R0 (ae 0)) (ae 1) (bV _))) @Ch))
  (ay (aX mQ))
  cF)
  (ay (aX (lR (aW (iV rfl) iP rfl B.all (@FS) (bP (NB:=["one","many"]) (own:=1) (ixs:=[1]) [1] rfl @IN @Ch (iZ rfl (ae 0)) (λH0 G0 par br bx C ex s3 H3 pn=>(dW (i:=0) (show (["one","many"]:@Id).Nodup by decide +kernel))) @H_ (λH0 G0 par br bx C ex s3 H3 pn hB1=>(av c5 @At dS rfl rfl (ab @Ps (ab (af 1 (hB1 1 @E_)) ah)))))) (lX (fM (gQ hr.units) i5 (Cz rfl rfl rfl B.len rfl B.set (ae 0)) (ae 1) (bV _))) @Ch))))⟩,@IO ⟩
abbrev gP:Stmt:=top 7
def u4:aB ["many"] ["many"] (ar gP):=@AC
def uo {f:Addr}{fd:FuncData}(F:fq K mg "every_pair" gP ["many"] f fd)(B:fP mg):bK P w K mg base ca "every_pair" ["many"] 1 (aS 1 1 (jD)):=
 ⟨⟨f,fd,F.mg,F.F.kp,F.b,aO (N:=["many"]) (k:=0) F.F u4 λcdv A outer s H G E hr=>
  (ay (iK (bP (NB:=["number","many"]) (own:=1) (ixs:=[0]) [] rfl @IN @Ch (ng rfl B.range (a7 nI oQ (ae 0) (ae 0))) (λH0 G0 par br bx C ex s3 H3 pn=>(dW (i:=0) (show (["number","many"]:@Id).Nodup by decide +kernel))) @H_ (λH0 G0 par br bx C ex s3 H3 pn hB1=>(cB (ab (a7 wR Nm (ae 0) (ae 1)) (ab (a7 o9 vh (ae 0) (ae 1)) ah)))))))⟩,@IO ⟩
abbrev mf:Stmt:=top 17
def yI:aB ["pairs"] ["pairs"] (ar mf):=@AC
def vZ {f:Addr}{fd:FuncData}(F:fq K mg "has_ring" mf ["pairs"] f fd)(B:fP mg):bK P w K mg base ca "has_ring" ["pairs"] 1 (aS 1 1 (tR)):=
 ⟨⟨f,fd,F.mg,F.F.kp,F.b,aO (N:=["pairs"]) (k:=0) F.F yI λcdv A outer s H G E hr=>
  (ay (aX (aW (zA rfl) iP rfl B.any (@FS) (bP (NB:=["a","b"]) (own:=2) (ixs:=[]) [] rfl @IN @Ch (iZ rfl (ae 0)) (λH0 G0 par br bx C ex s3 H3 pn=>(eR (i:=0) (j:=1) (show (["a","b"]:@Id).Nodup by decide +kernel))) @H_ (λH0 G0 par br bx C ex s3 H3 pn hB1=>(fM (gQ hr.units) i5 (ae 0) (ae 1) (bV _)))))))⟩,@IO ⟩
abbrev lT:Stmt:=top 15
def nh:aB ["thing","many","pairs"] ["thing"] (ar lT):=@AC
def wU {f:Addr}{fd:FuncData}{jF jK lC hJ:@Cl}(F:fq K mg "is_order" lT ["thing"] f fd)(B:fP mg)(qm:bK P w K mg base ca "is_many" ["thing"] 2 jF)(qq:bK P w K mg base ca "is_pair" ["thing","many"] 3 jK)(tu:bK P w K mg base ca "closed" ["many","pairs"] 3 lC)(oU:bK P w K mg base ca "has_ring" ["pairs"] 1 hJ):bK P w K mg base ca "is_order" ["thing"] 4 (aS 3 1 (jP jF jK lC hJ)):=
 ⟨⟨f,fd,F.mg,F.F.kp,F.b,aO (N:=["thing","many","pairs"]) (k:=3) F.F nh λcdv A outer s H G E hr=>
  (au (dE (zr.t (tj (dO (cC rfl (pd "tuple" @E_ rfl rfl B.isinstance rfl B.tuple (@FS) (ae 0)))) (oZ (cj (jL hr.units) i5 (aW bE dQ rfl B.len R0 (ae 0)) ax (bV _))) @Ch))
  (ay (aX mQ))
  cF)
  (au (bh (i:=1) @L_ nh.nd)
  (au (bh (i:=2) @L_ nh.nd)
  (au (dE (zr.t (tj (dO (cC rfl (av qm @At aL rfl rfl (ab (af 1 rfl) ah)))) (oZ (dO (cC rfl (pd "tuple" @E_ rfl rfl B.isinstance rfl B.tuple (@FS) (ae 2))))) @Ch))
  (ay (aX mQ))
  cF)
  (au (dE (dO (cC rfl (aW (iV rfl) iP rfl B.all (@FS) (bP (NB:=["pair","many"]) (own:=1) (ixs:=[1]) [1] rfl @IN @Ch (iZ rfl (ae 2)) (λH0 G0 par br bx C ex s3 H3 pn=>(dW (i:=0) (show (["pair","many"]:@Id).Nodup by decide +kernel))) @H_ (λH0 G0 par br bx C ex s3 H3 pn hB1=>(av qq @At dS rfl rfl (ab @Ps (ab (af 1 (hB1 1 @E_)) ah))))))))
  (ay (aX mQ))
  cF)
  (ay (aX (lR (fM (gQ hr.units) i5 (ae 2) (av tu @At aL rfl rfl (ab (af 1 rfl) (ab (af 2 rfl) ah))) (bV _)) (lX (Ea (av oU @At aL rfl rfl (ab (af 2 rfl) ah)))) @Ch))))))))⟩,@IO ⟩
abbrev jC:Stmt:=top 18
def uW:aB ["thing"] ["thing"] (ar jC):=@AC
def rW {f:Addr}{fd:FuncData}{hX:@Cl}(F:fq K mg "need_order" jC ["thing"] f fd)(B:fP mg)(o5:bK P w K mg base ca "is_order" ["thing"] 4 hX):bK P w K mg base ca "need_order" ["thing"] 5 (aS 1 1 (jd hX)):=
 ⟨⟨f,fd,F.mg,F.F.kp,F.b,aO (N:=["thing"]) (k:=4) F.F uW λcdv A outer s H G E hr=>
  (ay (dE (dO (cC rfl (av o5 @At aL rfl rfl (ab (af 0 rfl) ah))))
  (ay uj)
  cF))⟩,@IO ⟩
abbrev cI:Stmt:=top 19
def lL:aB ["order","thing"] ["order","thing"] (ar cI):=@AC
def kY {f:Addr}{fd:FuncData}{aK bJ:@Cl}(F:fq K mg "need_order_and_thing" cI ["order","thing"] f fd)(B:fP mg)(bg:bK P w K mg base ca "need_order" ["thing"] 5 aK)(c5:bK P w K mg base ca "is_below" ["thing","bound"] 2 bJ):bK P w K mg base ca "need_order_and_thing" ["order","thing"] 6 (aS 2 2 (cg aK bJ)):=
 ⟨⟨f,fd,F.mg,F.F.kp,F.b,aO (N:=["order","thing"]) (k:=5) F.F lL λcdv A outer s H G E hr=>
  (au (cA (av bg @At aL rfl rfl (ab (af 0 rfl) ah)))
  (ay (dE (dO (cC rfl (av c5 @At aL rfl rfl (ab (af 1 rfl) (ab @L_ ah)))))
  (ay uj)
  cF)))⟩,@IO ⟩
abbrev kq:Stmt:=top 20
def wQ:aB ["order","a","b"] ["order","a","b"] (ar kq):=@AC
def uO {f:Addr}{fd:FuncData}(F:fq K mg "are_apart" kq ["order","a","b"] f fd)(B:fP mg):bK P w K mg base ca "are_apart" ["order","a","b"] 1 (aS 3 3 (qP)):=
 ⟨⟨f,fd,F.mg,F.F.kp,F.b,aO (N:=["order","a","b"]) (k:=0) F.F wQ λcdv A outer s H G E hr=>
  (ay (aX (lR (fM (jL hr.units) i5 (ae 1) (ae 2) (bV _)) (lR (fM (nZ hr.u1) xC (cB (ab (af 1 rfl) (ab (af 2 rfl) ah))) @L_ (by with_unfolding_all rfl)) (lX (fM (nZ hr.u1) xC (cB (ab (af 2 rfl) (ab (af 1 rfl) ah))) @L_ (by with_unfolding_all rfl))) @Ch) @Ch)))⟩,@IO ⟩
abbrev p4:Stmt:=top 23
def p7:aB ["row","found","place","thing"] ["row"] (ar p4):=@AC
def Aq {f:Addr}{fd:FuncData}(F:fq K mg "places" p4 ["row"] f fd)(B:fP mg):bK P w K mg base ca "places" ["row"] 1 (aS 4 1 (pI)):=
 ⟨⟨f,fd,F.mg,F.F.kp,F.b,aO (N:=["row","found","place","thing"]) (k:=0) F.F p7 λcdv A outer s H G E hr=>
  (au (jB (i:=1) (AM (eJ (ab ax ah)) (aW bE dQ rfl B.len R0 (ae 0))) p7.nd)
  (au (o8 PassesOwn.leaving rfl (LI rfl rfl B.enumerate (af 0 rfl)) (eR (i:=2) (j:=3) p7.nd)
  (ay (BZ 1 (λ_=>rfl) (af 2 rfl) (ae 3))))
  (ay (pJ 1))))⟩,@IO ⟩
abbrev iN:Stmt:=top 22
def nF:aB ["thing","order","place"] ["thing","order"] (ar iN):=@AC
def qS {f:Addr}{fd:FuncData}{jG eN:@Cl}(F:fq K mg "keeps_order" iN ["thing","order"] f fd)(B:fP mg)(qi:bK P w K mg base ca "is_line" ["thing","many"] 3 jG)(lD:bK P w K mg base ca "places" ["row"] 1 eN):bK P w K mg base ca "keeps_order" ["thing","order"] 4 (aS 3 2 (iE jG eN)):=
 ⟨⟨f,fd,F.mg,F.F.kp,F.b,aO (N:=["thing","order","place"]) (k:=3) F.F nF λcdv A outer s H G E hr=>
  (au (dE (dO (cC rfl (av qi @At aL rfl rfl (ab (af 0 rfl) (ab @SZ ah)))))
  (ay (aX mQ))
  cF)
  (au (bh (i:=2) (av lD @At aL rfl rfl (ab (af 0 rfl) ah)) nF.nd)
  (ay (aX (aW (iV rfl) iP rfl B.all (@FS) (bP (NB:=["a","b","place"]) (own:=2) (ixs:=[2]) [] rfl @IN @Ch (iZ rfl @SZ) (λH0 G0 par br bx C ex s3 H3 pn=>(eR (i:=0) (j:=1) (show (["a","b","place"]:@Id).Nodup by decide +kernel))) @H_ (λH0 G0 par br bx C ex s3 H3 pn hB1=>(fM qN zb (aU aI bA (ae 2) (ae 0) @Ch) (aU aI bA (ae 2) (ae 1) @Ch) (bV _)))))))))⟩,@IO ⟩
abbrev jj:Stmt:=top 24
def uD:aB ["placed","thing"] ["placed","thing"] (ar jj):=@AC
def si {f:Addr}{fd:FuncData}(F:fq K mg "with_thing" jj ["placed","thing"] f fd)(B:fP mg):bK P w K mg base ca "with_thing" ["placed","thing"] 1 (aS 2 2 (jl)):=
 ⟨⟨f,fd,F.mg,F.F.kp,F.b,aO (N:=["placed","thing"]) (k:=0) F.F uD λcdv A outer s H G E hr=>
  (ay (aX (a7 JL Oi (ae 0) (a7 LW N8 ax (ae 1)))))⟩,@IO ⟩
abbrev iA:Stmt:=top 25
def jN:aB ["order","masks","a","b"] ["order"] (ar iA):=@AC
def qR {f:Addr}{fd:FuncData}{aM:@Cl}(F:fq K mg "masks_ahead" iA ["order"] f fd)(B:fP mg)(bu:bK P w K mg base ca "with_thing" ["placed","thing"] 1 aM):bK P w K mg base ca "masks_ahead" ["order"] 2 (aS 4 1 (iB aM)):=
 ⟨⟨f,fd,F.mg,F.F.kp,F.b,aO (N:=["order","masks","a","b"]) (k:=1) F.F jN λcdv A outer s H G E hr=>
  (au (jB (i:=1) (AM (eJ (ab ax ah)) @L_) jN.nd)
  (au (o8 PassesOwn.leaving rfl (Qg rfl @L_) (eR (i:=2) (j:=3) jN.nd)
  (ay (BZ 1 (λ_=>rfl) (av bu @At aL rfl rfl (ab (aU aI bA (ae 1) (ae 3) @Ch) (ab (af 2 rfl) ah))) (ae 3))))
  (ay (pJ 1))))⟩,@IO ⟩
abbrev iz:Stmt:=top 26
def jV:aB ["masks","placed","free","thing","mask"] ["masks","placed"] (ar iz):=@AC
def rn {f:Addr}{fd:FuncData}{aM:@Cl}(F:fq K mg "free_things" iz ["masks","placed"] f fd)(B:fP mg)(bu:bK P w K mg base ca "with_thing" ["placed","thing"] 1 aM):bK P w K mg base ca "free_things" ["masks","placed"] 2 (aS 5 2 (iL aM)):=
 ⟨⟨f,fd,F.mg,F.F.kp,F.b,aO (N:=["masks","placed","free","thing","mask"]) (k:=1) F.F jV λcdv A outer s H G E hr=>
  (au (jB (i:=2) (eJ ah) jV.nd)
  (au (o8 PassesOwn.leaving rfl (yx rfl rfl B.enumerate (af 0 rfl)) (eR (i:=3) (j:=4) jV.nd)
  (ay (dE (zr.t (Gn (cj (jL hr.units) i5 (av bu @At aL rfl rfl (ab (af 1 rfl) (ab (af 3 rfl) ah))) (ae 1) (bV _)) (Cg (cj (gQ hr.units) i5 (a7 Mr OD (ae 1) (ae 4)) (ae 4) (bV _))) @Ch))
  (ay (n9 2 (λ_=>rfl) (af 3 rfl)))
  cF)))
  (ay (pJ 2))))⟩,@IO ⟩
abbrev kx:Stmt:=top 27
def eZ:aB ["masks","late","row","placed","free","early"] ["masks","late"] (ar kx):=@AC
def uX {f:Addr}{fd:FuncData}{dI aM:@Cl}(F:fq K mg "row_along" kx ["masks","late"] f fd)(B:fP mg)(k7:bK P w K mg base ca "free_things" ["masks","placed"] 2 dI)(bu:bK P w K mg base ca "with_thing" ["placed","thing"] 1 aM):bK P w K mg base ca "row_along" ["masks","late"] 3 (aS 6 2 (kS dI aM)):=
 ⟨⟨f,fd,F.mg,F.F.kp,F.b,aO (N:=["masks","late","row","placed","free","early"]) (k:=2) F.F eZ λcdv A outer s H G E hr=>
  (au (jB (i:=2) (eJ ah) eZ.nd)
  (au (bh (i:=3) ax eZ.nd)
  (au (pF 1000 PassesOwn.leaving (cj qN zb (aW bE dQ rfl B.len R0 (ae 2)) (aW bE dQ rfl B.len R0 (ae 0)) (bV _))
  (au (bh (i:=4) (av k7 @At aL rfl rfl (ab (af 0 rfl) (ab (af 3 rfl) ah))) eZ.nd)
  (au (l6 (i:=5) (NB:=["thing","late"]) (own:=1) (ixs:=[1]) [] rfl @IN @Ch (iZ rfl (ae 4)) (λH0 G0 par br bx C ex s3 H3 pn=>(dW (i:=0) (show (["thing","late"]:@Id).Nodup by decide +kernel))) (λH0 G0 par br bx C ex s3 H3 pn hB1=>(fj (cj (nZ hr.u1) xC (ae 0) (ae 1) (by with_unfolding_all rfl)))) (λH0 G0 par br bx C ex s3 H3 pn hB1=>@Ps) eZ.nd)
  (au (n9 2 (λ_=>rfl) (aU aI bA (a7 js pk (ae 5) (ae 4)) ax @Ch))
  (ay (bh (i:=3) (av bu @At aL rfl rfl (ab (af 3 rfl) (ab (aU aI bA (ae 2) (Fb Aa Fc ax) @Ch) ah))) eZ.nd))))))
  (ay (aX (c7 bW iJ rfl B.tuple (@FS) (ae 2)))))))⟩,@IO ⟩
abbrev gA:Stmt:=top 29
def qU:aB ["tables","a","b"] ["tables","a","b"] (ar gA):=@AC
def ql {f:Addr}{fd:FuncData}(F:fq K mg "stands_ahead" gA ["tables","a","b"] f fd)(B:fP mg):bK P w K mg base ca "stands_ahead" ["tables","a","b"] 1 (aS 3 3 (gL)):=
 ⟨⟨f,fd,F.mg,F.F.kp,F.b,aO (N:=["tables","a","b"]) (k:=0) F.F qU λcdv A outer s H G E hr=>
  (ay (aX (aW (iV rfl) iP rfl B.all (@FS) (bP (NB:=["place","a","b"]) (own:=1) (ixs:=[1,2]) [] rfl @IN @Ch (iZ rfl (ae 0)) (λH0 G0 par br bx C ex s3 H3 pn=>(dW (i:=0) (show (["place","a","b"]:@Id).Nodup by decide +kernel))) @H_ (λH0 G0 par br bx C ex s3 H3 pn hB1=>(fM qN zb (aU aI bA (ae 0) (ae 1) @Ch) (aU aI bA (ae 0) (ae 2) @Ch) (bV _)))))))⟩,@IO ⟩
abbrev gz:Stmt:=top 28
def mT:aB ["many","rows","tables"] ["many","rows"] (ar gz):=@AC
def qh {f:Addr}{fd:FuncData}{eN aV c9:@Cl}(F:fq K mg "shared_pairs" gz ["many","rows"] f fd)(B:fP mg)(lD:bK P w K mg base ca "places" ["row"] 1 eN)(b8:bK P w K mg base ca "every_pair" ["many"] 1 aV)(j3:bK P w K mg base ca "stands_ahead" ["tables","a","b"] 1 c9):bK P w K mg base ca "shared_pairs" ["many","rows"] 2 (aS 3 2 (gx eN aV c9)):=
 ⟨⟨f,fd,F.mg,F.F.kp,F.b,aO (N:=["many","rows","tables"]) (k:=1) F.F mT λcdv A outer s H G E hr=>
  (au (bh (i:=2) (SE.wv (bP (NB:=["row"]) (own:=1) (ixs:=[]) [] rfl @IN @Ch (iZ rfl (ae 1)) (λH0 G0 par br bx C ex s3 H3 pn=>(dW (i:=0) (show (["row"]:@Id).Nodup by decide +kernel))) @H_ (λH0 G0 par br bx C ex s3 H3 pn hB1=>(av lD @At dS rfl rfl (ab @Ps ah))))) mT.nd)
  (ay (aX (c7 bW iJ rfl B.tuple (@FS) (bP (NB:=["a","b","tables"]) (own:=2) (ixs:=[2]) [2] rfl @IN @Ch (iZ rfl (av b8 @At aL rfl rfl (ab (af 0 rfl) ah))) (λH0 G0 par br bx C ex s3 H3 pn=>(eR (i:=0) (j:=1) (show (["a","b","tables"]:@Id).Nodup by decide +kernel))) (λH0 G0 par br bx C ex s3 H3 pn hB2=>(fj (cC rfl (av j3 @At dS rfl rfl (ab (af 2 (hB2 2 @E_)) (ab (af 0 (hB2 0 @E_)) (ab (af 1 (hB2 1 @E_)) ah))))))) (λH0 G0 par br bx C ex s3 H3 pn hB2=>(cB (ab (af 0 (hB2 0 @E_)) (ab (af 1 (hB2 1 @E_)) ah)))))))))⟩,@IO ⟩
abbrev mh:Stmt:=top 30
def zx:aB ["thing","order"] ["thing","order"] (ar mh):=@AC
def xD {f:Addr}{fd:FuncData}{dJ:@Cl}(F:fq K mg "are_rows" mh ["thing","order"] f fd)(B:fP mg)(k0:bK P w K mg base ca "keeps_order" ["thing","order"] 4 dJ):bK P w K mg base ca "are_rows" ["thing","order"] 5 (aS 2 2 (my dJ)):=
 ⟨⟨f,fd,F.mg,F.F.kp,F.b,aO (N:=["thing","order"]) (k:=4) F.F zx λcdv A outer s H G E hr=>
  (au (dE (zr.t (tj (dO (cC rfl (pd "list" @E_ rfl rfl B.isinstance rfl B.list (@FS) (ae 0)))) (oZ (cj (gQ hr.units) i5 (aW bE dQ rfl B.len R0 (ae 0)) ax (bV _))) @Ch))
  (ay (aX mQ))
  cF)
  (ay (aX (aW (iV rfl) iP rfl B.all (@FS) (bP (NB:=["row","order"]) (own:=1) (ixs:=[1]) [1] rfl @IN @Ch (iZ rfl (ae 0)) (λH0 G0 par br bx C ex s3 H3 pn=>(dW (i:=0) (show (["row","order"]:@Id).Nodup by decide +kernel))) @H_ (λH0 G0 par br bx C ex s3 H3 pn hB1=>(av k0 @At dS rfl rfl (ab @Ps (ab (af 1 (hB1 1 @E_)) ah)))))))))⟩,@IO ⟩
abbrev wO:Stmt:=top 31
def Hu:aB ["thing","order"] ["thing","order"] (ar wO):=@AC
def FH {f:Addr}{fd:FuncData}{aK hW dg:@Cl}(F:fq K mg "tell" wO ["thing","order"] f fd)(B:fP mg)(bg:bK P w K mg base ca "need_order" ["thing"] 5 aK)(oO:bK P w K mg base ca "are_rows" ["thing","order"] 5 hW)(jZ:bK P w K mg base ca "shared_pairs" ["many","rows"] 2 dg):bK P w K mg base ca "tell" ["thing","order"] 6 (aS 2 2 (zZ aK hW dg)):=
 ⟨⟨f,fd,F.mg,F.F.kp,F.b,aO (N:=["thing","order"]) (k:=5) F.F Hu λcdv A outer s H G E hr=>
  (au (cA (av bg @At aL rfl rfl (ab (af 1 rfl) ah)))
  (ay (aX (lR (av oO @At aL rfl rfl (ab (af 0 rfl) (ab (af 1 rfl) ah))) (lX (fM (gQ hr.units) i5 (av jZ @At aL rfl rfl (ab @SZ (ab (af 0 rfl) ah))) @SZ (bV _))) @Ch))))⟩,@IO ⟩
abbrev km:Stmt:=top 36
def xk:aB @O_ @O_ (ar km):=@AC
def uP {f:Addr}{fd:FuncData}{aK:@Cl}(F:fq K mg "need_both" km @O_ f fd)(B:fP mg)(bg:bK P w K mg base ca "need_order" ["thing"] 5 aK):bK P w K mg base ca "need_both" @O_ 6 (aS 2 2 (kR aK)):=
 ⟨⟨f,fd,F.mg,F.F.kp,F.b,aO (N:=@O_) (k:=5) F.F xk λcdv A outer s H G E hr=>
  (au (cA (av bg @At aL rfl rfl (ab (af 0 rfl) ah)))
  (ay (cA (av bg @At aL rfl rfl (ab (af 1 rfl) ah)))))⟩,@IO ⟩
abbrev kC:Stmt:=top 37
def xA:aB ["many"] ["many"] (ar kC):=@AC
def uw {f:Addr}{fd:FuncData}(F:fq K mg "need_room" kC ["many"] f fd)(B:fP mg){kT:Tok}(dM:mg "MOST_THINGS"=some (.int 8 kT)):bK P w K mg base ca "need_room" ["many"] 1 (aS 1 1 (gW)):=
 ⟨⟨f,fd,F.mg,F.F.kp,F.b,aO (N:=["many"]) (k:=0) F.F xA λcdv A outer s H G E hr=>
  (ay (dE (cj J3 NF (ae 0) (Bq (by rfl) dM) (bV _))
  (ay uj)
  cF))⟩,@IO ⟩
abbrev iF:Stmt:=top 35
def su:aB @O_ @O_ (ar iF):=@AC
def qV {f:Addr}{fd:FuncData}{cy cw:@Cl}(F:fq K mg "need_joined" iF @O_ f fd)(B:fP mg)(fX:bK P w K mg base ca "need_both" @O_ 6 cy)(fT:bK P w K mg base ca "need_room" ["many"] 1 cw):bK P w K mg base ca "need_joined" @O_ 7 (aS 2 2 (iw cy cw)):=
 ⟨⟨f,fd,F.mg,F.F.kp,F.b,aO (N:=@O_) (k:=6) F.F su λcdv A outer s H G E hr=>
  (au (cA (av fX @At aL rfl rfl (ab (af 0 rfl) (ab (af 1 rfl) ah))))
  (ay (cA (av fT @At aL rfl rfl (ab (a7 c6 c3 @L_ @SZ) ah)))))⟩,@IO ⟩
abbrev gY:Stmt:=top 38
def rm:aB ["order","step"] ["order","step"] (ar gY):=@AC
def qk {f:Addr}{fd:FuncData}(F:fq K mg "raised_pairs" gY ["order","step"] f fd)(B:fP mg):bK P w K mg base ca "raised_pairs" ["order","step"] 1 (aS 2 2 (gB)):=
 ⟨⟨f,fd,F.mg,F.F.kp,F.b,aO (N:=["order","step"]) (k:=0) F.F rm λcdv A outer s H G E hr=>
  (ay (iK (bP (NB:=["a","b","step"]) (own:=2) (ixs:=[1]) [] rfl @IN @Ch (iZ rfl @L_) (λH0 G0 par br bx C ex s3 H3 pn=>(eR (i:=0) (j:=1) (show (["a","b","step"]:@Id).Nodup by decide +kernel))) @H_ (λH0 G0 par br bx C ex s3 H3 pn hB1=>(cB (ab (a7 c6 c3 (ae 0) (ae 2)) (ab (a7 c6 c3 (ae 1) (ae 2)) ah)))))))⟩,@IO ⟩
abbrev ky:Stmt:=top 33
def lY:aB ["one","other","many","between"] @O_ (ar ky):=@AC
def uG {f:Addr}{fd:FuncData}{aQ aV aZ:@Cl}(F:fq K mg "behind_of" ky @O_ f fd)(B:fP mg)(bN:bK P w K mg base ca "need_joined" @O_ 7 aQ)(b8:bK P w K mg base ca "every_pair" ["many"] 1 aV)(cc:bK P w K mg base ca "raised_pairs" ["order","step"] 1 aZ):bK P w K mg base ca "behind_of" @O_ 8 (aS 4 2 (kn aQ aV aZ)):=
 ⟨⟨f,fd,F.mg,F.F.kp,F.b,aO (N:=["one","other","many","between"]) (k:=7) F.F lY λcdv A outer s H G E hr=>
  (au (cA (av bN @At aL rfl rfl (ab (af 0 rfl) (ab (af 1 rfl) ah))))
  (au (bh (i:=2) (a7 c6 c3 @L_ @SZ) lY.nd)
  (au (l6 (i:=3) (NB:=["a","b","one"]) (own:=2) (ixs:=[0]) [] rfl @IN @Ch (iZ rfl (av b8 @At aL rfl rfl (ab (af 2 rfl) ah))) (λH0 G0 par br bx C ex s3 H3 pn=>(eR (i:=0) (j:=1) (show (["a","b","one"]:@Id).Nodup by decide +kernel))) (λH0 G0 par br bx C ex s3 H3 pn hB1=>(fj (Fd qN By zb ID (ae 0) (aU aI bA (ae 2) ax @Ch) (ae 1)))) (λH0 G0 par br bx C ex s3 H3 pn hB1=>(cB (ab @Ps (ab (af 1 (hB1 1 @E_)) ah)))) lY.nd)
  (ay (aX (cB (ab (af 2 rfl) (ab (c7 bW iJ rfl B.tuple (@FS) (aW qF Cm rfl B.sorted (@FS) (a7 js pk (a7 js pk (c7 mE Ai rfl B.list (@FS) @L_) (av cc @At aL rfl rfl (ab (af 1 rfl) (ab @L_ ah)))) (ae 3)))) ah))))))))⟩,@IO ⟩
abbrev ke:Stmt:=top 34
def xc:aB @O_ @O_ (ar ke):=@AC
def uR {f:Addr}{fd:FuncData}{aQ aZ:@Cl}(F:fq K mg "beside_of" ke @O_ f fd)(B:fP mg)(bN:bK P w K mg base ca "need_joined" @O_ 7 aQ)(cc:bK P w K mg base ca "raised_pairs" ["order","step"] 1 aZ):bK P w K mg base ca "beside_of" @O_ 8 (aS 2 2 (kA aQ aZ)):=
 ⟨⟨f,fd,F.mg,F.F.kp,F.b,aO (N:=@O_) (k:=7) F.F xc λcdv A outer s H G E hr=>
  (au (cA (av bN @At aL rfl rfl (ab (af 0 rfl) (ab (af 1 rfl) ah))))
  (ay (aX (cB (ab (a7 c6 c3 @L_ @SZ) (ab (c7 bW iJ rfl B.tuple (@FS) (a7 js pk (c7 mE Ai rfl B.list (@FS) @L_) (av cc @At aL rfl rfl (ab (af 1 rfl) (ab @L_ ah))))) ah))))))⟩,@IO ⟩
abbrev fD:Stmt:=top 40
def qw:aB ["order","thing","other"] ["order","thing","other"] (ar fD):=@AC
def pM {f:Addr}{fd:FuncData}{cy bO cw:@Cl}(F:fq K mg "need_replaced" fD ["order","thing","other"] f fd)(B:fP mg)(fX:bK P w K mg base ca "need_both" @O_ 6 cy)(dB:bK P w K mg base ca "need_order_and_thing" ["order","thing"] 6 bO)(fT:bK P w K mg base ca "need_room" ["many"] 1 cw):bK P w K mg base ca "need_replaced" ["order","thing","other"] 7 (aS 3 3 (fG cy bO cw)):=
 ⟨⟨f,fd,F.mg,F.F.kp,F.b,aO (N:=["order","thing","other"]) (k:=6) F.F qw λcdv A outer s H G E hr=>
  (au (cA (av fX @At aL rfl rfl (ab (af 0 rfl) (ab (af 2 rfl) ah))))
  (au (cA (av dB @At aL rfl rfl (ab (af 0 rfl) (ab (af 1 rfl) ah))))
  (ay (cA (av fT @At aL rfl rfl (ab (a7 qp ve (a7 c6 c3 @L_ (aU aI bA (ae 2) ax @Ch)) ax) ah))))))⟩,@IO ⟩
abbrev gE:Stmt:=top 41
def qQ:aB ["new","thing","many"] ["new","thing","many"] (ar gE):=@AC
def qy {f:Addr}{fd:FuncData}(F:fq K mg "standing_for" gE ["new","thing","many"] f fd)(B:fP mg):bK P w K mg base ca "standing_for" ["new","thing","many"] 1 (aS 3 3 (gF)):=
 ⟨⟨f,fd,F.mg,F.F.kp,F.b,aO (N:=["new","thing","many"]) (k:=0) F.F qQ λcdv A outer s H G E hr=>
  (au (dE (cj qN zb (ae 0) (ae 1) (bV _))
  (ay (pJ 0))
  cF)
  (ay (aX (lj (lr rfl) so rfl B.max (@FS) (ae 1) (a7 c6 c3 (a7 qp ve (ae 0) (ae 2)) ax)))))⟩,@IO ⟩
abbrev mC:Stmt:=top 39
def kN:aB ["order","thing","other","many","stood","outer"] ["order","thing","other"] (ar mC):=@AC
def xo {f:Addr}{fd:FuncData}{bz c8 aV aZ:@Cl}(F:fq K mg "replaced" mC ["order","thing","other"] f fd)(B:fP mg)(cT:bK P w K mg base ca "need_replaced" ["order","thing","other"] 7 bz)(j5:bK P w K mg base ca "standing_for" ["new","thing","many"] 1 c8)(b8:bK P w K mg base ca "every_pair" ["many"] 1 aV)(cc:bK P w K mg base ca "raised_pairs" ["order","step"] 1 aZ):bK P w K mg base ca "replaced" ["order","thing","other"] 8 (aS 6 3 (mM bz c8 aV aZ)):=
 ⟨⟨f,fd,F.mg,F.F.kp,F.b,aO (N:=["order","thing","other","many","stood","outer"]) (k:=7) F.F kN λcdv A outer s H G E hr=>
  (au (cA (av cT @At aL rfl rfl (ab (af 0 rfl) (ab (af 1 rfl) (ab (af 2 rfl) ah)))))
  (au (bh (i:=3) (a7 qp ve (a7 c6 c3 @L_ (aU aI bA (ae 2) ax @Ch)) ax) kN.nd)
  (au (bh (i:=4) (SE.wv (bP (NB:=["new","thing","other"]) (own:=1) (ixs:=[1,2]) [1] rfl @IN @Ch (ng rfl B.range (ae 3)) (λH0 G0 par br bx C ex s3 H3 pn=>(dW (i:=0) (show (["new","thing","other"]:@Id).Nodup by decide +kernel))) @H_ (λH0 G0 par br bx C ex s3 H3 pn hB1=>(av j5 @At dS rfl rfl (ab @Ps (ab (af 1 (hB1 1 @E_)) (ab (aU aI bA (ae 2) ax @Ch) ah))))))) kN.nd)
  (au (l6 (i:=5) (NB:=["a","b","stood","order"]) (own:=2) (ixs:=[4,0]) [] rfl @IN @Ch (iZ rfl (av b8 @At aL rfl rfl (ab (af 3 rfl) ah))) (λH0 G0 par br bx C ex s3 H3 pn=>(eR (i:=0) (j:=1) (show (["a","b","stood","order"]:@Id).Nodup by decide +kernel))) (λH0 G0 par br bx C ex s3 H3 pn hB2=>(fj (cj (um hr.u1) xC (cB (ab (aU aI bA (ae 2) (ae 0) @Ch) (ab (aU aI bA (ae 2) (ae 1) @Ch) ah))) (aU aI bA (ae 3) ax @Ch) (by with_unfolding_all rfl)))) (λH0 G0 par br bx C ex s3 H3 pn hB2=>(cB (ab (af 0 (hB2 0 @E_)) (ab (af 1 (hB2 1 @E_)) ah)))) kN.nd)
  (ay (aX (cB (ab (af 3 rfl) (ab (c7 bW iJ rfl B.tuple (@FS) (aW qF Cm rfl B.sorted (@FS) (a7 js pk (ae 5) (av cc @At aL rfl rfl (ab (af 2 rfl) (ab (af 1 rfl) ah)))))) ah)))))))))⟩,@IO ⟩
abbrev rE:Stmt:=top 42
def Gb:aB ["old","thing","step"] ["old","thing","step"] (ar rE):=@AC
def CQ {f:Addr}{fd:FuncData}(F:fq K mg "moved" rE ["old","thing","step"] f fd)(B:fP mg):bK P w K mg base ca "moved" ["old","thing","step"] 1 (aS 3 3 (wJ)):=
 ⟨⟨f,fd,F.mg,F.F.kp,F.b,aO (N:=["old","thing","step"]) (k:=0) F.F Gb λcdv A outer s H G E hr=>
  (ay (aX (J1 (cj J3 NF (ae 0) (ae 1) (bV _)) (a7 c6 c3 (ae 0) (ae 2)) (af 0 rfl) @Ch)))⟩,@IO ⟩
abbrev ki:Stmt:=top 46
def wX:aB @IR @IR (ar ki):=@AC
def uM {f:Addr}{fd:FuncData}{gJ:@Cl}(F:fq K mg "need_rows" ki @IR f fd)(B:fP mg)(me:bK P w K mg base ca "tell" ["thing","order"] 6 gJ):bK P w K mg base ca "need_rows" @IR 7 (aS 4 4 (kB gJ)):=
 ⟨⟨f,fd,F.mg,F.F.kp,F.b,aO (N:=@IR) (k:=6) F.F wX λcdv A outer s H G E hr=>
  (au (dE (dO (cC rfl (av me @At aL rfl rfl (ab (af 2 rfl) (ab (af 0 rfl) ah)))))
  (ay uj)
  cF)
  (ay (dE (dO (cC rfl (av me @At aL rfl rfl (ab (af 3 rfl) (ab (af 1 rfl) ah)))))
  (ay uj)
  cF)))⟩,@IO ⟩
abbrev p5:Stmt:=top 47
def DL:aB ["rows","at"] ["rows","at"] (ar p5):=@AC
def zN {f:Addr}{fd:FuncData}(F:fq K mg "row_at" p5 ["rows","at"] f fd)(B:fP mg):bK P w K mg base ca "row_at" ["rows","at"] 1 (aS 2 2 (tT)):=
 ⟨⟨f,fd,F.mg,F.F.kp,F.b,aO (N:=["rows","at"]) (k:=0) F.F DL λcdv A outer s H G E hr=>
  (ay (aX (aU aI bA (ae 0) (lj (Dv rfl) LH rfl B.min (@FS) (ae 1) (a7 qp ve (aW bE dQ rfl B.len R0 (ae 0)) ax)) @Ch)))⟩,@IO ⟩
abbrev jn:Stmt:=top 48
def uC:aB ["row","step"] ["row","step"] (ar jn):=@AC
def uc {f:Addr}{fd:FuncData}(F:fq K mg "raised_row" jn ["row","step"] f fd)(B:fP mg):bK P w K mg base ca "raised_row" ["row","step"] 1 (aS 2 2 (lV)):=
 ⟨⟨f,fd,F.mg,F.F.kp,F.b,aO (N:=["row","step"]) (k:=0) F.F uC λcdv A outer s H G E hr=>
  (ay (aX (c7 bW iJ rfl B.tuple (@FS) (bP (NB:=["thing","step"]) (own:=1) (ixs:=[1]) [] rfl @IN @Ch (iZ rfl (ae 0)) (λH0 G0 par br bx C ex s3 H3 pn=>(dW (i:=0) (show (["thing","step"]:@Id).Nodup by decide +kernel))) @H_ (λH0 G0 par br bx C ex s3 H3 pn hB1=>(a7 c6 c3 (ae 0) (ae 1)))))))⟩,@IO ⟩
abbrev iO:Stmt:=top 43
def nu:aB ["one","other","rows","others","count"] @IR (ar iO):=@AC
def q8 {f:Addr}{fd:FuncData}{aQ bC bZ a9:@Cl}(F:fq K mg "rows_behind" iO @IR f fd)(B:fP mg)(bN:bK P w K mg base ca "need_joined" @O_ 7 aQ)(cY:bK P w K mg base ca "need_rows" @IR 7 bC)(cV:bK P w K mg base ca "row_at" ["rows","at"] 1 bZ)(cn:bK P w K mg base ca "raised_row" ["row","step"] 1 a9):bK P w K mg base ca "rows_behind" @IR 8 (aS 5 4 (iI aQ bC bZ a9)):=
 ⟨⟨f,fd,F.mg,F.F.kp,F.b,aO (N:=["one","other","rows","others","count"]) (k:=7) F.F nu λcdv A outer s H G E hr=>
  (au (cA (av bN @At aL rfl rfl (ab (af 0 rfl) (ab (af 1 rfl) ah))))
  (au (cA (av cY @At aL rfl rfl (ab (af 0 rfl) (ab (af 1 rfl) (ab (af 2 rfl) (ab (af 3 rfl) ah))))))
  (au (bh (i:=4) (lj (lr rfl) so rfl B.max (@FS) (aW bE dQ rfl B.len R0 (ae 2)) (aW bE dQ rfl B.len R0 (ae 3))) nu.nd)
  (ay (iK (bP (NB:=["at","rows","others","one"]) (own:=1) (ixs:=[2,3,0]) [2,3] rfl @IN @Ch (ng rfl B.range (ae 4)) (λH0 G0 par br bx C ex s3 H3 pn=>(dW (i:=0) (show (["at","rows","others","one"]:@Id).Nodup by decide +kernel))) @H_ (λH0 G0 par br bx C ex s3 H3 pn hB1=>(a7 lN qC (av cV @At dS rfl rfl (ab (af 1 (hB1 1 @E_)) (ab @Ps ah))) (av cn @At dS rfl rfl (ab (av cV @At dS rfl rfl (ab (af 2 (hB1 2 @E_)) (ab @Ps ah))) (ab (aU aI bA (ae 3) ax @Ch) ah)))))))))))⟩,@IO ⟩
abbrev iC:Stmt:=top 44
def jR:aB ["one","other","rows","others","last","made"] @IR (ar iC):=@AC
def rh {f:Addr}{fd:FuncData}{aQ bC bZ a9:@Cl}(F:fq K mg "rows_beside" iC @IR f fd)(B:fP mg)(bN:bK P w K mg base ca "need_joined" @O_ 7 aQ)(cY:bK P w K mg base ca "need_rows" @IR 7 bC)(cV:bK P w K mg base ca "row_at" ["rows","at"] 1 bZ)(cn:bK P w K mg base ca "raised_row" ["row","step"] 1 a9):bK P w K mg base ca "rows_beside" @IR 8 (aS 6 4 (iG aQ bC bZ a9)):=
 ⟨⟨f,fd,F.mg,F.F.kp,F.b,aO (N:=["one","other","rows","others","last","made"]) (k:=7) F.F jR λcdv A outer s H G E hr=>
  (au (cA (av bN @At aL rfl rfl (ab (af 0 rfl) (ab (af 1 rfl) ah))))
  (au (cA (av cY @At aL rfl rfl (ab (af 0 rfl) (ab (af 1 rfl) (ab (af 2 rfl) (ab (af 3 rfl) ah))))))
  (au (bh (i:=4) (a7 qp ve (JE rfl rfl B.max (ab (aW bE dQ rfl B.len R0 (ae 2)) (ab (aW bE dQ rfl B.len R0 (ae 3)) (ab ax ah)))) ax) jR.nd)
  (au (l6 (i:=5) (NB:=["at","rows","others","one"]) (own:=1) (ixs:=[2,3,0]) [2,3] rfl @IN @Ch (ng rfl B.range (ae 4)) (λH0 G0 par br bx C ex s3 H3 pn=>(dW (i:=0) (show (["at","rows","others","one"]:@Id).Nodup by decide +kernel))) @H_ (λH0 G0 par br bx C ex s3 H3 pn hB1=>(a7 lN qC (av cV @At dS rfl rfl (ab (af 1 (hB1 1 @E_)) (ab @Ps ah))) (av cn @At dS rfl rfl (ab (av cV @At dS rfl rfl (ab (af 2 (hB1 2 @E_)) (ab @Ps ah))) (ab (aU aI bA (ae 3) ax @Ch) ah))))) jR.nd)
  (ay (iK (a7 js pk (ae 5) (eJ (ab (a7 lN qC (av cn @At aL rfl rfl (ab (av cV @At aL rfl rfl (ab (af 3 rfl) (ab (af 4 rfl) ah))) (ab @L_ ah))) (av cV @At aL rfl rfl (ab (af 2 rfl) (ab (af 4 rfl) ah)))) ah)))))))))⟩,@IO ⟩
abbrev gK:Stmt:=top 49
def i8:aB ["row","thing","inner","at","kept"] ["row","thing","inner"] (ar gK):=@AC
def qd {f:Addr}{fd:FuncData}{nQ a9:@Cl}(F:fq K mg "row_replaced" gK ["row","thing","inner"] f fd)(B:fP mg)(v8:bK P w K mg base ca "moved" ["old","thing","step"] 1 nQ)(cn:bK P w K mg base ca "raised_row" ["row","step"] 1 a9):bK P w K mg base ca "row_replaced" ["row","thing","inner"] 2 (aS 5 3 (gO nQ a9)):=
 ⟨⟨f,fd,F.mg,F.F.kp,F.b,aO (N:=["row","thing","inner","at","kept"]) (k:=1) F.F i8 λcdv A outer s H G E hr=>
  (au (bh (i:=3) (tf rfl (ae 0) (ae 1)) i8.nd)
  (au (bh (i:=4) (c7 bW iJ rfl B.tuple (@FS) (bP (NB:=["old","thing","inner"]) (own:=1) (ixs:=[1,2]) [1] rfl @IN @Ch (iZ rfl (ae 0)) (λH0 G0 par br bx C ex s3 H3 pn=>(dW (i:=0) (show (["old","thing","inner"]:@Id).Nodup by decide +kernel))) @H_ (λH0 G0 par br bx C ex s3 H3 pn hB1=>(av v8 @At dS rfl rfl (ab @Ps (ab (af 1 (hB1 1 @E_)) (ab (a7 qp ve (aW bE dQ rfl B.len R0 (ae 2)) ax) ah))))))) i8.nd)
  (ay (aX (a7 lN qC (a7 lN qC (vC rfl (ae 4) rT (rO (ae 3))) (av cn @At aL rfl rfl (ab (af 2 rfl) (ab (af 1 rfl) ah)))) (vC rfl (ae 4) (rO (a7 c6 c3 (ae 3) ax)) rT))))))⟩,@IO ⟩
abbrev fK:Stmt:=top 45
def lQ:aB ["order","thing","other","rows","others","count"] ["order","thing","other","rows","others"] (ar fK):=@AC
def pz {f:Addr}{fd:FuncData}{bz bC df bZ:@Cl}(F:fq K mg "rows_replaced" fK ["order","thing","other","rows","others"] f fd)(B:fP mg)(cT:bK P w K mg base ca "need_replaced" ["order","thing","other"] 7 bz)(cY:bK P w K mg base ca "need_rows" @IR 7 bC)(j8:bK P w K mg base ca "row_replaced" ["row","thing","inner"] 2 df)(cV:bK P w K mg base ca "row_at" ["rows","at"] 1 bZ):bK P w K mg base ca "rows_replaced" ["order","thing","other","rows","others"] 8 (aS 6 5 (fJ bz bC df bZ)):=
 ⟨⟨f,fd,F.mg,F.F.kp,F.b,aO (N:=["order","thing","other","rows","others","count"]) (k:=7) F.F lQ λcdv A outer s H G E hr=>
  (au (cA (av cT @At aL rfl rfl (ab (af 0 rfl) (ab (af 1 rfl) (ab (af 2 rfl) ah)))))
  (au (cA (av cY @At aL rfl rfl (ab (af 0 rfl) (ab (af 2 rfl) (ab (af 3 rfl) (ab (af 4 rfl) ah))))))
  (au (bh (i:=5) (lj (lr rfl) so rfl B.max (@FS) (aW bE dQ rfl B.len R0 (ae 3)) (aW bE dQ rfl B.len R0 (ae 4))) lQ.nd)
  (ay (iK (bP (NB:=["at","rows","thing","others"]) (own:=1) (ixs:=[3,1,4]) [1,3,4] rfl @IN @Ch (ng rfl B.range (ae 5)) (λH0 G0 par br bx C ex s3 H3 pn=>(dW (i:=0) (show (["at","rows","thing","others"]:@Id).Nodup by decide +kernel))) @H_ (λH0 G0 par br bx C ex s3 H3 pn hB1=>(av j8 @At dS rfl rfl (ab (av cV @At dS rfl rfl (ab (af 1 (hB1 1 @E_)) (ab @Ps ah))) (ab (af 2 (hB1 2 @E_)) (ab (av cV @At dS rfl rfl (ab (af 3 (hB1 3 @E_)) (ab @Ps ah))) ah)))))))))))⟩,@IO ⟩
abbrev rA:Stmt:=top 51
def E1:aB ["order"] ["order"] (ar rA):=@AC
def Cv {f:Addr}{fd:FuncData}{aK aV gf:@Cl}(F:fq K mg "turns" rA ["order"] f fd)(B:fP mg)(bg:bK P w K mg base ca "need_order" ["thing"] 5 aK)(b8:bK P w K mg base ca "every_pair" ["many"] 1 aV)(nH:bK P w K mg base ca "are_apart" ["order","a","b"] 1 gf):bK P w K mg base ca "turns" ["order"] 6 (aS 1 1 (rV aK aV gf)):=
 ⟨⟨f,fd,F.mg,F.F.kp,F.b,aO (N:=["order"]) (k:=5) F.F E1 λcdv A outer s H G E hr=>
  (au (cA (av bg @At aL rfl rfl (ab (af 0 rfl) ah)))
  (ay (iK (bP (NB:=["a","b","order"]) (own:=2) (ixs:=[0]) [0] rfl @IN @Ch (iZ rfl (av b8 @At aL rfl rfl (ab @L_ ah))) (λH0 G0 par br bx C ex s3 H3 pn=>(eR (i:=0) (j:=1) (show (["a","b","order"]:@Id).Nodup by decide +kernel))) (λH0 G0 par br bx C ex s3 H3 pn hB1=>(fj (cC rfl (av nH @At dS rfl rfl (ab (af 2 (hB1 2 @E_)) (ab @Ps (ab (af 1 (hB1 1 @E_)) ah))))))) (λH0 G0 par br bx C ex s3 H3 pn hB1=>(cB (ab @Ps (ab (af 1 (hB1 1 @E_)) ah))))))))⟩,@IO ⟩
abbrev l4:Stmt:=top 53
def qK:aB ["order","a","b","pairs"] ["order","a","b"] (ar l4):=@AC
def xH {f:Addr}{fd:FuncData}(F:fq K mg "is_sharp" l4 ["order","a","b"] f fd)(B:fP mg):bK P w K mg base ca "is_sharp" ["order","a","b"] 1 (aS 4 3 (mn)):=
 ⟨⟨f,fd,F.mg,F.F.kp,F.b,aO (N:=["order","a","b","pairs"]) (k:=0) F.F qK λcdv A outer s H G E hr=>
  (au (bh (i:=3) @L_ qK.nd)
  (au (dE (dO (cC rfl (aW (iV rfl) iP rfl B.all (@FS) (bP (NB:=["one","other","a","b","pairs"]) (own:=2) (ixs:=[1,2,3]) [2] rfl @IN @Ch (iZ rfl (ae 3)) (λH0 G0 par br bx C ex s3 H3 pn=>(eR (i:=0) (j:=1) (show (["one","other","a","b","pairs"]:@Id).Nodup by decide +kernel))) (λH0 G0 par br bx C ex s3 H3 pn hB1=>(fj (cj (gQ hr.units) i5 (ae 1) (ae 2) (bV _)))) (λH0 G0 par br bx C ex s3 H3 pn hB1=>(fM (um hr.u1) xC (cB (ab @Ps (ab (af 3 (hB1 3 @E_)) ah))) (ae 4) (by with_unfolding_all rfl)))))))
  (ay (aX mQ))
  cF)
  (ay (aX (aW (iV rfl) iP rfl B.all (@FS) (bP (NB:=["one","other","b","a","pairs"]) (own:=2) (ixs:=[2,1,3]) [1] rfl @IN @Ch (iZ rfl (ae 3)) (λH0 G0 par br bx C ex s3 H3 pn=>(eR (i:=0) (j:=1) (show (["one","other","b","a","pairs"]:@Id).Nodup by decide +kernel))) (λH0 G0 par br bx C ex s3 H3 pn hB2=>(fj (cj (gQ hr.units) i5 (ae 0) (ae 2) (bV _)))) (λH0 G0 par br bx C ex s3 H3 pn hB2=>(fM (um hr.u1) xC (cB (ab (af 3 (hB2 3 @E_)) (ab (af 1 (hB2 1 @E_)) ah))) (ae 4) (by with_unfolding_all rfl)))))))))⟩,@IO ⟩
abbrev iu:Stmt:=top 52
def uq:aB ["order"] ["order"] (ar iu):=@AC
def qY {f:Addr}{fd:FuncData}{nY h9:@Cl}(F:fq K mg "sharp_turns" iu ["order"] f fd)(B:fP mg)(wK:bK P w K mg base ca "turns" ["order"] 6 nY)(oR:bK P w K mg base ca "is_sharp" ["order","a","b"] 1 h9):bK P w K mg base ca "sharp_turns" ["order"] 7 (aS 1 1 (oA nY h9)):=
 ⟨⟨f,fd,F.mg,F.F.kp,F.b,aO (N:=["order"]) (k:=6) F.F uq λcdv A outer s H G E hr=>
  (ay (iK (bP (NB:=["a","b","order"]) (own:=2) (ixs:=[0]) [0] rfl @IN @Ch (iZ rfl (av wK @At aL rfl rfl (ab (af 0 rfl) ah))) (λH0 G0 par br bx C ex s3 H3 pn=>(eR (i:=0) (j:=1) (show (["a","b","order"]:@Id).Nodup by decide +kernel))) (λH0 G0 par br bx C ex s3 H3 pn hB1=>(fj (cC rfl (av oR @At dS rfl rfl (ab (af 2 (hB1 2 @E_)) (ab @Ps (ab (af 1 (hB1 1 @E_)) ah))))))) (λH0 G0 par br bx C ex s3 H3 pn hB1=>(cB (ab @Ps (ab (af 1 (hB1 1 @E_)) ah)))))))⟩,@IO ⟩
abbrev mH:Stmt:=top 54
def ym:aB ["order","turn","other"] ["order","turn","other"] (ar mH):=@AC
def wD {f:Addr}{fd:FuncData}(F:fq K mg "leads_on" mH ["order","turn","other"] f fd)(B:fP mg):bK P w K mg base ca "leads_on" ["order","turn","other"] 1 (aS 3 3 (lU)):=
 ⟨⟨f,fd,F.mg,F.F.kp,F.b,aO (N:=["order","turn","other"]) (k:=0) F.F ym λcdv A outer s H G E hr=>
  (ay (aX (NX (fM (gQ hr.units) i5 @SZ (aU aI bA (ae 2) ax @Ch) (bV _)) (lX (fM (um hr.u1) xC (cB (ab @SZ (ab (aU aI bA (ae 2) ax @Ch) ah))) @L_ (by with_unfolding_all rfl))) @Ch)))⟩,@IO ⟩
abbrev lW:Stmt:=top 55
def yh:aB ["masks","a","b"] ["masks","a","b"] (ar lW):=@AC
def wC {f:Addr}{fd:FuncData}{aM:@Cl}(F:fq K mg "is_ahead" lW ["masks","a","b"] f fd)(B:fP mg)(bu:bK P w K mg base ca "with_thing" ["placed","thing"] 1 aM):bK P w K mg base ca "is_ahead" ["masks","a","b"] 2 (aS 3 3 (l9 aM)):=
 ⟨⟨f,fd,F.mg,F.F.kp,F.b,aO (N:=["masks","a","b"]) (k:=1) F.F yh λcdv A outer s H G E hr=>
  (ay (aX (fM (gQ hr.units) i5 (av bu @At aL rfl rfl (ab (aU aI bA (ae 0) (ae 2) @Ch) (ab (af 1 rfl) ah))) (aU aI bA (ae 0) (ae 2) @Ch) (bV _))))⟩,@IO ⟩
abbrev kh:Stmt:=top 56
def xN:aB ["masks","turn"] ["masks","turn"] (ar kh):=@AC
def uI {f:Addr}{fd:FuncData}{bR:@Cl}(F:fq K mg "is_turned" kh ["masks","turn"] f fd)(B:fP mg)(dA:bK P w K mg base ca "is_ahead" ["masks","a","b"] 2 bR):bK P w K mg base ca "is_turned" ["masks","turn"] 3 (aS 2 2 (kj bR)):=
 ⟨⟨f,fd,F.mg,F.F.kp,F.b,aO (N:=["masks","turn"]) (k:=2) F.F xN λcdv A outer s H G E hr=>
  (ay (aX (av dA @At aL rfl rfl (ab (af 0 rfl) (ab @SZ (ab @SZ ah))))))⟩,@IO ⟩
abbrev kb:Stmt:=top 57
def wj:aB ["masks","turn"] ["masks","turn"] (ar kb):=@AC
def va {f:Addr}{fd:FuncData}{bR:@Cl}(F:fq K mg "is_barred" kb ["masks","turn"] f fd)(B:fP mg)(dA:bK P w K mg base ca "is_ahead" ["masks","a","b"] 2 bR):bK P w K mg base ca "is_barred" ["masks","turn"] 3 (aS 2 2 (ku bR)):=
 ⟨⟨f,fd,F.mg,F.F.kp,F.b,aO (N:=["masks","turn"]) (k:=2) F.F wj λcdv A outer s H G E hr=>
  (ay (aX (av dA @At aL rfl rfl (ab (af 0 rfl) (ab @SZ (ab @SZ ah))))))⟩,@IO ⟩
abbrev l7:Stmt:=top 58
def nr:aB ["masks","turn","late","more"] ["masks","turn"] (ar l7):=@AC
def wB {f:Addr}{fd:FuncData}{bR aM:@Cl}(F:fq K mg "put_turn" l7 ["masks","turn"] f fd)(B:fP mg)(dA:bK P w K mg base ca "is_ahead" ["masks","a","b"] 2 bR)(bu:bK P w K mg base ca "with_thing" ["placed","thing"] 1 aM):bK P w K mg base ca "put_turn" ["masks","turn"] 3 (aS 4 2 (mi bR aM)):=
 ⟨⟨f,fd,F.mg,F.F.kp,F.b,aO (N:=["masks","turn","late","more"]) (k:=2) F.F nr λcdv A outer s H G E hr=>
  (au (bh (i:=2) (SE.wv (bP (NB:=["thing","turn","masks"]) (own:=1) (ixs:=[1,0]) [0] rfl @IN @Ch (ng rfl B.range (aW bE dQ rfl B.len R0 (ae 0))) (λH0 G0 par br bx C ex s3 H3 pn=>(dW (i:=0) (show (["thing","turn","masks"]:@Id).Nodup by decide +kernel))) (λH0 G0 par br bx C ex s3 H3 pn hB1=>(fj (zr.t (tj (cj (gQ hr.units) i5 (ae 0) @SZ (bV _)) (oZ (cC rfl (av dA @At dS rfl rfl (ab (af 2 (hB1 2 @E_)) (ab @SZ (ab @Ps ah)))))) (λi hi=>hB1 i (by revert i hi;decide)))))) (λH0 G0 par br bx C ex s3 H3 pn hB1=>@Ps))) nr.nd)
  (au (bh (i:=3) (av bu @At aL rfl rfl (ab (aU aI bA (ae 0) @SZ @Ch) (ab @SZ ah))) nr.nd)
  (ay (iK (bP (NB:=["thing","mask","late","more"]) (own:=2) (ixs:=[2,3]) [] rfl @IN @Ch (SI.vb (yx rfl rfl B.enumerate (af 0 rfl))) (λH0 G0 par br bx C ex s3 H3 pn=>(eR (i:=0) (j:=1) (show (["thing","mask","late","more"]:@Id).Nodup by decide +kernel))) (λH0 G0 par br bx C ex s3 H3 pn hB2=>cp) (λH0 G0 par br bx C ex s3 H3 pn hB2=>(J1 (cj (um hr.u1) xC (ae 0) (ae 2) (by with_unfolding_all rfl)) (a7 JL Oi (ae 1) (ae 3)) (af 1 (hB2 1 @E_)) (λi hi=>hB2 i (by revert i hi;decide)))))))))⟩,@IO ⟩
abbrev kE:Stmt:=top 59
def dz:aB ["order","put","turn","paths","left","at","fresh"] ["order","put","turn"] (ar kE):=@AC
def u7 {f:Addr}{fd:FuncData}{fO:@Cl}(F:fq K mg "ring_with" kE ["order","put","turn"] f fd)(B:fP mg)(mD:bK P w K mg base ca "leads_on" ["order","turn","other"] 1 fO):bK P w K mg base ca "ring_with" ["order","put","turn"] 2 (aS 7 3 (kg fO)):=
 ⟨⟨f,fd,F.mg,F.F.kp,F.b,aO (N:=["order","put","turn","paths","left","at","fresh"]) (k:=1) F.F dz λcdv A outer s H G E hr=>
  (au (jB (i:=3) (eJ (ab (SE.wv (eJ (ab (af 2 rfl) ah))) ah)) dz.nd)
  (au (bh (i:=4) (af 1 rfl) dz.nd)
  (au (bh (i:=5) ax dz.nd)
  (au (pF 1000 PassesOwn.leaving (dO (cC rfl (av mD @At aL rfl rfl (ab (af 0 rfl) (ab (aU aI bA (aU aI bA (ae 3) (ae 5) @Ch) (Fb Aa Fc ax) @Ch) (ab (af 2 rfl) ah))))))
  (au (bh (i:=6) (SE.wv (bP (NB:=["other","order","paths","at"]) (own:=1) (ixs:=[0,3,5]) [0] rfl @IN @Ch (iZ rfl (ae 4)) (λH0 G0 par br bx C ex s3 H3 pn=>(dW (i:=0) (show (["other","order","paths","at"]:@Id).Nodup by decide +kernel))) (λH0 G0 par br bx C ex s3 H3 pn hB1=>(fj (cC rfl (av mD @At dS rfl rfl (ab (af 1 (hB1 1 @E_)) (ab (aU aI bA (aU aI bA (ae 2) (ae 3) @Ch) (Fb Aa Fc ax) @Ch) (ab @Ps ah))))))) (λH0 G0 par br bx C ex s3 H3 pn hB1=>@Ps))) dz.nd)
  (au (l6 (i:=4) (NB:=["other","fresh"]) (own:=1) (ixs:=[6]) [] rfl @IN @Ch (iZ rfl (ae 4)) (λH0 G0 par br bx C ex s3 H3 pn=>(dW (i:=0) (show (["other","fresh"]:@Id).Nodup by decide +kernel))) (λH0 G0 par br bx C ex s3 H3 pn hB2=>(fj (cj (nZ hr.u1) xC (ae 0) (ae 1) (by with_unfolding_all rfl)))) (λH0 G0 par br bx C ex s3 H3 pn hB2=>(af 0 (hB2 0 @E_))) dz.nd)
  (au (Dd 3 (λ_=>rfl) (bP (NB:=["other","paths","at"]) (own:=1) (ixs:=[3,5]) [] rfl @IN @Ch (iZ rfl (ae 6)) (λH0 G0 par br bx C ex s3 H3 pn=>(dW (i:=0) (show (["other","paths","at"]:@Id).Nodup by decide +kernel))) (λH0 G0 par br bx C ex s3 H3 pn hB3=>cp) (λH0 G0 par br bx C ex s3 H3 pn hB3=>(SE.wv (a7 js pk (aU aI bA (ae 1) (ae 2) @Ch) (eJ (ab (af 0 (hB3 0 @E_)) ah)))))))
  (ay (bh (i:=5) (a7 c6 c3 (ae 5) ax) dz.nd))))))
  (ay (aX (aU aI bA (ae 3) (ae 5) @Ch)))))))⟩,@IO ⟩
abbrev nO:Stmt:=top 66
def oV:aB ["order","left","rows","number","turn","masks","put"] ["order","left","rows","number","turn"] (ar nO):=@AC
def zp {T:Addr}{f:Addr}{fd:FuncData}{cD cx gc ic:@Cl}{k:Nat}(hk:6<=k)(F:fq K mg "case_of" nO ["order","left","rows","number","turn"] f fd)(B:fP mg)(j6:l0 T P w K mg base ca "cases_on" ["order","left","rows"] k cD)(gk:bK P w K mg base ca "is_barred" ["masks","turn"] 3 cx)(nC:bK P w K mg base ca "ring_with" ["order","put","turn"] 2 gc)(oP:bK P w K mg base ca "put_turn" ["masks","turn"] 3 ic):l0 T P w K mg base ca "case_of" ["order","left","rows","number","turn"] (k + 1) (aS 7 5 (jH cD cx gc ic)):=
 ⟨⟨f,fd,F.mg,F.F.kp,F.b,lM (N:=["order","left","rows","number","turn","masks","put"]) (k:=k) F.F oV λcdv A outer s H G E hcd hT hr=>
  (au (bh (i:=5) (aU aI bA (aU aI bA (ae 2) (ae 3) @Ch) ax @Ch) oV.nd)
  (au (bh (i:=6) (aU aI bA (aU aI bA (ae 2) (ae 3) @Ch) ax @Ch) oV.nd)
  (au (dE (cC rfl (av gk (hr.mono (@AT)) aL rfl rfl (ab (af 5 rfl) (ab (af 4 rfl) ah))))
  (ay (aX (cB (ab uk (ab (af 3 rfl) (ab (av nC (hr.mono (@AT)) aL rfl rfl (ab (af 0 rfl) (ab (af 6 rfl) (ab (af 4 rfl) ah)))) ah))))))
  cF)
  (ay (aX (eV hT j6 (hr.mono (@AT)) aL rfl rfl (ab (af 0 rfl) (ab (af 1 rfl) (ab (SE.wv (a7 js pk (a7 js pk (ze rfl (ae 2) rT (rO (ae 3))) (eJ (ab (cB (ab (av oP (hr.mono (@AT)) aL rfl rfl (ab (af 5 rfl) (ab (af 4 rfl) ah))) (ab (a7 lN qC (ae 6) (cB (ab (af 4 rfl) ah))) ah))) ah))) (ze rfl (ae 2) (rO (a7 c6 c3 (ae 3) ax)) rT))) ah)))))))))⟩,@IO ⟩
abbrev kF:Stmt:=top 65
def wN:aB ["rows","turn"] ["rows","turn"] (ar kF):=@AC
def u5 {f:Addr}{fd:FuncData}{cx:@Cl}(F:fq K mg "free_rows" kF ["rows","turn"] f fd)(B:fP mg)(gk:bK P w K mg base ca "is_barred" ["masks","turn"] 3 cx):bK P w K mg base ca "free_rows" ["rows","turn"] 4 (aS 2 2 (kH cx)):=
 ⟨⟨f,fd,F.mg,F.F.kp,F.b,aO (N:=["rows","turn"]) (k:=3) F.F wN λcdv A outer s H G E hr=>
  (ay (aX (aW bE dQ rfl B.len R0 (bP (NB:=["masks","put","turn"]) (own:=2) (ixs:=[1]) [1] rfl @IN @Ch (iZ rfl (ae 0)) (λH0 G0 par br bx C ex s3 H3 pn=>(eR (i:=0) (j:=1) (show (["masks","put","turn"]:@Id).Nodup by decide +kernel))) (λH0 G0 par br bx C ex s3 H3 pn hB1=>(fj (dO (cC rfl (av gk @At dS rfl rfl (ab @Ps (ab (af 2 (hB1 2 @E_)) ah))))))) (λH0 G0 par br bx C ex s3 H3 pn hB1=>@Ps)))))⟩,@IO ⟩
abbrev lZ:Stmt:=top 64
def fY:aB ["order","left","rows","undone","turn","papers","number","found"] ["order","left","rows"] (ar lZ):=@AC
def xG {T:Addr}{f:Addr}{fd:FuncData}{jJ gj fU fV:@Cl}{k:Nat}(hk:7<=k)(F:fq K mg "cases_on" lZ ["order","left","rows"] f fd)(B:fP mg){c:Addr}(hcode:fd.code=.ref c)(LT:DE mg base c T)(Dh:l0 T P w K mg base ca "case_of" ["order","left","rows","number","turn"] (k + 1) jJ)(nk:bK P w K mg base ca "is_turned" ["masks","turn"] 3 gj)(nM:bK P w K mg base ca "row_along" ["masks","late"] 3 fU)(nt:bK P w K mg base ca "free_rows" ["rows","turn"] 4 fV):l0 T P w K mg base ca "cases_on" ["order","left","rows"] (k + 1 + 1) (aS 8 3 (fL jJ gj fU fV)):=
 ⟨⟨f,fd,F.mg,F.F.kp,F.b,lM (N:=["order","left","rows","undone","turn","papers","number","found"]) (k:=(k + 1)) F.F fY λcdv A outer s H G E hcd hT hr=>
  (au (l6 (i:=3) (NB:=["turn","rows"]) (own:=1) (ixs:=[2]) [] rfl @IN @Ch (iZ rfl (ae 1)) (λH0 G0 par br bx C ex s3 H3 pn=>(dW (i:=0) (show (["turn","rows"]:@Id).Nodup by decide +kernel))) (λH0 G0 par br bx C ex s3 H3 pn hB1=>(fj (dO (cC rfl (aW (zA rfl) iP rfl B.any (@FS) (bP (NB:=["masks","put","turn"]) (own:=2) (ixs:=[0]) [0] rfl @IN (λi hi=>hB1 i (by revert i hi;decide)) (iZ rfl (ae 1)) (λH0 G0 par br bx C ex s3 H3 pn=>(eR (i:=0) (j:=1) (show (["masks","put","turn"]:@Id).Nodup by decide +kernel))) (λH0 G0 par br bx C ex s3 H3 pn hB2=>cp) (λH0 G0 par br bx C ex s3 H3 pn hB2=>(av nk (hr.mono (@AT)) dS rfl rfl (ab (af 0 (hB2 0 @E_)) (ab (af 2 (hB2 2 @E_)) ah)))))))))) (λH0 G0 par br bx C ex s3 H3 pn hB1=>@Ps) fY.nd)
  (au (dE (cj (gQ hr.units) i5 (aW bE dQ rfl B.len R0 (ae 3)) ax (bV _))
  (ay (aX (cB (ab uk (ab (SE.wv (bP (NB:=["masks","put"]) (own:=2) (ixs:=[]) [] rfl @IN @Ch (iZ rfl (ae 2)) (λH0 G0 par br bx C ex s3 H3 pn=>(eR (i:=0) (j:=1) (show (["masks","put"]:@Id).Nodup by decide +kernel))) (λH0 G0 par br bx C ex s3 H3 pn hB3=>cp) (λH0 G0 par br bx C ex s3 H3 pn hB3=>(av nM (hr.mono (@AT)) dS rfl rfl (ab (af 0 (hB3 0 @E_)) (ab (SE.wv (eJ ah)) ah)))))) ah)))))
  cF)
  (au (bh (i:=4) (DG (NB:=["one","rows"]) (ir:=2) rfl rfl rfl B.min (af 3 rfl) (KQ (NB:=["one","rows"]) (own:=1) (ixs:=[2]) @IN rfl (hcd.symm.trans hcode) LT.hd LT.bt LT.ne) (λ_ _ _ _ _ _ I=>hT.mono (I.old.trans I.sub)) @IN @E_ rfl rfl hr.depth rfl rfl (λ_ _ _ _ _ _=>rfl) (λH0 G0 qn q c1 s1 H1 pn=>(av nt ((hr.mono (@AT)).in1.deeper _) OG rfl rfl (ab (af 1 rfl) (ab (af 0 rfl) ah))))) fY.nd)
  (au (jB (i:=5) (eJ ah) fY.nd)
  (au (o8 PassesOwn.leaving rfl (ng rfl B.range (aW bE dQ rfl B.len R0 (ae 2))) (dW (i:=6) fY.nd)
  (au (bh (i:=7) (eV hT Dh (hr.mono (@AT)) aL rfl rfl (ab (af 0 rfl) (ab (af 3 rfl) (ab (af 2 rfl) (ab (af 6 rfl) (ab (af 4 rfl) ah)))))) fY.nd)
  (au (dE (cj (gQ hr.units) i5 (aU aI bA (ae 7) ax @Ch) uk (bV _))
  (ay (pJ 7))
  cF)
  (ay (n9 5 (λ_=>rfl) (af 7 rfl))))))
  (ay (aX (cB (ab uk (ab (af 4 rfl) (ab (c7 bW iJ rfl B.tuple (@FS) (ae 5)) ah)))))))))))⟩,@IO ⟩
abbrev rJ:Stmt:=top 63
def y9:aB ["order","count","bare"] ["order","count"] (ar rJ):=@AC
def CU {T:Addr}{f:Addr}{fd:FuncData}{dN cD dF:@Cl}(F:fq K mg "cases" rJ ["order","count"] f fd)(B:fP mg)(kW:bK P w K mg base ca "masks_ahead" ["order"] 2 dN)(j6:l0 T P w K mg base ca "cases_on" ["order","left","rows"] 87 cD)(lh:bK P w K mg base ca "sharp_turns" ["order"] 7 dF):l0 T P w K mg base ca "cases" ["order","count"] 88 (aS 3 2 (rG dN cD dF)):=
 ⟨⟨f,fd,F.mg,F.F.kp,F.b,lM (N:=["order","count","bare"]) (k:=87) F.F y9 λcdv A outer s H G E hcd hT hr=>
  (au (bh (i:=2) (cB (ab (av kW @At aL rfl rfl (ab (af 0 rfl) ah)) (ab (cB ah) ah))) y9.nd)
  (ay (aX (eV hT j6 @At aL rfl rfl (ab (af 0 rfl) (ab (av lh @At aL rfl rfl (ab (af 0 rfl) ah)) (ab (SE.wv (AM (eJ (ab (af 2 rfl) ah)) (ae 1))) ah)))))))⟩,@IO ⟩
abbrev iD:Stmt:=top 62
def eG:aB ["order","count","found"] ["order"] (ar iD):=@AC
def qX {T:Addr}{f:Addr}{fd:FuncData}{aK lS:@Cl}(F:fq K mg "fewest_rows" iD ["order"] f fd)(B:fP mg)(bg:bK P w K mg base ca "need_order" ["thing"] 5 aK)(rS:l0 T P w K mg base ca "cases" ["order","count"] 88 lS):l0 T P w K mg base ca "fewest_rows" ["order"] 89 (aS 3 1 (fw aK lS)):=
 ⟨⟨f,fd,F.mg,F.F.kp,F.b,lM (N:=["order","count","found"]) (k:=88) F.F eG λcdv A outer s H G E hcd hT hr=>
  (au (cA (av bg @At aL rfl rfl (ab (af 0 rfl) ah)))
  (au (bh (i:=1) ax eG.nd)
  (au (bh (i:=2) (eV hT rS @At aL rfl rfl (ab (af 0 rfl) (ab (af 1 rfl) ah))) eG.nd)
  (au (pF 1000 PassesOwn.leaving (cj (jL hr.units) i5 (aU aI bA (ae 2) ax @Ch) uk (bV _))
  (au (bh (i:=1) (a7 c6 c3 (ae 1) ax) eG.nd)
  (ay (bh (i:=2) (eV hT rS @At aL rfl rfl (ab (af 0 rfl) (ab (af 1 rfl) ah))) eG.nd))))
  (ay (aX (aU aI bA (ae 2) ax @Ch)))))))⟩,@IO ⟩
abbrev p6:Stmt:=top 61
def DO:aB ["order"] ["order"] (ar p6):=@AC
def AU {T:Addr}{f:Addr}{fd:FuncData}{bM:@Cl}(F:fq K mg "fewest" p6 ["order"] f fd)(B:fP mg)(c4:l0 T P w K mg base ca "fewest_rows" ["order"] 89 bM):l0 T P w K mg base ca "fewest" ["order"] 90 (aS 1 1 (pL bM)):=
 ⟨⟨f,fd,F.mg,F.F.kp,F.b,lM (N:=["order"]) (k:=89) F.F DO λcdv A outer s H G E hcd hT hr=>
  (ay (aX (aW bE dQ rfl B.len R0 (eV hT c4 @At aL rfl rfl (ab (af 0 rfl) ah)))))⟩,@IO ⟩
abbrev l8:Stmt:=top 68
def dh:aB ["script","k","here","number","j","part"] ["script","k"] (ar l8):=@AC
def xt {f:Addr}{fd:FuncData}(F:fq K mg "_law_box" l8 ["script","k"] f fd)(B:fP mg):bK P w K mg base ca "_law_box" ["script","k"] 1 (aS 6 2 (jz)):=
 ⟨⟨f,fd,F.mg,F.F.kp,F.b,aO (N:=["script","k","here","number","j","part"]) (k:=0) F.F dh λcdv A outer s H G E hr=>
  (au (bh (i:=2) (a7 c6 c3 (a7 nI oQ ax (ae 1)) ax) dh.nd)
  (au (dE (cj qN zb (ae 1) (aW bE dQ rfl B.len R0 (ae 0)) (bV _))
  (ay (bh (i:=2) (aU aI bA (ae 0) (ae 1) @Ch) dh.nd))
  cF)
  (au (dE (cj (gQ hr.units) i5 (a7 o9 vh (ae 2) ax) ax (bV _))
  (ay (iK (eJ (ab (a7 wR Nm (ae 2) ax) ah))))
  cF)
  (au (bh (i:=3) ax dh.nd)
  (au (o8 PassesOwn.leaving rfl (ng rfl B.range ax) (dW (i:=4) dh.nd)
  (au (bh (i:=5) (a7 o9 vh (a7 c6 c3 (a7 c6 c3 (a7 nI oQ (a7 o9 vh (ae 2) ax) ax) (a7 nI oQ ax (ae 4))) ax) ax) dh.nd)
  (au (bh (i:=5) (a7 o9 vh (a7 nI oQ (ae 5) (ae 5)) ax) dh.nd)
  (ay (bh (i:=3) (a7 c6 c3 (a7 nI oQ (ae 3) ax) (a7 o9 vh (a7 nI oQ (ae 5) (a7 c6 c3 (ae 5) ax)) ax)) dh.nd)))))
  (ay (iK (eJ (ab (af 3 rfl) ah)))))))))⟩,@IO ⟩
abbrev kl:Stmt:=top 69
def pV:aB ["box","many","left","digit"] ["box","many"] (ar kl):=@AC
def uH {f:Addr}{fd:FuncData}(F:fq K mg "_law_take" kl ["box","many"] f fd)(B:fP mg):rq P w K mg base "_law_take" ["box","many"] 1 gN:=by
 refine⟨⟨f,fd,F.mg,F.F.kp,F.b,?_⟩,λds β h=>?_⟩
 ·refine F.F.JO pV (λvs H Q E h=>?_) (λcdv A outer s H vs Q E hr h=>?_)
  ·obtain⟨b,rest,G,ds,β,rfl,hb,gb,sG,hl,r,_⟩:=h
   rw[RL,r.len,hl];rfl
  ·obtain⟨b,rest,G,ds,β,rfl,hb,gb,sG,hl,r,h⟩:=h
   obtain⟨m,rfl,h0,h1⟩:=Cs (λz=>by rw[z] at h;exact h)
   rw[wA h0 h1] at h
   have kk:∀v G' H',jh (some b) H H'->H' b=some (.lst [.int (β / m)])->aw G G'->aw G' H'->(∀c,Mx H c->G c=none->G' c=none)->FV K H G' H' false (.int (β % m)) v->Q v H':=h
   cases r with
   |cons r1 r2=>
    cases r1
    cases r2
    refine⟨_,jY (tY (lG za rfl B.divmod (@FS) (ba (oF jy (pv 0) zF @Ch) (ba (pv 1) cf))) (IL (i:=2) (j:=3) pV.nd rfl rfl rfl rfl rfl))
     (jY (tY (pv 2) (wM (pv 0) zF set_list)) (ko (qb (pv 3)))),?_⟩
    refine⟨_,rfl,b,_,0,.int β,rfl,rfl,.inl (.inl hb),rfl,_,rfl,β,m,rfl,⟨h0,h1⟩,λp hp=>⟨p,_,rfl,.inl (.inl aE),rfl,_,_,rfl,_,_,rfl,rfl,?_⟩⟩
    have hbp:b≠p:=aR hb hp
    exact⟨_,rfl,_,rfl,b,[.int β],0,0,rfl,rfl,by rw[aC hbp];exact hb,rfl,_,rfl,FC hb sG hp kk gb⟩
 ·obtain⟨m,rfl,_⟩:=Cs h
  rfl
abbrev fF:Stmt:=top 70
def iq:aB ["box","some","left","found"] ["box","some"] (ar fF):=@AC
def pA {f:Addr}{fd:FuncData}{bo:List D->Int->FB}(F:fq K mg "_law_shuffled" fF ["box","some"] f fd)(B:fP mg)(cK:rq P w K mg base "_law_take" ["box","many"] 1 bo):rq P w K mg base "_law_shuffled" ["box","some"] 2 (yK 4 1 (fE bo)):=
 ⟨⟨f,fd,F.mg,F.F.kp,F.b,zf (ca:=λ_=>0) (N:=["box","some","left","found"]) (k:=1) F.F iq @E_ λcdv A outer s H G b E hr=>
  (au (jB (i:=2) (c7 mE Ai rfl B.list (@FS) (ae 1)) iq.nd)
  (au (jB (i:=3) (eJ ah) iq.nd)
  (au (pF 1000 PassesOwn.leaving (cj (jL hr.units) i5 (ae 2) (eJ ah) (bV _))
  (ay (DC 3 2 (λ_=>rfl) (sN 0 cK @At aL rfl rfl (ab (aW bE dQ rfl B.len R0 (ae 2)) ah)))))
  (ay (aX (c7 bW iJ rfl B.tuple (@FS) (ae 3)))))))⟩,λds β h=>zh ds β h⟩
abbrev kJ:Stmt:=top 71
def jt:aB ["many","rows","found","a","b"] ["many","rows"] (ar kJ):=@AC
def u9 {f:Addr}{fd:FuncData}(F:fq K mg "_law_told" kJ ["many","rows"] f fd)(B:fP mg):bK P w K mg base ca "_law_told" ["many","rows"] 1 (aS 5 2 (kL)):=
 ⟨⟨f,fd,F.mg,F.F.kp,F.b,aO (N:=["many","rows","found","a","b"]) (k:=0) F.F jt λcdv A outer s H G E hr=>
  (au (jB (i:=2) (eJ ah) jt.nd)
  (au (o8 PassesOwn.leaving rfl (ng rfl B.range (ae 0)) (dW (i:=3) jt.nd)
  (ay (o8 PassesOwn.leaving rfl (ng rfl B.range (ae 0)) (dW (i:=4) jt.nd)
  (ay (dE (zr.t (Gn (cj (jL hr.units) i5 (ae 3) (ae 4) (bV _)) (Cg (cC rfl (aW (iV rfl) iP rfl B.all (@FS) (bP (NB:=["row","a","b"]) (own:=1) (ixs:=[3,4]) [] rfl @IN @Ch (iZ rfl (ae 1)) (λH0 G0 par br bx C ex s3 H3 pn=>(dW (i:=0) (show (["row","a","b"]:@Id).Nodup by decide +kernel))) @H_ (λH0 G0 par br bx C ex s3 H3 pn hB1=>(fM qN zb (tf rfl (ae 0) (ae 1)) (tf rfl (ae 0) (ae 2)) (bV _))))))) @Ch))
  (ay (n9 2 (λ_=>rfl) (cB (ab (af 3 rfl) (ab (af 4 rfl) ah)))))
  cF)))))
  (ay (aX (c7 bW iJ rfl B.tuple (@FS) (ae 2))))))⟩,@IO ⟩
abbrev jv:Stmt:=top 72
def kZ:aB ["box","most","many","rows"] ["box","most"] (ar jv):=@AC
def sU {f:Addr}{fd:FuncData}{fZ:@Cl}{bo cS:List D->Int->FB}(F:fq K mg "_law_small" jv ["box","most"] f fd)(B:fP mg)(nG:bK P w K mg base ca "_law_told" ["many","rows"] 1 fZ)(cK:rq P w K mg base "_law_take" ["box","many"] 1 bo)(ja:rq P w K mg base "_law_shuffled" ["box","some"] 2 cS):rq P w K mg base "_law_small" ["box","most"] 3 (yK 4 1 (jE fZ bo cS)):=
 ⟨⟨f,fd,F.mg,F.F.kp,F.b,zf (ca:=ca) (N:=["box","most","many","rows"]) (k:=2) F.F kZ @E_ λcdv A outer s H G b E hr=>
  (au (bh (i:=2) (a7 c6 c3 ax (sN 0 cK @At aL rfl rfl (ab (af 1 rfl) ah))) kZ.nd)
  (au (l6 (i:=3) (NB:=["turn","box","many"]) (own:=1) (ixs:=[0,2]) [] rfl @IN @Ch (ng rfl B.range (a7 c6 c3 ax (sN 0 cK @At aL rfl rfl (ab ax ah)))) (λH0 G0 par br bx C ex s3 H3 pn=>(dW (i:=0) (show (["turn","box","many"]:@Id).Nodup by decide +kernel))) @H_ (λH0 G0 par br bx C ex s3 H3 pn hB1=>(sN 1 ja @At dS rfl rfl (ab (SE.wv (AW rfl rfl B.list rfl B.range (ae 2))) ah))) kZ.nd)
  (ay (aX (cB (ab (af 2 rfl) (ab (av nG @At aL rfl rfl (ab (af 2 rfl) (ab (af 3 rfl) ah))) ah)))))))⟩,λds β h=>zh ds β h⟩
abbrev oC:Stmt:=top 73
def qA:aB ["script","box","one","other","thing","rows","others","most"] ["script"] (ar oC):=@AC
def Ji {T:Addr}{f:Addr}{fd:FuncData}{ie bM iS eM fQ eH gJ dG dH cR:@Cl}{dv bo:List D->Int->FB}(F:fq K mg "law" oC ["script"] f fd)(B:fP mg)(oY:bK P w K mg base ca "_law_box" ["script","k"] 1 ie)(c4:l0 T P w K mg base ca "fewest_rows" ["order"] 89 bM)(nK:l0 T P w K mg base ca "fewest" ["order"] 90 iS)(kG:bK P w K mg base ca "behind_of" @O_ 8 eM)(mj:bK P w K mg base ca "replaced" ["order","thing","other"] 8 fQ)(kO:bK P w K mg base ca "beside_of" @O_ 8 eH)(me:bK P w K mg base ca "tell" ["thing","order"] 6 gJ)(k9:bK P w K mg base ca "rows_behind" @IR 8 dG)(k6:bK P w K mg base ca "rows_beside" @IR 8 dH)(i9:bK P w K mg base ca "rows_replaced" ["order","thing","other","rows","others"] 8 cR)(jA:rq P w K mg base "_law_small" ["box","most"] 3 dv)(cK:rq P w K mg base "_law_take" ["box","many"] 1 bo):gp P w K mg base (qv P w) 91 f fd ["script"] (spT T K ca 1 (aS 8 1 (Bm ie bM iS eM fQ eH gJ dG dH cR dv bo))):=
 lM (N:=["script","box","one","other","thing","rows","others","most"]) (k:=90) F.F qA λcdv A outer s H G E hcd hT hr=>
  (au (Hx (i:=1) rfl (D8 oY @At aL rfl rfl (ab (af 0 rfl) (ab ax ah))) qA.nd)
  (au (Bp (i:=2) (j:=3) qA.nd @E_ (sN 1 jA @At aL rfl rfl (ab ax ah)) (sN 1 jA @At aL rfl rfl (ab ax ah)))
  (au (bh (i:=4) (sN 1 cK @At aL rfl rfl (ab (aU aI bA (ae 2) ax @Ch) ah)) qA.nd)
  (au (Bp (i:=5) (j:=6) qA.nd @E_ (eV hT c4 @At aL rfl rfl (ab (af 2 rfl) ah)) (eV hT c4 @At aL rfl rfl (ab (af 3 rfl) ah)))
  (au (bh (i:=7) (lj (lr rfl) so rfl B.max (@FS) (aW bE dQ rfl B.len R0 (ae 5)) (aW bE dQ rfl B.len R0 (ae 6))) qA.nd)
  (au (dE (zr.t (tj (cj (jL hr.units) i5 (eV hT nK @At aL rfl rfl (ab (av kG @At aL rfl rfl (ab (af 2 rfl) (ab (af 3 rfl) ah))) ah)) (ae 7) (bV _)) (oZ (cj (jL hr.units) i5 (eV hT nK @At aL rfl rfl (ab (av mj @At aL rfl rfl (ab (af 2 rfl) (ab (af 4 rfl) (ab (af 3 rfl) ah)))) ah)) (ae 7) (bV _))) @Ch))
  (ay (aX mQ))
  cF)
  (au (dE (cj (jL hr.units) i5 (eV hT nK @At aL rfl rfl (ab (av kO @At aL rfl rfl (ab (af 2 rfl) (ab (af 3 rfl) ah))) ah)) (lj (lr rfl) so rfl B.max (@FS) ax (ae 7)) (bV _))
  (ay (aX mQ))
  cF)
  (au (dE (dO (cC rfl (av me @At aL rfl rfl (ab (av k9 @At aL rfl rfl (ab (af 2 rfl) (ab (af 3 rfl) (ab (af 5 rfl) (ab (af 6 rfl) ah))))) (ab (av kG @At aL rfl rfl (ab (af 2 rfl) (ab (af 3 rfl) ah))) ah)))))
  (ay (aX mQ))
  cF)
  (au (dE (dO (cC rfl (av me @At aL rfl rfl (ab (av k6 @At aL rfl rfl (ab (af 2 rfl) (ab (af 3 rfl) (ab (af 5 rfl) (ab (af 6 rfl) ah))))) (ab (av kO @At aL rfl rfl (ab (af 2 rfl) (ab (af 3 rfl) ah))) ah)))))
  (ay (aX mQ))
  cF)
  (ay (aX (av me @At aL rfl rfl (ab (av i9 @At aL rfl rfl (ab (af 2 rfl) (ab (af 4 rfl) (ab (af 3 rfl) (ab (af 5 rfl) (ab (af 6 rfl) ah)))))) (ab (av mj @At aL rfl rfl (ab (af 2 rfl) (ab (af 4 rfl) (ab (af 3 rfl) ah)))) ah))))))))))))))
end
end RQ
namespace RM
open PySem L2
theorem GB {t u:VF Bool}{vs:List Nv}{β:Int}{a b:Bool}(h:t vs β=.ok a β)(h':u vs β=.ok b β):Gg t u vs β=.ok (a && b) β:=by
 rw[Mw,h];dsimp only[R.bnd]
 cases a with
 |true=>rw[Rg rfl,h'];rfl
 |false=>rfl
theorem Jr {t u:VF Bool}{vs:List Nv}{β:Int}{a b:Bool}(h:t vs β=.ok a β)(h':u vs β=.ok b β):pN t u vs β=.ok (a || b) β:=by
 rw[rC,h];dsimp only[R.bnd]
 cases a with
 |true=>rfl
 |false=>rw[Rj RK,h'];rfl
def eT {t:VF Bool}{vs:List Nv}{β:Int}{a:Bool}(h:t vs β=.ok a β):pC t vs β=.ok (!a) β:=by rw[wc,h];rfl
def Af {fa:VF D}{vs:List Nv}{β:Int}{l:@A_}{f:Pr->Bool}(h:@Tm=.ok (.list (l.map λq=>PyData.bool (f q))) β):f1 fa (bY λbs=>bs.all id) vs β=.ok (.bool (l.all f)) β:=by
 refine cQ h ?_
 simp only[bY]
 rw[gn]
 simp[T6]
def upTo (n:Nat)(f:Pr->Bool)(i k:Nat):@A_:=(OM.bw n).filter λp=>(decide (p.1 < i) || (decide (p.1=i) && decide (p.2 < k))) && f p
def EL {n:Nat}(f:Pr->Bool)(i k:Nat)(h8:n<=8):(upTo n f i k).length<=64:=by
 have h1:(upTo n f i k).length<=(OM.bw n).length:=Se _ _
 rw[dC] at h1
 have:n * n<=64:=Ss h8 h8
 omega
def C7 (n:Nat)(f:Pr->Bool):upTo n f 0 0= []:=by
 unfold upTo
 rw[List.filter_eq_nil_iff]
 intro p hp
 have:=OM.aY.mp hp
 rw[Rt (@AT),Rt (p:=p.2 < ((0:Nat):Int)) (@AT)];simp
def Gf (n:Nat)(f:Pr->Bool):upTo n f n 0=(OM.bw n).filter f:=by
 unfold upTo
 refine S5 λp hp=>?_
 have:=(OM.aY.mp hp).1.2
 rw[Rk this];simp
def Fm (n:Nat)(f:Pr->Bool)(i:Nat):upTo n f i n=upTo n f (i + 1) 0:=by
 unfold upTo
 refine S5 λp hp=>?_
 have h:=OM.aY.mp hp
 congr 1
 rw[Sf]
 simp only[SV,RC,Rq]
 omega
def vL {n i k:Nat}(f:Pr->Bool)(hi:i < n)(hk:k < n):upTo n f i (k + 1)=upTo n f i k ++ if f ((i:Int),(k:Int))=true then [((i:Int),(k:Int))] else []:=by
 refine OM.iH (OM.cN _ (OM.dD n)) ?_ λx=>?_
 ·show List.Pairwise OM.B5 _
  rw[List.pairwise_append]
  refine⟨OM.cN _ (OM.dD n),?_,λp hp q hq=>?_⟩
  ·split <;> simp
  ·unfold upTo at hp
   have h1:=(Rl.mp hp).2
   simp only[SV,RC,Rq] at h1
   split at hq
   ·have:q=((i:Int),(k:Int)):=by simpa using hq
    subst this
    show p.1 < (i:Int)\/(p.1=(i:Int)/\p.2 < (k:Int))
    exact h1.1
   ·cases hq
 ·rw[Rw]
  unfold upTo
  rw[Rl,Rl,OM.aY]
  simp only[SV,RC,Rq]
  constructor
  ·rintro⟨h1,h2,h3⟩
   by_cases z:x.1=i/\x.2=k
   ·obtain⟨xa,xb⟩:=x
    simp only at z h3
    obtain⟨rfl,rfl⟩:=z
    rw[Rg h3]
    exact .inr (RE.mpr rfl)
   ·exact .inl ⟨h1,@AT,h3⟩
  ·rintro (⟨h1,h2,h3⟩ |h)
   ·exact⟨h1,@AT,h3⟩
   ·split at h
    ·rename_i hf
     have:x=((i:Int),(k:Int)):=by simpa using h
     subst this
     exact⟨⟨⟨by show (0:Int)<=(i:Int);omega,by show (i:Int) < n;omega⟩,by show (0:Int)<=(k:Int);omega,by show (k:Int) < n;omega⟩,.inr ⟨rfl,by show (k:Int) < ((k + 1:Nat):Int);omega⟩,hf⟩
    ·cases h
def tupI (r:@Db):D:=.tuple (r.map int)
def wd {fa fb:VF D}{vs:List Nv}{β:Int}{r:@Db}{k:Int}(h:@Tm=.ok (tupI r) β)(h':fb vs β=.ok (.int k) β)(hk:k∈r):pj fa fb vs β=.ok (.int (r.idxOf k:Nat)) β:=by
 unfold pj
 rw[h]
 dsimp only[R.bnd]
 rw[Rg (by rfl),h']
 dsimp only[R.bnd,JC,tupI]
 rw[lJ]
 dsimp only
 rw[Rg hk];rfl
def Iq {r:@Db}{a b:Int}(ha:a∈r)(hb:b∈r)(h:r.idxOf a=r.idxOf b):a=b:=by
 have h1:=TY (Sh.mpr ha)
 have h2:=TY (Sh.mpr hb)
 rw[<-h1,<-h2]
 congr 1
noncomputable def DY:@Cl:=aS 6 2 jz
def L8 (ns:@Db)(k:Nat):∃z,DY [eh ns,.int k]=.ok (.list [.int z]) true:=by
 show ∃z,fin (jz [.fz (eh ns),.fz (.int k),.no,.no,.no,.no] 0)=.ok (.list [.int z]) true
 unfold jz
 have e0:f2 (f2 (cst (.int 7919)) (gv 1) dR) (cst (.int 13)) bX [Nv.da (eh ns),.da (.int k),.no,.no,.no,.no] 0=.ok (.int (7919 * k + 13)) 0:=aG (aG (x:=.int 7919) (y:=.int k) rfl rfl (sC ⟨@AT,@AT ⟩)) rfl rfl
 rw[aH (env':=[.fz (eh ns),.fz (.int k),.fz (.int (7919 * k + 13)),.no,.no,.no]) (β':=0) ?h0]
 case h0=>
  show toS (f2 (f2 (cst (.int 7919)) (gv 1) dR) (cst (.int 13)) bX [Nv.da (eh ns),.da (.int k),.no,.no,.no,.no] 0) _=_
  rw[e0];rfl
 obtain⟨c,hc⟩:∃c:Int,lx @GT (eO (f2 (gv 1) (f1 (gv 0) cJ) qG)) (b9 2 @GT (f2 (gv 0) (gv 1) bB)) m8 [.fz (eh ns),.fz (.int k),.fz (.int (7919 * k + 13)),.no,.no,.no] 0=.nx [.fz (eh ns),.fz (.int k),.fz (.int c),.no,.no,.no] 0:=by
  have e:eO (f2 (gv 1) (f1 (gv 0) cJ) qG) (vl [.fz (eh ns),.fz (.int k),.fz (.int (7919 * k + 13)),.no,.no,.no]) 0=.ok (decide ((k:Int) < (ns.map int).length)) 0:=Gv rfl rfl
  by_cases h:k < ns.length
  ·rw[Rk (by simp;exact h)] at e
   refine⟨ns[k],?_⟩
   rw[mU e]
   show toS (f2 (gv 0) (gv 1) bB [Nv.da (eh ns),.da (.int k),.da (.int (7919 * k + 13)),.no,.no,.no] 0) _=_
   rw[aG (x:=eh ns) (y:=.int k) (d:=.int ns[k]) (β1:=0) (β2:=0) rfl rfl]
   ·rfl
   ·show m9 (ns.map int) (k:Int)=_
    rw[oq,FP h];rfl
  ·rw[Rt (by simp;omega)] at e
   exact⟨_,by rw[j7 e];rfl⟩
 rw[aH hc]
 have e1:eO (f2 (f2 (gv 2) (cst (.int 2)) mX) @FM (gq false)) (vl [.fz (eh ns),.fz (.int k),.fz (.int c),.no,.no,.no]) 0=.ok (decide (c % 2=0)) 0:=ju (neg:=false) (aG rfl rfl (qj (@AT))) rfl
 by_cases h:c % 2=0
 ·rw[Rk h] at e1
  refine⟨c / 2,?_⟩
  rw[jm (d:=.list [.int (c / 2)]) (b:=true) (β':=0)]
  ·rfl
  ·rw[mU e1]
   show toS (fo (aa (f2 (gv 2) (cst (.int 2)) LA) ao) [Nv.da (eh ns),.da (.int k),.da (.int c),.no,.no,.no] 0) _=_
   rw[nX (ds:=[.int (c / 2)]) (β1:=0)]
   ·rfl
   ·have e2:f2 (gv 2) (cst (.int 2)) LA [Nv.da (eh ns),.da (.int k),.da (.int c),.no,.no,.no] 0=.ok (.int (c / 2)) 0:=aG (x:=.int c) rfl rfl (JM (@AT) (@AT))
    rw[cM,e2];rfl
   ·simp
 ·rw[Rt h] at e1
  rw[aH (env':=[.fz (eh ns),.fz (.int k),.fz (.int c),.no,.no,.no]) (β':=0) (by rw[j7 e1];rfl)]
  rw[aH (env':=[.fz (eh ns),.fz (.int k),.fz (.int c),.fz (.int 0),.no,.no]) (β':=0) (by rfl)]
  obtain⟨env',β',el,z,x,y,rfl,rfl⟩:=lH (t:=.nm 4) (m:=aJ (b9 5 ((((@GT ++ []) ++ @GT) ++ []) ++ []) (f2 (f2 (f2 (f2 (f2 (gv 2) (cst (.int 2147483647)) mX) (cst (.int 48271)) dR) (f2 (cst (.int 7919)) (gv 4) dR) bX) @Fa bX) (cst (.int 2147483647)) mX))
    (aJ (b9 5 (@GT ++ []) (f2 (f2 (gv 5) (gv 5) dR) (cst (.int 2147483629)) mX))
    (b9 3 (@GT ++ (([] ++ @GT) ++ [])) (f2 (f2 (gv 3) (cst (.int 2147483647)) dR) (f2 (f2 (gv 5) (f2 (gv 5) (cst (.int 13)) bX) dR) (cst (.int 2147483647)) mX) bX)))) (ds:=g9 0 16) (k:=0)
   (λ_ env β=>∃(z:Int) (x y:Sl),env= [.fz (eh ns),.fz (.int k),.fz (.int c),.fz (.int z),x,y]/\β=0) (env:=[.fz (eh ns),.fz (.int k),.fz (.int c),.fz (.int 0),.no,.no]) (β:=0) ⟨0,.no,.no,rfl,rfl⟩ (by
    rintro i d env β hi ⟨z,x,y,rfl,rfl⟩
    obtain⟨_,rfl⟩:=pQ hi
    generalize (0 + (i:Int))=j
    refine⟨[.fz (eh ns),.fz (.int k),.fz (.int c),.fz (.int z),.fz (.int j),y],rfl,?_⟩
    have b1:0<=c % 2147483647/\c % 2147483647 < 2147483647:=⟨Tx _ (@AT),Tt _ (@AT)⟩
    have a1:f2 (f2 (f2 (f2 (f2 (gv 2) (cst (.int 2147483647)) mX) (cst (.int 48271)) dR) (f2 (cst (.int 7919)) (gv 4) dR) bX) @Fa bX) (cst (.int 2147483647)) mX (vl [.fz (eh ns),.fz (.int k),.fz (.int c),.fz (.int z),.fz (.int j),y]) 0=.ok (.int ((c % 2147483647 * 48271 + 7919 * j + 1) % 2147483647)) 0:=
     aG (aG (aG (aG (aG (x:=.int c) rfl rfl (qj (@AT))) rfl (FQ ⟨@AT,@AT ⟩)) (aG (x:=.int 7919) (y:=.int j) rfl rfl (sC ⟨@AT,@AT ⟩)) rfl) rfl rfl) rfl (qj (@AT))
    generalize hp:(c % 2147483647 * 48271 + 7919 * j + 1) % 2147483647=p at a1
    have bp:0<=p/\p < 2147483647:=by rw[<-hp];exact⟨Tx _ (@AT),Tt _ (@AT)⟩
    rw[aH (env':=[.fz (eh ns),.fz (.int k),.fz (.int c),.fz (.int z),.fz (.int j),.fz (.int p)]) (β':=0) ?k1]
    case k1=>rw[cO,a1];rfl
    have a2:f2 (f2 (gv 5) (gv 5) dR) (cst (.int 2147483629)) mX (vl [.fz (eh ns),.fz (.int k),.fz (.int c),.fz (.int z),.fz (.int j),.fz (.int p)]) 0=.ok (.int (p * p % 2147483629)) 0:=
     aG (aG (x:=.int p) (y:=.int p) rfl rfl (sC ⟨@AT,@AT ⟩)) rfl (qj (@AT))
    generalize hq:p * p % 2147483629=q at a2
    have bq:0<=q/\q < 2147483629:=by rw[<-hq];exact⟨Tx _ (@AT),Tt _ (@AT)⟩
    rw[aH (env':=[.fz (eh ns),.fz (.int k),.fz (.int c),.fz (.int z),.fz (.int j),.fz (.int q)]) (β':=0) ?k2]
    case k2=>rw[cO,a2];rfl
    have a3:f2 (f2 (gv 3) (cst (.int 2147483647)) dR) (f2 (f2 (gv 5) (f2 (gv 5) (cst (.int 13)) bX) dR) (cst (.int 2147483647)) mX) bX (vl [.fz (eh ns),.fz (.int k),.fz (.int c),.fz (.int z),.fz (.int j),.fz (.int q)]) 0=.ok (.int (z * 2147483647 + q * (q + 13) % 2147483647)) 0:=
     aG (aG (x:=.int z) rfl rfl (FQ ⟨@AT,@AT ⟩)) (aG (aG (x:=.int q) (y:=.int (q + 13)) rfl rfl (sC ⟨@AT,@AT ⟩)) rfl (qj (@AT))) rfl
    refine⟨[.fz (eh ns),.fz (.int k),.fz (.int c),.fz (.int (z * 2147483647 + q * (q + 13) % 2147483647)),.fz (.int j),.fz (.int q)],0,?_,_,_,_,rfl,rfl⟩
    rw[cO,a3];rfl)
  refine⟨z,?_⟩
  rw[aH (env':=[.fz (eh ns),.fz (.int k),.fz (.int c),.fz (.int z),x,y]) (β':=0) ?h2]
  case h2=>exact el
  show fin (toS (fo (aa (gv 3) ao) [.da (eh ns),.da (.int k),.da (.int c),.da (.int z),x.val,y.val] 0) _)=_
  rw[nX (ds:=[.int z]) (β1:=0) rfl (@KM)]
  rfl
noncomputable def vf:List D->Int->FB:=yK 4 1 (fE gN)
def KN (ns:@Db)(hz:ns.length<=100)(β:Int):∃(ms:@Db) (β':Int),vf [.list (ns.map int)] β=.ok (tupI ms) false β'/\ms.Perm ns:=by
 show ∃(ms:@Db) (β':Int),Hl (fE gN [.bx,.fz (.list (ns.map int)),.no,.no] β)=.ok (tupI ms) false β'/\ms.Perm ns
 unfold fE
 rw[aH (env':=[.bx,.fz (.list (ns.map int)),.ow (.list (ns.map int)),.no]) (β':=β) (by rfl)]
 have ez:fo ao [Nv.bx,.da (.list (ns.map int)),.da (.list (ns.map int)),.no] β=.ok (.list []) β:=nX rfl (@KM)
 rw[aH (env':=[.bx,.fz (.list (ns.map int)),.ow (.list (ns.map int)),.ow (.list [])]) (β':=β) ?h]
 case h=>
  show toS (fo ao [Nv.bx,.da (.list (ns.map int)),.da (.list (ns.map int)),.no] β) _=_
  rw[ez];rfl
 obtain⟨env',β',ew,ms,rfl,hp⟩:=jX (L:=[] ++ []) (t:=eO (f2 (gv 2) (fo ao) (gq true))) (m:=mz 3 2 @GT (rH 0 gN (aa (f1 (gv 2) cJ) ao)))
  (λk env β=>∃ls ms:@Db,env= [.bx,.fz (.list (ns.map int)),.ow (.list (ls.map int)),.ow (.list (ms.map int))]/\(ms ++ ls).Perm ns/\k=ls.length)
  (λenv β=>∃ms:@Db,env= [.bx,.fz (.list (ns.map int)),.ow (.list []),.ow (.list (ms.map int))]/\ms.Perm ns) (n:=1000) (k:=ns.length) (env:=[.bx,.fz (.list (ns.map int)),.ow (.list (ns.map int)),.ow (.list [])]) (β:=β) (@AT) ⟨ns,[],rfl,@KM,rfl⟩ (by
   rintro k env β ⟨ls,ms,rfl,hp,rfl⟩
   have e1:fo ao [Nv.bx,.da (.list (ns.map int)),.da (.list (ls.map int)),.da (.list (ms.map int))] β=.ok (.list (([]:@Db).map int)) β:=nX rfl (@KM)
   have et:eO (f2 (gv 2) (fo ao) (gq true)) [Nv.bx,.da (.list (ns.map int)),.da (.list (ls.map int)),.da (.list (ms.map int))] β=.ok (!decide (ls= [])) β:=
    gC _ _ _ _ (aG (x:=.list (ls.map int)) rfl e1 (by rw[Gz];rfl))
   refine⟨_,_,et,?_⟩
   have hlen:=hp.length_eq
   rw[RD] at hlen
   cases ls with
   |nil=>exact .inl ⟨rfl,ms,rfl,by simpa using hp⟩
   |cons y ys=>
    refine .inr ⟨rfl,?_⟩
    have hm:(0:Int) < ((y :: ys).length:Nat)/\(((y :: ys).length:Nat):Int) < 1073741824:=by
     have:(y :: ys).length<=100:=@AT
     constructor
     ·simp
     ·omega
    obtain⟨j,hj⟩:∃j:Nat,β % (((y :: ys).length:Nat):Int)=j:=⟨(β % (((y :: ys).length:Nat):Int)).toNat,by have:=Tx β (b:=(((y :: ys).length:Nat):Int)) (@AT);omega⟩
    have hj2:j < (y :: ys).length:=by have:=Tt β hm.1;omega
    have ef:rH 0 gN (aa (f1 (gv 2) cJ) ao) [Nv.bx,.da (.list (ns.map int)),.da (.list ((y :: ys).map int)),.da (.list (ms.map int))] β=.ok (.int (j:Int)) (β / (((y :: ys).length:Nat):Int)):=by
     refine oM (ds:=[.int (((y :: ys).length:Nat):Int)]) (b:=false) (by rfl) ?_ (by rw[wA hm.1 hm.2,hj])
     show R.ok [int ((((y :: ys).map int).length:Nat):Int)] β=_
     rw[Rb]
    have hpop:Cw ((y :: ys).map int) (.int (j:Int))=some (.int (y :: ys)[j],((y :: ys).eraseIdx j).map int):=by
     unfold Cw
     dsimp only
     rw[Rg ⟨@AT,@AT ⟩]
     have es:seqIndex? (j:Int) ((y :: ys).map int).length=some j:=by
      rw[Rb]
      exact PySem.StrLaws.seqIndex_nonneg (@AT) (@AT)
     rw[es]
     dsimp only
     rw[RA,Rf hj2,vV];rfl
    refine⟨[.bx,.fz (.list (ns.map int)),.ow (.list (((y :: ys).eraseIdx j).map int)),.ow (.list ((ms ++ [(y :: ys)[j]]).map int))],β / (((y :: ys).length:Nat):Int),((y :: ys).eraseIdx j).length,?_,?_,(y :: ys).eraseIdx j,ms ++ [(y :: ys)[j]],rfl,?_,rfl⟩
    ·show mz 3 2 @GT (rH 0 gN (aa (f1 (gv 2) cJ) ao)) [.bx,.fz (.list (ns.map int)),.ow (.list ((y :: ys).map int)),.ow (.list (ms.map int))] β=_
     rw[zM (ds:=ms.map int) (es:=(y :: ys).map int) (by rfl) (by rfl) @E_ ef (by rfl) hpop (by rw[Rb];omega),RS]
     rfl
    ·rw[List.length_eraseIdx]
     rw[Rg hj2]
     show (y :: ys).length - 1 < (y :: ys).length
     simp
    ·rw[S4]
     exact (List.Perm.append_left ms (sY (Rf hj2))).trans hp)
 refine⟨ms,β',?_,hp⟩
 rw[aH ew]
 rfl
def nU (rows:@LE)(p:Pr):Bool:= !decide (p.1=p.2) && rows.all λr=>decide (r.idxOf p.1 < r.idxOf p.2)
def Iv {α:Type}{fa:VF D}{vs:List Nv}{β:Int}{l:List α}{f:α->Bool}(h:@Tm=.ok (.list (l.map λq=>PyData.bool (f q))) β):f1 fa (bY λbs=>bs.all id) vs β=.ok (.bool (l.all f)) β:=by
 refine cQ h ?_
 simp only[bY]
 rw[gn]
 simp[T6]
def uh:@Cl:=aS 5 2 kL
def JD {n:Nat}{rows:@LE}(h8:n<=8)(hr:rows.length<=100)(hp:∀r,r∈rows->r.Perm (bD n)):uh [.int n,.list (rows.map tupI)]=.ok (.tuple (((OM.bw n).filter (nU rows)).map aA)) false:=by
 show fin (kL [.fz @Re,@Op,.no,.no,.no] 0)=_
 unfold kL
 rw[aH (env':=[.fz @Re,@Op,.ow (.list []),.no,.no]) (β':=0) ?g1]
 case g1=>rw[lI,nX (ds:=[]) rfl (@KM)];rfl
 obtain⟨env',β',ef,s,t,rfl,rfl⟩:=lH (t:=.nm 3) (m:=mS (.nm 4) [] (fx (gv 0))
   (lx (@GT ++ @GT) (Gg (eO (f2 (gv 3) (gv 4) (gq true))) @Tl)
   (pB 2 ([3] ++ ([4] ++ [])) (cq (aa (gv 3) (aa (gv 4) ao))))
   m8)) (ds:=g9 0 n) (k:=0)
  (λi env β=>∃s t:Sl,env= [.fz @Re,@Op,.ow (.list ((upTo n (nU rows) i 0).map aA)),s,t]/\β=0)
  (env:=[.fz @Re,@Op,.ow (.list []),.no,.no]) (β:=0) ⟨.no,.no,by rw[C7];rfl,rfl⟩ (by
   rintro i d env β hi ⟨s,t,rfl,rfl⟩
   obtain⟨hin,rfl⟩:=pQ hi
   refine⟨[.fz @Re,@Op,.ow (.list ((upTo n (nU rows) (0 + i) 0).map aA)),.fz (.int (0 + (i:Int))),t],rfl,?_⟩
   rw[S7,Tv]
   obtain⟨env',β',ef,t2,rfl,rfl⟩:=lH (t:=.nm 4) (m:=lx (@GT ++ @GT) (Gg (eO (f2 (gv 3) (gv 4) (gq true))) @Tl)
     (pB 2 ([3] ++ ([4] ++ [])) (cq (aa (gv 3) (aa (gv 4) ao))))
     m8) (ds:=g9 0 n) (k:=0)
    (λk env β=>∃t:Sl,env= [.fz @Re,@Op,.ow (.list ((upTo n (nU rows) i k).map aA)),.fz (.int i),t]/\β=0)
    (env:=[.fz @Re,@Op,.ow (.list ((upTo n (nU rows) i 0).map aA)),.fz (.int i),t]) (β:=0) ⟨t,rfl,rfl⟩ (by
     rintro k d env β hk ⟨t,rfl,rfl⟩
     obtain⟨hkn,rfl⟩:=pQ hk
     refine⟨[.fz @Re,@Op,.ow (.list ((upTo n (nU rows) i (0 + k)).map aA)),.fz (.int i),.fz (.int (0 + (k:Int)))],rfl,?_⟩
     rw[S7,Tv]
     have ec:aN 1 [3,4] (.nm 0) (bH (gv 1)) i7 (f2 (pj (gv 0) (gv 1)) (pj (gv 0) (gv 2)) qG) (vl [.fz @Re,@Op,.ow (.list ((upTo n (nU rows) i k).map aA)),.fz (.int i),.fz (.int k)]) 0=.ok (.list (rows.map λr=>PyData.bool (decide (r.idxOf (i:Int) < r.idxOf (k:Int))))) 0:=by
      refine bL (l:=rows) (e:=tupI) (λr=>PyData.bool (decide (r.idxOf (i:Int) < r.idxOf (k:Int)))) rfl (@AT) λr hr=>⟨_,rfl,?_⟩
      have hp:=hp r hr
      refine aG (wd (r:=r) (k:=i) rfl rfl (hp.mem_iff.mpr (az.mpr ⟨@AT,@AT ⟩))) (wd (r:=r) (k:=k) rfl rfl (hp.mem_iff.mpr (az.mpr ⟨@AT,@AT ⟩))) ?_
      show some (PyData.bool (decide (((r.idxOf (i:Int):Nat):Int) < ((r.idxOf (k:Int):Nat):Int))))=_
      congr 2
      rw[Sf,Rq,Rq]
      omega
     have et:Gg (eO (f2 (gv 3) (gv 4) (gq true))) @Tl (vl [.fz @Re,@Op,.ow (.list ((upTo n (nU rows) i k).map aA)),.fz (.int i),.fz (.int k)]) 0=.ok (nU rows ((i:Int),(k:Int))) 0:=
      GB (ju (neg:=true) (i:=i) (j:=k) rfl rfl) (eS (Iv ec))
     have hl:=EL (nU rows) i k h8
     by_cases c:nU rows ((i:Int),(k:Int))=true
     ·rw[c] at et
      refine⟨[.fz @Re,@Op,.ow (.list ((upTo n (nU rows) i (k + 1)).map aA)),.fz (.int i),.fz (.int k)],0,?_,_,rfl,rfl⟩
      rw[mU et,vL (nU rows) hin hkn,Rg c,RS]
      exact rQ (i:=2) (L:=[3] ++ ([4] ++ [])) (env:=[.fz @Re,@Op,.ow (.list ((upTo n (nU rows) i k).map aA)),.fz (.int i),.fz (.int k)]) (ds:=(upTo n (nU rows) i k).map aA) (by rfl) (cX rfl rfl) (by rfl) (by rw[Rb];omega)
     ·rw[Bool.not_eq_true] at c
      rw[c] at et
      refine⟨[.fz @Re,@Op,.ow (.list ((upTo n (nU rows) i (k + 1)).map aA)),.fz (.int i),.fz (.int k)],0,?_,_,rfl,rfl⟩
      rw[j7 et,vL (nU rows) hin hkn,c]
      simp)
   rw[jI,S7,Fm] at ef
   refine⟨[.fz @Re,@Op,.ow (.list ((upTo n (nU rows) (i + 1) 0).map aA)),.fz (.int i),t2],0,?_,_,_,rfl,rfl⟩
   rw[jU (env:=[.fz @Re,@Op,.ow (.list ((upTo n (nU rows) i 0).map aA)),.fz (.int i),t]) (fy (n:=n) (β1:=0) rfl (@AT))]
   exact ef)
 rw[jI,S7,Gf] at ef
 rw[aH (env':=[.fz @Re,@Op,.ow (.list (((OM.bw n).filter (nU rows)).map aA)),s,t]) (β':=0) ?g2]
 case g2=>
  rw[jU (env:=[.fz @Re,@Op,.ow (.list []),.no,.no]) (fy (n:=n) (β1:=0) rfl (@AT))]
  exact ef
 rfl
def jr {rows:@LE}{p:Pr}:nU rows p=true↔p.1≠p.2/\∀r,r∈rows->r.idxOf p.1 < r.idxOf p.2:=by
 unfold nU
 rw[RC,T2,Ti,RH]
 simp only[Rq]
def ot {n:Nat}{rows:@LE}(h1:1<=n)(h8:n<=8)(hne:rows≠ []):OM.Ord n ((OM.bw n).filter (nU rows)):=by
 refine⟨h1,h8,λp hm=>OM.aY.mp (Rl.mp hm).1,OM.cN _ (OM.dD n),λa h=>?_,λa b c hab hbc=>?_⟩
 ·exact (jr.mp (Rl.mp h).2).1 rfl
 ·obtain⟨g1,t1⟩:=Rl.mp hab
  obtain⟨g2,t2⟩:=Rl.mp hbc
  have g1:=OM.aY.mp g1
  have g2:=OM.aY.mp g2
  obtain⟨n1,q1⟩:=jr.mp t1
  obtain⟨n2,q2⟩:=jr.mp t2
  refine Rl.mpr ⟨OM.aY.mpr ⟨g1.1,g2.2⟩,jr.mpr ⟨λe=>?_,λr hr=>Ur (q1 r hr) (q2 r hr)⟩⟩
  simp only at e q1 q2
  subst e
  cases rows with
  |nil=>exact hne rfl
  |cons r rest=>
   have hr:r∈r :: rest:=Ro ..
   exact absurd (Ur (q1 r hr) (q2 r hr)) (RU _)
theorem td {α:Type}{t:Tg}{fe:VF D}{vs:List Nv}(e:α->D)(P:α->Prop):∀{ds:List D} {β:Int},(∀d,d∈ds->∃vs1,pE t d vs=some vs1/\∀β,∃a β',fe vs1 β=.ok (e a) β'/\P a)->
  ∃(as:List α) (β':Int),iY t i7 fe vs ds β=.ok (as.map e) β'/\as.length=ds.length/\∀a,a∈as->P a
 | [],β,_=>⟨[],β,rfl,rfl,λa h=>(by cases h)⟩
 |d :: ds,β,h=>by
  obtain⟨vs1,hb,hf⟩:=h d (Ro ..)
  obtain⟨a,β1,ef,pa⟩:=hf β
  obtain⟨as,β2,ec,hl,hP⟩:=td e P (ds:=ds) (β:=β1) λd' hd=>h d' (Ru _ hd)
  refine⟨a :: as,β2,?_,by rw[RL,RL,hl],λx hx=>?_⟩
  ·unfold iY
   rw[hb]
   dsimp only[i7,R.okb]
   rw[Rg rfl,ef]
   dsimp only
   rw[ec];rfl
  ·rcases Rm.mp hx with z |z
   ·rw[z];exact pa
   ·exact hP x z
noncomputable def Az:List D->Int->FB:=yK 4 1 (jE uh gN vf)
def BF {most:Nat}(hm1:1<=most)(hm8:most<=8)(β:Int):∃(n:Nat) (l:@A_) (β':Int),Az [.int most] β=.ok (ag n l) false β'/\@KK/\n<=most:=by
 obtain⟨j,hj,ej⟩:=sO hm1 (@AT) β
 show ∃(n:Nat) (l:@A_) (β':Int),Hl (jE uh gN vf [.bx,.fz (.int most),.no,.no] β)=.ok (ag n l) false β'/\@KK/\n<=most
 unfold jE
 generalize hβ1:β / (most:Int)=β1 at ej
 have n8:1 + j<=8:=@AT
 have e1:f2 @Fa (rH 0 gN (aa (gv 1) ao)) bX [Nv.bx,.da (.int most),.no,.no] β=.ok (.int ((1 + j:Nat):Int)) β1:=by
  refine aG (x:=.int 1) rfl (oM (by rfl) rfl ej) ?_
  show some (int (1 + (j:Int)))=_
  rw[show ((1 + j:Nat):Int)=1 + (j:Int) by omega]
 rw[aH (env':=[.bx,.fz (.int most),.fz (.int ((1 + j:Nat):Int)),.no]) (β':=β1) ?g1]
 case g1=>
  show toS (f2 @Fa (rH 0 gN (aa (gv 1) ao)) bX [Nv.bx,.da (.int most),.no,.no] β) _=_
  rw[e1];rfl
 have hnm:1 + j<=most:=@AT
 generalize hn:1 + j=n at n8 hnm
 have n1:1<=n:=@AT
 obtain⟨q,hq,eq⟩:=sO (m:=3) (@AT) (@AT) β1
 generalize hβ2:β1 / ((3:Nat):Int)=β2 at eq
 have e2:f2 @Fa (rH 0 gN (aa (cst (.int 3)) ao)) bX [Nv.bx,.da (.int most),.da @Re,.no] β1=.ok (.int ((1 + q:Nat):Int)) β2:=by
  refine aG (x:=.int 1) rfl (oM (ds:=[.int 3]) (by rfl) rfl eq) ?_
  show some (int (1 + (q:Int)))=_
  rw[show ((1 + q:Nat):Int)=1 + (q:Int) by omega]
 obtain⟨rows,β3,ec,hl,hP⟩:=td (t:=.nm 0) (fe:=rH 1 vf (aa (f1 (gv 2) iR) ao)) (vs:=g8 1 [0,2] [Nv.bx,.da (.int most),.da @Re,.no]) tupI (λr:@Db=>r.Perm (bD n)) (ds:=g9 0 (1 + q)) (β:=β2) (by
  intro d hd
  refine⟨[.da d,.bx,.da @Re],rfl,λb=>?_⟩
  obtain⟨ms,b',em,pm⟩:=KN (bD n) (by rw[b7];omega) b
  refine⟨ms,b',oM (ds:=[.list ((bD n).map int)]) (β1:=b) (by rfl) ?_ em,pm⟩
  rw[cM,cQ (x:=.int n) (d:=.list ((bD n).map int)) (β1:=b) rfl (yn (@AT))];rfl)
 rw[jI] at hl
 have ef:aN 1 [0,2] (.nm 0) (fx (f2 @Fa (rH 0 gN (aa (cst (.int 3)) ao)) bX)) i7 (rH 1 vf (aa (f1 (gv 2) iR) ao)) [Nv.bx,.da (.int most),.da @Re,.no] β1=.ok (.list (rows.map tupI)) β3:=by
  unfold aN
  rw[fy (n:=1 + q) e2 (@AT)]
  dsimp only[R.bnd]
  rw[Rg (sz _ (by rw[jI];omega)),ec];rfl
 rw[aH (env':=[.bx,.fz (.int most),.fz @Re,@Op]) (β':=β3) ?g2]
 case g2=>
  show toS (aN 1 [0,2] (.nm 0) (fx (f2 @Fa (rH 0 gN (aa (cst (.int 3)) ao)) bX)) i7 (rH 1 vf (aa (f1 (gv 2) iR) ao)) [Nv.bx,.da (.int most),.da @Re,.no] β1) _=_
  rw[ef];rfl
 have hne:rows≠ []:=λz=>by rw[z] at hl;simp at hl;omega
 refine⟨n,(OM.bw n).filter (nU rows),β3,?_,ot n1 n8 hne,hnm⟩
 rw[du]
 show Hl (toS (cq (aa (gv 2) (aa (aq uh (aa (gv 2) (aa (gv 3) ao))) ao)) [Nv.bx,.da (.int most),.da @Re,.da (.list (rows.map tupI))] β3) _)=_
 have a1:aq uh (aa (gv 2) (aa (gv 3) ao)) [Nv.bx,.da (.int most),.da @Re,.da (.list (rows.map tupI))] β3=.ok (.tuple (((OM.bw n).filter (nU rows)).map aA)) β3:=ak rfl (JD n8 (@AT) hP)
 rw[iM (ds:=[.int n,.tuple (((OM.bw n).filter (nU rows)).map aA)]) (β1:=β3) ?k3 (@KM)]
 case k3=>
  rw[cM]
  show (R.ok (int n) β3).bnd _=_
  dsimp only[R.bnd]
  rw[cM,a1];rfl
 rfl
def vJ {N:Nat}{l:@A_}(h1:1<=N)(h8:N<=8)(w:OM.Wn N l)(nd:l.Nodup)(irr:∀a,(a,a)∉l):nv (.list (l.map aA))=some (.list ((OM.jx 8 (OM.Mem l)).map aA)):=by
 simp only[nv,j4]
 rw[Rg ⟨MD h8 w,nd,B0 h1 h8 w nd irr⟩]
def xS (z:Int)(p:Pr):Pr:=(p.1 + z,p.2 + z)
def mW (n:Nat)(l k:@A_):@A_:=l ++ k.map (xS n)
def gX {n:Nat}{l k:@A_}{p:Pr}:p∈mW n l k↔p∈l\/(p.1 - n,p.2 - n)∈k:=by
 unfold mW
 rw[Rw,Rz]
 refine or_congr Iff.rfl ⟨?_,λh=>⟨_,h,?_⟩⟩
 ·rintro⟨q,hq,rfl⟩
  have:((xS n q).1 - (n:Int),(xS n q).2 - (n:Int))=q:=by
   obtain⟨a,b⟩:=q
   show (a + (n:Int) - n,b + (n:Int) - n)=(a,b)
   rw[Int.add_sub_cancel,Int.add_sub_cancel]
  rw[this];exact hq
 ·obtain⟨a,b⟩:=p
  show (a - (n:Int) + n,b - (n:Int) + n)=(a,b)
  rw[Int.sub_add_cancel,Int.sub_add_cancel]
section
variable {n m:Nat}{l k:@A_}
def LP (O:@KK)(O':OM.Ord m k):OM.Wn (n + m) (mW n l k):=λp hp=>by
 rcases gX.mp hp with h |h
 ·have:=O.wn p h;omega
 ·have:=O'.wn _ h;simp only at this;omega
def Bl (O:@KK)(O':OM.Ord m k):OM.xU (mW n l k):=by
 show List.Pairwise OM.B5 _
 unfold mW
 rw[List.pairwise_append,TH]
 refine⟨O.ris,O'.ris.imp λ{a b} h=>?_,λp hp q hq=>?_⟩
 ·unfold OM.B5 at h ⊢
  unfold xS
  simp only
  omega
 ·obtain⟨r,hr,rfl⟩:=Rz.mp hq
  have h1:=O.wn p hp
  have h2:=O'.wn r hr
  unfold OM.B5 xS
  simp only
  omega
def Hh (O:@KK)(O':OM.Ord m k)(a:Int):(a,a)∉mW n l k:=λh=>by
 rcases gX.mp h with h |h
 ·exact O.irr a h
 ·exact O'.irr _ h
def xP (N n i:Nat):@A_:=(OM.bw N).filter λp=>decide (p.1 < i) && decide ((n:Int)<=p.2)
def pO {N n i:Nat}{p:Pr}:p∈xP N n i↔((0<=p.1/\p.1 < N)/\(0<=p.2/\p.2 < N))/\p.1 < i/\(n:Int)<=p.2:=by
 unfold xP
 rw[Rl,OM.aY,RC,Rq,Rq]
def Hr (N n i:Nat):OM.xU (xP N n i):=OM.cN _ (OM.dD N)
def E4 (O:@KK)(O':OM.Ord m k){i:Nat}(hi:i<=n):OM.Wn (n + m) (mW n l k ++ xP (n + m) n i)/\(mW n l k ++ xP (n + m) n i).Nodup/\∀a,(a,a)∉mW n l k ++ xP (n + m) n i:=by
 refine⟨λp hp=>?_,?_,λa h=>?_⟩
 ·rcases Rw.mp hp with h |h
  ·exact LP O O' p h
  ·exact (pO.mp h).1
 ·rw[Tf]
  refine⟨OM.ip (Bl O O'),OM.ip (Hr _ _ _),λp hp q hq e=>?_⟩
  subst e
  have h2:=pO.mp hq
  rcases gX.mp hp with h |h
  ·have:=O.wn p h;omega
  ·have:=O'.wn _ h;simp only at this;omega
 ·rcases Rw.mp h with h |h
  ·exact Hh O O' a h
  ·have:=pO.mp h;simp only at this;omega
end
def Kn {n m:Nat}{l k:@A_}(O:@KK)(O':OM.Ord m k)(h8:n + m<=8){i:Nat}(hi:i<=n):(mW n l k ++ xP (n + m) n i).length < 64:=by
 have h1:=O.lo
 obtain⟨a,b,c⟩:=E4 O O' hi
 exact B0 (@AT) h8 a b c
noncomputable def OA:@Cl:=aS 2 2 (kR iW)
def Ob {n m:Nat}{l k:@A_}(O:@KK)(O':OM.Ord m k):OA [ag n l,ag m k]=.ok .none false:=by
 show fin (kR iW [@C_,@Rs] 0)=_
 unfold kR
 rw[aH (env':=[@C_,@Rs]) (β':=0) ?a,eQ,ak (ds:=[ag m k]) (β1:=0) rfl (oW O')]
 ·rfl
 case a=>rw[eQ,ak (ds:=[ag n l]) (β1:=0) rfl (oW O)];rfl
def E8:@Cl:=aS 2 2 gB
def KJ {n:Nat}{l:@A_}(hl:l.length<=1000)(z:Int):E8 [ag n l,.int z]=.ok (.list ((l.map (xS z)).map aA)) true:=by
 show fin (gB [@C_,.fz (.int z)] 0)=_
 unfold gB
 have e:aN 2 [1] (.two 0 1) (bH (f2 (gv 0) @Fa bB)) i7 (cq (aa (f2 (gv 0) (gv 2) bX) (aa (f2 (gv 1) (gv 2) bX) ao))) (vl [@C_,.fz (.int z)]) 0=.ok (.list (l.map λp=>aA (xS z p))) 0:=
  bL (l:=l) (e:=aA) (λp=>aA (xS z p)) rfl hl λp hp=>⟨[.da (.int p.1),.da (.int p.2),.da (.int z)],rfl,cX (a:=p.1 + z) (b:=p.2 + z) rfl rfl⟩
 rw[ub,e,Sz];rfl
def Je:D->Bool
 | .tuple _=>true
 |_=>false
theorem HL {d:D}(h:Je d=true):∃ds,d=.tuple ds:=by
 cases d with
 |tuple ds=>exact⟨ds,rfl⟩
 |_=>cases h
def Ej {d:D}(h:fA d=false):la "tuple" d=some (.bool (Je d)):=by
 unfold la;rw[h];cases d <;> rfl
section
variable {fa fb:VF D}{vs:List Nv}{β:Int}
def NJ {d:D}(ha:@Tm=.ok d β)(h:fA d=false):i3 (f1 fa (la "tuple")) vs β=.ok (Je d) β:=eS (cQ ha (Ej h))
def BA {l:List D}{f:D->Bool}(h:@Tm=.ok (.list (l.map λq=>PyData.bool (f q))) β):f1 fa (bY λbs=>bs.all id) vs β=.ok (.bool (l.all f)) β:=by
 refine cQ h ?_
 simp only[bY]
 rw[gn]
 simp[T6]
def M1 {ds:List D}(ha:@Tm=.ok (.tuple ds) β):f1 fa cJ vs β=.ok (.int ds.length) β:=cQ ha rfl
def JS {t u:VF Bool}(h:t vs β=.ok true β):pN t u vs β=.ok true β:=by rw[rC,h];rfl
def yG {t u:VF Bool}{c:Bool}(h:t vs β=.ok false β)(h':u vs β=.ok c β):pN t u vs β=.ok c β:=by rw[rC,h];exact h'
def Kd (h:@Tm=.ok (.bool false) β):g7 fa fb vs β=.ok (.bool false) β:=by unfold g7;rw[h];rfl
def JZ {d:D}(h:@Tm=.ok (.bool true) β)(h':fb vs β=.ok d β):g7 fa fb vs β=.ok d β:=by unfold g7;rw[h];exact h'
def PB (h:@Tm=.ok (.bool true) β):MU fa fb vs β=.ok (.bool true) β:=by unfold MU;rw[h];rfl
def Po {d:D}(h:@Tm=.ok (.bool false) β)(h':fb vs β=.ok d β):MU fa fb vs β=.ok d β:=by unfold MU;rw[h];exact h'
end
def Sq (c k:Nat)(d:D):Prop:=d.showable=true/\d.depth<=k/\d.shown.length<=c
def Sq.mono {c k c' k':Nat}{d:D}(h:Sq c k d)(h1:c<=c')(h2:k<=k'):Sq c' k' d:=⟨h.1,Sd h.2.1 h2,Sd h.2.2 h1⟩
theorem EX {c k:Nat}:∀{ds:List D},(∀d,d∈ds->Sq c k d)->PyData.showableAll ds=true/\PyData.depthAll ds<=k/\(∀t,t∈PyData.shownAll ds->t.length<=c)/\(PyData.shownAll ds).length=ds.length
 | [],_=>⟨by simp[PyData.showableAll],by simp[PyData.depthAll],λt h=>by simp[PyData.shownAll] at h,by simp[PyData.shownAll]⟩
 |d :: ds,h=>by
  obtain⟨h1,h2,h3,h4⟩:=EX λx hx=>h x (Ru _ hx)
  obtain⟨q1,q2,q3⟩:=h d (Ro ..)
  refine⟨?_,?_,λt ht=>?_,?_⟩
  ·rw[PyData.showableAll,q1,h1];rfl
  ·rw[PyData.depthAll];omega
  ·rw[PyData.shownAll] at ht
   rcases Rm.mp ht with rfl |ht
   ·exact q3
   ·exact h3 t ht
  ·rw[PyData.shownAll,RL,RL,h4]
theorem zq {c:Nat}:∀{ts:@Id},(∀t,t∈ts->t.length<=c)->(Str.join ", " ts).length<=(c + 2) * ts.length
 | [],_=>by show (Str.join ", " []).length<=_;exact Sb _
 | [x],h=>by
  have:=h x (Ro ..)
  show x.length<=(c + 2) * 1
  omega
 |x :: y :: r,h=>by
  have ih:=zq (ts:=y :: r) λt ht=>h t (Ru _ ht)
  have:=h x (Ro ..)
  show (x ++ ", " ++ Str.join ", " (y :: r)).length<=_
  rw[strLen_append,strLen_append]
  have e2:((", ":String):Str).length=2:=rfl
  rw[e2]
  have e:(c + 2) * (x :: y :: r).length=(c + 2) * (y :: r).length + (c + 2):=by rw[RL,Nat.mul_succ]
  omega
def FO {c k:Nat}{ds:List D}(h:∀d,d∈ds->Sq c k d):Sq (3 + (c + 2) * ds.length) (k + 1) (.tuple ds):=by
 obtain⟨h1,h2,h3,h4⟩:=EX h
 refine⟨by rw[PyData.showable];exact h1,by rw[PyData.depth];omega,?_⟩
 rw[PyData.shown]
 unfold tupleText
 rw[strLen_append,strLen_append]
 have j:=zq h3
 rw[h4] at j
 have e1:((("(":String):Str)).length=1:=rfl
 have e3:((if (PyData.shownAll ds).length == 1 then ",)" else ")":String):Str).length<=2:=by split <;> exact by decide
 rw[e1]
 omega
def Bf (d:D):Prop:=MR d=true
theorem GF:∀{ds:List D},(∀d,d∈ds->Bf d)->GI ds=true
 | [],_=>rfl
 |d :: ds,h=>by
  have h1:=GF λx hx=>h x (Ru _ hx)
  have q1:MR d=true:=h d (Ro ..)
  rw[GI,q1,h1];rfl
def FF {ds:List D}(h:∀d,d∈ds->Bf d):Bf (.tuple ds):=by show MR (.tuple ds)=true;rw[MR];exact GF h
def QC:@Db:=[-1,0,1,2,3,4,5,6,7,8,9]
def FZ:∀i∈QC,(int i).showable=true/\(int i).shown.length<=20:=@FS
def BL {i:Int}(h: -1<=i/\i<=9):i∈QC:=by
 simp only[QC,Rm,Sa,Tc]
 omega
def GN (d:D):Prop:=d=.none\/(∃b,d=.bool b)\/∃i:Int,d=.int i/\ -1<=i/\i<=9
def GN.sq {d:D}(h:GN d):Sq 20 0 d:=by
 rcases h with rfl | ⟨b,rfl⟩ | ⟨i,rfl,h⟩
 ·exact⟨by simp[PyData.showable],by simp[PyData.depth],by rw[PyData.shown];decide⟩
 ·exact⟨by simp[PyData.showable],by simp[PyData.depth],by rw[PyData.shown];cases b <;> decide⟩
 ·exact⟨(FZ i (BL h)).1,by simp[PyData.depth],(FZ i (BL h)).2⟩
def GN.bf {d:D}(h:GN d):Bf d:=by
 rcases h with rfl | ⟨b,rfl⟩ | ⟨i,rfl,h⟩ <;> exact by simp[Bf,MR]
def GN.scr {d:D}(h:GN d):fA d=false:=by
 rcases h with rfl | ⟨b,rfl⟩ | ⟨i,rfl,h⟩ <;> rfl
section
variable {vs:List Nv}{β β1 β2:Int}{fa:VF D}{fr:@Tk}{d:D}{ds:List D}
def ac {fa:VF D}{fr:@Tk}(h:@Tm=.ok d β)(h':fr vs β=.ok ds β):aa fa fr vs β=.ok (d :: ds) β:=by rw[cM,h];dsimp only[R.bnd];rw[h']
def an:ao vs β=.ok [] β:=rfl
def tp (h:fr vs β=.ok ds β)(hz:ds.length<=1000:=by simp):cq fr vs β=.ok (.tuple ds) β:=iM h hz
def lp (h:fr vs β=.ok ds β)(hz:ds.length<=1000:=by simp):fo fr vs β=.ok (.list ds) β:=nX h hz
def ck (d:D):cst d vs β=.ok d β:=rfl
end
def BR {i:Int}(h: -1<=i/\i<=9):GN (.int i):=.inr (.inr ⟨i,rfl,h⟩)
def FD {d:D}(h:fA d=false):la "list" d=some (.bool (match d with | .list _=>true |_=>false)):=by
 unfold la;rw[h];cases d <;> rfl
def LM:D->Bool
 | .list _=>true
 |_=>false
theorem GU {d:D}(h:LM d=true):∃ds,d=.list ds:=by
 cases d with
 |list ds=>exact⟨ds,rfl⟩
 |_=>cases h
def Ol {fa:VF D}{vs:List Nv}{β:Int}{d:D}(ha:@Tm=.ok d β)(h:fA d=false):f1 fa (la "list") vs β=.ok (.bool (LM d)) β:=cQ ha (by rw[FD h];cases d <;> rfl)
def o4 {fa:VF D}{vs:List Nv}{β:Int}{ds:List D}(ha:@Tm=.ok (.list ds) β):f1 fa cJ vs β=.ok (.int ds.length) β:=cQ ha rfl
def Ge (e:D):Prop:=fA e=false/\∀es,e=.tuple es->es.length<=100/\∀x,x∈es->fA x=false
def Sp (p:Pr):Prop:=(0<=p.1/\p.1<=8)/\(0<=p.2/\p.2<=8)
def Ky {es:List D}(hl:es.length<=100)(h:∀x,x∈es->fA x=false):Ge (.tuple es):=⟨rfl,λes' e=>by cases e;exact⟨hl,h⟩⟩
def Ih {fa fb:VF D}{vs:List Nv}{β:Int}{ds:List D}{i:Nat}(ha:@Tm=.ok (.list ds) β)(hb:fb vs β=.ok (.int ((i:Nat):Int)) β):IZ fa (zj fb) (λ_ β=>.ok none β) vs β=.ok (.list (ds.drop i)) β:=by
 unfold IZ zj
 rw[ha];dsimp only[R.bnd]
 rw[hb];dsimp only[R.bnd]
 congr 2
 unfold cutD
 rw[HT.p0,HT.rN]
 by_cases h:i<=ds.length
 ·rw[TZ h];exact Tp (by rw[To];omega)
 ·rw[Nat.min_eq_right (@AT),T9,List.drop_of_length_le (@AT)];simp
def EO {fa fb:VF D}{vs:List Nv}{β:Int}{ds:List D}{i:Nat}(ha:@Tm=.ok (.list ds) β)(hb:fb vs β=.ok (.int ((i:Nat):Int)) β):IZ fa (λ_ β=>.ok none β) (zj fb) vs β=.ok (.list (ds.take i)) β:=by
 unfold IZ zj
 rw[ha];dsimp only[R.bnd]
 rw[hb];dsimp only[R.bnd]
 congr 2
 unfold cutD
 rw[HT.p0,HT.rN]
 by_cases h:i<=ds.length
 ·rw[TZ h];rfl
 ·rw[Nat.min_eq_right (@AT),Tp (show ds.length<=i by omega)];simp
end RM
namespace RM
open PySem PySem.Spec L2 PyProof.Rows
theorem t8:∀(ns acc:@Db),acc.Nodup->(ns.foldl step_dedup acc).length<=acc.length + ns.length/\((ns.foldl step_dedup acc).length=acc.length + ns.length↔(ns.Nodup/\∀x,x∈ns->x∉acc))
 | [],acc,_=>@KM
 |n :: ns,acc,hn=>by
  rw[Ug]
  by_cases h:n∈acc
  ·have e:step_dedup acc n=acc:=by unfold step_dedup;rw[Rg (by simpa using h)]
   rw[e]
   obtain⟨h1,h2⟩:=t8 ns acc hn
   refine⟨by rw[RL];omega,⟨λz=>?_,λz=>absurd h (z.2 n (Ro ..))⟩⟩
   rw[RL] at z;omega
  ·have e:step_dedup acc n=acc ++ [n]:=by unfold step_dedup;rw[Rj (by simpa using h)]
   have hn':(acc ++ [n]).Nodup:=by
    rw[Tf]
    refine⟨hn,R5.mpr ⟨@KM,Uv⟩,λa ha b hb=>?_⟩
    rw[RE] at hb
    subst hb
    exact λq=>h (q▸ha)
   rw[e]
   obtain⟨h1,h2⟩:=t8 ns (acc ++ [n]) hn'
   rw[RD,R1] at h1 h2
   refine⟨by rw[RL];omega,?_⟩
   rw[RL,show acc.length + (ns.length + 1)=acc.length + 1 + ns.length by omega,h2,R5]
   constructor
   ·rintro⟨z1,z2⟩
    refine⟨⟨λq=>z2 n q (@KM),z1⟩,λx hx=>?_⟩
    rcases Rm.mp hx with rfl |hx
    ·exact h
    ·exact λq=>z2 x hx (Sg _ q)
   ·rintro⟨⟨z1,z2⟩,z3⟩
    refine⟨z2,λx hx q=>?_⟩
    rcases Rw.mp q with q |q
    ·exact z3 x (Ru _ hx) q
    ·rw[RE] at q;subst q;exact z1 hx
def yq (ns:@Db):uz ns=ns.length↔ns.Nodup:=by
 have e:firstMet (λi=>ns.getD i 0) ns.length=ns.foldl step_dedup []:=by
  unfold firstMet
  congr 1
  refine TN (@KM) λi h1 h2=>?_
  simp[RP,h2]
 unfold uz
 rw[e]
 have:=(t8 ns [] Uv).2
 simpa using this
theorem nz:∀{l m:@Db},l.Nodup->(∀x,x∈l->x∈m)->m.length<=l.length->l.Perm m
 | [],m,_,_,h=>by
  have:m= []:=List.length_eq_zero_iff.mp (by simpa using h)
  rw[this]
 |x :: l,m,nd,hs,h=>by
  obtain⟨h1,h2⟩:=R5.mp nd
  have hx:x∈m:=hs x (Ro ..)
  have pm:m.Perm (x :: m.erase x):=List.perm_cons_erase hx
  refine (List.Perm.cons x (nz (m:=m.erase x) h2 (λy hy=>?_) ?_)).trans pm.symm
  ·have hy':=pm.mem_iff.mp (hs y (Ru _ hy))
   rcases Rm.mp hy' with rfl |q
   ·exact absurd hy h1
   ·exact q
  ·have:=pm.length_eq
   rw[RL] at this h
   omega
def yY {n:Nat}{r:@Db}(hl:r.length=n)(hb:∀x,x∈r->0<=x/\x < n)(nd:r.Nodup):r.Perm (bD n):=nz nd (λx hx=>az.mpr (hb x hx)) (by rw[b7];omega)
noncomputable def sS (n:Nat)(d:D):Bool:=@decide (∃r:@Db,d=tupI r/\r.Perm (bD n)) @SL
def Lu {n:Nat}{d:D}(h:sS n d=true):∃r:@Db,d=tupI r/\r.Perm (bD n):=@RZ _ @SL h
def zu {n:Nat}{r:@Db}(h:r.Perm (bD n)):sS n (tupI r)=true:=@Rk _ @SL ⟨r,rfl,h⟩
def xm {n:Nat}{d:D}(h:∀r:@Db,d=tupI r->¬r.Perm (bD n)):sS n d=false:=@Rt _ @SL λ⟨r,e,p⟩=>h r e p
def tW {r q:@Db}(h:tupI r=tupI q):r=q:=by
 unfold tupI at h
 have h:=PyData.tuple.inj h
 exact List.map_inj_right (λa b e=>int.inj e) |>.mp h
theorem C4 {d:D}{n:Int}(h:kX d n=true):∃i:Int,d=.int i/\0<=i/\i < n:=by
 cases d with
 |int i=>exact⟨i,rfl,RZ h⟩
 |_=>cases h
theorem vP {n:Int}:∀{ds:List D},(ds.all λe=>kX e n)=true->∃r:@Db,ds=r.map int/\∀x,x∈r->0<=x/\x < n
 | [],_=>⟨[],rfl,λx hx=>by cases hx⟩
 |d :: ds,h=>by
  rw[Ud,RC] at h
  obtain⟨i,rfl,hi⟩:=C4 h.1
  obtain⟨r,rfl,hr⟩:=vP h.2
  refine⟨i :: r,rfl,λx hx=>?_⟩
  rcases Rm.mp hx with rfl |hx
  ·exact hi
  ·exact hr x hx
def C8 {n:Nat}{r:@Db}(h:∀x,x∈r->0<=x/\x < (n:Int)):((r.map int).all λe=>kX e n)=true:=by
 rw[T6,RH]
 intro x hx
 exact Rk (h x hx)
theorem lJ:∀r:@Db,lq (r.map int)=some r
 | []=>rfl
 |x :: r=>by
  have:=lJ r
  simp only[Sx,lq,this]
  try rfl
def Ce:@Cl:=aS 2 2 (n5 fN)
theorem Lf {n:Nat}{d:D}(h8:n<=100)(h:Ge d):Ce [d,.int n]=.ok (.bool (sS n d)) false:=by
 show fin (n5 fN [.fz d,.fz @Re] 0)=_
 unfold n5
 have g0:gv 0 (vl [.fz d,.fz @Re]) 0=.ok d 0:=rfl
 have t1:=NJ g0 h.1
 cases hy:Je d with
 |false=>
  rw[hy] at t1
  rw[jm (d:=.bool false) (b:=false) (β':=0) (by rw[mU (JS (eT t1))];rfl),xm]
  ·rfl
  ·intro r e;subst e;cases hy
 |true=>
  obtain⟨es,rfl⟩:=HL hy
  rw[hy] at t1
  have t2:eO (f2 (f1 (gv 0) cJ) (gv 1) (gq true)) (vl [.fz (.tuple es),.fz @Re]) 0=.ok (!decide ((es.length:Int)=n)) 0:=ju (neg:=true) (M1 g0) rfl
  by_cases hl:es.length=n
  ·rw[Rk (show (es.length:Int)=n by omega)] at t2
   rw[aH (env':=[.fz (.tuple es),.fz @Re]) (β':=0) (by rw[j7 (yG (eT t1) t2)];rfl)]
   have hs:=(h.2 _ rfl).2
   have ec:aN 1 [1] (.nm 0) (bH (gv 0)) i7 (aq fN @Fk) (vl [.fz (.tuple es),.fz @Re]) 0=.ok (.list (es.map λe=>PyData.bool (kX e n))) 0:=
    vB (λe=>PyData.bool (kX e n)) rfl (@AT) λe he=>⟨_,rfl,ak (ds:=[e,.int n]) rfl (xJ (hs e he))⟩
   have ea:=BA ec
   rw[du]
   cases hb:(es.all λe=>kX e n) with
   |false=>
    rw[hb] at ea
    rw[Kd ea,xm]
    ·rfl
    ·intro r e pm
     have e:=PyData.tuple.inj e
     subst e
     rw[C8 λx hx=>az.mp (pm.mem_iff.mp hx)] at hb
     cases hb
   |true=>
    rw[hb] at ea
    obtain⟨r,rfl,hr⟩:=vP hb
    have hrl:r.length=n:=by rw[Rb] at hl;exact hl
    have es:f1 (gv 0) rL (vl [.fz (.tuple (r.map int)),.fz @Re]) 0=.ok (.int (uz r)) 0:=by
     refine cQ g0 ?_
     show (match lq (r.map int) with |some ns=>if ns.length<=1000 then some (int (uz ns)) else none |none=>none)=_
     rw[lJ]
     exact Rg (@AT)
    rw[JZ ea (aG es rfl (nW false (uz r) n))]
    show FR.ok (.bool (decide ((uz r:Int)=(n:Int)))) false=_
    by_cases nd:r.Nodup
    ·have:=(yq r).mpr nd
     rw[Rk (@AT),show sS n (.tuple (r.map int))=true from zu (yY hrl hr nd)]
    ·have:uz r≠r.length:=λq=>nd ((yq r).mp q)
     rw[Rt (@AT),xm]
     intro q e pm
     have e:=tW (r:=r) e
     subst e
     exact nd (pm.nodup_iff.mpr (fR n))
  ·rw[Rt (show ¬(es.length:Int)=n by omega)] at t2
   rw[jm (d:=.bool false) (b:=false) (β':=0) (by rw[mU (yG (eT t1) t2)];rfl),xm]
   ·rfl
   ·intro r e pm
    have e:=PyData.tuple.inj e
    subst e
    have:=pm.length_eq
    rw[b7] at this
    rw[Rb] at hl
    exact hl this
end RM
namespace RM
open PySem L2
def uv (r:@Db):@Db:=(List.range r.length).map λ(a:Nat)=>((r.idxOf (a:Int):Nat):Int)
def iQ (r:@Db)(k:Nat):@Db:=(List.range r.length).map λ(a:Nat)=>if r.idxOf (a:Int) < k then ((r.idxOf (a:Int):Nat):Int) else 0
def Dk {n:Nat}{r:@Db}(h:r.Perm (bD n)):iQ r r.length=uv r:=by
 unfold iQ uv
 refine SH λa ha=>?_
 have hl:=h.length_eq
 rw[b7] at hl
 have:=RW.mp ha
 rw[Rg (Sh.mpr (h.mem_iff.mpr (az.mpr ⟨@AT,@AT ⟩)))]
def z0 (r:@Db):iQ r 0=List.replicate r.length 0:=by
 unfold iQ
 refine TN (@KM) λi h1 h2=>@KM
def AA {n:Nat}{r:@Db}(h:r.Perm (bD n)){k:Nat}{x:Int}(hk:r[k]? =some x):(iQ r k).set x.toNat (k:Int)=iQ r (k + 1):=by
 have hl:=h.length_eq
 rw[b7] at hl
 have hx:=az.mp (h.mem_iff.mp (RN hk))
 have nd:r.Nodup:=h.nodup_iff.mpr (fR n)
 obtain⟨hkl,hke⟩:=Rn.mp hk
 have hix:r.idxOf x=k:=by rw[<-hke];exact nd.idxOf_getElem k hkl
 unfold iQ
 refine TN (@KM) λi h1 h2=>?_
 have hi:i < r.length:=by simpa using h2
 rw[List.getElem_set]
 simp only[List.getElem_map,List.getElem_range]
 by_cases e:x.toNat=i
 ·rw[Rg e]
  have ex:(i:Int)=x:=@AT
  rw[ex,hix,Rg (@AT)]
 ·rw[Rj e]
  have:r.idxOf (i:Int)≠k:=λq=>by
   have hm:(i:Int)∈r:=h.mem_iff.mpr (az.mpr ⟨@AT,@AT ⟩)
   have h3:=TY (Sh.mpr hm)
   simp only[q] at h3
   rw[hke] at h3
   omega
  by_cases z:r.idxOf (i:Int) < k
  ·rw[Rg z,Rg (@AT)]
  ·rw[Rj z,Rj (@AT)]
def EM {n:Nat}{r:@Db}(h:r.Perm (bD n)){a:Int}(ha:0<=a/\a < n):m9 (uv r) a=some ((r.idxOf a:Nat):Int):=by
 have hl:=h.length_eq
 rw[b7] at hl
 have e:(a.toNat:Int)=a:=@AT
 have:=kM (xs:=uv r) (j:=a.toNat) (v:=((r.idxOf a:Nat):Int)) (by
  unfold uv
  rw[RA,S6 (@AT)]
  simp only[Option.map_some,e])
 rw[e] at this
 exact this
def ML:@Cl:=aS 4 1 pI
def M6 {n:Nat}{r:@Db}{d:D}(h1:cJ d=some (.int ((r.map int).length:Nat)))(h2:ni d=some (r.map int))(h100:n<=100)(h:r.Perm (bD n)):ML [d]=.ok (.list ((uv r).map int)) true:=by
 have hl:=h.length_eq
 rw[b7] at hl
 show fin (pI [.fz (d),.no,.no,.no] 0)=_
 unfold pI
 rw[aH (env':=[.fz (d),.ow (.list ((iQ r 0).map int)),.no,.no]) (β':=0) ?a]
 case a=>
  have e:f2 (fo (aa @FM ao)) (f1 (gv 0) cJ) rk (vl [.fz (d),.no,.no,.no]) 0=.ok (.list ((iQ r 0).map int)) 0:=by
   refine aG (lp (ac (ck _) an)) (cQ (x:=d) rfl h1) ?_
   rw[Rb,z0,List.map_replicate]
   simp only[rk]
   rw[Rg ?q]
   ·congr 2
    rw[RT]
    induction r.length with
    |zero=>rfl
    |succ m ih=>first |rw[R8,R8,SQ,ih];rfl | (simp[R8] at ih ⊢;try exact ih)
   case q=>first | (constructor <;> first |omega | (show _<=_;simp;try omega)) | (rw[R7];simp;omega)
  rw[lI,e];rfl
 have ee:Lw (gv 0) (vl [.fz (d),.ow (.list ((iQ r 0).map int)),.no,.no]) 0=.ok (dU (r.map int)) 0:=by
  show (match ni d with |some ds=>R.ok (dU ds) 0 |none=>.bad)=_
  rw[h2]
 obtain⟨env',β',ef,s,t,rfl,rfl⟩:=lH (t:=.two 2 3) (m:=tZ 1 [2] [] (gv 2) (gv 3)) (ds:=dU (r.map int)) (k:=0)
  (λk env β=>∃s t:Sl,env= [.fz (d),.ow (.list ((iQ r k).map int)),s,t]/\β=0)
  (env:=[.fz (d),.ow (.list ((iQ r 0).map int)),.no,.no]) (β:=0) ⟨.no,.no,rfl,rfl⟩ (by
   rintro k d env β hk ⟨s,t,rfl,rfl⟩
   unfold dU at hk
   rw[Ua,RA] at hk
   cases hx:r[k]? with
   |none=>rw[hx] at hk;cases hk
   |some x=>
    rw[hx] at hk
    cases hk
    have hxm:=az.mp (h.mem_iff.mp (RN hx))
    refine⟨[.fz (d),.ow (.list ((iQ r (0 + k)).map int)),.fz (.int k),.fz (.int x)],rfl,?_⟩
    rw[S7]
    refine⟨[.fz (d),.ow (.list ((iQ r (k + 1)).map int)),.fz (.int k),.fz (.int x)],0,?_,_,_,rfl,rfl⟩
    rw[zy (ds:=(iQ r k).map int) (d:=.int k) (k:=x) (n:=x.toNat) (β1:=0) (β2:=0) rfl (by rfl) rfl (by rfl) ?b]
    ·rw[<-AA h hx,List.map_set];rfl
    case b=>
     unfold xR
     rw[Rg hxm.1,Rg (by rw[Rb];unfold iQ;simp;omega)])
 have hle:(dU (r.map int)).length=r.length:=by unfold dU;simp
 rw[S7,hle,Dk h] at ef
 rw[aH (env':=[.fz (d),.ow (.list ((uv r).map int)),s,t]) (β':=0) (by
  rw[jU (env:=[.fz (d),.ow (.list ((iQ r 0).map int)),.no,.no]) ee]
  exact ef)]
 rfl
def Na {n:Nat}{r:@Db}(h100:n<=100)(h:r.Perm (bD n)):ML [tupI r]=.ok (.list ((uv r).map int)) true:=M6 rfl rfl h100 h
def uE (l:@A_)(r:@Db):Bool:=l.all λp=>decide (r.idxOf p.1 < r.idxOf p.2)
def Row (n:Nat)(l:@A_)(r:@Db):Prop:=r.Perm (bD n)/\uE l r=true
noncomputable def xK (n:Nat)(l:@A_)(d:D):Bool:=@decide (∃r:@Db,d=tupI r/\Row n l r) @SL
def N6 {n:Nat}{l:@A_}{d:D}(h:xK n l d=true):∃r:@Db,d=tupI r/\Row n l r:=@RZ _ @SL h
def Bv {n:Nat}{l:@A_}{r:@Db}(h:Row n l r):xK n l (tupI r)=true:=@Rk _ @SL ⟨r,rfl,h⟩
def JU {n:Nat}{l:@A_}{d:D}(h:∀r:@Db,d=tupI r->¬Row n l r):xK n l d=false:=@Rt _ @SL λ⟨r,e,p⟩=>h r e p
noncomputable def ON:@Cl:=aS 3 2 (iE Ce ML)
def FK {n:Nat}{r:@Db}(h:r.Perm (bD n)){a b:Int}(ha:0<=a/\a < n)(hb:0<=b/\b < n){fp fa fb:VF D}{vs:List Nv}{β:Int}(hp:fp vs β=.ok (.list ((uv r).map int)) β)(h1:@Tm=.ok (.int a) β)(h2:fb vs β=.ok (.int b) β) :
  f2 (f2 fp fa bB) (f2 fp fb bB) qG vs β=.ok (.bool (decide (r.idxOf a < r.idxOf b))) β:=by
 refine aG (aG hp h1 (show m9 ((uv r).map int) a=_ by rw[oq,EM h ha];rfl)) (aG hp h2 (show m9 ((uv r).map int) b=_ by rw[oq,EM h hb];rfl)) ?_
 show some (PyData.bool (decide (((r.idxOf a:Nat):Int) < ((r.idxOf b:Nat):Int))))=_
 congr 2
 rw[Sf,Rq,Rq]
 omega
theorem P4 {n:Nat}{l:@A_}{d:D}(O:@KK)(h:Ge d):ON [d,ag n l]=.ok (.bool (xK n l d)) false:=by
 have h8:=O.hi
 show fin (iE Ce ML [.fz d,@C_,.no] 0)=_
 unfold iE
 have t:i3 (aq Ce (aa (gv 0) (aa (f2 (gv 1) @FM bB) ao))) (vl [.fz d,@C_,.no]) 0=.ok (sS n d) 0:=eS (ak (ds:=[d,.int n]) (ac rfl (ac (MQ (n:=n) (l:=l) rfl) an)) (Lf (@AT) h))
 cases q:sS n d with
 |false=>
  rw[q] at t
  rw[jm (d:=.bool false) (b:=false) (β':=0) (by rw[mU (eT t)];rfl),JU]
  ·rfl
  ·rintro r rfl hr
   rw[zu hr.1] at q;cases q
 |true=>
  rw[q] at t
  obtain⟨r,rfl,pm⟩:=Lu q
  rw[aH (env':=[.fz (tupI r),@C_,.no]) (β':=0) (by rw[j7 (eT t)];rfl)]
  rw[aH (env':=[.fz (tupI r),@C_,.fz (.list ((uv r).map int))]) (β':=0) (by rw[cO,ak (ds:=[tupI r]) (β1:=0) rfl (Na (@AT) pm)];rfl)]
  have ec:aN 2 [2] (.two 0 1) (bH (f2 (gv 1) @Fa bB)) i7 (f2 (f2 (gv 2) (gv 0) bB) (f2 (gv 2) (gv 1) bB) qG) (vl [.fz (tupI r),@C_,.fz (.list ((uv r).map int))]) 0=.ok (.list (l.map λp=>PyData.bool (decide (r.idxOf p.1 < r.idxOf p.2)))) 0:=by
   refine bL (l:=l) (e:=aA) (λp=>PyData.bool (decide (r.idxOf p.1 < r.idxOf p.2))) rfl (by have:=jk O;omega) λp hp=>⟨_,rfl,?_⟩
   have hw:=O.wn p hp
   exact FK pm hw.1 hw.2 rfl rfl rfl
  rw[du,Af (f:=λp=>decide (r.idxOf p.1 < r.idxOf p.2)) ec]
  show FR.ok (.bool (uE l r)) false=_
  cases qf:uE l r with
  |true=>rw[Bv ⟨pm,qf⟩]
  |false=>
   rw[JU]
   rintro r' e hr
   have e:=tW e
   subst e
   rw[hr.2] at qf;cases qf
def Gt (d:D):Prop:=fA d=false/\∀ds,d=.list ds->ds.length<=100/\∀e,e∈ds->Ge e
noncomputable def zk (n:Nat)(l:@A_)(d:D):Bool:=@decide (∃rs:@LE,d=@D_/\rs≠ []/\∀r,r∈rs->Row n l r) @SL
def KW {n:Nat}{l:@A_}{d:D}(h:zk n l d=true):∃rs:@LE,d=@D_/\rs≠ []/\∀r,r∈rs->Row n l r:=@RZ _ @SL h
def vQ {n:Nat}{l:@A_}{rs:@LE}(h1:rs≠ [])(h:∀r,r∈rs->Row n l r):zk n l (@D_)=true:=@Rk _ @SL ⟨rs,rfl,h1,h⟩
def zG {n:Nat}{l:@A_}{d:D}(h:∀rs:@LE,d=@D_->rs≠ []->∃r,r∈rs/\¬Row n l r):zk n l d=false:=@Rt _ @SL λ⟨r,e,h1,h2⟩=>by
 obtain⟨x,hx,hn⟩:=h r e h1
 exact hn (h2 x hx)
theorem all_rows {n:Nat}{l:@A_}:∀{ds:List D},ds.all (xK n l)=true->∃rs:@LE,ds=rs.map tupI/\∀r,r∈rs->Row n l r
 | [],_=>⟨[],rfl,λr hr=>by cases hr⟩
 |d :: ds,h=>by
  rw[Ud,RC] at h
  obtain⟨r,rfl,hr⟩:=N6 h.1
  obtain⟨rs,rfl,hrs⟩:=all_rows h.2
  refine⟨r :: rs,rfl,λx hx=>?_⟩
  rcases Rm.mp hx with rfl |hx
  ·exact hr
  ·exact hrs x hx
noncomputable def PV:@Cl:=aS 2 2 (my ON)
theorem Qk {n:Nat}{l:@A_}{d:D}(O:@KK)(h:Gt d):PV [d,ag n l]=.ok (.bool (zk n l d)) false:=by
 show fin (my ON [.fz d,@C_] 0)=_
 unfold my
 have e1:=Ol (fa:=gv 0) (vs:=vl [.fz d,@C_]) (β:=0) rfl h.1
 cases q:LM d with
 |false=>
  rw[q] at e1
  rw[jm (d:=.bool false) (b:=false) (β':=0) (by rw[mU (JS (eT (eS e1)))];rfl),zG]
  ·rfl
  ·rintro rs rfl;cases q
 |true=>
  rw[q] at e1
  obtain⟨ds,rfl⟩:=GU q
  have hd:=h.2 ds rfl
  have t2:eO (f2 (f1 (gv 0) cJ) @FM (gq false)) (vl [.fz (.list ds),@C_]) 0=.ok (decide ((ds.length:Int)=0)) 0:=ju (neg:=false) (o4 rfl) rfl
  cases ds with
  |nil=>
   rw[jm (d:=.bool false) (b:=false) (β':=0) (by rw[mU (yG (eT (eS e1)) t2)];rfl),zG]
   ·rfl
   ·intro rs e hne
    have e:=PyData.list.inj e
    cases rs with
    |nil=>exact absurd rfl hne
    |cons=>cases e
  |cons x ds=>
   rw[Rt (by simp;omega)] at t2
   rw[aH (env':=[.fz (.list (x :: ds)),@C_]) (β':=0) (by rw[j7 (yG (eT (eS e1)) t2)];rfl)]
   have ec:aN 1 [1] (.nm 0) (bH (gv 0)) i7 (aq ON @Fk) (vl [.fz (.list (x :: ds)),@C_]) 0=.ok (.list ((x :: ds).map λe=>PyData.bool (xK n l e))) 0:=
    vB (λe=>PyData.bool (xK n l e)) rfl (@AT) λe he=>⟨_,rfl,ak (ds:=[e,ag n l]) rfl (P4 O (hd.2 e he))⟩
   rw[du,BA (f:=xK n l) ec]
   cases qa:(x :: ds).all (xK n l) with
   |true=>
    obtain⟨rs,e,hrs⟩:=all_rows qa
    rw[e,vQ (by rintro rfl;cases e) hrs];rfl
   |false=>
    rw[zG]
    ·rfl
    ·intro rs e hne
     have e:=PyData.list.inj e
     rw[e,T6,List.all_eq_false] at qa
     obtain⟨r,hr,hx⟩:=qa
     exact⟨r,hr,λz=>hx (Bv z)⟩
def wH (rs:@LE)(p:Pr):Bool:=rs.all λr=>decide (r.idxOf p.1 < r.idxOf p.2)
def OQ:@Cl:=aS 3 3 gL
def GX {α:Type}{fa:VF D}{vs:List Nv}{β:Int}{l:List α}{f:α->Bool}(h:@Tm=.ok (.list (l.map λq=>PyData.bool (f q))) β):f1 fa (bY λbs=>bs.all id) vs β=.ok (.bool (l.all f)) β:=by
 refine cQ h ?_
 simp only[bY]
 rw[gn]
 simp[T6,Function.comp_def]
def Pw {n:Nat}{rs:@LE}(hz:rs.length<=1000)(hp:∀r,r∈rs->r.Perm (bD n)){a b:Int}(ha:0<=a/\a < n)(hb:0<=b/\b < n):OQ [.list (rs.map λr=>.list ((uv r).map int)),.int a,.int b]=.ok (.bool (wH rs (a,b))) false:=by
 show fin (gL [.fz (.list (rs.map λr=>.list ((uv r).map int))),.fz (.int a),.fz (.int b)] 0)=_
 unfold gL
 have ec:aN 1 [1,2] (.nm 0) (bH (gv 0)) i7 (f2 (f2 (gv 0) (gv 1) bB) (f2 (gv 0) (gv 2) bB) qG) (vl [.fz (.list (rs.map λr=>.list ((uv r).map int))),.fz (.int a),.fz (.int b)]) 0=.ok (.list (rs.map λr=>PyData.bool (decide (r.idxOf a < r.idxOf b)))) 0:=
  bL (l:=rs) (e:=λr=>.list ((uv r).map int)) (λr=>PyData.bool (decide (r.idxOf a < r.idxOf b))) rfl (@AT) λr hr=>⟨_,rfl,FK (hp r hr) ha hb rfl rfl rfl⟩
 rw[du,GX ec];rfl
noncomputable def OW:@Cl:=aS 3 2 (gx ML eB OQ)
def Lk {n:Nat}{rs:@LE}(h1:1<=n)(h8:n<=8)(hz:rs.length<=1000)(hp:∀r,r∈rs->r.Perm (bD n)):OW [.int n,@D_]=.ok (.tuple (((OM.bw n).filter (wH rs)).map aA)) false:=by
 show fin (gx ML eB OQ [.fz @Re,.fz (@D_),.no] 0)=_
 unfold gx
 have e1:aN 1 [] (.nm 0) (bH (gv 1)) i7 (aq ML @K_) (vl [.fz @Re,.fz (@D_),.no]) 0=.ok (.list (rs.map λr=>.list ((uv r).map int))) 0:=
  bL (l:=rs) (e:=tupI) (λr=>.list ((uv r).map int)) rfl (@AT) λr hr=>⟨_,rfl,ak (ds:=[tupI r]) rfl (Na (@AT) (hp r hr))⟩
 rw[aH (env':=[.fz @Re,.fz (@D_),.fz (.list (rs.map λr=>.list ((uv r).map int)))]) (β':=0) (by rw[cO,e1];rfl)]
 have hg:(OM.bw n).length<=64:=by rw[dC];exact Ss h8 h8
 have e2:aN 2 [2] (.two 0 1) (bH (aq eB @K_)) (i3 (aq OQ (aa (gv 2) @Fk))) (cq @Fk) (vl [.fz @Re,.fz (@D_),.fz (.list (rs.map λr=>.list ((uv r).map int)))]) 0=.ok (.list (((OM.bw n).filter (wH rs)).map aA)) 0:=by
  refine cm (l:=OM.bw n) (e:=aA) (wH rs) aA ?_ (@AT) λp hp'=>⟨_,rfl,?_,λ_=>cX rfl rfl⟩
  ·unfold bH
   rw[ak (ds:=[.int n]) (β1:=0) rfl (rF h1 h8)];rfl
  ·have:=OM.aY.mp hp'
   exact eS (ak (ds:=[.list (rs.map λr=>.list ((uv r).map int)),.int p.1,.int p.2]) rfl (Pw hz hp this.1 this.2))
 rw[du,cQ (g:=gR) e2 rfl];rfl
def Nd {n:Nat}{rs:@LE}(h1:1<=n)(h8:n<=8)(hz:rs.length<=100)(hp:∀r,r∈rs->r.Perm (bD n)):OW [.int n,@D_]=.ok (.tuple (((OM.bw n).filter (wH rs)).map aA)) false:=Lk h1 h8 (@AT) hp
theorem any_ints (a:Int):∀s:@Db,((s.map int).any λe=>PyData.eqv e (.int a))=decide (a∈s)
 | []=>rfl
 |b :: s=>by
  rw[Sx,Ta,any_ints a s]
  show ((b == a) || _)=_
  rw[Sf]
  simp only[SV,beq_iff_eq,Rq,Rm]
  exact⟨λh=>h.imp Eq.symm id,λh=>h.imp Eq.symm id⟩
def Dy (s:@Db):(s.map int).all SeqAt.shaped=true:=by
 rw[RH]
 intro d hd
 obtain⟨p,_,rfl⟩:=Rz.mp hd
 rfl
def yL {a b:List D}(h:a.length + b.length<=1000):kK (.tuple a) (.tuple b)=some (.tuple (a ++ b)):=Rg (by rw[R7];omega)
def NH {fa fb:VF D}{vs:List Nv}{β β1 β2:Int}{r q:@Db}(h1:@Tm=.ok (tupI r) β1)(h2:fb vs β1=.ok (tupI q) β2)(hz:r.length + q.length<=1000):f2 fa fb kK vs β=.ok (tupI (r ++ q)) β2:=
 aG h1 h2 (by unfold tupI;rw[yL (by simpa using hz),<-RS])
def DW (l:@A_)(r:@Db)(x:Int):@Db:=(l.filter λp=>decide (p.2=x) && !decide (p.1∈r)).map (·.1)
def mJ {l:@A_}{r:@Db}{x a:Int}:a∈DW l r x↔(a,x)∈l/\a∉r:=by
 unfold DW
 rw[Rz]
 constructor
 ·rintro⟨p,hp,rfl⟩
  have:=Rl.mp hp
  simp only[RC,Rq,T2,Ti] at this
  obtain⟨pa,pb⟩:=p
  obtain⟨h1,h2,h3⟩:=this
  simp only at h2 h3
  subst h2
  exact⟨h1,h3⟩
 ·rintro⟨h1,h2⟩
  exact⟨(a,x),Rl.mpr ⟨h1,by simp[h2]⟩,rfl⟩
def Dl {n:Nat}{l:@A_}(O:@KK)(r:@Db)(x:Int):(DW l r x).Nodup:=by
 unfold DW
 rw[TB,TH]
 refine List.Pairwise.imp_of_mem (λ{a b} ha hb h e=>h ?_) (TB.mp ((OM.ip O.ris).filter _))
 have h1:=(Rl.mp ha).2
 have h2:=(Rl.mp hb).2
 simp only[RC,Rq] at h1 h2
 exact Prod.ext e (h1.1.trans h2.1.symm)
theorem least {n:Nat}{l:@A_}(O:@KK)(r:@Db):∀(k:Nat) (x:Int),(0<=x/\x < n)->x∉r->(DW l r x).length<=k->∃y:Int,(0<=y/\y < n)/\y∉r/\DW l r y= []
 | 0,x,hx,hr,hk=>⟨x,hx,hr,List.length_eq_zero_iff.mp (@AT)⟩
 |k + 1,x,hx,hr,hk=>by
  by_cases he:DW l r x= []
  ·exact⟨x,hx,hr,he⟩
  ·obtain⟨a,ha⟩:=List.exists_mem_of_ne_nil _ he
   obtain⟨h1,h2⟩:=mJ.mp ha
   refine least O r k a (O.wn _ h1).1 h2 ?_
   have nd:(a :: DW l r a).Nodup:=R5.mpr ⟨λq=>O.irr a (mJ.mp q).1,Dl O r a⟩
   have:=L2.ST.gm nd (m:=DW l r x) λy hy=>by
    rcases Rm.mp hy with rfl |hy
    ·exact ha
    ·obtain⟨q1,q2⟩:=mJ.mp hy
     exact mJ.mpr ⟨O.tr _ _ _ q1 h1,q2⟩
   rw[RL] at this
   omega
structure GP (n:Nat)(l:@A_)(r:@Db):Prop where
 nd:r.Nodup
 inn:∀x,x∈r->0<=x/\x < (n:Int)
 fit:∀p,p∈l->p.2∈r->p.1∈r/\r.idxOf p.1 < r.idxOf p.2
def GP.len {n:Nat}{l:@A_}{r:@Db}(B:GP n l r):r.length<=n:=by
 have:=L2.ST.gm B.nd (m:=bD n) λx hx=>az.mpr (B.inn x hx)
 rwa [b7] at this
def GP.row {n:Nat}{l:@A_}{r:@Db}(O:@KK)(B:GP n l r)(h:n<=r.length):Row n l r:=by
 have pm:=yY (Nat.le_antisymm B.len h) B.inn B.nd
 refine⟨pm,RH.mpr λp hp=>Rk ?_⟩
 exact (B.fit p hp (pm.mem_iff.mpr (az.mpr (O.wn p hp).2))).2
def jf (l:@A_)(r:@Db)(x:Int):Bool:= !decide (x∈r) && decide (DW l r x= [])
def GP.more {n:Nat}{l:@A_}{r:@Db}{x:Int}(B:GP n l r)(hx:0<=x/\x < (n:Int))(hf:jf l r x=true):GP n l (r ++ [x]):=by
 unfold jf at hf
 rw[RC,T2,Ti,Rq] at hf
 obtain⟨h1,h2⟩:=hf
 refine⟨?_,λy hy=>?_,λp hp hm=>?_⟩
 ·rw[Tf]
  refine⟨B.nd,R5.mpr ⟨@KM,Uv⟩,λa ha b hb=>?_⟩
  rw[RE] at hb
  subst hb
  exact λq=>h1 (q▸ha)
 ·rcases Rw.mp hy with hy |hy
  ·exact B.inn y hy
  ·rw[RE] at hy;subst hy;exact hx
 ·rcases Rw.mp hm with hm |hm
  ·obtain⟨q1,q2⟩:=B.fit p hp hm
   refine⟨Sg _ q1,?_⟩
   rw[T4,T4,Rg q1,Rg hm]
   exact q2
  ·rw[RE] at hm
   have hp1:p.1∈r:=by
    by_cases z:p.1∈r
    ·exact z
    ·have:p.1∈DW l r x:=mJ.mpr ⟨by rw[<-hm];exact hp,z⟩
     rw[h2] at this;cases this
   refine⟨Sg _ hp1,?_⟩
   rw[T4,T4,Rg hp1,Rj (by rw[hm];exact h1)]
   have:=Sh.mpr hp1
   omega
def GP.free {n:Nat}{l:@A_}{r:@Db}(O:@KK)(B:GP n l r)(h:r.length < n):(bD n).filter (jf l r)≠ []:=by
 have:∃x,x∈bD n/\x∉r:=by
  apply Classical.byContradiction
  intro z
  have:=L2.ST.gm (fR n) (m:=r) λx hx=>Classical.byContradiction λq=>z ⟨x,hx,q⟩
  rw[b7] at this
  omega
 obtain⟨x,hx,hr⟩:=this
 obtain⟨y,hy,hyr,hp⟩:=least O r _ x (az.mp hx) hr (Rh _)
 intro q
 have:y∈(bD n).filter (jf l r):=Rl.mpr ⟨az.mpr hy,by unfold jf;simp[hyr,hp]⟩
 rw[q] at this
 cases this
def e8 (l:@A_)(r:@Db)(i:Nat):@Db:=(bD i).filter (jf l r)
def Fs (i:Nat):bD (i + 1)=bD i ++ [(i:Int)]:=by unfold bD;rw[List.range_succ,RS];rfl
def vK (l:@A_)(r:@Db)(i:Nat):e8 l r (i + 1)=e8 l r i ++ if jf l r (i:Int)=true then [(i:Int)] else []:=by
 unfold e8
 rw[Fs,List.filter_append]
 congr 1
 by_cases h:jf l r (i:Int)=true
 ·rw[Rg h];simp[h]
 ·rw[Rj h];simp[h]
def pX (l:@A_)(r:@Db)(i:Nat):(e8 l r i).length<=i:=by
 have:(e8 l r i).length<=(bD i).length:=Se _ _
 rwa [b7] at this
end RM
namespace RM
open PySem L2 PyProof.Rows
def mk (f:Nat->Bool):Nat->Nat
 | 0=>0
 |n + 1=>mk f n ||| if f n=true then 2 ^ n else 0
theorem jb (f:Nat->Bool):∀(n i:Nat),(mk f n).testBit i=(decide (i < n) && f i)
 | 0,i=>by simp[mk]
 |n + 1,i=>by
  unfold mk
  rw[Nat.testBit_or,jb f n i]
  by_cases h:f n=true
  ·rw[Rg h,Nat.testBit_two_pow]
   by_cases e:n=i
   ·subst e;simp[h]
   ·have e2:decide (i < n)=decide (i < n + 1):=by
     rw[SD];omega
    simp[e,e2]
  ·rw[Rj h]
   by_cases e:i=n
   ·subst e;simp[h]
   ·have e2:decide (i < n)=decide (i < n + 1):=by
     rw[SD];omega
    simp[e2]
def mk_eq {f g:Nat->Bool}{n:Nat}:mk f n=mk g n↔∀i,i < n->f i=g i:=by
 constructor
 ·intro h i hi
  have:=congrArg (λx=>x.testBit i) h
  simp only[jb,Rk hi,Bool.true_and] at this
  exact this
 ·intro h
  apply Ub
  intro i
  rw[jb,jb]
  by_cases hi:i < n
  ·rw[h i hi]
  ·rw[Rt hi];simp
def i6 (f:Nat->Bool)(t:Nat):Nat->Bool:=λi=>f i || decide (i=t)
def Oa {f:Nat->Bool}{n t:Nat}(h:t < n):mk f n ||| 2 ^ t=mk (i6 f t) n:=by
 apply Ub
 intro i
 rw[Nat.testBit_or,jb,jb,Nat.testBit_two_pow]
 unfold i6
 by_cases e:t=i
 ·subst e;simp[h]
 ·have e':¬i=t:=λq=>e q.symm
  simp[e,e']
def MI {f g:Nat->Bool}{n:Nat}:(mk f n &&& mk g n=mk g n)↔∀i,i < n->g i=true->f i=true:=by
 have e:mk f n &&& mk g n=mk (λi=>f i && g i) n:=by
  apply Ub
  intro i
  rw[Nat.testBit_and,jb,jb,jb]
  by_cases h:i < n
  ·simp[h]
  ·simp[h]
 rw[e,mk_eq]
 constructor
 ·intro h i hi hg
  have:=h i hi
  rw[hg,Bool.and_true] at this
  exact this
 ·intro h i hi
  cases hg:g i with
  |false=>simp
  |true=>rw[h i hi hg];rfl
def vI (a b:Nat):Builtin.bitOr (a:Int) (b:Int)=((a ||| b:Nat):Int):=by
 have h1:¬(0<=Builtin.bitNot (a:Int)):=by show ¬(0<= -(a:Int) - 1);omega
 have h2:¬(0<=Builtin.bitNot (b:Int)):=by show ¬(0<= -(b:Int) - 1);omega
 show Builtin.bitNot (Builtin.bitAnd (Builtin.bitNot a) (Builtin.bitNot b))=_
 rw[bitAnd_nn h1 h2]
 have e1:Builtin.bitNot (Builtin.bitNot (a:Int))=a:=by show -(-(a:Int) - 1) - 1=a;omega
 have e2:Builtin.bitNot (Builtin.bitNot (b:Int))=b:=by show -(-(b:Int) - 1) - 1=b;omega
 rw[e1,e2]
 show -(-((((a:Int).toNat ||| (b:Int).toNat:Nat):Int)) - 1) - 1=_
 rw[RT,RT];omega
def AH (a b:Nat):Builtin.bitAnd (a:Int) (b:Int)=((a &&& b:Nat):Int):=by
 rw[bitAnd_pp (@AT) (@AT),RT,RT]
def mI (f:Nat->Bool)(n:Nat):D:=.int ((mk f n:Nat):Int)
def K9:∀t:Nat,t < 8->Mn (.int 1) (.int (t:Int))=some (.int ((2 ^ t:Nat):Int)):=by
 intro t ht
 have:t=0\/t=1\/t=2\/t=3\/t=4\/t=5\/t=6\/t=7:=@AT
 rcases this with rfl |rfl |rfl |rfl |rfl |rfl |rfl |rfl <;> rfl
def zt:@Cl:=aS 2 2 jl
def Ep {f:Nat->Bool}{n t:Nat}(h8:n<=8)(h:t < n):zt [mI f n,.int (t:Int)]=.ok (mI (i6 f t) n) false:=by
 show fin (jl [.fz (mI f n),.fz (.int t)] 0)=_
 unfold jl
 rw[du,aG (x:=mI f n) (y:=.int ((2 ^ t:Nat):Int)) (d:=mI (i6 f t) n) (β1:=0) (β2:=0) rfl (aG (x:=.int 1) (y:=.int t) rfl rfl (K9 t (@AT))) ?a]
 ·rfl
 case a=>
  show some (int (Builtin.bitOr _ _))=_
  rw[vI,Oa h];rfl
def cG (n:Nat)(M:Nat->Nat->Bool):D:=.list ((List.range n).map λb=>mI (M b) n)
def bQ (l:@A_)(b a:Nat):Bool:=decide ((((a:Nat):Int),((b:Nat):Int))∈l)
def EA {n b:Nat}{M:Nat->Nat->Bool}(h:b < n):m9 ((List.range n).map λb=>mI (M b) n) (b:Int)=some (mI (M b) n):=kM (by rw[RA,S6 h];rfl)
def Qs:@Cl:=aS 4 1 (iB zt)
def orM (M:Nat->Nat->Bool)(p:Pr)(b a:Nat):Bool:=M b a || (decide ((b:Int)=p.2) && decide ((a:Int)=p.1))
def LC {n:Nat}{M:Nat->Nat->Bool}{p:Pr}(h1:0<=p.1/\p.1 < n)(h2:0<=p.2/\p.2 < n):((List.range n).map λb=>mI (M b) n).set p.2.toNat (mI (i6 (M p.2.toNat) p.1.toNat) n)=(List.range n).map λb=>mI (orM M p b) n:=by
 refine TN (@KM) λi h3 h4=>?_
 rw[List.getElem_set]
 simp only[List.getElem_map,List.getElem_range]
 unfold mI
 by_cases e:p.2.toNat=i
 ·rw[Rg e]
  congr 2
  rw[mk_eq]
  intro j hj
  unfold i6 orM
  rw[e]
  have e1:((i:Nat):Int)=p.2:=@AT
  rw[Rk e1,Bool.true_and]
  congr 1
  rw[SD];omega
 ·rw[Rj e]
  congr 2
  rw[mk_eq]
  intro j hj
  unfold orM
  rw[Rt (@AT:¬((i:Nat):Int)=p.2)];simp
theorem Bn {n:Nat}{l:@A_}(h8:n<=8):∀(ps:@A_) (M:Nat->Nat->Bool) (s2 s3:Sl),OM.Wn n ps->∃M' s2' s3',mV (.two 2 3) (tZ 1 (@GT ++ ([2] ++ [])) [] (aq zt (aa (f2 (gv 1) (gv 3) bB) (aa (gv 2) ao))) (gv 3)) (ps.map aA) [@C_,.ow (cG n M),s2,s3] 0=.nx [@C_,.ow (cG n M'),s2',s3'] 0/\∀b a,b < n->a < n->M' b a=(M b a || bQ ps b a)
 | [],M,s2,s3,_=>⟨M,s2,s3,rfl,λb a _ _=>by unfold bQ;simp⟩
 |p :: ps,M,s2,s3,wn=>by
  have hp:=wn p (Ro ..)
  obtain⟨M',s2',s3',e,hM⟩:=Bn (l:=l) h8 ps (orM M p) (.fz (.int p.1)) (.fz (.int p.2)) λq hq=>wn q (Ru _ hq)
  refine⟨M',s2',s3',?_,λb a hb ha=>?_⟩
  ·rw[Sx]
   unfold mV
   rw[show jg (.two 2 3) (aA p) [@C_,.ow (cG n M),s2,s3]=some [@C_,.ow (cG n M),.fz (.int p.1),.fz (.int p.2)] from rfl]
   dsimp only
   have e1:(p.2.toNat:Int)=p.2:=@AT
   have e2:(p.1.toNat:Int)=p.1:=@AT
   have ew:aq zt (aa (f2 (gv 1) (gv 3) bB) (aa (gv 2) ao)) (vl [@C_,.ow (cG n M),.fz (.int p.1),.fz (.int p.2)]) 0=.ok (mI (i6 (M p.2.toNat) p.1.toNat) n) 0:=by
    refine ak (b:=false) (ds:=[mI (M p.2.toNat) n,.int (p.1.toNat:Int)]) (ac (aG (x:=cG n M) (y:=.int p.2) rfl rfl ?_) (ac ?_ an)) (Ep h8 (@AT))
    ·have:=EA (n:=n) (M:=M) (b:=p.2.toNat) (@AT)
     rw[e1] at this
     exact this
    ·show R.ok (int p.1) 0=_
     rw[e2]
   rw[zy (ds:=(List.range n).map λb=>mI (M b) n) (d:=mI (i6 (M p.2.toNat) p.1.toNat) n) (k:=p.2) (n:=p.2.toNat) (β1:=0) (β2:=0) ew (by rfl) rfl (by rfl) (by
    unfold xR
    rw[Rg hp.2.1,Rg (by simp;omega)]),LC hp.1 hp.2]
   dsimp only
   exact e
  ·rw[hM b a hb ha]
   unfold orM bQ
   obtain⟨p1,p2⟩:=p
   rw[Bool.or_assoc]
   congr 1
   rw[Sf]
   simp only[SV,RC,Rq,Rm,Prod.mk.injEq]
   constructor
   ·rintro (⟨h1,h2⟩ |h)
    ·exact .inl ⟨h2,h1⟩
    ·exact .inr h
   ·rintro (⟨h1,h2⟩ |h)
    ·exact .inl ⟨h2,h1⟩
    ·exact .inr h
def CJ {n:Nat}{M N:Nat->Nat->Bool}(h:∀b a,b < n->a < n->M b a=N b a):cG n M=cG n N:=by
 unfold cG
 congr 1
 refine SH λb hb=>?_
 unfold mI
 congr 2
 rw[mk_eq]
 exact λa ha=>h b a (RW.mp hb) ha
def Qo {n:Nat}{l:@A_}(O:@KK):Qs [ag n l]=.ok (cG n (bQ l)) true:=by
 have h8:=O.hi
 show fin (iB zt [@C_,.no,.no,.no] 0)=_
 unfold iB
 rw[aH (env':=[@C_,.ow (cG n λ_ _=>false),.no,.no]) (β':=0) ?a]
 case a=>
  have e:f2 (fo (aa @FM ao)) @R_ rk (vl [@C_,.no,.no,.no]) 0=.ok (cG n λ_ _=>false) 0:=by
   refine aG (lp (ac (ck _) an)) (MQ (n:=n) (l:=l) rfl) ?_
   simp only[rk]
   rw[Rg ⟨@AT,@AT,by rw[R7];simp;omega⟩]
   unfold cG
   congr 2
   rw[RT]
   have hz:∀m,mk (λ_=>false) m=0:=λm=>by
    induction m with
    |zero=>rfl
    |succ m ih=>unfold mk;rw[ih];simp
   unfold mI
   simp only[hz]
   have:∀m:Nat,(List.replicate m [int 0]).flatten=List.replicate m (int 0):=λm=>by
    induction m with
    |zero=>rfl
    |succ m ih=>rw[R8,R8,SQ,ih];rfl
   rw[this]
   refine TN (@KM) λi h1 h2=>@KM
  rw[lI,e];rfl
 obtain⟨M',s2,s3,e,hM⟩:=Bn (l:=l) h8 l (λ_ _=>false) .no .no O.wn
 have hm:cG n M'=cG n (bQ l):=CJ λb a hb ha=>by rw[hM b a hb ha];rfl
 rw[hm] at e
 rw[aH (env':=[@C_,.ow (cG n (bQ l)),s2,s3]) (β':=0) (by
  rw[jU (env:=[@C_,.ow (cG n λ_ _=>false),.no,.no]) (ds:=l.map aA) (β1:=0) (by unfold bH;rw[N2 (n:=n) (l:=l) rfl];rfl)]
  exact e)]
 rfl
end RM
namespace RM
open PySem L2
def eY (r:@Db)(i:Nat):Bool:=decide ((i:Int)∈r)
def O3:@Cl:=aS 5 2 (iL zt)
def ED {n:Nat}{l:@A_}(O:@KK){r:@Db}{t:Nat}(ht:t < n):(!decide (mk (i6 (eY r) t) n=mk (eY r) n) && decide (mk (eY r) n &&& mk (bQ l t) n=mk (bQ l t) n))=jf l r t:=by
 unfold jf
 congr 1
 ·congr 1
  rw[SD,mk_eq]
  constructor
  ·intro h
   have:=h t ht
   unfold i6 eY at this
   simp at this
   exact this
  ·intro h i hi
   unfold i6 eY
   by_cases e:i=t
   ·subst e;simp[h]
   ·simp[e]
 ·rw[SD,MI]
  constructor
  ·intro h
   rw[List.eq_nil_iff_forall_not_mem]
   intro a ha
   obtain⟨h1,h2⟩:=mJ.mp ha
   have hw:=(O.wn _ h1).1
   simp only at hw
   have e:((a.toNat:Nat):Int)=a:=@AT
   have:=h a.toNat (@AT) (by unfold bQ;rw[e];exact Rk h1)
   unfold eY at this
   rw[e] at this
   exact h2 (RZ this)
  ·intro h i hi hg
   unfold eY
   refine Rk (Classical.byContradiction λq=>?_)
   have:(i:Int)∈DW l r t:=mJ.mpr ⟨RZ hg,q⟩
   rw[h] at this;cases this
def G6 {n:Nat}{l:@A_}(O:@KK)(r:@Db):∃s3 s4,mV (.two 3 4) (lx ((([1] ++ ([3] ++ [])) ++ []) ++ (@GT ++ [])) (Gg (eO (f2 (aq zt (aa (gv 1) (aa (gv 3) ao))) (gv 1) (gq true))) (eO (f2 (f2 (gv 1) (gv 4) Ew) (gv 4) (gq false))))
  (pB 2 [3] (gv 3)) m8) (dU ((List.range n).map λb=>mI (bQ l b) n)) [@I_,@Sc,.ow (.list []),.no,.no] 0=.nx [@I_,@Sc,.ow (.list ((e8 l r n).map int)),s3,s4] 0:=by
 have h8:=O.hi
 obtain⟨env',β',ef,s3,s4,rfl,rfl⟩:=lH (t:=.two 3 4) (m:=lx ((([1] ++ ([3] ++ [])) ++ []) ++ (@GT ++ [])) (Gg (eO (f2 (aq zt (aa (gv 1) (aa (gv 3) ao))) (gv 1) (gq true))) (eO (f2 (f2 (gv 1) (gv 4) Ew) (gv 4) (gq false))))
  (pB 2 [3] (gv 3)) m8) (ds:=dU ((List.range n).map λb=>mI (bQ l b) n)) (k:=0)
  (λk env b=>∃s3 s4,env= [@I_,@Sc,.ow (.list ((e8 l r k).map int)),s3,s4]/\b=0)
  (env:=[@I_,@Sc,.ow (.list []),.no,.no]) (β:=0) ⟨.no,.no,rfl,rfl⟩ (by
   rintro k d env b hk ⟨s3,s4,rfl,rfl⟩
   unfold dU at hk
   rw[Ua,RA] at hk
   have hkn:k < n:=by
    by_cases h:k < n
    ·exact h
    ·rw[SW (by simp;omega)] at hk;cases hk
   rw[S6 hkn] at hk
   cases hk
   refine⟨[@I_,@Sc,.ow (.list ((e8 l r (0 + k)).map int)),.fz (.int k),.fz (mI (bQ l k) n)],rfl,?_⟩
   rw[S7]
   have et:Gg (eO (f2 (aq zt (aa (gv 1) (aa (gv 3) ao))) (gv 1) (gq true))) (eO (f2 (f2 (gv 1) (gv 4) Ew) (gv 4) (gq false))) (vl [@I_,@Sc,.ow (.list ((e8 l r k).map int)),.fz (.int k),.fz (mI (bQ l k) n)]) 0=.ok (jf l r k) 0:=by
    rw[<-ED O hkn]
    refine GB (gC _ _ _ _ (aG (x:=mI (i6 (eY r) k) n) (y:=mI (eY r) n) (ak (ds:=[mI (eY r) n,.int k]) rfl (Ep h8 hkn)) rfl ?_)) (gC _ _ _ _ (aG (x:=.int ((mk (eY r) n &&& mk (bQ l k) n:Nat):Int)) (y:=mI (bQ l k) n) (aG (x:=mI (eY r) n) (y:=mI (bQ l k) n) rfl rfl ?_) rfl ?_))
    ·unfold mI;rw[nW,Rg rfl];congr 3;rw[SD];omega
    ·show some (int (Builtin.bitAnd _ _))=_
     rw[AH]
    ·unfold mI;rw[nW,Rj RK];congr 2;rw[SD];omega
   cases c:jf l r (k:Int) with
   |true=>
    rw[c] at et
    refine⟨[@I_,@Sc,.ow (.list ((e8 l r (k + 1)).map int)),.fz (.int k),.fz (mI (bQ l k) n)],0,?_,_,_,rfl,rfl⟩
    rw[mU et]
    have hz:=pX l r k
    rw[show a8 ((([1] ++ ([3] ++ [])) ++ []) ++ (@GT ++ [])) [@I_,@Sc,.ow (.list ((e8 l r k).map int)),.fz (.int k),.fz (mI (bQ l k) n)]= [@I_,@Sc,.ow (.list ((e8 l r k).map int)),.fz (.int k),.fz (mI (bQ l k) n)] from rfl]
    rw[rQ (i:=2) (ds:=(e8 l r k).map int) (d:=.int k) (β':=0) (by rfl) rfl (by rfl) (by rw[Rb];omega),vK,Rg c,RS]
    rfl
   |false=>
    rw[c] at et
    refine⟨[@I_,@Sc,.ow (.list ((e8 l r (k + 1)).map int)),.fz (.int k),.fz (mI (bQ l k) n)],0,?_,_,_,rfl,rfl⟩
    rw[j7 et,vK,c,show e8 l r k ++ (if false=true then [(k:Int)] else [])=e8 l r k by simp]
    rfl)
 have hle:(dU ((List.range n).map λb=>mI (bQ l b) n)).length=n:=by unfold dU;simp
 rw[S7,hle] at ef
 exact⟨s3,s4,ef⟩
def Qf {n:Nat}{l:@A_}(O:@KK)(r:@Db):O3 [cG n (bQ l),mI (eY r) n]=.ok (.list ((e8 l r n).map int)) true:=by
 show fin (iL zt [@I_,@Sc,.no,.no,.no] 0)=_
 unfold iL
 rw[aH (env':=[@I_,@Sc,.ow (.list []),.no,.no]) (β':=0) (by rw[lI,lp (ds:=[]) an];rfl)]
 obtain⟨s3,s4,e⟩:=G6 O r
 rw[aH (env':=[@I_,@Sc,.ow (.list ((e8 l r n).map int)),s3,s4]) (β':=0) (by
  rw[jU (env:=[@I_,@Sc,.ow (.list []),.no,.no]) (ds:=dU ((List.range n).map λb=>mI (bQ l b) n)) (β1:=0) rfl]
  exact e)]
 rfl
noncomputable def MT:@Cl:=aS 6 2 (kS O3 zt)
structure Lm (n:Nat)(l:@A_)(late r:@Db):Prop where
 beg:GP n l r
 late:∀q x,(q ++ [x]) <+:r->x∈late->∀y:Int,(0<=y/\y < n)->jf l q y=true->y∈late
def y2 (neg:Bool)(a:Int)(s:@Db):oN neg (.int a) (.list (s.map int))=some (.bool (if neg then !decide (a∈s) else decide (a∈s))):=by
 unfold oN
 simp only[ni,Dy,any_ints]
 rfl
def Lm.more {n:Nat}{l:@A_}{late r:@Db}{x:Int}(R:Lm n l late r)(hx:0<=x/\x < (n:Int))(hf:jf l r x=true)(hl:x∈late->∀y:Int,(0<=y/\y < n)->jf l r y=true->y∈late):Lm n l late (r ++ [x]):=by
 refine⟨R.beg.more hx hf,λq z hp hz y hy hfy=>?_⟩
 rcases List.prefix_concat_iff.mp hp with e |hp
 ·have:=List.append_inj' e rfl
  obtain⟨rfl,e2⟩:=this
  cases e2
  exact hl hz y hy hfy
 ·exact R.late q z hp hz y hy hfy
def ME (n:Nat):mI (eY []) n=.int 0:=by
 unfold mI
 congr 1
 have:mk (eY []) n=0:=by
  induction n with
  |zero=>rfl
  |succ m ih=>unfold mk;rw[ih];simp[eY]
 rw[this];rfl
def KC {n:Nat}{r:@Db}{x:Int}(h:0<=x/\x < n):mI (i6 (eY r) x.toNat) n=mI (eY (r ++ [x])) n:=by
 unfold mI
 congr 2
 rw[mk_eq]
 intro i hi
 unfold i6 eY
 rw[Sf]
 simp only[SV,Rq,Rw,RE]
 constructor
 ·rintro (h |h)
  ·exact .inl h
  ·exact .inr (@AT)
 ·rintro (h |h)
  ·exact .inl h
  ·exact .inr (@AT)
def Oo {n:Nat}{l:@A_}{late:@Db}(O:@KK)(hz:late.length<=100):∃r,MT [cG n (bQ l),.list (late.map int)]=.ok (tupI r) false/\Row n l r/\Lm n l late r:=by
 have h8:=O.hi
 show ∃r,fin (kS O3 zt [@I_,@SB,.no,.no,.no,.no] 0)=.ok (tupI r) false/\Row n l r/\Lm n l late r
 unfold kS
 rw[aH (env':=[@I_,@SB,.ow (.list (([]:@Db).map int)),.no,.no,.no]) (β':=0) (by rw[lI,lp (ds:=[]) an];rfl)]
 rw[aH (env':=[@I_,@SB,.ow (.list (([]:@Db).map int)),.fz (mI (eY []) n),.no,.no]) (β':=0) (by rw[cO,ME];rfl)]
 obtain⟨env',β',ew,r,s4,s5,rfl,rfl,hr,R⟩:=jX (L:=[] ++ []) (t:=eO (f2 (f1 (gv 2) cJ) (f1 (gv 0) cJ) qG))
  (m:=aJ (b9 4 ([0] ++ ([3] ++ [])) (aq O3 (aa (gv 0) (aa (gv 3) ao))))
   (aJ (b9 5 @GT (aN 1 [1] (.nm 0) (bH (gv 4)) (eO (f2 (gv 0) (gv 1) (oN true))) (gv 0)))
   (aJ (pB 2 (@GT ++ []) (f2 (f2 (gv 5) (gv 4) jq) @FM bB))
   (b9 3 ([3] ++ (@GT ++ [])) (aq zt (aa (gv 3) (aa (f2 (gv 2) (f1 @Fa rb) bB) ao)))))))
  (λk env b=>∃r s4 s5,env= [@I_,@SB,.ow (.list (r.map int)),@Sc,s4,s5]/\b=0/\Lm n l late r/\k=n - r.length)
  (λenv b=>∃r s4 s5,env= [@I_,@SB,.ow (.list (r.map int)),@Sc,s4,s5]/\b=0/\Row n l r/\Lm n l late r)
  (n:=1000) (k:=n) (env:=[@I_,@SB,.ow (.list (([]:@Db).map int)),.fz (mI (eY []) n),.no,.no]) (β:=0) (@AT)
  ⟨[],.no,.no,rfl,rfl,⟨⟨Uv,(λx hx=>by cases hx),(λp _ h=>by cases h)⟩,λq x hp=>by simp at hp⟩,@KM ⟩ (by
   rintro k env b ⟨r,s4,s5,rfl,rfl,R,rfl⟩
   have hrl:=R.beg.len
   have et:eO (f2 (f1 (gv 2) cJ) (f1 (gv 0) cJ) qG) (vl [@I_,@SB,.ow (.list (r.map int)),@Sc,s4,s5]) 0=.ok (decide ((r.length:Int) < n)) 0:=by
    refine gC _ _ _ _ (aG (x:=.int r.length) (y:=.int n) (β1:=0) ?_ ?_ rfl)
    ·rw[o4 (ds:=r.map int) rfl,Rb]
    ·rw[o4 (ds:=(List.range n).map λb=>mI (bQ l b) n) rfl,Rb,R4]
   refine⟨_,_,et,?_⟩
   by_cases hlt:r.length < n
   ·refine .inr ⟨Rk (@AT),?_⟩
    show ∃env2 β2 k',aJ _ _ [@I_,@SB,.ow (.list (r.map int)),@Sc,s4,s5] 0=.nx env2 β2/\k' < n - r.length/\_
    rw[aH (env':=[@I_,@SB,.ow (.list (r.map int)),@Sc,.fz (.list ((e8 l r n).map int)),s5]) (β':=0) (by rw[cO,ak (ds:=[cG n (bQ l),mI (eY r) n]) (β1:=0) rfl (Qf O r)];rfl)]
    have ec:aN 1 [1] (.nm 0) (bH (gv 4)) (eO (f2 (gv 0) (gv 1) (oN true))) (gv 0) (vl [@I_,@SB,.ow (.list (r.map int)),@Sc,.fz (.list ((e8 l r n).map int)),s5]) 0=.ok (.list (((e8 l r n).filter λx=> !decide (x∈late)).map int)) 0:=by
     refine cm (l:=e8 l r n) (e:=int) (λx=> !decide (x∈late)) int rfl (by have:=pX l r n;omega) λx hx=>⟨_,rfl,?_,λ_=>rfl⟩
     exact gC _ _ _ _ (aG (x:=.int x) (y:=.list (late.map int)) rfl rfl (y2 true x late))
    generalize hEE:((e8 l r n).filter λx=> !decide (x∈late))=EE at ec
    rw[aH (env':=[@I_,@SB,.ow (.list (r.map int)),@Sc,.fz (.list ((e8 l r n).map int)),.fz (.list (EE.map int))]) (β':=0) (by rw[cO,ec];rfl)]
    have hne:e8 l r n≠ []:=R.beg.free O hlt
    have hEl:EE.length<=n:=by rw[<-hEE];exact Sd (Se _ _) (pX l r n)
    have hfl:=pX l r n
    obtain⟨x,L,hx⟩:∃x L,EE ++ e8 l r n=x :: L:=List.exists_cons_of_ne_nil (by simp[hne])
    have hxm:x∈e8 l r n:=by
     have:x∈EE ++ e8 l r n:=by rw[hx];exact Ro ..
     rcases Rw.mp this with h |h
     ·rw[<-hEE] at h;exact (Rl.mp h).1
     ·exact h
    obtain⟨hm1,hm2⟩:=Rl.mp hxm
    have hxr:=az.mp hm1
    have hlate:x∈late->∀y:Int,(0<=y/\y < n)->jf l r y=true->y∈late:=λhxl y hy hfy=>by
     apply Classical.byContradiction
     intro hn
     have hyE:y∈EE:=by rw[<-hEE];exact Rl.mpr ⟨Rl.mpr ⟨az.mpr hy,hfy⟩,by simp[hn]⟩
     cases hE:EE with
     |nil=>rw[hE] at hyE;cases hyE
     |cons z Z=>
      rw[hE,List.cons_append] at hx
      have e1:=(List.cons.inj hx).1
      have:z∈EE:=by rw[hE];exact Ro ..
      rw[<-hEE] at this
      have:=(Rl.mp this).2
      rw[e1] at this
      simp[hxl] at this
    have R':=R.more hxr hm2 hlate
    rw[aH (env':=[@I_,@SB,.ow (.list ((r ++ [x]).map int)),@Sc,.fz (.list ((e8 l r n).map int)),.fz (.list (EE.map int))]) (β':=0) ?bb]
    case bb=>
     have ei:f2 (f2 (gv 5) (gv 4) jq) @FM bB (vl [@I_,@SB,.ow (.list (r.map int)),@Sc,.fz (.list ((e8 l r n).map int)),.fz (.list (EE.map int))]) 0=.ok (.int x) 0:=by
      refine aG (x:=.list ((EE ++ e8 l r n).map int)) (y:=.int 0) (aG (x:=.list (EE.map int)) (y:=.list ((e8 l r n).map int)) rfl rfl ?_) rfl ?_
      ·rw[mw (by rw[Rb,Rb];omega),RS]
      ·rw[hx];exact kM (xs:=.int x :: L.map int) (j:=0) rfl
     rw[rQ (i:=2) (ds:=r.map int) (d:=.int x) (β':=0) (by rfl) ei (by rfl) (by rw[Rb];omega),RS]
     rfl
    have e1:(x.toNat:Int)=x:=@AT
    have el:f2 (gv 2) (f1 @Fa rb) bB (vl [@I_,@SB,.ow (.list ((r ++ [x]).map int)),@Sc,.fz (.list ((e8 l r n).map int)),.fz (.list (EE.map int))]) 0=.ok (.int (x.toNat:Int)) 0:=by
     refine aG (x:=.list ((r ++ [x]).map int)) (y:=.int (-1)) rfl rfl ?_
     show m9 ((r ++ [x]).map int) (-1)=_
     rw[e1]
     unfold m9 xR
     rw[Rj (@AT),Rg (by simp;omega)]
     show ((r ++ [x]).map int)[((-1:Int) + ((((r ++ [x]).map int).length:Nat):Int)).toNat]? =_
     rw[show ((-1:Int) + ((((r ++ [x]).map int).length:Nat):Int)).toNat=r.length by simp;omega,RS,R3 (@KM)]
     simp
    refine⟨[@I_,@SB,.ow (.list ((r ++ [x]).map int)),.fz (mI (eY (r ++ [x])) n),.fz (.list ((e8 l r n).map int)),.fz (.list (EE.map int))],0,n - (r ++ [x]).length,?_,by rw[RD,R1];omega,_,_,_,rfl,rfl,R',rfl⟩
    rw[cO,ak (ds:=[mI (eY r) n,.int (x.toNat:Int)]) (β1:=0) (ac rfl (ac el an)) (Ep h8 (@AT)),KC hxr];rfl
   ·refine .inl ⟨Rt (@AT),r,s4,s5,rfl,rfl,R.beg.row O (@AT),R⟩)
 rw[aH (env':=[@I_,@SB,.ow (.list (r.map int)),@Sc,s4,s5]) (β':=0) ew]
 exact⟨r,rfl,hr,R⟩
def D5 {fa fb:VF D}{vs:List Nv}{β:Int}{ds:List D}{i:Nat}(ha:@Tm=.ok (.tuple ds) β)(hb:fb vs β=.ok (.int ((i:Nat):Int)) β):wy fa (zj fb) (λ_ β=>.ok none β) vs β=.ok (.tuple (ds.drop i)) β:=by
 unfold wy zj
 rw[ha];dsimp only[R.bnd]
 rw[hb];dsimp only[R.bnd]
 congr 2
 unfold cutD
 rw[HT.p0,HT.rN]
 by_cases h:i<=ds.length
 ·rw[TZ h];exact Tp (by rw[To];omega)
 ·rw[Nat.min_eq_right (@AT),T9,List.drop_of_length_le (@AT)];simp
def Em {fa fb:VF D}{vs:List Nv}{β:Int}{ds:List D}{i:Nat}(ha:@Tm=.ok (.tuple ds) β)(hb:fb vs β=.ok (.int ((i:Nat):Int)) β):wy fa (λ_ β=>.ok none β) (zj fb) vs β=.ok (.tuple (ds.take i)) β:=by
 unfold wy zj
 rw[ha];dsimp only[R.bnd]
 rw[hb];dsimp only[R.bnd]
 congr 2
 unfold cutD
 rw[HT.p0,HT.rN]
 by_cases h:i<=ds.length
 ·rw[TZ h];rfl
 ·rw[Nat.min_eq_right (@AT),Tp (show ds.length<=i by omega)];simp
def mY (l:@A_)(x y:Int):Bool:=decide (x=y) || decide ((x,y)∈l)
def fH {l:@A_}{x y:Int}:mY l x y=true↔x=y\/(x,y)∈l:=by unfold mY;simp
def wg {n:Nat}{l:@A_}(O:@KK){x y z:Int}(h:mY l x y=true)(k:mY l y z=true):mY l x z=true:=by
 rw[fH] at *
 rcases h with rfl |h
 ·exact k
 ·rcases k with rfl |k
  ·exact .inr h
  ·exact .inr (O.tr _ _ _ h k)
def putL (n:Nat)(l:@A_)(t:Pr):@A_:=(OM.bw n).filter λp=>decide (p∈l) || (mY l p.1 t.2 && mY l t.1 p.2)
def nj {n:Nat}{l:@A_}{t p:Pr}(h:(0<=p.1/\p.1 < n)/\(0<=p.2/\p.2 < n)):p∈putL n l t↔p∈l\/(mY l p.1 t.2=true/\mY l t.1 p.2=true):=by
 unfold putL
 rw[Rl,OM.aY,SV,RC,Rq]
 exact⟨λh=>h.2,λk=>⟨h,k⟩⟩
def oH {n:Nat}{l:@A_}{t p:Pr}(h:p∈putL n l t):p∈l\/(mY l p.1 t.2=true/\mY l t.1 p.2=true):=by
 unfold putL at h
 have:=(Rl.mp h).2
 rw[SV,RC,Rq] at this
 exact this
def IS {n:Nat}{l:@A_}{t:Pr}(O:@KK)(h:mY l t.1 t.2=false):OM.Ord n (putL n l t):=by
 have hn:¬mY l t.1 t.2=true:=by rw[h];exact RK
 refine⟨O.lo,O.hi,λp hp=>OM.aY.mp (Rl.mp hp).1,OM.cN _ (OM.dD n),λa ha=>?_,λa b c hab hbc=>?_⟩
 ·rcases oH ha with q | ⟨q1,q2⟩
  ·exact O.irr a q
  ·exact hn (wg O q2 q1)
 ·have g1:=OM.aY.mp (Rl.mp hab).1
  have g2:=OM.aY.mp (Rl.mp hbc).1
  refine (nj (p:=(a,c)) ⟨g1.1,g2.2⟩).mpr ?_
  rcases oH hab with q | ⟨q1,q2⟩
  ·rcases oH hbc with r | ⟨r1,r2⟩
   ·exact .inl (O.tr _ _ _ q r)
   ·exact .inr ⟨wg O (fH.mpr (.inr q)) r1,r2⟩
  ·rcases oH hbc with r | ⟨r1,r2⟩
   ·exact .inr ⟨q1,wg O q2 (fH.mpr (.inr r))⟩
   ·exact .inr ⟨q1,r2⟩
def B4 {n:Nat}{l:@A_}{t p:Pr}(O:@KK)(h:p∈l):p∈putL n l t:=(nj (O.wn p h)).mpr (.inl h)
def sd {n:Nat}{l:@A_}{t:Pr}(h:(0<=t.1/\t.1 < n)/\(0<=t.2/\t.2 < n)):(t.2,t.1)∈putL n l t:=(nj ⟨h.2,h.1⟩).mpr (.inr ⟨fH.mpr (.inl rfl),fH.mpr (.inl rfl)⟩)
def Jw:@Cl:=aS 3 3 (l9 zt)
def Mv {n:Nat}{l:@A_}{a b:Int}(h8:n<=8)(ha:0<=a/\a < n)(hb:0<=b/\b < n):Jw [cG n (bQ l),.int a,.int b]=.ok (.bool (decide ((a,b)∈l))) false:=by
 have ea:((a.toNat:Nat):Int)=a:=@AT
 have eb:((b.toNat:Nat):Int)=b:=@AT
 show fin (l9 zt [@I_,.fz (.int a),.fz (.int b)] 0)=_
 unfold l9
 have em:f2 (gv 0) (gv 2) bB (vl [@I_,.fz (.int a),.fz (.int b)]) 0=.ok (mI (bQ l b.toNat) n) 0:=by
  refine aG (x:=cG n (bQ l)) (y:=.int b) rfl rfl ?_
  have:=EA (n:=n) (M:=bQ l) (b:=b.toNat) (@AT)
  rw[eb] at this
  exact this
 rw[du,aG (x:=mI (i6 (bQ l b.toNat) a.toNat) n) (y:=mI (bQ l b.toNat) n) (d:=.bool (decide ((a,b)∈l))) (β1:=0) (β2:=0) (ak (b:=false) (ds:=[mI (bQ l b.toNat) n,.int (a.toNat:Int)]) (ac em (ac (by rw[ea];rfl) an)) (Ep h8 (@AT))) em ?z]
 ·rfl
 case z=>
  unfold mI
  rw[nW,Rj RK]
  congr 2
  rw[SD]
  constructor
  ·intro h
   have h:mk (i6 (bQ l b.toNat) a.toNat) n=mk (bQ l b.toNat) n:=@AT
   have:=mk_eq.mp h a.toNat (@AT)
   unfold i6 bQ at this
   rw[ea,eb] at this
   simpa using this
  ·intro h
   have:mk (i6 (bQ l b.toNat) a.toNat) n=mk (bQ l b.toNat) n:=mk_eq.mpr λi hi=>by
    unfold i6 bQ
    by_cases e:i=a.toNat
    ·rw[e,ea,eb];simp[h]
    ·simp[e]
   rw[this]
def Ec:@Cl:=aS 2 2 (ku Jw)
def LO {n:Nat}{l:@A_}{t:Pr}(h8:n<=8)(h:(0<=t.1/\t.1 < n)/\(0<=t.2/\t.2 < n)):Ec [cG n (bQ l),aA t]=.ok (.bool (decide (t∈l))) false:=by
 show fin (ku Jw [@I_,.fz (aA t)] 0)=_
 unfold ku
 rw[du,ak (ds:=[cG n (bQ l),.int t.1,.int t.2]) (β1:=0) rfl (Mv h8 h.1 h.2)];rfl
def KI {f g:Nat->Bool}{n:Nat}:mk f n ||| mk g n=mk (λi=>f i || g i) n:=by
 apply Ub
 intro i
 rw[Nat.testBit_or,jb,jb,jb]
 by_cases h:i < n <;> simp[h]
noncomputable def K0:@Cl:=aS 4 2 (mi Jw zt)
def PF {n:Nat}{l:@A_}{t:Pr}(h8:n<=8)(h:(0<=t.1/\t.1 < n)/\(0<=t.2/\t.2 < n)):K0 [cG n (bQ l),aA t]=.ok (cG n (bQ (putL n l t))) true:=by
 have e2:((t.2.toNat:Nat):Int)=t.2:=@AT
 show fin (mi Jw zt [@I_,.fz (aA t),.no,.no] 0)=_
 unfold mi
 have el:f1 (gv 0) cJ (vl [@I_,.fz (aA t),.no,.no]) 0=.ok @Re 0:=by
  rw[o4 (ds:=(List.range n).map λb=>mI (bQ l b) n) rfl,Rb,R4]
 have ec:aN 1 [1,0] (.nm 0) (fx (f1 (gv 0) cJ)) (pN (eO (f2 (gv 0) (f2 (gv 1) @FM bB) (gq false))) (i3 (aq Jw (aa (gv 2) (aa (f2 (gv 1) @FM bB) @K_))))) (gv 0) (vl [@I_,.fz (aA t),.no,.no]) 0=.ok (.list (((bD n).filter λx=>mY l t.1 x).map int)) 0:=by
  refine cm (l:=bD n) (e:=int) (λx=>mY l t.1 x) int ?_ (by rw[b7];omega) λx hx=>⟨[.da (.int x),.da (aA t),.da (cG n (bQ l))],rfl,?_,λ_=>rfl⟩
  ·rw[<-lB];exact fy (n:=n) el (@AT)
  ·have hx:=az.mp hx
   have:=Jr (ju (neg:=false) (fa:=gv 0) (fb:=f2 (gv 1) @FM bB) (vs:=[.da (.int x),.da (aA t),.da (cG n (bQ l))]) (β:=0) (i:=x) (j:=t.1) rfl rfl) (eS (ak (F:=Jw) (fr:=aa (gv 2) (aa (f2 (gv 1) @FM bB) @K_)) (vs:=[.da (.int x),.da (aA t),.da (cG n (bQ l))]) (β:=0) (ds:=[cG n (bQ l),.int t.1,.int x]) rfl (Mv h8 h.1 hx)))
   rw[this]
   congr 1
   unfold mY
   rw[Rj RK]
   congr 1
   rw[SD];exact⟨Eq.symm,Eq.symm⟩
 rw[aH (env':=[@I_,.fz (aA t),.fz (.list (((bD n).filter λx=>mY l t.1 x).map int)),.no]) (β':=0) (by rw[cO,ec];rfl)]
 have em:f2 (gv 0) (f2 (gv 1) @Fa bB) bB (vl [@I_,.fz (aA t),.fz (.list (((bD n).filter λx=>mY l t.1 x).map int)),.no]) 0=.ok (mI (bQ l t.2.toNat) n) 0:=by
  refine aG (x:=cG n (bQ l)) (y:=.int t.2) rfl (aG rfl rfl rfl) ?_
  have:=EA (n:=n) (M:=bQ l) (b:=t.2.toNat) (@AT)
  rw[e2] at this
  exact this
 rw[aH (env':=[@I_,.fz (aA t),.fz (.list (((bD n).filter λx=>mY l t.1 x).map int)),.fz (mI (i6 (bQ l t.2.toNat) t.2.toNat) n)]) (β':=0) (by
  rw[cO,ak (b:=false) (ds:=[mI (bQ l t.2.toNat) n,.int (t.2.toNat:Int)]) (β1:=0) (ac em (ac (by rw[e2];rfl) an)) (Ep h8 (@AT))];rfl)]
 have ed:aN 2 [2,3] (.two 0 1) (Jm (gv 0)) i7 (NT (eO (f2 (gv 0) (gv 2) (oN false))) (f2 (gv 1) (gv 3) O5) (gv 1)) (vl [@I_,.fz (aA t),.fz (.list (((bD n).filter λx=>mY l t.1 x).map int)),.fz (mI (i6 (bQ l t.2.toNat) t.2.toNat) n)]) 0=.ok (cG n (bQ (putL n l t))) 0:=by
  unfold cG
  refine bL (l:=List.range n) (e:=λb=>.tuple [.int b,mI (bQ l b) n]) (λb=>mI (bQ (putL n l t) b) n) ?_ (by rw[R4];omega) λb hb=>⟨[.da (.int b),.da (mI (bQ l b) n),.da (.list (((bD n).filter λx=>mY l t.1 x).map int)),.da (mI (i6 (bQ l t.2.toNat) t.2.toNat) n)],rfl,?_⟩
  ·show R.ok (dU ((List.range n).map λb=>mI (bQ l b) n)) 0=_
   congr 1
   unfold dU
   refine TN (@KM) λi h1 h2=>@KM
  ·have hbn:=RW.mp hb
   have hmem:decide ((b:Int)∈(bD n).filter λx=>mY l t.1 x)=mY l t.1 b:=by
    rw[Sf,Rq,Rl]
    exact⟨λh=>h.2,λh=>⟨az.mpr ⟨@AT,@AT ⟩,h⟩⟩
   have et:eO (f2 (gv 0) (gv 2) (oN false)) [.da (.int b),.da (mI (bQ l b) n),.da (.list (((bD n).filter λx=>mY l t.1 x).map int)),.da (mI (i6 (bQ l t.2.toNat) t.2.toNat) n)] 0=.ok (mY l t.1 b) 0:=by
    rw[<-hmem]
    exact gC _ _ _ _ (aG (x:=.int b) (y:=.list (((bD n).filter λx=>mY l t.1 x).map int)) rfl rfl (y2 false b _))
   rw[Eu,et]
   show (if mY l t.1 b=true then _ else _)=_
   have key:∀a,a < n->bQ (putL n l t) b a=(bQ l b a || (mY l a t.2 && mY l t.1 b)):=λa ha=>by
    unfold bQ
    rw[Sf,Rq,nj ⟨⟨by simp only;omega,by simp only;omega⟩,⟨by simp only;omega,by simp only;omega⟩⟩,SV,RC,Rq]
   by_cases c:mY l t.1 b=true
   ·rw[Rg c]
    refine aG (x:=mI (bQ l b) n) (y:=mI (i6 (bQ l t.2.toNat) t.2.toNat) n) rfl rfl ?_
    show some (int (Builtin.bitOr _ _))=_
    rw[vI,KI]
    unfold mI
    congr 3
    rw[mk_eq]
    intro a ha
    rw[key a ha,c,Bool.and_true]
    unfold i6 mY bQ
    rw[e2]
    congr 1
    rw[Bool.or_comm]
    congr 1
    rw[SD];omega
   ·rw[Rj c]
    show R.ok (mI (bQ l b) n) 0=_
    unfold mI
    congr 3
    rw[mk_eq]
    intro a ha
    rw[key a ha]
    have c:mY l t.1 b=false:=by simpa using c
    rw[c,Bool.and_false,Bool.or_false]
 rw[ub,ed];rfl
structure WP (r:SO)(Q:SO->Prop):Prop where
 out:Q r
section
variable {m m' m1 m2:SF}{env env1:En}{β β1 β2 z:Int}{Q:SO->Prop}{f fa fb:VF D}{t:VF Bool}{d e:D}{L La Lb:@Ix}{i j:Nat}{c:Bool}
def wp_at (env1:En)(e:env=env1)(k:WP (m env1 β) Q):WP (m env β) Q:=by rw[e];exact k
def wp_seq (h:m env β=.nx env1 β1)(k:WP (m' env1 β1) Q):WP (aJ m m' env β) Q:=by rw[aH h];exact k
theorem zS (h:WP (aJ m m8 env β) Q):WP (m env β) Q:=by
 obtain⟨h⟩:=h
 unfold aJ at h
 cases e:m env β with
 |_=>rw[e] at h;exact⟨h⟩
def Bh (q:Q (.nx env β)):WP (m8 env β) Q:=⟨q⟩
def dq (h:f @PP β=.ok d β1)(k:WP (m' ((a8 L env).set i (.fz d)) β1) Q):WP (aJ (b9 i L f) m' env β) Q:=wp_seq (by unfold b9;rw[h];rfl) k
def Jq (h:f @PP β=.ok d β1)(k:WP (m' ((a8 L env).set i (.ow d)) β1) Q):WP (aJ (lu i L f) m' env β) Q:=wp_seq (by unfold lu;rw[h];rfl) k
def G8 (h:f @PP β=.ok (.list [.int z]) β1)(k:WP (m' ((wZ (a8 L env)).set i .bx) z) Q):WP (aJ (B8 i L f) m' env β) Q:=wp_seq (by unfold B8;rw[h];rfl) k
def kI (h:f @PP β=.ok d β1)(k:WP (m' (a8 L env) β1) Q):WP (aJ (dY L f) m' env β) Q:=wp_seq (by unfold dY;rw[h];rfl) k
def Et (h:fa @PP β=.ok d β1)(h':fb @PP β1=.ok e β2)(k:WP (m' (((a8 (La ++ Lb) env).set i (.fz d)).set j (.fz e)) β2) Q):WP (aJ (yy i j La Lb fa fb) m' env β) Q:=wp_seq (by unfold yy;rw[h];dsimp only[toS];rw[h']) k
def L6 {ds:List D}(hi:env[i]? =some (.ow (.list ds)))(h:f @PP β=.ok d β1)(hL:(a8 L env)[i]? =some (.ow (.list ds)))(hz:ds.length<=1000)(k:WP (m' ((a8 L env).set i (.ow (.list (ds ++ [d])))) β1) Q):WP (aJ (pB i L f) m' env β) Q:=wp_seq (rQ hi h hL hz) k
def jo (h:t @PP β=.ok false β1)(k:WP (m' (a8 L env) β1) Q):WP (aJ (lx L t m1 m8) m' env β) Q:=wp_seq (by rw[j7 h];rfl) k
def xi (h:t @PP β=.ok true β1)(k:WP (aJ m1 m' (a8 L env) β1) Q):WP (aJ (lx L t m1 m2) m' env β) Q:=by
 have:aJ (lx L t m1 m2) m' env β=aJ m1 m' (a8 L env) β1:=by unfold aJ;rw[mU h]
 rw[this];exact k
def Qm (h:t @PP β=.ok false β1)(k:WP (m2 (a8 L env) β1) Q):WP (lx L t m1 m2 env β) Q:=by rw[j7 h];exact k
def gM (h:f @PP β=.ok d β1)(q:Q (.rt d false β1)):WP (bS f env β) Q:=⟨by unfold bS;rw[h];exact q⟩
def Cp (h:f @PP β=.ok d β1)(q:Q (.rt d false β1)):WP (aJ (bS f) m' env β) Q:=⟨by unfold aJ bS;rw[h];exact q⟩
def wW (h:f @PP β=.ok d β1)(q:Q (.rt d true β1)):WP (kc f env β) Q:=⟨by unfold kc;rw[h];exact q⟩
def dP {R:FR}(h:WP (m env β) λr=>fin r=R):fin (m env β)=R:=h.out
def Gu {n:Nat}(I:Nat->En->Int->Prop)(Dn:En->Int->Prop)(b:Nat)(hb:b < n)(h0:I b env β)
  (hs:∀k env β,I k env β->∃c β1,t @PP β=.ok c β1/\((c=false/\Dn (a8 L env) β1)\/(c=true/\WP (m (a8 L env) β1) λr=>∃env2 β2 k',r=.nx env2 β2/\k' < k/\I k' env2 β2)))
  (k:∀env β,Dn env β->WP (m' env β) Q):WP (aJ (i4 L t m n) m' env β) Q:=by
 obtain⟨env',β',e,h⟩:=jX (L:=L) (t:=t) (m:=m) I Dn (n:=n) hb h0 λk env β h=>by
  obtain⟨c,β1,e1,h⟩:=hs k env β h
  refine⟨c,β1,e1,?_⟩
  rcases h with h | ⟨h1,⟨h2⟩⟩
  ·exact .inl h
  ·exact .inr ⟨h1,h2⟩
 exact wp_seq e (k _ _ h)
end
def It (d:D):Prop:=fA d=false/\Sq 400 8 d/\Bf d
def Th (d:D):Prop:=Ge d/\Sq 10000 9 d/\Bf d
def Ap (P:D->Prop)(k:Nat)(es:List D):Prop:=es.length<=k/\∀x,x∈es->P x
abbrev Al:Nat->List D->Prop:=Ap It
def GN.it {d:D}(h:GN d):It d:=⟨h.scr,h.sq.mono (@AT) (@AT),h.bf⟩
def LY {i:Int}(h: -1<=i/\i<=9):It (.int i):=(BR h).it
def IJ {k:Nat}{r:@Db}(hl:r.length<=k)(h:∀x,x∈r->0<=x/\x < 9):Al k (r.map int):=⟨by rw[Rb];exact hl,λx hx=>by
 obtain⟨y,hy,rfl⟩:=Rz.mp hx
 exact LY (by have:=h y hy;omega)⟩
def Ap.tup {k:Nat}{a:List D}(h:Al k a)(hk:k<=24):Th (.tuple a):=by
 have:=h.1
 refine⟨Ky (@AT) λx hx=>(h.2 x hx).1,(FO (c:=400) (k:=8) λd hd=>(h.2 d hd).2.1).mono ?_ (@AT),FF λd hd=>(h.2 d hd).2.2⟩
 have:(400 + 2) * a.length<=402 * 24:=Ss (@AT) (@AT)
 omega
def MH {r:@Db}(hl:r.length<=9)(h:∀x,x∈r->0<=x/\x < 9):It (tupI r):=by
 have sm:∀d,d∈r.map int->GN d:=λd hd=>by
  obtain⟨y,hy,rfl⟩:=Rz.mp hd
  exact BR (by have:=h y hy;omega)
 refine⟨rfl,(FO (c:=20) (k:=0) λd hd=>(sm d hd).sq).mono ?_ (@AT),FF λd hd=>(sm d hd).bf⟩
 rw[Rb]
 have:(20 + 2) * r.length<=22 * 9:=Ss (@AT) hl
 omega
def sR {n:Nat}{r:@Db}(h8:n<=8)(hp:r.Perm (bD n)):r.length=n/\∀x,x∈r->0<=x/\x < 9:=⟨by rw[hp.length_eq,b7],λx hx=>by have:=az.mp (hp.mem_iff.mp hx);omega⟩
def Fe {ds:List D}{k:Nat}(h:k < ds.length):∃d,ds[k]? =some d/\d∈ds/\m9 ds (k:Int)=some d:=⟨ds[k],Rf h,SY h,kM (Rf h)⟩
def NC {fa fb:VF D}{vs:List Nv}{β:Int}{ds:List D}{i:Nat}(ha:@Tm=.ok (.tuple ds) β)(hb:fb vs β=.ok (.int (i:Nat)) β):wy fa (λ_ β=>.ok none β) (zj fb) vs β=.ok (.tuple (ds.take i)) β:=Em ha hb
def NK {fa fb:VF D}{vs:List Nv}{β:Int}{ds:List D}{i:Nat}(ha:@Tm=.ok (.tuple ds) β)(hb:fb vs β=.ok (.int (i:Nat)) β):wy fa (zj fb) (λ_ β=>.ok none β) vs β=.ok (.tuple (ds.drop i)) β:=D5 ha hb
def Fv {fa fb:VF D}{vs:List Nv}{β β1 β2:Int}{a b:List D}(h1:@Tm=.ok (.tuple a) β1)(h2:fb vs β1=.ok (.tuple b) β2)(hz:a.length + b.length<=1000):f2 fa fb kK vs β=.ok (.tuple (a ++ b)) β2:=aG h1 h2 (yL hz)
def FY {fa fb:VF D}{vs:List Nv}{β β1 β2:Int}{a b:List D}(h1:@Tm=.ok (.list a) β1)(h2:fb vs β1=.ok (.list b) β2)(hz:a.length + b.length<=1000):f2 fa fb jq vs β=.ok (.list (a ++ b)) β2:=aG h1 h2 (mw (@AT))
def Qn {fa:VF D}{vs:List Nv}{β:Int}{i:Nat}(h:@Tm=.ok (.int (i:Nat)) β):f2 fa @Fa bX vs β=.ok (.int ((i + 1:Nat):Int)) β:=aG h rfl (by show some (int ((i:Int) + 1))=_;rw[show ((i + 1:Nat):Int)=(i:Int) + 1 by omega])
section
variable {m m' m1 m2:SF}{env env1:En}{β β1 β2 z:Int}{Q:SO->Prop}{f fa fb:VF D}{t:VF Bool}{d e:D}{L La Lb:@Ix}{i j:Nat}{c:Bool}
theorem HE (h:WP (m env β) λr=>(∀a b,r≠.nx a b)/\Q r):WP (aJ m m' env β) Q:=by
 obtain⟨h1,h2⟩:=h.out
 refine⟨?_⟩
 unfold aJ
 cases e:m env β with
 |nx a b=>exact absurd e (h1 a b)
 |_=>rw[e] at h2;exact h2
end
def Ig (d:D):Prop:=Ge d/\Sq 400 8 d/\Bf d
def Kr {r:@Db}(hl:r.length<=9)(h:∀x,x∈r->0<=x/\x < 9):Ig (tupI r):=⟨(IJ (k:=9) hl h).tup (@AT) |>.1,(MH hl h).2⟩
def tD (l:@A_)(p q:Pr):Bool:=decide (p.1=q.2) || decide ((p.1,q.2)∈l)
def GS:@Cl:=aS 3 3 lU
theorem Nt (n:Nat)(l:@A_)(p q:Pr):GS [ag n l,aA p,aA q]=.ok (.bool (tD l p q)) false:=by
 show fin (lU [@C_,.fz (aA p),.fz (aA q)] 0)=_
 unfold lU
 have i0:f2 (gv 1) @FM bB (vl [@C_,.fz (aA p),.fz (aA q)]) 0=.ok (.int p.1) 0:=aG (x:=aA p) (y:=.int 0) rfl rfl rfl
 have i1:f2 (gv 2) @Fa bB (vl [@C_,.fz (aA p),.fz (aA q)]) 0=.ok (.int q.2) 0:=aG (x:=aA q) (y:=.int 1) rfl rfl rfl
 have e1:f2 (f2 (gv 1) @FM bB) (f2 (gv 2) @Fa bB) (gq false) (vl [@C_,.fz (aA p),.fz (aA q)]) 0=.ok (.bool (decide (p.1=q.2))) 0:=aG i0 i1 (nW false p.1 q.2)
 have e2:f2 (cq (aa (f2 (gv 1) @FM bB) (aa (f2 (gv 2) @Fa bB) ao))) (f2 (gv 0) @Fa bB) (oN false) (vl [@C_,.fz (aA p),.fz (aA q)]) 0=.ok (.bool (decide ((p.1,q.2)∈l))) 0:=aG (x:=aA (p.1,q.2)) (cX i0 i1) (N2 (n:=n) (l:=l) rfl) (oi false (p.1,q.2) l)
 rw[du]
 unfold tD
 cases c:decide (p.1=q.2) with
 |true=>rw[c] at e1;rw[PB e1];rfl
 |false=>rw[c] at e1;rw[Po e1 e2];rfl
def Oc (l:@A_)(ps:@A_):Bool:=(List.range ps.length).all λi=>tD l (ps.getD (if i=0 then ps.length - 1 else i - 1) (0,0)) (ps.getD i (0,0))
def Hm {i:Nat}{L:@Ix}{f:VF D}{env:En}{β β':Int}{ds es:List D}(hi:env[i]? =some (.ow (.list ds)))(hf:f @PP β=.ok (.list es) β')(hL:(a8 L env)[i]? =some (.ow (.list ds)))(hz:ds.length + es.length<=10000) :
  CS i L f env β=.nx ((a8 L env).set i (.ow (.list (ds ++ es)))) β':=by
 unfold CS
 rw[Rg (by rw[hi];rfl),hf]
 exact wa hL (Rg (by rw[R7];omega))
def putAll (n:Nat)(l:@A_)(put:@A_):@A_:=put.foldl (putL n) l
theorem sX {n:Nat}{U:Int->Prop}:∀{put l:@A_},(∀u v,(u,v)∈l->U u->U v)->(∀t,t∈put->U t.2->U t.1)->∀u v,(u,v)∈@NE->U u->U v
 | [],l,h0,_=>h0
 |t :: put,l,h0,h1=>by
  have q:∀u v,mY l u v=true->U u->U v:=λu v h hu=>by
   rcases fH.mp h with rfl |h
   ·exact hu
   ·exact h0 _ _ h hu
  refine sX (put:=put) (l:=putL n l t) (λu v h hu=>?_) (λx hx=>h1 x (Ru _ hx))
  rcases oH h with h | ⟨a,b⟩
  ·exact h0 _ _ h hu
  ·exact q _ _ b (h1 t (Ro ..) (q _ _ a hu))
def O1 (l:@A_)(p:@A_):Prop:=∀i a b,p[i]? =some a->p[i + 1]? =some b->tD l a b=true
structure RI (l put:@A_)(t:Pr)(ph:List (@A_))(left:@A_)(at':Nat):Prop where
 pth:∀p,p∈ph->∃q,p=t :: q/\(∀x,x∈q->x∈put/\¬x∈left)/\p.Nodup/\O1 l p
 lft:∀x,x∈left->x∈put
 rch:∀x,x∈put->x∈left\/∃p,p∈ph/\p.getLast? =some x
 fst:∃p,p∈ph/\p.getLast? =some t
 old:∀i p s,i < at'->ph[i]? =some p->p.getLast? =some s->tD l s t=false/\∀x,x∈left->tD l s x=false
 cnt:ph.length + left.length=put.length + 1
 le:at'<=ph.length
def RI.lt {n:Nat}{l put:@A_}{t:Pr}{ph:List (@A_)}{left:@A_}{k:Nat}(R:RI l put t ph left k)(O:@KK)(hb:t∈@NE):k < ph.length:=by
 apply Classical.byContradiction
 intro hn
 have hk:k=ph.length:=by have:=R.le;omega
 have idx:∀p,p∈ph->∃i:Nat,i < k/\ph[i]? =some p:=λp hp=>by
  obtain⟨i,hi⟩:=Su.mp hp
  exact⟨i,by rw[hk];exact (Rn.mp hi).1,hi⟩
 have key:=sX (n:=n) (U:=λx=>∃s:Pr,(∃p,p∈ph/\p.getLast? =some s)/\mY l s.1 x=true) (put:=put) (l:=l) (by
  rintro u v h ⟨s,hs,hl⟩
  exact⟨s,hs,wg O hl (fH.mpr (.inr h))⟩) (by
  rintro x hx ⟨s,⟨p,hp,hs⟩,hl⟩
  rcases R.rch x hx with h |h
  ·obtain⟨i,hi,hpi⟩:=idx p hp
   have h2:tD l s x=false:=(R.old i p s hi hpi hs).2 x h
   have hl:tD l s x=true:=hl
   rw[h2] at hl;cases hl
  ·exact⟨x,h,fH.mpr (.inl rfl)⟩) t.1 t.2 hb ⟨t,R.fst,fH.mpr (.inl rfl)⟩
 obtain⟨s,⟨p,hp,hs⟩,hl⟩:=key
 obtain⟨i,hi,hpi⟩:=idx p hp
 have h2:tD l s t=false:=(R.old i p s hi hpi hs).1
 have hl:tD l s t=true:=hl
 rw[h2] at hl;cases hl
theorem B7 {α:Type}(f:α->Bool):∀L:List α,(L.filter f).length + (L.filter λx=> !f x).length=L.length
 | []=>rfl
 |x :: L=>by
  have:=B7 f L
  cases h:f x <;> simp[List.filter_cons,h] <;> omega
def JG {l p:@A_}{s x:Pr}(h:O1 l p)(hs:p.getLast? =some s)(hx:tD l s x=true):O1 l (p ++ [x]):=by
 intro i a b ha hb
 have hl:p≠ []:=λe=>by rw[e] at hs;cases hs
 have hpos:=SJ.mpr hl
 by_cases c:i + 1 < p.length
 ·rw[RX (@AT)] at ha
  rw[RX c] at hb
  exact h i a b ha hb
 ·by_cases d:i + 1=p.length
  ·rw[RX (@AT)] at ha
   rw[R3 (@AT),d,Nat.sub_self] at hb
   cases hb
   rw[Uj,show p.length - 1=i by omega,ha] at hs
   cases hs
   exact hx
  ·rw[SW (by rw[RD,R1];omega)] at hb
   cases hb
def RI.step {l put:@A_}{t s:Pr}{ph:List (@A_)}{left p fr:@A_}{k:Nat}(R:RI l put t ph left k)(htp:¬t∈put)(hp:ph[k]? =some p)(hs:p.getLast? =some s)(hst:tD l s t=false)(hfr:left.filter (λx=>tD l s x)=fr):RI l put t (ph ++ fr.map λx=>p ++ [x]) (left.filter λx=> !decide (x∈fr)) (k + 1):=by
 have hpm:p∈ph:=Su.mpr ⟨k,hp⟩
 have hk:k < ph.length:=(Rn.mp hp).1
 have mfr:∀x,x∈fr↔x∈left/\tD l s x=true:=λx=>by rw[<-hfr];exact Rl
 have mlf:∀x,x∈(left.filter λx=> !decide (x∈fr))↔x∈left/\¬x∈fr:=λx=>by rw[Rl];simp
 refine⟨λr hr=>?_,λx hx=>R.lft x ((mlf x).mp hx).1,λx hx=>?_,?_,λi r s' hi hr hs'=>?_,?_,?_⟩
 ·rcases Rw.mp hr with hr |hr
  ·obtain⟨q,e,h1,h2,h3⟩:=R.pth r hr
   exact⟨q,e,λx hx=>⟨(h1 x hx).1,λhm=>(h1 x hx).2 ((mlf x).mp hm).1⟩,h2,h3⟩
  ·obtain⟨x,hx,rfl⟩:=Rz.mp hr
   obtain⟨q,e,h1,h2,h3⟩:=R.pth p hpm
   have hxf:=(mfr x).mp hx
   refine⟨q ++ [x],by rw[e];rfl,λy hy=>?_,?_,JG h3 hs hxf.2⟩
   ·rcases Rw.mp hy with hy |hy
    ·exact⟨(h1 y hy).1,λhm=>(h1 y hy).2 ((mlf y).mp hm).1⟩
    ·rw[RE] at hy;subst hy
     exact⟨R.lft _ hxf.1,λhm=>((mlf _).mp hm).2 hx⟩
   ·refine Tf.mpr ⟨h2,@KM,λa ha b hb eab=>?_⟩
    rw[RE] at hb;subst hb;subst eab
    rw[e] at ha
    rcases Rm.mp ha with rfl |ha
    ·exact htp (R.lft _ hxf.1)
    ·exact (h1 _ ha).2 hxf.1
 ·rcases R.rch x hx with h | ⟨r,h1,h2⟩
  ·by_cases c:x∈fr
   ·exact .inr ⟨p ++ [x],Rw.mpr (.inr (Rz.mpr ⟨x,c,rfl⟩)),@KM ⟩
   ·exact .inl ((mlf x).mpr ⟨h,c⟩)
  ·exact .inr ⟨r,Rw.mpr (.inl h1),h2⟩
 ·obtain⟨r,h1,h2⟩:=R.fst
  exact⟨r,Rw.mpr (.inl h1),h2⟩
 ·rw[RX (@AT)] at hr
  by_cases c:i=k
  ·subst c
   rw[hp] at hr;cases hr
   rw[hs] at hs';cases hs'
   refine⟨hst,λx hx=>?_⟩
   obtain⟨a,b⟩:=(mlf x).mp hx
   cases z:tD l s x with
   |false=>rfl
   |true=>exact absurd ((mfr x).mpr ⟨a,z⟩) b
  ·obtain⟨a,b⟩:=R.old i r s' (@AT) hr hs'
   exact⟨a,λx hx=>b x ((mlf x).mp hx).1⟩
 ·have h1:=B7 (λx=>tD l s x) left
  have h2:(left.filter λx=> !decide (x∈fr))=left.filter λx=> !tD l s x:=S5 λx hx=>by
   congr 1
   rw[Sf,Rq,mfr x]
   exact⟨λh=>h.2,λh=>⟨hx,h⟩⟩
  rw[h2,RD,Rb,<-hfr]
  have:=R.cnt
  omega
 ·rw[RD];omega
theorem A7:∀{q put:@A_},q.Nodup->(∀x,x∈q->x∈put)->q.length<=put.length
 | [],_,_,_=>Sb _
 |x :: q,put,nd,h=>by
  have nd:=R5.mp nd
  have hx:=h x (Ro ..)
  have:=A7 (q:=q) (put:=put.erase x) nd.2 λy hy=>(List.mem_erase_of_ne (λe=>nd.1 (by rw[<-e];exact hy))).mpr (h y (Ru _ hy))
  rw[Uq hx] at this
  have:=List.length_pos_of_mem hx
  rw[RL];omega
abbrev pD (p:@A_):D:=.list (p.map aA)
def Gd {fs:@A_}{s:Pr}(h:fs.getLast? =some s):m9 (fs.map aA) (-1)=some (aA s):=by
 have hl:fs≠ []:=λe=>by rw[e] at h;cases h
 have hpos:=SJ.mpr hl
 unfold m9 xR
 rw[Rj (@AT),Rg (by simp;omega)]
 show (fs.map aA)[((-1:Int) + (((fs.map aA).length:Nat):Int)).toNat]? =_
 rw[show ((-1:Int) + (((fs.map aA).length:Nat):Int)).toNat=fs.length - 1 by simp;omega,RA,<-Uj,h];rfl
def BD {ph:List (@A_)}{p:@A_}{k:Nat}(h:ph[k]? =some p):m9 (ph.map pD) (k:Int)=some (pD p):=by
 have hk:k < ph.length:=(Rn.mp h).1
 rw[oq,FP hk]
 have:ph[k]=p:=by rw[Rf hk] at h;exact Option.some.inj h
 rw[this];rfl
noncomputable def MN:@Cl:=aS 7 3 (kg GS)
def MA {l p:@A_}{s:Pr}(h:O1 l p)(hs:p.getLast? =some s){t:Pr}{q:@A_}(e:p=t :: q)(hst:tD l s t=true):Oc l p=true:=by
 unfold Oc
 rw[RH]
 intro i hi
 have hi:=RW.mp hi
 by_cases c:i=0
 ·subst c
  rw[Rg rfl,RP,<-Uj,hs,e]
  exact hst
 ·rw[Rj c]
  refine h (i - 1) _ _ ?_ ?_
  ·rw[RP,Rf (@AT)];rfl
  ·rw[show i - 1 + 1=i by omega,RP,Rf hi];rfl
def PU {n:Nat}{l put:@A_}{t:Pr}(O:@KK)(hz:put.length<=100)(htp:¬t∈put)(hb:t∈@NE):∃r,MN [ag n l,@TD,aA t]=.ok (.list (r.map aA)) false/\(∀x,x∈r->x=t\/x∈put)/\r.Nodup/\r≠ []/\Oc l r=true:=by
 show ∃r,fin (kg GS [@C_,.fz (@TD),.fz (aA t),.no,.no,.no,.no] 0)=_/\_
 unfold kg
 rw[aH (env':=[@C_,.fz (@TD),.fz (aA t),.ow (.list ([[t]].map pD)),.no,.no,.no]) (β':=0) (by
  rw[lI,lp (ds:=[pD [t]]) (ac (lp (ds:=[aA t]) (ac rfl an)) an)];rfl)]
 rw[aH (env':=[@C_,.fz (@TD),.fz (aA t),.ow (.list ([[t]].map pD)),.fz (@TD),.no,.no]) (β':=0) (by rfl)]
 rw[aH (env':=[@C_,.fz (@TD),.fz (aA t),.ow (.list ([[t]].map pD)),.fz (@TD),.fz (.int ((0:Nat):Int)),.no]) (β':=0) (by rfl)]
 obtain⟨env',β',ew,ph,left,k,p,s,s6,x4,rfl,rfl,R,hp,hs,hst⟩:=jX (L:=[0] ++ ((@GT ++ []) ++ ([2] ++ []))) (t:=pC (i3 (aq GS (aa (gv 0) (aa (f2 (f2 (gv 3) (gv 5) bB) (f1 @Fa rb) bB) (aa (gv 2) ao))))))
  (m:=aJ (b9 6 ([] ++ [0]) (aN 1 [0,3,5] (.nm 0) (bH (gv 4)) (i3 (aq GS (aa (gv 1) (aa (f2 (f2 (gv 2) (gv 3) bB) (f1 @Fa rb) bB) @K_)))) (gv 0)))
   (aJ (b9 4 @GT (aN 1 [6] (.nm 0) (bH (gv 4)) (eO (f2 (gv 0) (gv 1) (oN true))) (gv 0)))
   (aJ (CS 3 @GT (aN 1 [3,5] (.nm 0) (bH (gv 6)) i7 (f2 (f2 (gv 1) (gv 2) bB) (fo @K_) jq)))
   (b9 5 @GT (f2 (gv 5) @Fa bX)))))
  (λm env b=>∃ph left k s6,∃q4:List D->D,(q4=PyData.list\/q4=PyData.tuple)/\env= @M2/\b=0/\RI l put t ph left k/\m=put.length + 1 - k)
  (λenv b=>∃ph left k p s s6 x4,env= [@C_,.fz (@TD),.fz (aA t),.ow (.list (ph.map pD)),.fz x4,.fz (.int ((k:Nat):Int)),s6]/\b=0/\RI l put t ph left k/\ph[k]? =some p/\p.getLast? =some s/\tD l s t=true)
  (n:=1000) (k:=put.length + 1) (env:=[@C_,.fz (@TD),.fz (aA t),.ow (.list ([[t]].map pD)),.fz (@TD),.fz (.int ((0:Nat):Int)),.no]) (β:=0) (@AT)
  ⟨[[t]],put,0,.no,PyData.tuple,.inr rfl,rfl,rfl,⟨λp hp=>by
    rw[RE] at hp;subst hp
    exact⟨[],rfl,(λx hx=>by cases hx),@KM,(λi a b _ hb=>by simp at hb)⟩,λx hx=>hx,λx hx=>.inl hx,⟨[t],@KM,rfl⟩,λi p s hi=>@AT,by simp;omega,@AT ⟩,@AT ⟩ (by
   rintro m env b ⟨ph,left,k,s6,q4,h4,rfl,rfl,R,rfl⟩
   have hk:=R.lt O hb
   obtain⟨p,hp⟩:∃p,ph[k]? =some p:=⟨_,Rf hk⟩
   have hpm:p∈ph:=Su.mpr ⟨k,hp⟩
   obtain⟨q,eq,hq,hnd,hch⟩:=R.pth p hpm
   obtain⟨s,hs⟩:∃s,p.getLast? =some s:=⟨_,List.getLast?_eq_some_getLast (by rw[eq];exact List.cons_ne_nil _ _)⟩
   have hcnt:=R.cnt
   have hpl:p.length<=put.length + 1:=by
    have h1:q.length<=put.length:=by
     rw[eq] at hnd
     exact A7 (R5.mp hnd).2 λx hx=>(hq x hx).1
    rw[eq,RL];omega
   have el:∀s6:Sl,f2 (f2 (gv 3) (gv 5) bB) (f1 @Fa rb) bB (vl @M2) 0=.ok (aA s) 0:=λs6=>aG (x:=pD p) (y:=.int (-1)) (aG (x:=.list (ph.map pD)) (y:=.int k) rfl rfl (BD hp)) rfl (Gd hs)
   have et:pC (i3 (aq GS (aa (gv 0) (aa (f2 (f2 (gv 3) (gv 5) bB) (f1 @Fa rb) bB) (aa (gv 2) ao))))) (vl @M2) 0=.ok (!tD l s t) 0:=eT (eS (ak (F:=GS) (ds:=[ag n l,aA s,aA t]) (b:=false) (ac rfl (ac (el s6) (ac rfl an))) (Nt n l s t)))
   refine⟨_,_,et,?_⟩
   cases hst:tD l s t with
   |true=>exact .inl ⟨rfl,ph,left,k,p,s,s6,_,rfl,rfl,R,hp,hs,hst⟩
   |false=>
    refine .inr ⟨rfl,?_⟩
    show ∃env2 β2 k',aJ _ _ @M2 0=.nx env2 β2/\k' < put.length + 1 - k/\_
    generalize hfr:left.filter (λx=>tD l s x)=fr
    have hfl:fr.length<=left.length:=by rw[<-hfr];exact Se _ _
    have e6:aN 1 [0,3,5] (.nm 0) (bH (gv 4)) (i3 (aq GS (aa (gv 1) (aa (f2 (f2 (gv 2) (gv 3) bB) (f1 @Fa rb) bB) @K_)))) (gv 0) (vl @M2) 0=.ok (.list (fr.map aA)) 0:=by
     rw[<-hfr]
     refine cm (l:=left) (e:=aA) (λx=>tD l s x) aA (by rcases h4 with h4 |h4 <;> rw[h4] <;> rfl) (@AT) λx hx=>⟨[.da (aA x),.da (ag n l),.da (.list (ph.map pD)),.da (.int ((k:Nat):Int))],rfl,?_,λ_=>rfl⟩
     have e2:f2 (f2 (gv 2) (gv 3) bB) (f1 @Fa rb) bB [.da (aA x),.da (ag n l),.da (.list (ph.map pD)),.da (.int ((k:Nat):Int))] 0=.ok (aA s) 0:=aG (x:=pD p) (y:=.int (-1)) (aG (x:=.list (ph.map pD)) (y:=.int k) rfl rfl (BD hp)) rfl (Gd hs)
     exact eS (ak (F:=GS) (ds:=[ag n l,aA s,aA x]) (b:=false) (ac rfl (ac e2 (ac rfl an))) (Nt n l s x))
    rw[aH (env':=[@C_,.fz (@TD),.fz (aA t),.ow (.list (ph.map pD)),.fz (q4 (left.map aA)),.fz (.int ((k:Nat):Int)),.fz (.list (fr.map aA))]) (β':=0) (by rw[cO,e6];rfl)]
    have e4:aN 1 [6] (.nm 0) (bH (gv 4)) (eO (f2 (gv 0) (gv 1) (oN true))) (gv 0) (vl [@C_,.fz (@TD),.fz (aA t),.ow (.list (ph.map pD)),.fz (q4 (left.map aA)),.fz (.int ((k:Nat):Int)),.fz (.list (fr.map aA))]) 0=.ok (.list ((left.filter λx=> !decide (x∈fr)).map aA)) 0:=by
     refine cm (l:=left) (e:=aA) (λx=> !decide (x∈fr)) aA (by rcases h4 with h4 |h4 <;> rw[h4] <;> rfl) (@AT) λx hx=>⟨_,rfl,?_,λ_=>rfl⟩
     exact gC _ _ _ _ (aG (x:=aA x) (y:=.list (fr.map aA)) rfl rfl (Hb true x fr))
    have R':=R.step htp hp hs hst hfr
    generalize hlf:(left.filter λx=> !decide (x∈fr))=left' at e4 R'
    rw[aH (env':=[@C_,.fz (@TD),.fz (aA t),.ow (.list (ph.map pD)),.fz (.list (left'.map aA)),.fz (.int ((k:Nat):Int)),.fz (.list (fr.map aA))]) (β':=0) (by rw[cO,e4];rfl)]
    have e3:aN 1 [3,5] (.nm 0) (bH (gv 6)) i7 (f2 (f2 (gv 1) (gv 2) bB) (fo @K_) jq) (vl [@C_,.fz (@TD),.fz (aA t),.ow (.list (ph.map pD)),.fz (.list (left'.map aA)),.fz (.int ((k:Nat):Int)),.fz (.list (fr.map aA))]) 0=.ok (.list ((fr.map λx=>p ++ [x]).map pD)) 0:=by
     rw[Sz]
     refine bL (l:=fr) (e:=aA) (λx=>pD (p ++ [x])) rfl (@AT) λx hx=>⟨[.da (aA x),.da (.list (ph.map pD)),.da (.int ((k:Nat):Int))],rfl,?_⟩
     refine aG (x:=pD p) (y:=.list [aA x]) (aG (x:=.list (ph.map pD)) (y:=.int k) rfl rfl (BD hp)) (lp (ds:=[aA x]) (ac rfl an)) ?_
     rw[mw (by rw[Rb,R1];omega)]
     show some (PyData.list (p.map aA ++ [x].map aA))=_
     rw[<-RS]
    rw[aH (env':=[@C_,.fz (@TD),.fz (aA t),.ow (.list ((ph ++ fr.map λx=>p ++ [x]).map pD)),.fz (.list (left'.map aA)),.fz (.int ((k:Nat):Int)),.fz (.list (fr.map aA))]) (β':=0) ?g3]
    case g3=>
     rw[Hm (i:=3) (ds:=ph.map pD) (by rfl) e3 (by rfl) (by rw[Rb,Rb,Rb];omega),<-RS];rfl
    refine⟨[@C_,.fz (@TD),.fz (aA t),.ow (.list ((ph ++ fr.map λx=>p ++ [x]).map pD)),.fz (.list (left'.map aA)),.fz (.int ((k + 1:Nat):Int)),.fz (.list (fr.map aA))],0,put.length + 1 - (k + 1),?_,@AT,_,_,_,_,PyData.list,.inl rfl,rfl,rfl,R',rfl⟩
    rw[show ((k + 1:Nat):Int)=(k:Int) + 1 by omega];rfl)
 obtain⟨q,eq,hq,hnd,hch⟩:=R.pth p (Su.mpr ⟨k,hp⟩)
 refine⟨p,?_,λx hx=>?_,hnd,by rw[eq];exact List.cons_ne_nil _ _,MA hch hs eq hst⟩
 ·rw[aH ew,du,aG (x:=.list (ph.map pD)) (y:=.int k) (d:=pD p) (β1:=0) (β2:=0) rfl rfl (BD hp)];rfl
 ·rw[eq] at hx
  rcases Rm.mp hx with h |h
  ·exact .inl h
  ·exact .inr (hq x h).1
def yw (l:@A_)(p:Pr):Bool:=((l.filter λq=>decide (q.2=p.1)).all λq=>decide ((q.1,p.2)∈l)) && ((l.filter λq=>decide (q.1=p.2)).all λq=>decide ((p.1,q.2)∈l))
def xg:@Cl:=aS 4 3 mn
theorem HQ {n:Nat}{l:@A_}(hl:l.length<=1000)(a b:Int):xg [ag n l,.int a,.int b]=.ok (.bool (yw l (a,b))) false:=by
 show fin (mn [@C_,.fz (.int a),.fz (.int b),.no] 0)=_
 unfold mn
 rw[aH (env':=[@C_,.fz (.int a),.fz (.int b),.fz (@S_)]) (β':=0) (by rfl)]
 have e1:aN 2 [1,2,3] (.two 0 1) (bH (gv 3)) (eO (f2 (gv 1) (gv 2) (gq false))) (f2 (cq (aa (gv 0) (aa (gv 3) ao))) (gv 4) (oN false)) [.da (ag n l),.da (.int a),.da (.int b),.da (@S_)] 0=.ok (.list ((l.filter λq=>decide (q.2=a)).map λq=>PyData.bool (decide ((q.1,b)∈l)))) 0:=
  cm (l:=l) (e:=aA) (λq=>decide (q.2=a)) (λq=>PyData.bool (decide ((q.1,b)∈l))) rfl hl λq hq=>⟨_,rfl,ju (neg:=false) (i:=q.2) (j:=a) rfl rfl,λ_=>aG (cX (a:=q.1) (b:=b) rfl rfl) rfl (oi false (q.1,b) l)⟩
 have e2:aN 2 [2,1,3] (.two 0 1) (bH (gv 3)) (eO (f2 (gv 0) (gv 2) (gq false))) (f2 (cq (aa (gv 3) (aa (gv 1) ao))) (gv 4) (oN false)) [.da (ag n l),.da (.int a),.da (.int b),.da (@S_)] 0=.ok (.list ((l.filter λq=>decide (q.1=b)).map λq=>PyData.bool (decide ((a,q.2)∈l)))) 0:=
  cm (l:=l) (e:=aA) (λq=>decide (q.1=b)) (λq=>PyData.bool (decide ((a,q.2)∈l))) rfl hl λq hq=>⟨_,rfl,ju (neg:=false) (i:=q.1) (j:=b) rfl rfl,λ_=>aG (cX (a:=a) (b:=q.2) rfl rfl) rfl (oi false (a,q.2) l)⟩
 have t1:pC (i3 (f1 (aN 2 [1,2,3] (.two 0 1) (bH (gv 3)) (eO (f2 (gv 1) (gv 2) (gq false))) (f2 (cq (aa (gv 0) (aa (gv 3) ao))) (gv 4) (oN false))) (bY λbs=>bs.all id))) (vl [@C_,.fz (.int a),.fz (.int b),.fz (@S_)]) 0=.ok (!((l.filter λq=>decide (q.2=a)).all λq=>decide ((q.1,b)∈l))) 0:=eT (eS (Af e1))
 unfold yw
 dsimp only
 cases c:((l.filter λq=>decide (q.2=a)).all λq=>decide ((q.1,b)∈l)) with
 |false=>
  rw[c] at t1
  rw[jm (d:=.bool false) (b:=false) (β':=0) ?g]
  case g=>rw[mU t1];rfl
  rfl
 |true=>
  rw[c] at t1
  rw[aH (env':=[@C_,.fz (.int a),.fz (.int b),.fz (@S_)]) (β':=0) ?g]
  case g=>rw[j7 t1];rfl
  rw[du]
  show fin (toS (f1 (aN 2 [2,1,3] (.two 0 1) (bH (gv 3)) (eO (f2 (gv 0) (gv 2) (gq false))) (f2 (cq (aa (gv 3) (aa (gv 1) ao))) (gv 4) (oN false))) (bY λbs=>bs.all id) [.da (ag n l),.da (.int a),.da (.int b),.da (@S_)] 0) _)=_
  rw[Af e2];rfl
noncomputable def wm:@Cl:=aS 1 1 (oA sP xg)
def DZ {n:Nat}{l:@A_}(O:@KK):wm [ag n l]=.ok (.list (((oB n l).filter (yw l)).map aA)) true:=by
 have hl:=jk O
 have e:aN 2 [0] (.two 0 1) (bH (aq sP @K_)) (i3 (aq xg (aa (gv 2) @Fk))) (cq @Fk) [.da (ag n l)] 0=.ok (.list (((oB n l).filter (yw l)).map aA)) 0:=by
  have hi:bH (aq sP @K_) [.da (ag n l)] 0=.ok ((oB n l).map aA) 0:=by
   unfold bH
   rw[ak (ds:=[ag n l]) rfl (Ij O)];rfl
  exact cm (l:=oB n l) (e:=aA) (yw l) aA hi (by have:=HP (l:=l) O.hi;omega) λp hp=>⟨_,rfl,eS (ak (ds:=[ag n l,.int p.1,.int p.2]) rfl (HQ (@AT) p.1 p.2)),λ_=>cX rfl rfl⟩
 show fin (toS (aN 2 [0] (.two 0 1) (bH (aq sP @K_)) (i3 (aq xg (aa (gv 2) @Fk))) (cq @Fk) [.da (ag n l)] 0) _)=_
 rw[e];rfl
def jW (n:Nat)(l put:@A_)(t:Pr):putAll n l (put ++ [t])=putL n (@NE) t:=by unfold putAll;rw[List.foldl_append];rfl
theorem xh {n:Nat}:∀{put l:@A_} {p:Pr},((0<=p.1/\p.1 < n)/\(0<=p.2/\p.2 < n))->p∈l->p∈@NE
 | [],l,p,_,h=>h
 |t :: put,l,p,hr,h=>xh (put:=put) (l:=putL n l t) hr ((nj hr).mpr (.inl h))
def Ja {n:Nat}{l:@A_}{r:@Db}{t:Pr}(hR:Row n l r)(h:r.idxOf t.2 < r.idxOf t.1):Row n (putL n l t) r:=by
 refine⟨hR.1,?_⟩
 have hf:=hR.2
 unfold uE at hf ⊢
 rw[RH] at hf ⊢
 intro p hp
 have q:∀x y:Int,mY l x y=true->r.idxOf x<=r.idxOf y:=λx y hxy=>by
  rcases fH.mp hxy with e |hm
  ·rw[e];exact Rh _
  ·exact Tq (RZ (hf _ hm))
 rcases oH hp with hm | ⟨a,b⟩
 ·exact hf p hm
 ·have:=q _ _ a
  have:=q _ _ b
  exact Rk (@AT)
def sF {n:Nat}{l:@A_}{r:@Db}{p:Pr}(hR:Row n l r)(h:p∈l):r.idxOf p.1 < r.idxOf p.2:=by
 have hf:=hR.2
 unfold uE at hf
 exact RZ (RH.mp hf p h)
structure Pt (n:Nat)(l:@A_)(put:@A_):Prop where
 ord:OM.Ord n (@NE)
 tr:∀p,p∈put->p∈oB n l
 tnd:∀p,p∈put->(p.2,p.1)∈@NE
def wu {n:Nat}{l:@A_}(O:@KK):Pt n l []:=⟨O,(λp h=>by cases h),λp h=>by cases h⟩
def Pt.more {n:Nat}{l put:@A_}{t:Pr}(h:Pt n l put)(ht:t∈oB n l)(hb:¬t∈@NE):Pt n l (put ++ [t]):=by
 obtain⟨hr,ha⟩:=cH.mp ht
 have hn:mY (@NE) t.1 t.2=false:=by
  cases z:mY (@NE) t.1 t.2 with
  |false=>rfl
  |true=>
   rcases fH.mp z with e |e
   ·unfold GO at ha;rw[e] at ha;simp at ha
   ·exact absurd e hb
 refine⟨by rw[jW];exact IS h.ord hn,λp hp=>?_,λp hp=>?_⟩
 ·rcases Rw.mp hp with z |z
  ·exact h.tr p z
  ·rw[RE] at z;subst z;exact ht
 ·rw[jW]
  rcases Rw.mp hp with z |z
  ·exact B4 h.ord (h.tnd p z)
  ·rw[RE] at z;subst z;exact sd hr
def xE (n:Nat)(l put:@A_):D:=.tuple [cG n (bQ (@NE)),@TD]
def fk (n:Nat)(l:@A_)(pts:List (@A_)):D:=.list (pts.map (xE n l))
def Dp:@Cl:=aS 2 2 (kj Jw)
def NQ {n:Nat}{l:@A_}{t:Pr}(h8:n<=8)(h:(0<=t.1/\t.1 < n)/\(0<=t.2/\t.2 < n)):Dp [cG n (bQ l),aA t]=.ok (.bool (decide ((t.2,t.1)∈l))) false:=by
 show fin (kj Jw [@I_,.fz (aA t)] 0)=_
 unfold kj
 exact dP (gM (ak (ds:=[cG n (bQ l),.int t.2,.int t.1]) (ac rfl (ac (aG (x:=aA t) (y:=.int 1) rfl rfl rfl) (ac (aG (x:=aA t) (y:=.int 0) rfl rfl rfl) an))) (Mv h8 h.2 h.1)) rfl)
def CK (n:Nat)(l:@A_)(pts:List (@A_))(t:Pr):Bool:=pts.any λput=>decide ((t.2,t.1)∈@NE)
noncomputable def DB:@Cl:=aS 2 2 (kH Ec)
def N7 {n:Nat}{l:@A_}{pts:List (@A_)}{t:Pr}(h8:n<=8)(hz:pts.length<=100)(h:(0<=t.1/\t.1 < n)/\(0<=t.2/\t.2 < n)):∃k:Nat,DB [fk n l pts,aA t]=.ok (.int k) false:=by
 refine⟨(pts.filter λput=> !decide (t∈@NE)).length,?_⟩
 show fin (kH Ec [.fz (fk n l pts),.fz (aA t)] 0)=_
 unfold kH
 have ec:aN 2 [1] (.two 0 1) (bH (gv 0)) (pC (i3 (aq Ec (aa (gv 0) (aa (gv 2) ao))))) (gv 0) (vl [.fz (fk n l pts),.fz (aA t)]) 0=.ok (.list ((pts.filter λput=> !decide (t∈@NE)).map λput=>cG n (bQ (@NE)))) 0:=
  cm (l:=pts) (e:=xE n l) (λput=> !decide (t∈@NE)) (λput=>cG n (bQ (@NE))) rfl (@AT) λput _=>⟨[.da (cG n (bQ (@NE))),.da (@TD),.da (aA t)],rfl,eT (eS (ak (ds:=[cG n (bQ (@NE)),aA t]) rfl (LO h8 h))),λ_=>rfl⟩
 refine dP (gM (cQ ec ?_) rfl)
 show some (int _)=_
 rw[Rb]
def KH {ir:Nat}{fa fb:VF D}{vs:List Nv}{β:Int}{ts:@A_}{dr:D}(h:@Tm=.ok (.list (ts.map aA)) β)(hr:vs[ir]? =some (.da dr))(hne:ts≠ [])(hk:∀t,t∈ts->∃k:Nat,fb [.da (aA t),.da dr] β=.ok (.int k) β):∃t,t∈ts/\BC ir fa fb vs β=.ok (aA t) β:=by
 have hl:0 < ts.length:=SJ.mpr hne
 unfold BC
 rw[h]
 dsimp only[R.bnd]
 rw[show dat vs[ir]? =some dr by rw[hr];rfl]
 dsimp only
 have hall:(ts.map aA).all (λd=>(nD fb dr β d).isSome)=true:=by
  rw[RH]
  intro d hd
  obtain⟨t,ht,rfl⟩:=Rz.mp hd
  obtain⟨k,e⟩:=hk t ht
  unfold nD
  rw[e];rfl
 rw[Rg ⟨by rw[Rb];exact hl,hall⟩]
 have hb:=(tH (ks:=(ts.map aA).map λd=>(nD fb dr β d).getD 0) (by rw[Rb,Rb];exact hl)).1
 generalize zv ((ts.map aA).map λd=>(nD fb dr β d).getD 0)=b at hb
 rw[Rb,Rb] at hb
 refine⟨ts[b],SY hb,?_⟩
 rw[RA,Rf hb];rfl
section
variable {m m':SF}{env:En}{β β1:Int}{Q:SO->Prop}{L:@Ix}
def Hv {t:Tg}{fi:@Tk}{ds:List D}(Pd:D->Prop)(I:Nat->En->Int->Prop)(hi:fi @PP β=.ok ds β1)(h0:I 0 (a8 L env) β1)
  (hs:∀i d env β,ds[i]? =some d->I i env β->∃env1,jg t d env=some env1/\WP (m env1 β) λs=>(∃d β2,s=.rt d false β2/\Pd d)\/∃env2 β2,s=.nx env2 β2/\I (i + 1) env2 β2)
  (kr:∀d β,Pd d->Q (.rt d false β)) (k:∀env β,I ds.length env β->WP (m' env β) Q):WP (aJ (mS t L fi m) m' env β) Q:=by
 have key:∀(k i:Nat),i + k=ds.length->∀env β,I i env β->(∃d β2,mV t m (ds.drop i) env β=.rt d false β2/\Pd d)\/∃env2 β2,mV t m (ds.drop i) env β=.nx env2 β2/\I ds.length env2 β2:=by
  intro k
  induction k with
  |zero=>
   intro i hik env β h
   have:i=ds.length:=@AT
   subst this
   rw[T9]
   exact .inr ⟨env,β,rfl,h⟩
  |succ k ih=>
   intro i hik env β h
   have hlt:i < ds.length:=@AT
   obtain⟨env1,e1,⟨h1⟩⟩:=hs i ds[i] env β (Rf hlt) h
   rw[TK hlt]
   rcases h1 with⟨d,β2,e2,hp⟩ | ⟨env2,β2,e2,h2⟩
   ·exact .inl ⟨d,β2,by unfold mV;rw[e1];dsimp only;rw[e2],hp⟩
   ·have e3:mV t m (ds[i] :: ds.drop (i + 1)) env β=mV t m (ds.drop (i + 1)) env2 β2:=by conv=>lhs;unfold mV;rw[e1];dsimp only;rw[e2]
    rw[e3]
    exact ih (i + 1) (@AT) env2 β2 h2
 have e0:=key ds.length 0 (@AT) _ _ h0
 rw[List.drop_zero] at e0
 rcases e0 with⟨d,β2,e,hp⟩ | ⟨env2,β2,e,h2⟩
 ·exact⟨by rw[jm ((jU hi).trans e)];exact kr d β2 hp⟩
 ·exact wp_seq ((jU hi).trans e) (k _ _ h2)
end
def fW (pts:List (@A_))(i:Nat)(t:Pr):List (@A_):=pts.take i ++ [pts.getD i [] ++ [t]] ++ pts.drop (i + 1)
def r6 {pts:List (@A_)}{i:Nat}{t:Pr}(hi:i < pts.length):(fW pts i t).length=pts.length:=by
 unfold fW;rw[RD,RD,R9,To,R1];omega
def og {pts:List (@A_)}{i:Nat}{t:Pr}{put:@A_}(hi:pts[i]? =some put)(j:Nat):(fW pts i t)[j]? =if j=i then some (put ++ [t]) else pts[j]?:=by
 have hlt:=(Rn.mp hi).1
 have hg:pts.getD i []=put:=by rw[RP,hi];rfl
 unfold fW
 rw[hg]
 by_cases h:j < i
 ·rw[Rj (@AT),S4,RX (by rw[R9];omega),List.getElem?_take,Rg h]
 ·rw[S4,R3 (by rw[R9];omega),R9,TZ (@AT)]
  by_cases e:j=i
  ·rw[Rg e,show j - i=0 by omega];rfl
  ·rw[Rj e,R3 (by rw[R1];omega),R1,List.getElem?_drop]
   congr 1
   omega
def Ft (n:Nat)(l:@A_)(pts:List (@A_))(rs:@LE):Prop:=rs.length=pts.length/\∀(i:Nat) (r:@Db) (put:@A_),rs[i]? =some r->pts[i]? =some put->Row n (@NE) r
def Tn (r:@Db)(t:Pr):Prop:=r.idxOf t.2 < r.idxOf t.1
def Pb (n:Nat)(l:@A_)(pts:List (@A_))(left:@A_):Prop:=∀rs,Ft n l pts rs->∃t,t∈left/\∀r,r∈rs->¬Tn r t
def NW (n:Nat)(l:@A_)(pts:List (@A_))(left:@A_)(d:D):Prop:=∃rs,d=.tuple [.str "rows",@D_]/\Ft n l pts rs/\∀t,t∈left->∃r,r∈rs/\Tn r t
def Kv (n:Nat)(l:@A_):Nat->D->List (@A_)->Prop
 | 0,_,_=>False
 |k + 1,d,pts=>(∃(i:Nat) (r q:@A_),d=.tuple [.str "ring",.int i,.list (r.map aA)]/\pts[i]? =some q/\(∀x,x∈r->x∈q)/\r≠ []/\Oc l r=true/\r.length<=100/\∀x,x∈r->x∈oB n l)\/
  ∃(t:Pr) (zs:List D),d=.tuple [.str "turn",aA t,.tuple zs]/\t∈oB n l/\zs.length=pts.length/\∀i z,zs[i]? =some z->Kv n l k z (fW pts i t)
noncomputable def Ml (F:@Cl):@Cl:=aS 7 5 (jH F Ec MN K0)
noncomputable def GL (F:@Cl):@Cl:=aS 8 3 (fL (Ml F) Dp MT DB)
def D4 {n:Nat}{l:@A_}{pts:List (@A_)}{i:Nat}{put:@A_}(hi:pts[i]? =some put):bB (fk n l pts) (.int (i:Int))=some (xE n l put):=kM (by rw[RA,hi];rfl)
def EK {n:Nat}{l:@A_}{pts:List (@A_)}{i:Nat}{t:Pr}{put:@A_}(hi:pts[i]? =some put):fk n l (fW pts i t)=.list ((pts.map (xE n l)).take i ++ [PyData.tuple [cG n (bQ (putL n (@NE) t)),.tuple (put.map aA ++ [aA t])]] ++ (pts.map (xE n l)).drop (i + 1)):=by
 have hg:pts.getD i []=put:=by rw[RP,hi];rfl
 unfold fk fW
 rw[hg,RS,RS,List.map_take,List.map_drop]
 show PyData.list (_ ++ [xE n l (put ++ [t])] ++ _)=_
 unfold xE
 rw[jW,RS];rfl
def FX {n:Nat}{l:@A_}{F:@Cl}{pts:List (@A_)}{left:D}{i:Nat}{put:@A_}{t:Pr}{Q:SO->Prop}(h8:n<=8)(hi:pts[i]? =some put)(hr:(0<=t.1/\t.1 < n)/\(0<=t.2/\t.2 < n))
  (k:WP (aJ (lx ([5] ++ ([4] ++ [])) (λvs β=>i3 (aq Ec (aa (gv 5) (aa (gv 4) ao))) vs β)
    (bS (cq (aa (cst (.str "ring")) (aa (gv 3) (aa (aq MN (aa (gv 0) (aa (gv 6) (aa (gv 4) ao)))) ao)))))
    m8)
   (bS (aq F (aa (gv 0) (aa (gv 1) (aa (f2 (f2 (IZ (gv 2) (λ_ β=>.ok none β) (zj (gv 3))) (fo (aa (cq (aa (aq K0 (aa (gv 5) (aa (gv 4) ao))) (aa (f2 (gv 6) (cq (aa (gv 4) ao)) kK) ao))) ao)) jq) (IZ (gv 2) (zj (f2 (gv 3) @Fa bX)) (λ_ β=>.ok none β)) jq) ao))))) @GM 0) Q) :
  WP (jH F Ec MN K0 [@C_,.fz left,.fz (fk n l pts),.fz (.int (i:Int)),.fz (aA t),.no,.no] 0) Q:=by
 unfold jH
 refine dq (d:=cG n (bQ (@NE))) (β1:=0) (aG (x:=xE n l put) (y:=.int 0) (aG (x:=fk n l pts) (y:=.int i) rfl rfl (D4 hi)) rfl rfl) ?_
 refine dq (d:=@TD) (β1:=0) (aG (x:=xE n l put) (y:=.int 1) (aG (x:=fk n l pts) (y:=.int i) rfl rfl (D4 hi)) rfl rfl) ?_
 exact wp_at @GM rfl k
def Nb {n:Nat}{l:@A_}{F:@Cl}{pts:List (@A_)}{left:D}{i:Nat}{put:@A_}{t:Pr}(O:@KK)(hi:pts[i]? =some put)(hp:Pt n l put)(hz:put.length<=100)(ht:t∈oB n l)(hb:t∈@NE) :
  ∃r,Ml F [ag n l,left,fk n l pts,.int (i:Int),aA t]=.ok (.tuple [.str "ring",.int i,.list (r.map aA)]) false/\(∀x,x∈r->x=t\/x∈put)/\r.Nodup/\r≠ []/\Oc l r=true:=by
 obtain⟨hr,ha⟩:=cH.mp ht
 have htp:¬t∈put:=λh=>hp.ord.irr _ (hp.ord.tr _ _ _ hb (hp.tnd t h))
 obtain⟨r,er,h1,h2,h3,h4⟩:=PU O hz htp hb
 refine⟨r,?_,h1,h2,h3,h4⟩
 show fin (jH F Ec MN K0 [@C_,.fz left,.fz (fk n l pts),.fz (.int (i:Int)),.fz (aA t),.no,.no] 0)=_
 refine dP (FX O.hi hi hr ?_)
 have eb:i3 (aq Ec (aa (gv 5) (aa (gv 4) ao))) (vl @GM) 0=.ok true 0:=by
  rw[<-Rk hb]
  exact eS (ak (ds:=[cG n (bQ (@NE)),aA t]) rfl (LO O.hi hr))
 refine xi eb (Cp (iM (ds:=[.str "ring",.int i,.list (r.map aA)]) (ac rfl (ac rfl (ac (ak (ds:=[ag n l,@TD,aA t]) rfl er) an))) (@KM)) rfl)
def Oy {n:Nat}{l:@A_}{F:@Cl}{pts:List (@A_)}{left d:D}{i:Nat}{put:@A_}{t:Pr}{b:Bool}(h8:n<=8)(hi:pts[i]? =some put)(hl:pts.length<=100)(hz:put.length<=100)(ht:t∈oB n l)(hb:¬t∈@NE)(hF:F [ag n l,left,fk n l (fW pts i t)]=.ok d b) :
  Ml F [ag n l,left,fk n l pts,.int (i:Int),aA t]=.ok d false:=by
 obtain⟨hr,ha⟩:=cH.mp ht
 show fin (jH F Ec MN K0 [@C_,.fz left,.fz (fk n l pts),.fz (.int (i:Int)),.fz (aA t),.no,.no] 0)=_
 refine dP (FX h8 hi hr ?_)
 have eb:i3 (aq Ec (aa (gv 5) (aa (gv 4) ao))) (vl @GM) 0=.ok false 0:=by
  rw[<-Rt hb]
  exact eS (ak (ds:=[cG n (bQ (@NE)),aA t]) rfl (LO h8 hr))
 refine jo eb (wp_at @GM rfl ?_)
 refine gM (ak (ds:=[ag n l,left,fk n l (fW pts i t)]) (ac rfl (ac rfl (ac ?_ an))) hF) rfl
 rw[EK hi]
 have a1:aq K0 (aa (gv 5) (aa (gv 4) ao)) (vl @GM) 0=.ok (cG n (bQ (putL n (@NE) t))) 0:=ak (ds:=[cG n (bQ (@NE)),aA t]) rfl (PF h8 hr)
 have a2:f2 (gv 6) (cq (aa (gv 4) ao)) kK (vl @GM) 0=.ok (.tuple (put.map aA ++ [aA t])) 0:=Fv (a:=put.map aA) (b:=[aA t]) rfl (tp (ac rfl an)) (by rw[Rb];simp;omega)
 refine FY (FY (EO (ds:=pts.map (xE n l)) rfl rfl) (lp (ac (tp (ac a1 (ac a2 an))) an)) ?_) (Ih (ds:=pts.map (xE n l)) rfl (Qn rfl)) ?_
 ·rw[R9,Rb];simp;omega
 ·rw[RD,R9,To,Rb];simp;omega
open Classical in
noncomputable def rv (n:Nat)(l put:@A_):@Db:=if h:OM.Ord n (@NE) then Classical.choose (Oo (late:=[]) h (@KM)) else []
def tQ {n:Nat}{l put:@A_}(h:OM.Ord n (@NE)):MT [cG n (bQ (@NE)),.list []]=.ok (tupI (rv n l put)) false/\Row n (@NE) (rv n l put):=by
 have:=Classical.choose_spec (Oo (late:=[]) h (@KM))
 unfold rv
 rw[dif_pos h]
 exact⟨this.1,this.2.1⟩
def Ie (n:Nat)(l:@A_)(pts:List (@A_))(left:@A_):@A_:=left.filter λt=> !CK n l pts t
abbrev cE (n:Nat)(l:@A_)(pts:List (@A_))(left:@A_)(s3 s4 s5 s6 s7:Sl):En:=[@C_,.fz (.list (left.map aA)),.fz (fk n l pts),s3,s4,s5,s6,s7]
def Jv {α:Type}{fa:VF D}{vs:List Nv}{β:Int}{l:List α}{f:α->Bool}(h:@Tm=.ok (.list (l.map λq=>PyData.bool (f q))) β):f1 fa (bY λbs=>bs.any id) vs β=.ok (.bool (l.any f)) β:=cQ h (by simp only[bY];rw[gn];simp[List.any_map])
def Kg {n:Nat}{l:@A_}{pts:List (@A_)}{left:@A_}(h8:n<=8)(hl:pts.length<=100)(hz:left.length<=100)(ht:∀t,t∈left->t∈oB n l)(s3 s4 s5 s6 s7:Sl) :
  aN 1 [2] (.nm 0) (bH (gv 1)) (pC (i3 (f1 (aN 2 [0] (.two 0 1) (bH (gv 1)) i7 (aq Dp (aa (gv 0) (aa (gv 2) ao)))) (bY λbs=>bs.any id)))) (gv 0) (vl (cE n l pts left s3 s4 s5 s6 s7)) 0=.ok (.list ((Ie n l pts left).map aA)) 0:=by
 refine cm (l:=left) (e:=aA) (λt=> !CK n l pts t) aA rfl (@AT) λt hm=>⟨[.da (aA t),.da (fk n l pts)],rfl,eT (eS ?_),λ_=>rfl⟩
 refine Jv (l:=pts) (f:=λput=>decide ((t.2,t.1)∈@NE)) ?_
 exact bL (l:=pts) (e:=xE n l) (λput=>PyData.bool (decide ((t.2,t.1)∈@NE))) rfl (@AT) λput _=>⟨[.da (cG n (bQ (@NE))),.da (@TD),.da (aA t)],rfl,ak (ds:=[cG n (bQ (@NE)),aA t]) rfl (NQ h8 (cH.mp (ht t hm)).1)⟩
def Ni {n:Nat}{l:@A_}{pts:List (@A_)}{t:Pr}(h:CK n l pts t=true):∃(j:Nat) (put:@A_),pts[j]? =some put/\(t.2,t.1)∈@NE:=by
 unfold CK at h
 obtain⟨put,hm,hd⟩:=List.any_eq_true.mp h
 obtain⟨j,hj⟩:=Su.mp hm
 exact⟨j,put,hj,RZ hd⟩
def N4 {n:Nat}{l:@A_}{pts:List (@A_)}{rs:@LE}(h:Ft n l pts rs){j:Nat}{put:@A_}(hj:pts[j]? =some put):∃r,rs[j]? =some r/\r∈rs/\Row n (@NE) r:=by
 have hlt:=(Rn.mp hj).1
 have hl:=h.1
 have e:rs[j]? =some (rs[j]'(@AT)):=Rf (@AT)
 exact⟨_,e,SY (@AT),h.2 j _ _ e hj⟩
def Kb {n:Nat}{l:@A_}{pts:List (@A_)}{rs:@LE}{t:Pr}(h:Ft n l pts rs)(ht:CK n l pts t=true):∃r,r∈rs/\Tn r t:=by
 obtain⟨j,put,hj,hm⟩:=Ni ht
 obtain⟨r,_,hr,hR⟩:=N4 h hj
 exact⟨r,hr,sF hR hm⟩
def Ia {n:Nat}{l:@A_}{pts:List (@A_)}{rs:@LE}{i:Nat}{t:Pr}{put:@A_}(hi:pts[i]? =some put)(hP:∀q,q∈pts->Pt n l q)(h:Ft n l (fW pts i t) rs):Ft n l pts rs:=by
 have hlt:=(Rn.mp hi).1
 refine⟨by rw[h.1,r6 hlt],λj r q hr hq=>?_⟩
 by_cases e:j=i
 ·subst e
  rw[hi] at hq;cases hq
  have:=h.2 j r (put ++ [t]) hr (by rw[og hi,Rg rfl])
  rw[jW] at this
  refine⟨this.1,?_⟩
  have hf:=this.2
  unfold uE at hf ⊢
  rw[RH] at hf ⊢
  exact λp hp=>hf p (B4 (hP _ (RN hi)).ord hp)
 ·exact h.2 j r q hr (by rw[og hi,Rj e];exact hq)
def Ha {n:Nat}{l:@A_}{pts:List (@A_)}{rs:@LE}{i:Nat}{t:Pr}{put:@A_}{r:@Db}(hi:pts[i]? =some put)(hr:rs[i]? =some r)(ht:Tn r t)(h:Ft n l pts rs):Ft n l (fW pts i t) rs:=by
 have hlt:=(Rn.mp hi).1
 refine⟨by rw[h.1,r6 hlt],λj r' q hr' hq=>?_⟩
 rw[og hi] at hq
 by_cases e:j=i
 ·subst e
  rw[Rg rfl] at hq;cases hq
  rw[hr] at hr';cases hr'
  rw[jW]
  exact Ja (h.2 j r put hr hi) ht
 ·rw[Rj e] at hq
  exact h.2 j r' q hr' hq
def Br (n:Nat)(l:@A_)(pts:List (@A_))(ud:@A_)(t:Pr)(j:Nat):Prop:=∀rs r,Ft n l pts rs->rs[j]? =some r->Tn r t->∃u,u∈ud/\∀r,r∈rs->¬Tn r u
def AK:SeqAt.shaped (.str "rows")=true/\∀s∈([Str.ofString "rows",Str.ofString "ring",Str.ofString "turn"]:@Id),SeqAt.shaped (.str s)=true/\PyData.eqv (.str s) (.str "rows")=decide (s="rows"):=@FS
def rR {fa:VF D}{vs:List Nv}{β:Int}{s:Str}(hs:s∈([Str.ofString "rows",Str.ofString "ring",Str.ofString "turn"]:@Id)){neg:Bool}(h:@Tm=.ok (.str s) β):eO (f2 fa (cst (.str "rows")) (gq neg)) vs β=.ok (if neg then !decide (s="rows") else decide (s="rows")) β:=gC _ _ _ _ (aG h rfl (by unfold gq;rw[(AK.2 s hs).1,AK.1,(AK.2 s hs).2];cases neg <;> rfl))
theorem len0 {fa:VF D}{vs:List Nv}{β:Int}{ds:List D}(h:@Tm=.ok (.list ds) β):eO (f2 (f1 fa cJ) @FM (gq false)) vs β=.ok ds.isEmpty β:=by
 have:=ju (neg:=false) (fa:=f1 fa cJ) (fb:=cst (.int 0)) (vs:=vs) (β:=β) (i:=ds.length) (j:=0) (o4 h) rfl
 rw[this]
 cases ds with
 |nil=>rfl
 |cons d ds=>congr 1
def Kk {n:Nat}{l:@A_}{F:@Cl}{pts:List (@A_)}{left:@A_}(O:@KK)(hl:pts.length<=64)(hP:∀put,put∈pts->Pt n l put)(ht:∀t,t∈left->t∈oB n l)(hz:left.length<=64)(hu:Ie n l pts left= []):∃d,GL F [ag n l,.list (left.map aA),fk n l pts]=.ok d false/\NW n l pts left d:=by
 have hR:Ft n l pts (pts.map (rv n l)):=⟨by rw[Rb],λi r put hr hp=>by
  rw[RA,hp] at hr
  cases hr
  exact (tQ (hP put (RN hp)).ord).2⟩
 refine⟨.tuple [.str "rows",.list ((pts.map (rv n l)).map tupI)],?_,pts.map (rv n l),rfl,hR,λt hm=>?_⟩
 ·show fin (fL (Ml F) Dp MT DB (cE n l pts left .no .no .no .no .no) 0)=_
  unfold fL
  have eu:=Kg (pts:=pts) O.hi (@AT) (@AT) ht .no .no .no .no .no
  rw[hu] at eu
  refine dP (dq eu (wp_at (cE n l pts left (.fz (.list [])) .no .no .no .no) rfl ?_))
  refine xi (len0 (ds:=[]) rfl) (Cp (iM (ds:=[.str "rows",.list ((pts.map (rv n l)).map tupI)]) (ac rfl (ac ?_ an)) (@KM)) rfl)
  rw[Sz]
  exact bL (l:=pts) (e:=xE n l) (λput=>tupI (rv n l put)) rfl (@AT) λput hp=>⟨[.da (cG n (bQ (@NE))),.da (@TD)],rfl,ak (ds:=[cG n (bQ (@NE)),.list []]) (ac rfl (ac (lp (ds:=[]) an) an)) (tQ (hP put hp).ord).1⟩
 ·have:CK n l pts t=true:=by
   cases c:CK n l pts t with
   |true=>rfl
   |false=>
    have:t∈Ie n l pts left:=Rl.mpr ⟨hm,by rw[c];rfl⟩
    rw[hu] at this;cases this
  exact Kb hR this
theorem Qd {n:Nat}{l:@A_}(O:@KK):∀(k:Nat) (pts:List (@A_)) (left:@A_),pts.length<=64->(∀put,put∈pts->Pt n l put)->(∀t,t∈left->t∈oB n l)->left.length<=64->(Ie n l pts left).length<=k->(∀put,put∈pts->put.length + k<=70)->
  ∃d,t6 GL (k + 1) [ag n l,.list (left.map aA),fk n l pts]=.ok d false/\(NW n l pts left d\/((∃t zs,d=.tuple [.str "turn",aA t,.tuple zs]/\zs.length=pts.length)/\Kv n l (k + 1) d pts/\Pb n l pts left)):=by
 intro k
 induction k with
 |zero=>
  intro pts left hl hP ht hz hu hk
  obtain⟨d,e,h⟩:=Kk (F:=t6 GL 0) O hl hP ht hz (List.length_eq_zero_iff.mp (@AT))
  exact⟨d,e,.inl h⟩
 |succ k ih=>
  intro pts left hl hP ht hz hu hk
  by_cases hu0:Ie n l pts left= []
  ·obtain⟨d,e,h⟩:=Kk (F:=t6 GL (k + 1)) O hl hP ht hz hu0
   exact⟨d,e,.inl h⟩
  have eu:=Kg (pts:=pts) O.hi (@AT) (@AT) ht .no .no .no .no .no
  have hud:∀t,t∈Ie n l pts left->t∈left/\CK n l pts t=false:=λt h=>by
   have:=Rl.mp h
   exact⟨this.1,by simpa using this.2⟩
  generalize hU:Ie n l pts left=ud at eu hu hu0 hud
  have hut:∀t,t∈ud->t∈oB n l:=λt h=>ht t (hud t h).1
  have huz:ud.length<=64:=by rw[<-hU];exact Sd (Se _ _) hz
  obtain⟨t,htu,em⟩:=KH (ir:=2) (fa:=gv 3) (fb:=aq DB (aa (gv 1) @K_)) (vs:=vl (cE n l pts left (.fz (.list (ud.map aA))) .no .no .no .no)) (β:=0) (ts:=ud) (dr:=fk n l pts) rfl rfl hu0 λt h=>by
   obtain⟨j,e⟩:=N7 (l:=l) (pts:=pts) O.hi (@AT) (cH.mp (hut t h)).1
   exact⟨j,ak (ds:=[fk n l pts,aA t]) rfl e⟩
  have htt:=hut t htu
  have br:∀i,i < pts.length->∃d,Ml (t6 GL (k + 1)) [ag n l,.list (ud.map aA),fk n l pts,.int (i:Int),aA t]=.ok d false/\(NW n l pts left d\/((∃s y z,d=.tuple [.str s,y,z]/\(s="ring"\/s="turn"))/\Kv n l (k + 1) d (fW pts i t)/\Br n l pts ud t i)):=λi hi=>by
   obtain⟨put,hp⟩:∃put,pts[i]? =some put:=⟨_,Rf hi⟩
   have hpm:=RN hp
   have hpk:=hk put hpm
   by_cases hb:t∈@NE
   ·obtain⟨r,e,h1,h2,h3,h4⟩:=Nb (F:=t6 GL (k + 1)) (left:=.list (ud.map aA)) O hp (hP put hpm) (@AT) htt hb
    have hmr:∀x,x∈r->x∈put ++ [t]:=λx hx=>by
     rcases h1 x hx with h |h
     ·simp[h]
     ·simp[h]
    refine⟨_,e,.inr ⟨⟨_,_,_,rfl,.inl rfl⟩,.inl ⟨i,r,put ++ [t],rfl,by rw[og hp,Rg rfl],hmr,h3,h4,?_,λx hx=>?_⟩,λrs r' hf hr hT=>?_⟩⟩
    ·have:=A7 h2 hmr
     rw[RD,R1] at this
     omega
    ·rcases h1 x hx with h |h
     ·rw[h];exact htt
     ·exact (hP put hpm).tr x h
    ·have:=sF (hf.2 i r' put hr hp) hb
     unfold Tn at hT
     omega
   ·have hlt:(Ie n l (fW pts i t) ud).length<=k:=by
     have hlt:(ud.filter λu=> !CK n l (fW pts i t) u).length < ud.length:=by
      rw[List.length_filter_lt_length_iff_exists]
      refine⟨t,htu,?_⟩
      have:CK n l (fW pts i t) t=true:=by
       unfold CK
       refine List.any_eq_true.mpr ⟨put ++ [t],Su.mpr ⟨i,by rw[og hp,Rg rfl]⟩,Rk ?_⟩
       rw[jW]
       exact sd (cH.mp htt).1
      rw[this];simp
     have e9:Ie n l (fW pts i t) ud=ud.filter λu=> !CK n l (fW pts i t) u:=rfl
     rw[e9];omega
    have hmem:∀q,q∈fW pts i t->q=put ++ [t]\/q∈pts:=λq hq=>by
     obtain⟨j,hj⟩:=Su.mp hq
     rw[og hp] at hj
     split at hj
     ·cases hj;exact .inl rfl
     ·exact .inr (RN hj)
    obtain⟨d,e,h⟩:=ih (fW pts i t) ud (by rw[r6 hi];exact hl) (λq hq=>by
     rcases hmem q hq with rfl |h
     ·exact (hP put hpm).more htt hb
     ·exact hP q h) hut huz hlt (λq hq=>by
     rcases hmem q hq with rfl |h
     ·rw[RD,R1];omega
     ·have:=hk q h;omega)
    refine⟨d,Oy O.hi hp (@AT) (@AT) htt hb e,?_⟩
    rcases h with⟨rs,rfl,hf,hT⟩ | ⟨⟨t',zs,rfl,_⟩,hPap,hN⟩
    ·have hf':=Ia hp hP hf
     refine .inl ⟨rs,rfl,hf',λu hu'=>?_⟩
     cases c:CK n l pts u with
     |true=>exact Kb hf' c
     |false=>exact hT u (by rw[<-hU];exact Rl.mpr ⟨hu',by rw[c];rfl⟩)
    ·exact .inr ⟨⟨_,_,_,rfl,.inr rfl⟩,hPap,λrs r hf hr hT=>hN rs (Ha hp hr hT hf)⟩
  have W:WP (fL (Ml (t6 GL (k + 1))) Dp MT DB (cE n l pts left .no .no .no .no .no) 0) λs=>∃d β,s=.rt d false β/\(NW n l pts left d\/((∃t zs,d=.tuple [.str "turn",aA t,.tuple zs]/\zs.length=pts.length)/\Kv n l (k + 1 + 1) d pts/\Pb n l pts left)):=by
   unfold fL
   refine dq eu (wp_at (cE n l pts left (.fz (.list (ud.map aA))) .no .no .no .no) rfl ?_)
   have e0:=len0 (fa:=gv 3) (vs:=vl (cE n l pts left (.fz (.list (ud.map aA))) .no .no .no .no)) (β:=0) (ds:=ud.map aA) rfl
   rw[show (ud.map aA).isEmpty=false by cases ud with |nil=>exact absurd rfl hu0 |cons a b=>rfl] at e0
   refine jo e0 (wp_at (cE n l pts left (.fz (.list (ud.map aA))) .no .no .no .no) rfl ?_)
   refine dq em (wp_at (cE n l pts left (.fz (.list (ud.map aA))) (.fz (aA t)) .no .no .no) rfl ?_)
   refine Jq (lp (ds:=[]) an) (wp_at (cE n l pts left (.fz (.list (ud.map aA))) (.fz (aA t)) (.ow (.list [])) .no .no) rfl ?_)
   refine Hv (ds:=g9 0 pts.length) (β1:=0) (NW n l pts left) (λi env β=>β=0/\∃zs s6 s7,env=cE n l pts left (.fz (.list (ud.map aA))) (.fz (aA t)) (.ow (.list zs)) s6 s7/\zs.length=i/\i<=pts.length/\∀j z,zs[j]? =some z->Kv n l (k + 1) z (fW pts j t)/\Br n l pts ud t j) ?_ ⟨rfl,[],.no,.no,rfl,rfl,Sb _,λj z h=>by simp at h⟩ ?_ (λd β h=>⟨d,β,rfl,.inl h⟩) ?_
   ·refine fy ?_ (@AT)
    rw[o4 (ds:=pts.map (xE n l)) rfl,Rb]
   ·rintro i d env β hd ⟨rfl,zs,s6,s7,rfl,hzl,_,hzs⟩
    obtain⟨hi,rfl⟩:=pQ hd
    rw[Tv]
    refine⟨cE n l pts left (.fz (.list (ud.map aA))) (.fz (aA t)) (.ow (.list zs)) (.fz (.int (i:Int))) s7,rfl,?_⟩
    obtain⟨d,ed,hd⟩:=br i hi
    refine dq (d:=d) (β1:=0) (ak (ds:=[ag n l,.list (ud.map aA),fk n l pts,.int (i:Int),aA t]) rfl ed) (wp_at (cE n l pts left (.fz (.list (ud.map aA))) (.fz (aA t)) (.ow (.list zs)) (.fz (.int (i:Int))) (.fz d)) rfl ?_)
    rcases hd with h | ⟨⟨s,y,z,rfl,hs⟩,hPap,hB⟩
    ·have h':=h
     obtain⟨rs,rfl,_⟩:=h'
     refine xi (rR (neg:=false) (s:="rows") (@KM) (aG (x:=.tuple [.str "rows",@D_]) (y:=.int 0) rfl rfl rfl)) (HE ?_)
     exact⟨(λa b z=>by cases z),.inl ⟨_,_,rfl,h⟩⟩
    ·have hsm:s∈([Str.ofString "rows",Str.ofString "ring",Str.ofString "turn"]:@Id):=by rcases hs with h |h <;> simp[h]
     have e2:=rR (neg:=false) hsm (fa:=f2 (gv 7) @FM bB) (vs:=vl (cE n l pts left (.fz (.list (ud.map aA))) (.fz (aA t)) (.ow (.list zs)) (.fz (.int (i:Int))) (.fz (.tuple [.str s,y,z])))) (β:=0) (aG (x:=.tuple [.str s,y,z]) (y:=.int 0) rfl rfl rfl)
     have hne:decide (s="rows")=false:=by rcases hs with rfl |rfl <;> decide +kernel
     rw[hne] at e2
     refine jo e2 (wp_at (cE n l pts left (.fz (.list (ud.map aA))) (.fz (aA t)) (.ow (.list zs)) (.fz (.int (i:Int))) (.fz (.tuple [.str s,y,z]))) rfl (zS ?_))
     refine L6 (ds:=zs) rfl rfl rfl (@AT) (Bh (.inr ⟨_,_,rfl,rfl,zs ++ [.tuple [.str s,y,z]],_,_,rfl,by rw[RD,R1];omega,@AT,λj z' hj=>?_⟩))
     by_cases c:j < zs.length
     ·rw[RX c] at hj
      exact hzs j z' hj
     ·rw[R3 (@AT)] at hj
      have hj0:j - zs.length=0:=by
       have:=(Rn.mp hj).1
       rw[R1] at this;omega
      rw[hj0] at hj
      cases hj
      have:j=i:=@AT
      subst this
      exact⟨hPap,hB⟩
   ·rintro env β ⟨rfl,zs,s6,s7,rfl,hzl,_,hzs⟩
    rw[jI] at hzl
    refine gM (iM (ds:=[.str "turn",aA t,.tuple zs]) (ac rfl (ac rfl (ac (cQ (x:=.list zs) rfl rfl) an))) (@KM)) ⟨_,_,rfl,.inr ⟨⟨t,zs,rfl,hzl⟩,.inr ⟨t,zs,rfl,htt,hzl,λj z hj=>(hzs j z hj).1⟩,λrs hf=>?_⟩⟩
    by_cases c:∃r,r∈rs/\Tn r t
    ·obtain⟨r,hr,hT⟩:=c
     obtain⟨j,hj⟩:=Su.mp hr
     have hjl:j < zs.length:=by
      have:=(Rn.mp hj).1
      have:=hf.1
      omega
     obtain⟨u,hu1,hu2⟩:=(hzs j _ (Rf hjl)).2 rs r hf hj hT
     exact⟨u,(hud u hu1).1,hu2⟩
    ·exact⟨t,(hud t htu).1,λr hr hT=>c ⟨r,hr,hT⟩⟩
  obtain⟨d,β,e,h⟩:=W.out
  refine⟨d,?_,h⟩
  show fin (fL (Ml (t6 GL (k + 1))) Dp MT DB (cE n l pts left .no .no .no .no .no) 0)=_
  rw[e];rfl
abbrev BH (n:Nat)(l:@A_):@A_:=(oB n l).filter (yw l)
noncomputable def OZ:@Cl:=aS 3 2 (rG Qs (t6 GL 40) wm)
def Dm (n:Nat)(l:@A_)(c:Nat):Prop:=∃rs:@LE,rs.length=c/\(∀r,r∈rs->Row n l r)/\∀t,t∈BH n l->∃r,r∈rs/\Tn r t
def zU {n:Nat}{l:@A_}{c:Nat}{rs:@LE}:Ft n l (List.replicate c []) rs↔rs.length=c/\∀r,r∈rs->Row n l r:=by
 constructor
 ·rintro⟨h1,h2⟩
  rw[Sj] at h1
  refine⟨h1,λr hr=>?_⟩
  obtain⟨i,hi⟩:=Su.mp hr
  exact h2 i r [] hi (by rw[Sw,Rg (by have:=(Rn.mp hi).1;omega)])
 ·rintro⟨h1,h2⟩
  refine⟨by rw[Sj];exact h1,λi r put hr hp=>?_⟩
  rw[Sw] at hp
  split at hp
  ·cases hp;exact h2 r (RN hr)
  ·cases hp
def HH {n:Nat}{l:@A_}{c:Nat}:Pb n l (List.replicate c []) (BH n l)↔¬Dm n l c:=by
 constructor
 ·rintro h ⟨rs,h1,h2,h3⟩
  obtain⟨t,ht,hn⟩:=h rs (zU.mpr ⟨h1,h2⟩)
  obtain⟨r,hr,hT⟩:=h3 t ht
  exact hn r hr hT
 ·intro h rs hf
  refine Classical.byContradiction λhc=>h ?_
  obtain⟨h1,h2⟩:=zU.mp hf
  refine⟨rs,h1,h2,λt ht=>Classical.byContradiction λhn=>hc ⟨t,ht,λr hr hT=>hn ⟨r,hr,hT⟩⟩⟩
def Dm.mono {n:Nat}{l:@A_}{c c':Nat}(O:@KK)(h:Dm n l c)(hc:c<=c'):Dm n l c':=by
 obtain⟨rs,h1,h2,h3⟩:=h
 have hv:=(tQ (n:=n) (l:=l) (put:=[]) O).2
 refine⟨rs ++ List.replicate (c' - c) (rv n l []),by rw[RD,Sj];omega,λr hr=>?_,λt ht=>?_⟩
 ·rcases Rw.mp hr with h |h
  ·exact h2 r h
  ·rw[S0 h];exact hv
 ·obtain⟨r,hr,hT⟩:=h3 t ht
  exact⟨r,Rw.mpr (.inl hr),hT⟩
def K3 {n:Nat}{l:@A_}(O:@KK):Dm n l (BH n l).length:=by
 refine⟨(BH n l).map λt=>rv n l [t],by rw[Rb],λr hr=>?_,λt ht=>⟨rv n l [t],Rz.mpr ⟨t,ht,rfl⟩,?_⟩⟩
 ·obtain⟨t,ht,rfl⟩:=Rz.mp hr
  have htt:=(Rl.mp ht).1
  have hP:=(wu O).more htt (λh=>by
   have:=(cH.mp htt).2
   unfold GO at this
   have h:t∈l:=h
   simp[h] at this)
  have:=(tQ hP.ord).2
  refine⟨this.1,?_⟩
  have hf:=this.2
  unfold uE at hf ⊢
  rw[RH] at hf ⊢
  exact λp hp=>hf p (xh (O.wn p hp) hp)
 ·have htt:=(Rl.mp ht).1
  have hP:=(wu O).more htt (λh=>by
   have:=(cH.mp htt).2
   unfold GO at this
   have h:t∈l:=h
   simp[h] at this)
  exact sF (tQ hP.ord).2 (hP.tnd t (@KM))
def KA {n:Nat}{l:@A_}(h6:n<=6):(BH n l).length<=36:=by
 refine Sd (Se _ _) ?_
 unfold oB
 refine Sd (Se _ _) ?_
 have:(OM.bw n).length=n * n:=dC n
 rw[this]
 exact Ss h6 h6
def Ed {d:D}{c:Nat}(h:c<=64):rk (.list [d]) (.int (c:Int))=some (.list (List.replicate c d)):=by
 have e:(List.replicate c [d]).flatten=List.replicate c d:=by
  clear h
  induction c with
  |zero=>rfl
  |succ c ih=>rw[R8,SQ,ih,R8];rfl
 have key:∀k:Int,0<=k->k<=64->rk (.list [d]) (.int k)=some (.list (List.replicate k.toNat [d]).flatten):=λk h0 h1=>Rg ⟨@AT,@AT,sz _ (by simp;omega)⟩
 rw[key c (@AT) (@AT),RT,e]
def Nc {n:Nat}{l:@A_}{c:Nat}(O:@KK)(hs:(BH n l).length<=39)(hc:c<=64):∃d,OZ [ag n l,.int (c:Int)]=.ok d false/\((∃rs:@LE,d=.tuple [.str "rows",@D_]/\rs.length=c/\(∀r,r∈rs->Row n l r)/\∀t,t∈BH n l->∃r,r∈rs/\Tn r t)\/((∃t zs,d=.tuple [.str "turn",aA t,.tuple zs]/\zs.length=c)/\Kv n l 40 d (List.replicate c [])/\¬Dm n l c)):=by
 obtain⟨d,e,h⟩:=Qd O 39 (List.replicate c []) (BH n l) (by rw[Sj];exact hc) (λput hp=>by rw[S0 hp];exact wu O) (λt ht=>(Rl.mp ht).1) (@AT) (Sd (Se _ _) hs) (λput hp=>by rw[S0 hp];simp)
 refine⟨d,?_,?_⟩
 ·show fin (rG Qs (t6 GL 40) wm [@C_,.fz (.int (c:Int)),.no] 0)=_
  unfold rG
  refine dP (dq (d:=xE n l []) (β1:=0) (iM (ds:=[cG n (bQ l),.tuple []]) (ac (ak (ds:=[ag n l]) rfl (Qo O)) (ac (tp (ds:=[]) an) an)) (@KM)) (wp_at [@C_,.fz (.int (c:Int)),.fz (xE n l [])] rfl ?_))
  refine gM (ak (ds:=[ag n l,.list ((BH n l).map aA),fk n l (List.replicate c [])]) (ac rfl (ac (ak (ds:=[ag n l]) rfl (DZ O)) (ac (aG (x:=.list [xE n l []]) (y:=.int c) (lp (ds:=[xE n l []]) (ac rfl an)) rfl ?_) an))) e) rfl
  show rk (.list [xE n l []]) (.int c)=some (fk n l (List.replicate c []))
  rw[Ed hc]
  unfold fk
  rw[List.map_replicate]
 ·rcases h with⟨rs,rfl,hf,hT⟩ | ⟨⟨t,zs,rfl,hz⟩,hP,hN⟩
  ·obtain⟨h1,h2⟩:=zU.mp hf
   exact .inl ⟨rs,rfl,h1,h2,hT⟩
  ·exact .inr ⟨⟨t,zs,rfl,by rw[hz,Sj]⟩,hP,HH.mp hN⟩
noncomputable def KU:@Cl:=aS 3 1 (fw iW OZ)
structure xT (n:Nat)(l:@A_)(rs:@LE):Prop where
 pos:1<=rs.length
 few:rs.length<=40
 row:∀r,r∈rs->Row n l r
 tn:∀t,t∈BH n l->∃r,r∈rs/\Tn r t
 least:∀c,1<=c->c < rs.length->¬Dm n l c
def xT.dm {n:Nat}{l:@A_}{rs:@LE}(h:xT n l rs):Dm n l rs.length:=⟨rs,rfl,h.row,h.tn⟩
def xT.iff {n:Nat}{l:@A_}{rs:@LE}(h:xT n l rs)(O:@KK){c:Nat}(hc:1<=c):Dm n l c↔rs.length<=c:=⟨λd=>Nat.le_of_not_lt λz=>h.least c hc z d,λz=>h.dm.mono O z⟩
def Ld {n:Nat}{l:@A_}(O:@KK)(hs:(BH n l).length<=39):∃rs,KU [ag n l]=.ok (@D_) false/\xT n l rs:=by
 have W:WP (fw iW OZ [@C_,.no,.no] 0) λs=>∃d β,s=.rt d false β/\∃rs:@LE,d=@D_/\xT n l rs:=by
  unfold fw
  refine kI (ak (ds:=[ag n l]) (ac rfl an) (oW O)) (wp_at [@C_,.no,.no] rfl ?_)
  refine dq (d:=.int 1) (β1:=0) rfl (wp_at [@C_,.fz (.int ((1:Nat):Int)),.no] rfl ?_)
  obtain⟨d1,e1,h1⟩:=Nc (c:=1) O hs (@AT)
  refine dq (d:=d1) (β1:=0) (ak (ds:=[ag n l,.int ((1:Nat):Int)]) rfl e1) (wp_at [@C_,.fz (.int ((1:Nat):Int)),.fz d1] rfl ?_)
  refine Gu (λb env β=>β=0/\∃(c:Nat) (d:D),env= [@C_,.fz (.int (c:Int)),.fz d]/\b=60 - c/\1<=c/\c<=40/\(∀c',1<=c'->c' < c->¬Dm n l c')/\((∃rs:@LE,d=.tuple [.str "rows",@D_]/\rs.length=c/\(∀r,r∈rs->Row n l r)/\∀t,t∈BH n l->∃r,r∈rs/\Tn r t)\/((∃t zs,d=.tuple [.str "turn",aA t,.tuple zs]/\zs.length=c)/\Kv n l 40 d (List.replicate c [])/\¬Dm n l c)))
   (λenv β=>β=0/\∃(c:Nat) (rs:@LE),env= [@C_,.fz (.int (c:Int)),.fz (.tuple [.str "rows",@D_])]/\xT n l rs) 59 (@AT) ⟨rfl,1,d1,rfl,rfl,@AT,@AT,λc' h1 h2=>@AT,h1⟩ ?_ ?_
  ·rintro b env β ⟨rfl,c,d,rfl,rfl,hc1,hc2,hn,h⟩
   rcases h with⟨rs,rfl,hl,hr,ht⟩ | ⟨⟨t,zs,rfl,hz⟩,hP,hD⟩
   ·refine⟨_,_,rR (neg:=true) (s:="rows") (@KM) (aG (x:=.tuple [.str "rows",@D_]) (y:=.int 0) rfl rfl rfl),.inl ⟨by rfl,rfl,c,rs,rfl,⟨@AT,@AT,hr,ht,λc' h1 h2=>hn c' h1 (@AT)⟩⟩⟩
   ·refine⟨_,_,rR (neg:=true) (s:="turn") (@KM) (aG (x:=.tuple [.str "turn",aA t,.tuple zs]) (y:=.int 0) rfl rfl rfl),.inr ⟨@FS,wp_at [@C_,.fz (.int (c:Int)),.fz (.tuple [.str "turn",aA t,.tuple zs])] rfl ?_⟩⟩
    have hc:c < 40:=by
     refine Nat.lt_of_not_le λz=>hD ((K3 O).mono O (@AT))
    refine dq (d:=.int ((c + 1:Nat):Int)) (β1:=0) (Qn rfl) (wp_at [@C_,.fz (.int ((c + 1:Nat):Int)),.fz (.tuple [.str "turn",aA t,.tuple zs])] rfl ?_)
    obtain⟨d2,e2,h2⟩:=Nc (c:=c + 1) O hs (@AT)
    refine zS (dq (d:=d2) (β1:=0) (ak (ds:=[ag n l,.int ((c + 1:Nat):Int)]) rfl e2) (Bh ⟨_,_,60 - (c + 1),rfl,@AT,rfl,c + 1,d2,rfl,rfl,@AT,@AT,λc' h1 h2=>?_,h2⟩))
    by_cases e:c'=c
    ·subst e;exact hD
    ·exact hn c' h1 (@AT)
  ·rintro env β ⟨rfl,c,rs,rfl,h⟩
   exact gM (aG (x:=.tuple [.str "rows",@D_]) (y:=.int 1) rfl rfl rfl) ⟨_,_,rfl,rs,rfl,h⟩
 obtain⟨d,β,e,rs,rfl,h⟩:=W.out
 refine⟨rs,?_,h⟩
 show fin (fw iW OZ [@C_,.no,.no] 0)=_
 rw[e];rfl
noncomputable def QG:@Cl:=aS 1 1 (pL KU)
def LU {n:Nat}{l:@A_}(O:@KK)(hs:(BH n l).length<=39):∃rs,KU [ag n l]=.ok (@D_) false/\QG [ag n l]=.ok (.int (rs.length:Nat)) false/\xT n l rs:=by
 obtain⟨rs,e,h⟩:=Ld O hs
 refine⟨rs,e,?_,h⟩
 show fin (pL KU [@C_] 0)=_
 unfold pL
 have:=o4 (fa:=aq KU @K_) (vs:=vl [@C_]) (β:=0) (ak (ds:=[ag n l]) rfl e)
 rw[Rb] at this
 exact dP (gM this rfl)
def mK {l:@A_}{p:Pr}:GO l p=true↔p.1≠p.2/\(p.1,p.2)∉l/\(p.2,p.1)∉l:=by
 unfold GO
 simp only[RC,T2,Ti,ne_eq]
def Me {l:@A_}{p:Pr}:yw l p=true↔(∀c,(c,p.1)∈l->(c,p.2)∈l)/\∀c,(p.2,c)∈l->(p.1,c)∈l:=by
 unfold yw
 rw[RC,RH,RH]
 constructor
 ·rintro⟨h1,h2⟩
  exact⟨λc hc=>RZ (h1 (c,p.1) (Rl.mpr ⟨hc,Rk rfl⟩)),λc hc=>RZ (h2 (p.2,c) (Rl.mpr ⟨hc,Rk rfl⟩))⟩
 ·rintro⟨h1,h2⟩
  constructor
  ·intro q hq
   obtain⟨hm,he⟩:=Rl.mp hq
   have he:=RZ he
   refine Rk (h1 q.1 ?_)
   rw[<-he];exact hm
  ·intro q hq
   obtain⟨hm,he⟩:=Rl.mp hq
   have he:=RZ he
   refine Rk (h2 q.2 ?_)
   rw[<-he];exact hm
def PY (n:Nat)(l:@A_)(a:Int):Nat:=((bD n).filter λx=>decide ((x,a)∈l)).length
def Pa (n:Nat)(l:@A_)(a:Int):Nat:=((bD n).filter λx=>decide ((a,x)∈l)).length
def filter_lt {L:@Db}{p q:Int->Bool}(h:∀x,x∈L->p x=true->q x=true){y:Int}(hy:y∈L)(h1:q y=true)(h2:p y=false):(L.filter p).length < (L.filter q).length:=by
 have e:L.filter p=(L.filter q).filter p:=by
  rw[List.filter_filter]
  refine S5 λx hx=>?_
  cases c:p x with
  |false=>rfl
  |true=>rw[h x hx c];rfl
 rw[e]
 exact List.length_filter_lt_length_iff_exists.mpr ⟨y,Rl.mpr ⟨hy,h1⟩,by rw[h2];simp⟩
def M5 {n:Nat}{l:@A_}(O:@KK){a c:Int}(h:(c,a)∈l):PY n l c < PY n l a:=by
 refine filter_lt (y:=c) (λx _ hx=>Rk (O.tr x c a (RZ hx) h)) (az.mpr (O.wn _ h).1) (Rk h) (Rt (O.irr c))
def N1 {n:Nat}{l:@A_}(O:@KK){a c:Int}(h:(a,c)∈l):Pa n l c < Pa n l a:=by
 refine filter_lt (y:=c) (λx _ hx=>Rk (O.tr a c x h (RZ hx))) (az.mpr (O.wn _ h).2) (Rk h) (Rt (O.irr c))
def QW (l:@A_)(q p:Pr):Prop:=(q.1=p.1\/(q.1,p.1)∈l)/\(q.2=p.2\/(p.2,q.2)∈l)
theorem ka {n:Nat}{l:@A_}(O:@KK):∀(k:Nat) (p:Pr),PY n l p.1 + Pa n l p.2<=k->p∈oB n l->∃q,q∈oB n l/\yw l q=true/\QW l q p
 |k,p,hk,hp=>by
  by_cases hs:yw l p=true
  ·exact⟨p,hp,hs,.inl rfl,.inl rfl⟩
  ·rw[Me,Classical.not_and_iff_not_or_not] at hs
   obtain⟨hg,ha⟩:=cH.mp hp
   obtain⟨a1,a2,a3⟩:=mK.mp ha
   rcases hs with hs |hs
   ·obtain⟨c,hc⟩:=Classical.not_forall.mp hs
    obtain⟨hc1,hc2⟩:=Classical.not_imp.mp hc
    have hlt:=M5 O hc1
    have hm:((c,p.2):Pr)∈oB n l:=cH.mpr ⟨⟨(O.wn _ hc1).1,hg.2⟩,mK.mpr ⟨λe=>by
     simp only at e
     exact a3 (e▸hc1),hc2,λh=>a3 (O.tr _ _ _ h hc1)⟩⟩
    match k,hk with
    | 0,hk=>omega
    |k + 1,hk=>
     obtain⟨q,h1,h2,h3,h4⟩:=ka O k (c,p.2) (by simp only;omega) hm
     refine⟨q,h1,h2,.inr ?_,h4⟩
     rcases h3 with h3 |h3
     ·rw[h3];exact hc1
     ·exact O.tr _ _ _ h3 hc1
   ·obtain⟨c,hc⟩:=Classical.not_forall.mp hs
    obtain⟨hc1,hc2⟩:=Classical.not_imp.mp hc
    have hlt:=N1 O hc1
    have hm:((p.1,c):Pr)∈oB n l:=cH.mpr ⟨⟨hg.1,(O.wn _ hc1).2⟩,mK.mpr ⟨λe=>by
     simp only at e
     exact a3 (e▸hc1),hc2,λh=>a3 (O.tr _ _ _ hc1 h)⟩⟩
    match k,hk with
    | 0,hk=>omega
    |k + 1,hk=>
     obtain⟨q,h1,h2,h3,h4⟩:=ka O k (p.1,c) (by simp only;omega) hm
     refine⟨q,h1,h2,h3,.inr ?_⟩
     rcases h4 with h4 |h4
     ·rw[h4];exact hc1
     ·exact O.tr _ _ _ hc1 h4
def vv {n:Nat}{l:@A_}{q p:Pr}{r:@Db}(hR:Row n l r)(h:QW l q p)(ht:r.idxOf q.2 < r.idxOf q.1):r.idxOf p.2 < r.idxOf p.1:=by
 have fit:∀{a b:Int},(a,b)∈l->r.idxOf a < r.idxOf b:=λ{a b} hm=>RZ (RH.mp hR.2 (a,b) hm)
 obtain⟨h1,h2⟩:=h
 have g1:r.idxOf q.1<=r.idxOf p.1:=h1.elim (λe=>by rw[e];exact Rh _) λh=>Tq (fit h)
 have g2:r.idxOf p.2<=r.idxOf q.2:=h2.elim (λe=>by rw[e];exact Rh _) λh=>Tq (fit h)
 omega
def DF {n:Nat}{l:@A_}{rs:@LE}(O:@KK)(h1:rs≠ [])(h:∀r,r∈rs->Row n l r):(OM.bw n).filter (wH rs)=l↔∀p,p∈oB n l->∃r,r∈rs/\r.idxOf p.2 < r.idxOf p.1:=by
 have sh:∀p,wH rs p=true↔∀r,r∈rs->r.idxOf p.1 < r.idxOf p.2:=λp=>by
  unfold wH
  rw[RH]
  exact⟨λh r hr=>RZ (h r hr),λh r hr=>Rk (h r hr)⟩
 have fit:∀{a b:Int} {r:@Db},r∈rs->(a,b)∈l->r.idxOf a < r.idxOf b:=λ{a b r} hr hm=>RZ (RH.mp (h r hr).2 (a,b) hm)
 constructor
 ·intro e p hp
  obtain⟨hg,ha⟩:=cH.mp hp
  obtain⟨a1,a2,a3⟩:=mK.mp ha
  have hn:¬wH rs p=true:=λhs=>a2 (by rw[<-e];exact Rl.mpr ⟨OM.aY.mpr hg,hs⟩)
  rw[sh] at hn
  obtain⟨r,hr⟩:=Classical.not_forall.mp hn
  obtain⟨hr1,hr2⟩:=Classical.not_imp.mp hr
  refine⟨r,hr1,Nat.lt_of_le_of_ne (Nat.le_of_not_lt hr2) λz=>a1 ?_⟩
  have pm:=(h r hr1).1
  exact (Iq (pm.mem_iff.mpr (az.mpr hg.2)) (pm.mem_iff.mpr (az.mpr hg.1)) z).symm
 ·intro ht
  refine OM.iH (OM.cN _ (OM.dD n)) O.ris λp=>?_
  rw[Rl,sh]
  constructor
  ·rintro⟨hg,hs⟩
   by_cases c:p∈l
   ·exact c
   ·obtain⟨r,rs',rfl⟩:∃r rs',rs=r :: rs':=by
     cases rs with
     |nil=>exact absurd rfl h1
     |cons r rs'=>exact⟨r,rs',rfl⟩
    have hr:r∈r :: rs':=Ro ..
    have l1:=hs r hr
    obtain⟨q,hq1,hq2⟩:=ht p (cH.mpr ⟨OM.aY.mp hg,mK.mpr ⟨λe=>by rw[e] at l1;omega,c,λz=>by have:=fit hr z;omega⟩⟩)
    have:=hs q hq1
    omega
  ·intro hm
   exact⟨OM.aY.mpr (O.wn p hm),λr hr=>fit hr hm⟩
def yC {n:Nat}{l:@A_}{rs:@LE}(O:@KK)(h1:rs≠ [])(h:∀r,r∈rs->Row n l r):(OM.bw n).filter (wH rs)=l↔∀p,p∈(oB n l).filter (yw l)->∃r,r∈rs/\r.idxOf p.2 < r.idxOf p.1:=by
 rw[DF O h1 h]
 constructor
 ·exact λk p hp=>k p (Rl.mp hp).1
 ·intro k p hp
  obtain⟨q,hq1,hq2,hu⟩:=ka O _ p (Rh _) hp
  obtain⟨r,hr,ht⟩:=k q (Rl.mpr ⟨hq1,hq2⟩)
  exact⟨r,hr,vv (h r hr) hu ht⟩
theorem HC {n:Nat}{l:@A_}(O:@KK){x:Int}:∀{bs:@Db},(∀b,b∈bs->(x,b)∈oB n l)->Pt n l (bs.reverse.map λb=>(x,b))/\∀z,(x,z)∈putAll n l (bs.reverse.map λb=>(x,b))->(x,z)∈l:=by
 intro bs
 induction bs with
 |nil=>exact λ_=>⟨wu O,λz h=>h⟩
 |cons b bs ih=>
  intro h
  obtain⟨hP,hu⟩:=ih λb hb=>h b (by simp[hb])
  have hb:=h b (@KM)
  have ha:=(mK.mp (cH.mp hb).2)
  have hn:¬(x,b)∈putAll n l (bs.reverse.map λb=>(x,b)):=λz=>ha.2.1 (hu b z)
  rw[List.reverse_cons,RS]
  refine⟨hP.more hb hn,λz hz=>?_⟩
  have hz:(x,z)∈putAll n l (bs.reverse.map (λb=>(x,b)) ++ [(x,b)]):=hz
  rw[jW] at hz
  rcases oH hz with h1 | ⟨h1,_⟩
  ·exact hu z h1
  ·rcases fH.mp h1 with e |e
   ·exact absurd e ha.1
   ·exact absurd e hn
def Pk {n:Nat}{l:@A_}(O:@KK):Dm n l n:=by
 let bs:Int->@Db:=λx=>(bD n).filter λb=>GO l (x,b)
 have hb:∀x,(0<=x/\x < (n:Int))->∀b,b∈bs x->(x,b)∈oB n l:=λx hx b hb=>cH.mpr ⟨⟨hx,az.mp (Rl.mp hb).1⟩,(Rl.mp hb).2⟩
 have fit:∀x,(0<=x/\x < (n:Int))->Pt n l ((bs x).reverse.map λb=>(x,b)):=λx hx=>(HC O (hb x hx)).1
 refine⟨(bD n).map λx=>rv n l ((bs x).reverse.map λb=>(x,b)),by rw[Rb,b7],λr hr=>?_,λt ht=>?_⟩
 ·obtain⟨x,hx,rfl⟩:=Rz.mp hr
  have:=(tQ (fit x (az.mp hx)).ord).2
  refine⟨this.1,?_⟩
  have hf:=this.2
  unfold uE at hf ⊢
  rw[RH] at hf ⊢
  exact λp hp=>hf p (xh (O.wn p hp) hp)
 ·obtain⟨hr,ha⟩:=cH.mp (Rl.mp ht).1
  refine⟨_,Rz.mpr ⟨t.1,az.mpr hr.1,rfl⟩,?_⟩
  exact sF (tQ (fit t.1 hr.1).ord).2 ((fit t.1 hr.1).tnd t (Rz.mpr ⟨t.2,List.mem_reverse.mpr <|Rl.mpr ⟨az.mpr hr.2,ha⟩,rfl⟩))
def xT.le {n:Nat}{l:@A_}{rs:@LE}(h:xT n l rs)(O:@KK):rs.length<=n:=(h.iff O O.lo).mp (Pk O)
def xT.ne {n:Nat}{l:@A_}{rs:@LE}(h:xT n l rs):rs≠ []:=λe=>by have:=h.pos;rw[e] at this;simp at this
def xT.tell {n:Nat}{l:@A_}{rs:@LE}(h:xT n l rs)(O:@KK):(OM.bw n).filter (wH rs)=l:=(yC O h.ne h.row).mpr h.tn
def KD {n:Nat}{rs:@LE}(h1:rs≠ []):(OM.bw n).filter (nU rs)=(OM.bw n).filter (wH rs):=by
 refine S5 λp _=>?_
 unfold nU wH
 rw[Sf,RC,T2,Ti]
 refine⟨λh=>h.2,λh=>⟨λe=>?_,h⟩⟩
 obtain⟨r,hr⟩:=List.exists_mem_of_ne_nil _ h1
 have:=RZ (RH.mp h r hr)
 rw[e] at this
 omega
def Tells (n:Nat)(l:@A_)(d:D):Prop:=∃rs:@LE,d=@D_/\rs≠ []/\(∀r,r∈rs->Row n l r)/\(OM.bw n).filter (wH rs)=l
noncomputable def Cn (n:Nat)(l:@A_)(d:D):Bool:=@decide (Tells n l d) @SL
def Mk {n:Nat}{l:@A_}{d:D}(h:Tells n l d):Cn n l d=true:=@Rk _ @SL h
def E3 {n:Nat}{l:@A_}{d:D}(h:¬Tells n l d):Cn n l d=false:=@Rt _ @SL h
theorem yc:∀{rs qs:@LE},rs.map tupI=qs.map tupI->rs=qs
 | [],[],_=>rfl
 | [],_ :: _,h=>by cases h
 |_ :: _,[],h=>by cases h
 |r :: rs,q :: qs,h=>by
  rw[Sx,Sx,List.cons.injEq] at h
  rw[tW h.1,yc h.2]
def vT {n:Nat}{l:@A_}{rs:@LE}(h1:rs≠ [])(h:∀r,r∈rs->Row n l r):Cn n l (@D_)=decide ((OM.bw n).filter (wH rs)=l):=by
 by_cases c:(OM.bw n).filter (wH rs)=l
 ·rw[Rk c];exact Mk ⟨rs,rfl,h1,h,c⟩
 ·rw[Rt c]
  refine E3 λ⟨qs,e,_,_,c'⟩=>c ?_
  have:=yc (PyData.list.inj e)
  rw[this];exact c'
noncomputable def vR:@Cl:=aS 2 2 (zZ iW PV OW)
theorem Mf {n:Nat}{l:@A_}{d:D}(O:@KK)(h:Gt d):vR [d,ag n l]=.ok (.bool (Cn n l d)) false:=by
 show fin (zZ iW PV OW [.fz d,@C_] 0)=_
 refine dP (kI (ak (ds:=[ag n l]) rfl (oW O)) ?_)
 have ea:=Qk O h
 cases c:zk n l d with
 |false=>
  rw[c] at ea
  rw[E3 λ⟨rs,e,h1,h2,_⟩=>by rw[e,vQ h1 h2] at c;cases c]
  exact gM (Kd (ak (ds:=[d,ag n l]) rfl ea)) rfl
 |true=>
  rw[c] at ea
  obtain⟨rs,rfl,h1,h2⟩:=KW c
  rw[vT h1 h2]
  have hz:rs.length<=100:=by have:=(h.2 _ rfl).1;rw[Rb] at this;exact this
  exact gM (JZ (ak (ds:=[@D_,ag n l]) rfl ea) (aG (ak (ds:=[.int n,@D_]) (ac (MQ (n:=n) (l:=l) rfl) (ac rfl an)) (Nd O.lo O.hi hz λr hr=>(h2 r hr).1)) (N2 (n:=n) (l:=l) rfl) (yv false _ _))) rfl
def Oe:@Cl:=aS 1 1 gW
def J6 {z:Int}(h:z<=8):Oe [.int z]=.ok .none false:=by
 show fin (gW [.fz (.int z)] 0)=_
 unfold gW
 have e:eO (f2 (gv 0) (cst (.int 8)) Nr) (vl [.fz (.int z)]) 0=.ok (decide (z > 8)) 0:=gC _ _ _ _ (aG (x:=.int z) rfl rfl rfl)
 rw[Rt (@AT)] at e
 rw[j7 e];rfl
noncomputable def IV:@Cl:=aS 2 2 (iw OA Oe)
def IT {n m:Nat}{l k:@A_}(O:@KK)(O':OM.Ord m k)(h8:n + m<=8):IV [ag n l,ag m k]=.ok .none false:=by
 show fin (iw OA Oe [@C_,@Rs] 0)=_
 unfold iw
 rw[aH (env':=[@C_,@Rs]) (β':=0) ?a]
 case a=>rw[eQ,ak (ds:=[ag n l,ag m k]) (β1:=0) rfl (Ob O O')];rfl
 rw[eQ,ak (ds:=[.int ((n:Int) + m)]) (β1:=0) rfl (J6 (@AT))]
 rfl
def Fq {a b c:Int}{vs:List Nv}{β:Int}{fa fb fc:VF D}(ha:@Tm=.ok (.int a) β)(hb:fb vs β=.ok (.int b) β)(hc:fc vs β=.ok (.int c) β):gy fa fb fc qG Bz vs β=.ok (.bool (decide (a < b) && decide (b<=c))) β:=by
 unfold gy
 rw[ha];dsimp only[R.bnd];rw[hb];dsimp only[R.bnd]
 show (match (some (PyData.bool (decide (a < b))):Option D) with
  |some (.bool true)=>_
  |some (.bool false)=>_
  |_=>_)=_
 by_cases h:a < b
 ·rw[Rk h]
  dsimp only
  rw[hc]
  dsimp only[R.bnd]
  rfl
 ·rw[Rt h];rfl
noncomputable def OS:@Cl:=aS 4 2 (kn IV eB E8)
def PZ {n m:Nat}{l k:@A_}(O:@KK)(O':OM.Ord m k)(h8:n + m<=8):OS [ag n l,ag m k]=.ok (ag (n + m) (OM.jx 8 (OM.Mem (mW n l k ++ xP (n + m) n n)))) false:=by
 have l1:=jk O
 have l2:=jk O'
 have ll:=Kn O O' h8 (Rh n)
 have h1:=O.lo
 show fin (kn IV eB E8 [@C_,@Rs,.no,.no] 0)=_
 unfold kn
 rw[aH (env':=[@C_,@Rs,.no,.no]) (β':=0) ?a]
 case a=>rw[eQ,ak (ds:=[ag n l,ag m k]) (β1:=0) rfl (IT O O' h8)];rfl
 rw[aH (env':=[@C_,@Rs,.fz (.int ((n + m:Nat):Int)),.no]) (β':=0) ?b]
 case b=>
  rw[cO,aG (x:=.int n) (y:=.int m) (d:=.int ((n + m:Nat):Int)) (β1:=0) (β2:=0) rfl rfl]
  ·rfl
  ·show some (int ((n:Int) + m))=_
   rw[show ((n + m:Nat):Int)=(n:Int) + m by omega]
 have hg:(OM.bw (n + m)).length<=1000:=by
  rw[dC]
  have:(n + m) * (n + m)<=8 * 8:=Ss h8 h8
  omega
 have ec:aN 2 [0] (.two 0 1) (bH (aq eB (aa (gv 2) ao))) (eO (gy (gv 0) (f2 (gv 2) @FM bB) (gv 1) qG Bz)) (cq @Fk) (vl [@C_,@Rs,.fz (.int ((n + m:Nat):Int)),.no]) 0=.ok (.list ((xP (n + m) n n).map aA)) 0:=by
  refine cm (l:=OM.bw (n + m)) (e:=aA) (λp=>decide (p.1 < n) && decide ((n:Int)<=p.2)) aA ?_ hg λp hp=>⟨[.da (.int p.1),.da (.int p.2),.da (ag n l)],rfl,?_,λ_=>?_⟩
  ·have e1:aq eB (aa (gv 2) ao) (vl [@C_,@Rs,.fz (.int ((n + m:Nat):Int)),.no]) 0=.ok (.list ((OM.bw (n + m)).map aA)) 0:=ak (ds:=[.int ((n + m:Nat):Int)]) (β1:=0) rfl (rF (@AT) h8)
   unfold bH
   rw[e1];rfl
  ·exact gC _ _ _ _ (Fq (a:=p.1) (b:=n) (c:=p.2) rfl rfl rfl)
  ·exact cX (a:=p.1) (b:=p.2) rfl rfl
 rw[aH (env':=[@C_,@Rs,.fz (.int ((n + m:Nat):Int)),.fz (.list ((xP (n + m) n n).map aA))]) (β':=0) ?c]
 case c=>rw[cO,ec];rfl
 obtain⟨w,nd,irr⟩:=E4 O O' (Rh n)
 rw[RD] at ll
 have lb:(mW n l k).length=l.length + k.length:=by unfold mW;rw[RD,Rb]
 have e1:f2 (f1 (f2 (gv 0) @Fa bB) t5) (aq E8 (aa (gv 1) (aa @R_ ao))) jq (vl [@C_,@Rs,.fz (.int ((n + m:Nat):Int)),.fz (.list ((xP (n + m) n n).map aA))]) 0=.ok (.list ((mW n l k).map aA)) 0:=by
  refine aG (x:=.list (l.map aA)) (y:=.list ((k.map (xS n)).map aA)) rfl (ak (ds:=[ag m k,.int n]) (β1:=0) rfl (KJ (@AT) n)) ?_
  rw[mw (by simp only[Rb];omega)]
  unfold mW
  rw[RS]
 have e2:f1 (f1 (f2 (f2 (f1 (f2 (gv 0) @Fa bB) t5) (aq E8 (aa (gv 1) (aa @R_ ao))) jq) (gv 3) jq) nv) gR (vl [@C_,@Rs,.fz (.int ((n + m:Nat):Int)),.fz (.list ((xP (n + m) n n).map aA))]) 0=.ok (.tuple ((OM.jx 8 (OM.Mem (mW n l k ++ xP (n + m) n n))).map aA)) 0:=by
  refine cQ (cQ (aG (d:=.list ((mW n l k ++ xP (n + m) n n).map aA)) e1 rfl ?_) (vJ (@AT) h8 w nd irr)) rfl
  rw[mw (by simp only[Rb];omega),RS]
 rw[du,iM (ds:=[.int ((n + m:Nat):Int),.tuple ((OM.jx 8 (OM.Mem (mW n l k ++ xP (n + m) n n))).map aA)]) (β1:=0) ?d (@KM)]
 ·rfl
 case d=>
  rw[cM]
  show (R.ok (int ((n + m:Nat):Int)) 0).bnd _=_
  dsimp only[R.bnd]
  rw[cM,e2];rfl
noncomputable def O0:@Cl:=aS 2 2 (kA IV E8)
def Qr {n m:Nat}{l k:@A_}(O:@KK)(O':OM.Ord m k)(h8:n + m<=8):O0 [ag n l,ag m k]=.ok (ag (n + m) (mW n l k)) false:=by
 have l1:=jk O
 have l2:=jk O'
 show fin (kA IV E8 [@C_,@Rs] 0)=_
 unfold kA
 rw[aH (env':=[@C_,@Rs]) (β':=0) ?a]
 case a=>rw[eQ,ak (ds:=[ag n l,ag m k]) (β1:=0) rfl (IT O O' h8)];rfl
 have e1:f2 (f1 (f2 (gv 0) @Fa bB) t5) (aq E8 (aa (gv 1) (aa @R_ ao))) jq (vl [@C_,@Rs]) 0=.ok (.list ((mW n l k).map aA)) 0:=by
  refine aG (x:=.list (l.map aA)) (y:=.list ((k.map (xS n)).map aA)) rfl (ak (ds:=[ag m k,.int n]) (β1:=0) rfl (KJ (@AT) n)) ?_
  rw[mw (by simp only[Rb];omega)]
  unfold mW
  rw[RS]
 have e0:f2 @R_ (f2 (gv 1) @FM bB) bX (vl [@C_,@Rs]) 0=.ok (.int ((n + m:Nat):Int)) 0:=by
  refine aG (x:=.int n) (y:=.int m) rfl rfl ?_
  show some (int ((n:Int) + m))=_
  rw[show ((n + m:Nat):Int)=(n:Int) + m by omega]
 rw[du,iM (ds:=[.int ((n + m:Nat):Int),.tuple ((mW n l k).map aA)]) (β1:=0) ?d (@KM)]
 ·rfl
 case d=>
  rw[cM,e0]
  dsimp only[R.bnd]
  rw[cM,cQ (d:=.tuple ((mW n l k).map aA)) e1 rfl];rfl
noncomputable def L0:@Cl:=aS 2 2 (cg iW fN)
def NV {n:Nat}{l:@A_}(O:@KK){j:Nat}(hj:j < n):L0 [ag n l,.int j]=.ok .none false:=by
 show fin (cg iW fN [@C_,.fz (.int j)] 0)=_
 unfold cg
 rw[aH (env':=[@C_,.fz (.int j)]) (β':=0) ?g1]
 case g1=>
  rw[eQ,ak (ds:=[ag n l]) (β1:=0) rfl (oW O)];rfl
 have et:pC (i3 (aq fN (aa (gv 1) (aa @R_ ao)))) (vl [@C_,.fz (.int j)]) 0=.ok (!kX (.int j) n) 0:=by
  rw[wc,eS (ak (ds:=[.int j,.int n]) (β1:=0) rfl (xJ rfl))];rfl
 have hb:kX (.int j) n=true:=Rk ⟨@AT,@AT ⟩
 rw[hb] at et
 rw[j7 et];rfl
noncomputable def EC:@Cl:=aS 3 3 (fG OA L0 Oe)
def JW {n m j:Nat}{l k:@A_}(O:@KK)(O':OM.Ord m k)(hj:j < n)(h8:n + m<=9):EC [ag n l,.int j,ag m k]=.ok .none false:=by
 show fin (fG OA L0 Oe [@C_,.fz (.int j),@Rs] 0)=_
 unfold fG
 rw[aH (env':=[@C_,.fz (.int j),@Rs]) (β':=0) ?a]
 case a=>rw[eQ,ak (ds:=[ag n l,ag m k]) (β1:=0) rfl (Ob O O')];rfl
 rw[aH (env':=[@C_,.fz (.int j),@Rs]) (β':=0) ?b]
 case b=>rw[eQ,ak (ds:=[ag n l,.int j]) (β1:=0) rfl (NV O hj)];rfl
 rw[eQ,ak (ds:=[.int ((n:Int) + m - 1)]) (β1:=0) rfl (J6 (@AT))]
 rfl
def Mj {n k:Nat}(h:k < n):(bD n)[k]? =some (k:Int):=by
 unfold bD
 rw[RA,S6 h];rfl
def st (j m:Nat)(a:Int):Int:=if a < j then a else if a - m + 1 > j then a - m + 1 else j
def xF (j m:Nat)(a:Int):Int:=if a < j then 0 else if a < (j:Int) + m then a - j else 0
def O6:@Cl:=aS 3 3 gF
def P9 (j m:Nat)(a:Int):O6 [.int a,.int j,.int m]=.ok (.int (st j m a)) false:=by
 show fin (gF [.fz (.int a),.fz (.int j),.fz (.int m)] 0)=_
 unfold gF
 have et:eO (f2 (gv 0) (gv 1) qG) (vl [.fz (.int a),.fz (.int j),.fz (.int m)]) 0=.ok (decide (a < j)) 0:=Gv rfl rfl
 unfold st
 by_cases h:a < (j:Int)
 ·rw[Rk h] at et
  rw[jm (d:=.int a) (b:=false) (β':=0) ?x,Rg h]
  ·rfl
  case x=>rw[mU et];rfl
 ·rw[Rt h] at et
  rw[aH (env':=[.fz (.int a),.fz (.int j),.fz (.int m)]) (β':=0) ?x,Rj h]
  ·rfl
  case x=>rw[j7 et];rfl
def outer (N:Nat)(l:@A_)(j m:Nat):@A_:=(OM.bw N).filter λp=>decide ((st j m p.1,st j m p.2)∈l)
def A8 (l k:@A_)(j m:Nat)(p:Pr):Bool:=if st j m p.1=st j m p.2 then decide (st j m p.1=j) && decide ((xF j m p.1,xF j m p.2)∈k) else decide ((st j m p.1,st j m p.2)∈l)
def n0 {N:Nat}{l:@A_}{j m:Nat}{p:Pr}:p∈outer N l j m↔((0<=p.1/\p.1 < N)/\(0<=p.2/\p.2 < N))/\(st j m p.1,st j m p.2)∈l:=by
 unfold outer
 rw[Rl,OM.aY,Rq]
def rB {k:@A_}{j:Nat}{p:Pr}:p∈k.map (xS j)↔(p.1 - j,p.2 - j)∈k:=by
 have:=gX (n:=j) (l:=[]) (k:=k) (p:=p)
 unfold mW at this
 simpa using this
def oE {j m:Nat}{a:Int}(h:(j:Int)<=a)(h2:a < j + m):st j m a=j/\xF j m a=a - j:=by
 unfold st xF
 rw[Rj (@AT),Rj (@AT),Rj (@AT),Rg h2]
 exact⟨rfl,rfl⟩
def J4 {j m:Nat}{a:Int}(hm:1<=m)(h:st j m a=j):(j:Int)<=a/\a < j + m:=by
 unfold st at h
 split at h
 ·omega
 ·split at h <;> omega
section
variable {n m j:Nat}{l k:@A_}
def Gm (O:@KK)(O':OM.Ord m k)(hj:j < n):OM.Wn (n + m - 1) (outer (n + m - 1) l j m ++ k.map (xS j))/\(outer (n + m - 1) l j m ++ k.map (xS j)).Nodup/\∀a,(a,a)∉outer (n + m - 1) l j m ++ k.map (xS j):=by
 refine⟨λp hp=>?_,?_,λa h=>?_⟩
 ·rcases Rw.mp hp with h |h
  ·exact (n0.mp h).1
  ·have:=O'.wn _ (rB.mp h)
   simp only at this
   have h1:=O'.lo
   omega
 ·rw[Tf]
  refine⟨OM.ip (OM.cN _ (OM.dD _)),?_,λp hp q hq e=>?_⟩
  ·refine OM.ip ?_
   show List.Pairwise OM.B5 _
   rw[TH]
   refine O'.ris.imp λ{a b} h=>?_
   unfold OM.B5 at h ⊢
   unfold xS
   simp only
   omega
  ·subst e
   have h1:=(n0.mp hp).2
   have h2:=O'.wn _ (rB.mp hq)
   simp only at h2
   rw[(oE (j:=j) (m:=m) (a:=p.1) (@AT) (@AT)).1,(oE (j:=j) (m:=m) (a:=p.2) (@AT) (@AT)).1] at h1
   exact O.irr _ h1
 ·rcases Rw.mp h with h |h
  ·exact O.irr _ (n0.mp h).2
  ·exact O'.irr _ (rB.mp h)
def Mc (O:@KK)(O':OM.Ord m k)(hj:j < n)(h8:n + m<=9):OM.jx 8 (OM.Mem (outer (n + m - 1) l j m ++ k.map (xS j)))=(OM.bw (n + m - 1)).filter (A8 l k j m):=by
 refine OM.iH (OM.lO _ _) (OM.cN _ (OM.dD _)) λp=>?_
 have w:=(Gm O O' hj).1
 have h1:=O'.lo
 rw[OM.jQ,Rl,OM.aY]
 show _/\p∈_ ++ _↔_
 have key:((0<=p.1/\p.1 < ((n + m - 1:Nat):Int))/\(0<=p.2/\p.2 < ((n + m - 1:Nat):Int)))->(p∈outer (n + m - 1) l j m ++ k.map (xS j)↔A8 l k j m p=true):=λhp=>by
  rw[Rw,n0,rB]
  unfold A8
  by_cases e:st j m p.1=st j m p.2
  ·rw[Rg e,RC,Rq,Rq]
   constructor
   ·rintro (h |h)
    ·rw[e] at h;exact absurd h.2 (O.irr _)
    ·have h2:=O'.wn _ h
     simp only at h2
     obtain⟨q1,q2⟩:=oE (j:=j) (m:=m) (a:=p.1) (@AT) (@AT)
     obtain⟨q3,q4⟩:=oE (j:=j) (m:=m) (a:=p.2) (@AT) (@AT)
     rw[q2,q4];exact⟨q1,h⟩
   ·rintro⟨q1,h⟩
    have b1:=J4 h1 q1
    have b2:=J4 (a:=p.2) h1 (by rw[<-e];exact q1)
    rw[(oE b1.1 b1.2).2,(oE b2.1 b2.2).2] at h
    exact .inr h
  ·rw[Rj e,Rq]
   constructor
   ·rintro (h |h)
    ·exact h.2
    ·have h2:=O'.wn _ h
     simp only at h2
     exact absurd ((oE (j:=j) (m:=m) (a:=p.1) (@AT) (@AT)).1.trans (oE (j:=j) (m:=m) (a:=p.2) (@AT) (@AT)).1.symm) e
   ·exact λh=>.inl ⟨hp,h⟩
 constructor
 ·rintro⟨_,h⟩
  have hp:=w p h
  exact⟨hp,(key hp).mp h⟩
 ·rintro⟨hp,h⟩
  exact⟨⟨⟨hp.1.1,@AT ⟩,hp.2.1,@AT ⟩,(key hp).mpr h⟩
end
noncomputable def IF:@Cl:=aS 6 3 (mM EC O6 eB E8)
def Nx {n m j:Nat}{l k:@A_}(O:@KK)(O':OM.Ord m k)(hj:j < n)(h8:n + m<=9):IF [ag n l,.int j,ag m k]=.ok (ag (n + m - 1) ((OM.bw (n + m - 1)).filter (A8 l k j m))) false:=by
 have l2:=jk O'
 have m1:=O'.lo
 have n1:=O.lo
 have hN8:n + m - 1<=8:=@AT
 show fin (mM EC O6 eB E8 [@C_,.fz (.int j),@Rs,.no,.no,.no] 0)=_
 unfold mM
 rw[aH (env':=[@C_,.fz (.int j),@Rs,.no,.no,.no]) (β':=0) ?a]
 case a=>rw[eQ,ak (ds:=[ag n l,.int j,ag m k]) (β1:=0) rfl (JW O O' hj h8)];rfl
 rw[aH (env':=[@C_,.fz (.int j),@Rs,.fz (.int ((n + m - 1:Nat):Int)),.no,.no]) (β':=0) ?b]
 case b=>
  rw[cO,aG (x:=.int ((n:Int) + m)) (y:=.int 1) (d:=.int ((n + m - 1:Nat):Int)) (β1:=0) (β2:=0) rfl rfl]
  ·rfl
  ·show some (int ((n:Int) + m - 1))=_
   rw[show ((n + m - 1:Nat):Int)=(n:Int) + m - 1 by omega]
 generalize hN:n + m - 1=N at *
 have es:aN 1 [1,2] (.nm 0) (fx (gv 3)) i7 (aq O6 (aa (gv 0) (aa (gv 1) (aa (f2 (gv 2) @FM bB) ao)))) (vl [@C_,.fz (.int j),@Rs,.fz (.int (N:Int)),.no,.no]) 0=.ok (.list ((bD N).map λa=>int (st j m a))) 0:=by
  refine bL (l:=bD N) (e:=int) (λa=>int (st j m a)) ?_ (by rw[b7];omega) λa ha=>⟨[.da (.int a),.da (.int j),.da (ag m k)],rfl,ak (ds:=[.int a,.int j,.int m]) (β1:=0) rfl (P9 j m a)⟩
  rw[fy (n:=N) (β1:=0) rfl (@AT),lB]
 rw[aH (env':=[@C_,.fz (.int j),@Rs,.fz (.int (N:Int)),.fz (.list ((bD N).map λa=>int (st j m a))),.no]) (β':=0) ?c]
 case c=>rw[cO,es];rfl
 have hg:(OM.bw N).length<=1000:=by
  rw[dC]
  have:N * N<=8 * 8:=Ss hN8 hN8
  omega
 have hat:∀a:Int,0<=a->a < N->m9 ((bD N).map λa=>int (st j m a)) a=some (.int (st j m a)):=λa h0 h1=>by
  obtain⟨b,rfl⟩:∃b:Nat,a=b:=⟨a.toNat,@AT ⟩
  rw[oq,kM (Mj (n:=N) (k:=b) (@AT))];rfl
 have eo:aN 2 [4,0] (.two 0 1) (bH (aq eB (aa (gv 3) ao))) (eO (f2 (cq (aa (f2 (gv 2) (gv 0) bB) (aa (f2 (gv 2) (gv 1) bB) ao))) (f2 (gv 3) @Fa bB) (oN false))) (cq @Fk) (vl [@C_,.fz (.int j),@Rs,.fz (.int (N:Int)),.fz (.list ((bD N).map λa=>int (st j m a))),.no]) 0=.ok (.list ((outer N l j m).map aA)) 0:=by
  refine cm (l:=OM.bw N) (e:=aA) (λp=>decide ((st j m p.1,st j m p.2)∈l)) aA ?_ hg λp hp=>⟨[.da (.int p.1),.da (.int p.2),.da (.list ((bD N).map λa=>int (st j m a))),.da (ag n l)],rfl,?_,λ_=>?_⟩
  ·have e1:aq eB (aa (gv 3) ao) (vl [@C_,.fz (.int j),@Rs,.fz (.int (N:Int)),.fz (.list ((bD N).map λa=>int (st j m a))),.no]) 0=.ok (.list ((OM.bw N).map aA)) 0:=ak (ds:=[.int (N:Int)]) (β1:=0) rfl (rF (@AT) hN8)
   unfold bH
   rw[e1];rfl
  ·have hm:=OM.aY.mp hp
   refine gC _ _ _ _ (aG (x:=aA (st j m p.1,st j m p.2)) (y:=@S_) (cX (aG rfl rfl ?_) (aG rfl rfl ?_)) rfl (oi false _ _))
   ·exact hat p.1 hm.1.1 hm.1.2
   ·exact hat p.2 hm.2.1 hm.2.2
  ·exact cX (a:=p.1) (b:=p.2) rfl rfl
 rw[aH (env':=[@C_,.fz (.int j),@Rs,.fz (.int (N:Int)),.fz (.list ((bD N).map λa=>int (st j m a))),.fz (.list ((outer N l j m).map aA))]) (β':=0) ?d]
 case d=>rw[cO,eo];rfl
 have hok:=Gm O O' hj
 have heq:=Mc O O' hj h8
 rw[hN] at hok heq
 obtain⟨w,nd,irr⟩:=hok
 have hol:(outer N l j m).length<=1000:=Sd (Se _ _) hg
 have e2:f1 (f1 (f2 (gv 5) (aq E8 (aa (gv 2) (aa (gv 1) ao))) jq) nv) gR (vl [@C_,.fz (.int j),@Rs,.fz (.int (N:Int)),.fz (.list ((bD N).map λa=>int (st j m a))),.fz (.list ((outer N l j m).map aA))]) 0=.ok (.tuple (((OM.bw N).filter (A8 l k j m)).map aA)) 0:=by
  refine cQ (cQ (aG (x:=.list ((outer N l j m).map aA)) (d:=.list ((outer N l j m ++ k.map (xS j)).map aA)) rfl (ak (ds:=[ag m k,.int j]) (β1:=0) rfl (KJ (@AT) j)) ?_) (vJ (@AT) hN8 w nd irr)) ?_
  ·rw[mw (by simp only[Rb];omega),RS]
  ·rw[heq];rfl
 rw[du,iM (ds:=[.int (N:Int),.tuple (((OM.bw N).filter (A8 l k j m)).map aA)]) (β1:=0) ?e (@KM)]
 ·rfl
 case e=>
  rw[cM]
  show (R.ok (int (N:Int)) 0).bnd _=_
  dsimp only[R.bnd]
  rw[cM,e2];rfl
def IB (x c:Nat):bD (x + c)=bD x ++ (bD c).map λb=>(x:Int) + b:=by
 unfold bD
 rw[List.range_add,RS,Sz,Sz]
 congr 1
def gu (rs:@LE)(a:Nat):@Db:=rs.getD (min a (rs.length - 1)) []
def Gs {rs:@LE}(h:rs≠ [])(a:Nat):rs[min a (rs.length - 1)]? =some (gu rs a):=by
 have hp:=SJ.mpr h
 have hl:min a (rs.length - 1) < rs.length:=@AT
 unfold gu
 rw[RP,Rf hl];rfl
def bI {rs:@LE}(h:rs≠ [])(a:Nat):gu rs a∈rs:=RN (Gs h a)
def Jl {rs:@LE}{r:@Db}(h:r∈rs):∃a,a < rs.length/\gu rs a=r:=by
 obtain⟨a,ha,e⟩:=List.getElem_of_mem h
 refine⟨a,ha,?_⟩
 unfold gu
 rw[TZ (@AT),RP,Rf ha];exact e
def IK:@Cl:=aS 2 2 tT
def Df {rs:@LE}(h:rs≠ [])(a:Nat):IK [@D_,.int a]=.ok (tupI (gu rs a)) false:=by
 show fin (tT [.fz (@D_),.fz (.int a)] 0)=_
 have hp:=SJ.mpr h
 refine dP (gM (aG (x:=@D_) (y:=.int ((min a (rs.length - 1):Nat):Int)) rfl (aG (x:=.int a) (y:=.int (((rs.map tupI).length:Int) - 1)) rfl (aG (x:=.int (rs.map tupI).length) (y:=.int 1) (cQ (x:=@D_) rfl rfl) rfl rfl) ?_) ?_) rfl)
 ·show some (int (if (((rs.map tupI).length:Int) - 1) < (a:Int) then (((rs.map tupI).length:Int) - 1) else (a:Int)))=_
  rw[Rb]
  congr 2
  split <;> omega
 ·show m9 (rs.map tupI) _=_
  rw[oq,kM (Gs h a)];rfl
def Ke:@Cl:=aS 2 2 lV
def KR {r:@Db}(hz:r.length<=1000)(s:Int):Ke [tupI r,.int s]=.ok (tupI (r.map (· + s))) false:=by
 show fin (lV [.fz (tupI r),.fz (.int s)] 0)=_
 refine dP (gM (cQ (x:=.list (r.map λx=>int (x + s))) (bL (l:=r) (e:=int) (λx=>int (x + s)) rfl hz λx hx=>⟨_,rfl,aG (x:=.int x) (y:=.int s) rfl rfl rfl⟩) ?_) rfl)
 show some (PyData.tuple _)=some (PyData.tuple _)
 rw[Sz];rfl
noncomputable def Au:@Cl:=aS 4 4 (kB vR)
structure Dr (n:Nat)(l:@A_)(rs:@LE):Prop where
 O:@KK
 ne:rs≠ []
 few:rs.length<=10
 pm:∀r,r∈rs->r.Perm (bD n)
 eq:l=(OM.bw n).filter (nU rs)
def Dr.row {n:Nat}{l:@A_}{rs:@LE}(d:Dr n l rs){r:@Db}(h:r∈rs):Row n l r:=⟨d.pm r h,by
 unfold uE
 rw[RH]
 intro p hp
 rw[d.eq] at hp
 exact Rk ((jr.mp (Rl.mp hp).2).2 r h)⟩
def B9 {n:Nat}{rs:@LE}(h:rs≠ []):(OM.bw n).filter (nU rs)=(OM.bw n).filter (wH rs):=by
 refine S5 λp _=>?_
 unfold nU wH
 by_cases c:p.1=p.2
 ·rw[Rk c]
  obtain⟨r,rs',rfl⟩:∃r rs',rs=r :: rs':=by
   cases rs with
   |nil=>exact absurd rfl h
   |cons r rs'=>exact⟨r,rs',rfl⟩
  rw[Ud,c,Rt (RU _)];rfl
 ·rw[Rt c];rfl
def Dr.tells {n:Nat}{l:@A_}{rs:@LE}(d:Dr n l rs):vR [@D_,ag n l]=.ok (.bool true) false:=by
 have h8:=d.O.hi
 rw[Mf d.O ⟨rfl,λes e=>by
  cases e
  refine⟨by rw[Rb];have:=d.few;omega,λx hx=>?_⟩
  obtain⟨q,hq,rfl⟩:=Rz.mp hx
  obtain⟨hl,hrb⟩:=sR h8 (d.pm q hq)
  exact (Kr (@AT) hrb).1⟩]
 rw[vT d.ne λr hr=>d.row hr,<-B9 d.ne,<-d.eq,Rk rfl]
def GD {n m:Nat}{l k:@A_}{rs qs:@LE}(d:Dr n l rs)(d':Dr m k qs):Au [ag n l,ag m k,@D_,@KT]=.ok .none false:=by
 show fin (kB vR [@C_,@Rs,.fz (@D_),.fz (@KT)] 0)=_
 refine dP ?_
 unfold kB
 exact jo (eT (eS (ak (ds:=[@D_,ag n l]) rfl d.tells))) (zS (jo (eT (eS (ak (ds:=[@KT,ag m k]) rfl d'.tells))) (Bh rfl)))
def qD (n:Nat)(rs qs:@LE)(a:Nat):@Db:=gu rs a ++ (gu qs a).map (· + (n:Int))
def Cy (n:Nat)(rs qs:@LE)(a:Nat):@Db:=(gu qs a).map (· + (n:Int)) ++ gu rs a
noncomputable def Ma:@Cl:=aS 5 4 (iI IV Au IK Ke)
def BK {n m c:Nat}{l k:@A_}{rs qs:@LE}{vs:List Nv}{β:Int}{fi:@Tk}(d:Dr n l rs)(d':Dr m k qs)(hc:c<=20)(hi:fi vs β=.ok (g9 0 c) β)(hb:g8 1 [2,3,0] vs= [.no,.da (@D_),.da (@KT),.da (ag n l)]) :
  aN 1 [2,3,0] (.nm 0) fi i7 (f2 (aq IK (aa (gv 1) @K_)) (aq Ke (aa (aq IK (aa (gv 2) @K_)) (aa (f2 (gv 3) @FM bB) ao))) kK) vs β=.ok (.list ((List.range c).map λa=>tupI (qD n rs qs a))) β:=by
 have h8:=d.O.hi
 have h8':=d'.O.hi
 have e:((List.range c).map λa=>tupI (qD n rs qs a))=(bD c).map λa=>tupI (qD n rs qs a.toNat):=by
  unfold bD;rw[Sz];rfl
 rw[e]
 refine bL (l:=bD c) (e:=int) (λa=>tupI (qD n rs qs a.toNat)) (hi.trans (by rw[lB])) (by rw[b7];omega) λa ha=>?_
 obtain⟨h0,_⟩:=az.mp ha
 obtain⟨b,rfl⟩:∃b:Nat,a=(b:Int):=⟨a.toNat,@AT ⟩
 rw[hb]
 have l1:=(sR h8 (d.pm _ (bI d.ne b))).1
 have l2:=(sR h8' (d'.pm _ (bI d'.ne b))).1
 refine⟨[.da (.int b),.da (@D_),.da (@KT),.da (ag n l)],rfl,?_⟩
 rw[RT]
 exact NH (r:=gu rs b) (q:=(gu qs b).map (· + (n:Int))) (ak (ds:=[@D_,.int b]) rfl (Df d.ne b)) (ak (ds:=[tupI (gu qs b),.int n]) (ac (ak (ds:=[@KT,.int b]) rfl (Df d'.ne b)) (ac (MQ (n:=n) (l:=l) rfl) an)) (KR (@AT) n)) (by rw[Rb];omega)
def AO {vs:List Nv}{β:Int}{fa fb:VF D}{rs qs:@LE}(h1:@Tm=.ok (@D_) β)(h2:fb vs β=.ok (@KT) β):f2 (f1 fa cJ) (f1 fb cJ) (xw λi j=>.int (if j > i then j else i)) vs β=.ok (.int ((@Q_:Nat):Int)) β:=by
 refine aG (cQ h1 rfl) (cQ h2 rfl) ?_
 show some (int (if (((qs.map tupI).length:Nat):Int) > (((rs.map tupI).length:Nat):Int) then (((qs.map tupI).length:Nat):Int) else (((rs.map tupI).length:Nat):Int)))=_
 rw[Rb,Rb]
 congr 2
 split <;> omega
def N9 {n m:Nat}{l k:@A_}{rs qs:@LE}(d:Dr n l rs)(d':Dr m k qs)(h8:n + m<=8):Ma [ag n l,ag m k,@D_,@KT]=.ok (.list ((List.range (@Q_)).map λa=>tupI (qD n rs qs a))) true:=by
 show fin (iI IV Au IK Ke [@C_,@Rs,.fz (@D_),.fz (@KT),.no] 0)=_
 refine dP ?_
 unfold iI
 have:=d.few
 have:=d'.few
 refine kI (ak (ds:=[ag n l,ag m k]) rfl (IT d.O d'.O h8)) (kI (ak (ds:=[ag n l,ag m k,@D_,@KT]) rfl (GD d d')) (dq (AO (rs:=rs) (qs:=qs) rfl rfl) (wW (BK d d' (@AT) (fy (n:=@Q_) rfl (@AT)) rfl) rfl)))
noncomputable def K5:@Cl:=aS 6 4 (iG IV Au IK Ke)
def Nh {n m c:Nat}{l k:@A_}{rs qs:@LE}(d:Dr n l rs)(d':Dr m k qs)(h8:n + m<=8)(hc:c + 1=max 2 (@Q_)):K5 [ag n l,ag m k,@D_,@KT]=.ok (.list (((List.range c).map λa=>tupI (qD n rs qs a)) ++ [tupI (Cy n rs qs c)])) true:=by
 show fin (iG IV Au IK Ke [@C_,@Rs,.fz (@D_),.fz (@KT),.no,.no] 0)=_
 refine dP ?_
 unfold iG
 have:=d.few
 have:=d'.few
 have hc20:c<=20:=@AT
 refine kI (ak (ds:=[ag n l,ag m k]) rfl (IT d.O d'.O h8)) (kI (ak (ds:=[ag n l,ag m k,@D_,@KT]) rfl (GD d d')) ?_)
 have e4:f2 (Cf (aa (f1 (gv 2) cJ) (aa (f1 (gv 3) cJ) (aa (cst (.int 2)) ao)))) @Fa qJ (vl [@C_,@Rs,.fz (@D_),.fz (@KT),.no,.no]) 0=.ok (.int c) 0:=by
  refine aG (x:=.int ((c:Int) + 1)) (y:=.int 1) ?_ rfl (by
   show some (int ((c:Int) + 1 - 1))=_
   congr 2;omega)
  unfold Cf
  rw[ac (ds:=[.int (qs.map tupI).length,.int 2]) (d:=.int (rs.map tupI).length) (cQ (x:=@D_) rfl rfl) (ac (cQ (x:=@KT) rfl rfl) (ac rfl an))]
  show R.ok (int (MO (rs.map tupI).length (qs.map tupI).length 2)) 0=_
  rw[Rb,Rb]
  unfold MO
  congr 2
  split <;> split <;> omega
 clear hc
 refine dq e4 ?_
 refine wp_at [@C_,@Rs,.fz (@D_),.fz (@KT),.fz (.int c),.no] rfl ?_
 refine dq (BK d d' hc20 (fy (n:=c) rfl (@AT)) rfl) ?_
 have h8a:=d.O.hi
 have h8b:=d'.O.hi
 have l1:=(sR h8a (d.pm _ (bI d.ne c))).1
 have l2:=(sR h8b (d'.pm _ (bI d'.ne c))).1
 have lA:((List.range c).map λa=>tupI (qD n rs qs a)).length<=20:=by rw[Rb,R4];exact hc20
 generalize ((List.range c).map λa=>tupI (qD n rs qs a))=A at lA
 refine wp_at [@C_,@Rs,.fz (@D_),.fz (@KT),.fz (.int c),.fz (.list A)] rfl ?_
 refine wW (d:=.list (A ++ [tupI (Cy n rs qs c)])) (β1:=0) (FY (a:=A) (b:=[tupI (Cy n rs qs c)]) rfl (lp (ds:=[tupI (Cy n rs qs c)]) (ac ?_ an)) (by rw[R1];omega)) rfl
 exact NH (r:=(gu qs c).map (· + (n:Int))) (q:=gu rs c) (ak (ds:=[tupI (gu qs c),.int n]) (ac (ak (ds:=[@KT,.int c]) rfl (Df d'.ne c)) (ac (MQ (n:=n) (l:=l) rfl) an)) (KR (@AT) n)) (ak (ds:=[@D_,.int c]) rfl (Df d.ne c)) (by rw[Rb];omega)
theorem idx_map {f:Int->Int}{a:Int}:∀{l:@Db},(∀x,x∈l->f x=f a->x=a)->(l.map f).idxOf (f a)=l.idxOf a
 | [],_=>rfl
 |x :: l,h=>by
  rw[Sx,Uk,Uk,idx_map (l:=l) λy hy=>h y (Ru _ hy)]
  by_cases c:x=a
  ·subst c;simp
  ·have:¬f x=f a:=λe=>c (h x (Ro ..) e)
   rw[beq_false_of_ne c,beq_false_of_ne this]
def kz {a:Int}{l m:@Db}:(l ++ m).idxOf a=if a∈l then l.idxOf a else m.idxOf a + l.length:=T4
def A3 {q:@Db}{s a:Int}:(q.map (· + s)).idxOf a=q.idxOf (a - s):=by
 have:=idx_map (f:=(· + s)) (a:=a - s) (l:=q) λx _ e=>by have e:x + s=a - s + s:=e;omega
 rw[<-this]
 congr 1
 show a=a - s + s
 omega
def sv {q:@Db}{s a:Int}:a∈q.map (· + s)↔a - s∈q:=by
 rw[Rz]
 constructor
 ·rintro⟨x,hx,rfl⟩;rw[show x + s - s=x by omega];exact hx
 ·intro h;exact⟨a - s,h,@AT ⟩
def EF {n m:Nat}{r q:@Db}(hr:r.Perm (bD n))(hq:q.Perm (bD m))(a:Int):(r ++ q.map (· + (n:Int))).idxOf a=if a∈bD n then r.idxOf a else n + q.idxOf (a - n):=by
 have hl:r.length=n:=by rw[hr.length_eq,b7]
 rw[kz,A3,hl]
 by_cases c:a∈bD n
 ·rw[Rg (hr.mem_iff.mpr c),Rg c]
 ·rw[Rj (λh=>c (hr.mem_iff.mp h)),Rj c];omega
def Mu {n m:Nat}{r q:@Db}(hr:r.Perm (bD n))(hq:q.Perm (bD m))(a:Int):(q.map (· + (n:Int)) ++ r).idxOf a=if a - n∈bD m then q.idxOf (a - n) else m + r.idxOf a:=by
 have hl:q.length=m:=by rw[hq.length_eq,b7]
 rw[kz,A3,Rb,hl]
 by_cases c:a - n∈bD m
 ·rw[Rg (sv.mpr (hq.mem_iff.mpr c)),Rg c]
 ·rw[Rj (λh=>c (hq.mem_iff.mp (sv.mp h))),Rj c];omega
def wo {n m:Nat}{r q:@Db}(hr:r.Perm (bD n))(hq:q.Perm (bD m)):(r ++ q.map (· + (n:Int))).Perm (bD (n + m)):=by
 have e:bD (n + m)=bD n ++ (bD m).map (· + (n:Int)):=by
  rw[IB]
  congr 1
  refine SH λb _=>?_
  omega
 rw[e]
 exact hr.append (hq.map _)
def B6 {n:Nat}{r:@Db}(hr:r.Perm (bD n)){a:Int}(h:a∈bD n):r.idxOf a < n:=by
 have:=Sh.mpr (hr.mem_iff.mpr h)
 rwa [hr.length_eq,b7] at this
def nE {rs:@LE}{c:Nat}(hne:rs≠ [])(hc:rs.length<=c){P:@Db->Prop}:(∀a,a < c->P (gu rs a))↔∀r,r∈rs->P r:=by
 constructor
 ·intro h r hr
  obtain⟨a,ha,e⟩:=Jl hr
  rw[<-e];exact h a (@AT)
 ·exact λh a _=>h _ (bI hne a)
def qe {n:Nat}{l:@A_}{rs:@LE}(d:Dr n l rs){a b:Int}:(a,b)∈l↔(a∈bD n/\b∈bD n)/\a≠b/\∀r,r∈rs->r.idxOf a < r.idxOf b:=by
 rw[d.eq,Rl,OM.aY,jr,az,az]
def HX {n m c:Nat}{l k:@A_}{rs qs:@LE}(d:Dr n l rs)(d':Dr m k qs)(h8:n + m<=8)(h1:rs.length<=c)(h2:qs.length<=c) :
  (OM.bw (n + m)).filter (nU ((List.range c).map λa=>qD n rs qs a))=OM.jx 8 (OM.Mem (mW n l k ++ xP (n + m) n n)):=by
 have hm1:=d'.O.lo
 refine OM.iH (OM.cN _ (OM.dD _)) (OM.lO _ _) λp=>?_
 obtain⟨a,b⟩:=p
 rw[Rl,OM.jQ,OM.aY,jr]
 show _↔_/\(a,b)∈mW n l k ++ xP (n + m) n n
 rw[Rw,gX,pO,qe d,qe d']
 have key:(∀r,r∈((List.range c).map λa=>qD n rs qs a)->r.idxOf a < r.idxOf b)↔∀i,i < c->(qD n rs qs i).idxOf a < (qD n rs qs i).idxOf b:=by
  constructor
  ·exact λh i hi=>h _ (Rz.mpr ⟨i,RW.mpr hi,rfl⟩)
  ·intro h r hr
   obtain⟨i,hi,rfl⟩:=Rz.mp hr
   exact h i (RW.mp hi)
 have c1:1<=c:=by have:=SJ.mpr d.ne;omega
 have ix:∀i x,(qD n rs qs i).idxOf x=if x∈bD n then (gu rs i).idxOf x else n + (gu qs i).idxOf (x - n):=λi x=>EF (d.pm _ (bI d.ne i)) (d'.pm _ (bI d'.ne i)) x
 have bd:∀i x,x∈bD n->(gu rs i).idxOf x < n:=λi x hx=>B6 (d.pm _ (bI d.ne i)) hx
 simp only[key,ix]
 simp only[az]
 by_cases ca:0<=a/\a < n
 ·by_cases cb:0<=b/\b < n
  ·simp only[Rg ca,Rg cb,nE (P:=λr=>r.idxOf a < r.idxOf b) d.ne h1]
   constructor
   ·rintro⟨_,h3,h4⟩;exact⟨@AT,.inl (.inl ⟨⟨ca,cb⟩,h3,h4⟩)⟩
   ·rintro⟨_,(⟨_,h3,h4⟩ | ⟨⟨h5,h6⟩,_⟩) |h⟩
    ·exact⟨@AT,h3,h4⟩
    ·omega
    ·omega
  ·simp only[Rg ca,Rj cb]
   constructor
   ·rintro⟨h0,h3,_⟩;exact⟨@AT,.inr (@AT)⟩
   ·rintro⟨h0,(⟨⟨_,h⟩,_⟩ | ⟨⟨h5,_⟩,_⟩) |h⟩
    ·exact absurd h cb
    ·omega
    ·exact⟨@AT,@AT,λi _=>by have:=bd i a (az.mpr ca);omega⟩
 ·by_cases cb:0<=b/\b < n
  ·simp only[Rj ca,Rg cb]
   constructor
   ·rintro⟨h0,h3,h4⟩
    have:=h4 0 (@AT)
    have:=bd 0 b (az.mpr cb)
    omega
   ·rintro⟨h0,(⟨⟨h,_⟩,_⟩ | ⟨⟨_,h5⟩,_⟩) |h⟩
    ·exact absurd h ca
    ·omega
    ·omega
  ·simp only[Rj ca,Rj cb,TR,nE (P:=λr=>r.idxOf (a - n) < r.idxOf (b - n)) d'.ne h2]
   constructor
   ·rintro⟨h0,h3,h4⟩;exact⟨@AT,.inl (.inr ⟨⟨@AT,@AT ⟩,@AT,h4⟩)⟩
   ·rintro⟨h0,(⟨⟨h,_⟩,_⟩ | ⟨⟨h5,h6⟩,h3,h4⟩) |h⟩
    ·exact absurd h ca
    ·exact⟨@AT,@AT,h4⟩
    ·omega
def Jc {n m c:Nat}{l k:@A_}{rs qs:@LE}(d:Dr n l rs)(d':Dr m k qs)(h8:n + m<=8)(h1:rs.length<=c + 1)(h2:qs.length<=c + 1)(hc:1<=c) :
  (OM.bw (n + m)).filter (nU (((List.range c).map λa=>qD n rs qs a) ++ [Cy n rs qs c]))=mW n l k:=by
 have hm1:=d'.O.lo
 refine OM.iH (OM.cN _ (OM.dD _)) (Bl d.O d'.O) λp=>?_
 obtain⟨a,b⟩:=p
 rw[Rl,OM.aY,jr,gX,qe d,qe d']
 have key:(∀r,r∈((List.range c).map λa=>qD n rs qs a) ++ [Cy n rs qs c]->r.idxOf a < r.idxOf b)↔(∀i,i < c->(qD n rs qs i).idxOf a < (qD n rs qs i).idxOf b)/\(Cy n rs qs c).idxOf a < (Cy n rs qs c).idxOf b:=by
  constructor
  ·exact λh=>⟨λi hi=>h _ (Sg _ (Rz.mpr ⟨i,RW.mpr hi,rfl⟩)),h _ (@KM)⟩
  ·rintro⟨h,h'⟩ r hr
   rcases Rw.mp hr with hr |hr
   ·obtain⟨i,hi,rfl⟩:=Rz.mp hr
    exact h i (RW.mp hi)
   ·rw[RE] at hr;rw[hr];exact h'
 have ix:∀i x,(qD n rs qs i).idxOf x=if x∈bD n then (gu rs i).idxOf x else n + (gu qs i).idxOf (x - n):=λi x=>EF (d.pm _ (bI d.ne i)) (d'.pm _ (bI d'.ne i)) x
 have iy:∀i x,(Cy n rs qs i).idxOf x=if x - n∈bD m then (gu qs i).idxOf (x - n) else m + (gu rs i).idxOf x:=λi x=>Mu (d.pm _ (bI d.ne i)) (d'.pm _ (bI d'.ne i)) x
 have bd:∀i x,x∈bD n->(gu rs i).idxOf x < n:=λi x hx=>B6 (d.pm _ (bI d.ne i)) hx
 have bd':∀i x,x∈bD m->(gu qs i).idxOf x < m:=λi x hx=>B6 (d'.pm _ (bI d'.ne i)) hx
 have sp:∀{P:Nat->Prop},((∀i,i < c->P i)/\P c)↔∀i,i < c + 1->P i:=λ{P}=>by
  constructor
  ·rintro⟨h,h'⟩ i hi
   by_cases e:i=c
   ·rw[e];exact h'
   ·exact h i (@AT)
  ·exact λh=>⟨λi hi=>h i (@AT),h c (@AT)⟩
 simp only[key,ix,iy]
 simp only[az]
 by_cases ca:0<=a/\a < n
 ·have na:¬(0<=a - n/\a - n < m):=@AT
  by_cases cb:0<=b/\b < n
  ·have nb:¬(0<=b - n/\b - n < m):=@AT
   simp only[Rg ca,Rg cb,Rj na,Rj nb,TR]
   rw[sp (P:=λi=>(gu rs i).idxOf a < (gu rs i).idxOf b),nE (P:=λr=>r.idxOf a < r.idxOf b) d.ne h1]
   constructor
   ·rintro⟨_,h3,h4⟩;exact .inl ⟨⟨ca,cb⟩,h3,h4⟩
   ·rintro (⟨_,h3,h4⟩ | ⟨⟨h5,h6⟩,_⟩)
    ·exact⟨@AT,h3,h4⟩
    ·omega
  ·simp only[Rg ca,Rj cb,Rj na]
   constructor
   ·rintro⟨h0,h3,h4,h5⟩
    have pb:0<=b - n/\b - n < m:=@AT
    rw[Rg pb] at h5
    have:=bd' c (b - n) (az.mpr pb)
    omega
   ·rintro (⟨⟨_,h⟩,_⟩ | ⟨⟨h5,_⟩,_⟩)
    ·exact absurd h cb
    ·omega
 ·by_cases cb:0<=b/\b < n
  ·simp only[Rj ca,Rg cb]
   constructor
   ·rintro⟨h0,h3,h4,_⟩
    have:=h4 0 (@AT)
    have:=bd 0 b (az.mpr cb)
    omega
   ·rintro (⟨⟨h,_⟩,_⟩ | ⟨⟨_,h5⟩,_⟩)
    ·exact absurd h ca
    ·omega
  ·constructor
   ·rintro⟨h0,h3,h4⟩
    have pa:0<=a - n/\a - n < m:=@AT
    have pb:0<=b - n/\b - n < m:=@AT
    simp only[Rj ca,Rj cb,Rg pa,Rg pb,TR] at h4
    rw[sp (P:=λi=>(gu qs i).idxOf (a - n) < (gu qs i).idxOf (b - n)),nE (P:=λr=>r.idxOf (a - n) < r.idxOf (b - n)) d'.ne h2] at h4
    exact .inr ⟨⟨pa,pb⟩,@AT,h4⟩
   ·rintro (⟨⟨h,_⟩,_⟩ | ⟨⟨pa,pb⟩,h3,h4⟩)
    ·exact absurd h ca
    ·simp only[Rj ca,Rj cb,Rg pa,Rg pb,TR]
     rw[sp (P:=λi=>(gu qs i).idxOf (a - n) < (gu qs i).idxOf (b - n)),nE (P:=λr=>r.idxOf (a - n) < r.idxOf (b - n)) d'.ne h2]
     exact⟨@AT,@AT,h4⟩
def mG (j:Nat)(s a:Int):Int:=if a > j then a + s else a
def Pp:@Cl:=aS 3 3 wJ
def Pn (a s:Int)(j:Nat):Pp [.int a,.int j,.int s]=.ok (.int (mG j s a)) false:=by
 show fin (wJ [.fz (.int a),.fz (.int j),.fz (.int s)] 0)=_
 refine dP (gM (d:=.int (mG j s a)) (β1:=0) ?_ rfl)
 have t:eO (f2 (gv 0) (gv 1) Nr) (vl [.fz (.int a),.fz (.int j),.fz (.int s)]) 0=.ok (decide (a > (j:Int))) 0:=gC _ _ _ _ (aG (x:=.int a) (y:=.int j) rfl rfl rfl)
 rw[Eu,t]
 unfold mG
 by_cases c:a > (j:Int)
 ·rw[Rk c,Rg c];rfl
 ·rw[Rt c,Rj c];rfl
def vg (j:Nat)(r q:@Db):@Db:=((r.map (mG j ((q.length:Int) - 1))).take (r.idxOf (j:Int)) ++ q.map (· + (j:Int))) ++ (r.map (mG j ((q.length:Int) - 1))).drop (r.idxOf (j:Int) + 1)
def L5:@Cl:=aS 5 3 (gO Pp Ke)
def NN {r q:@Db}{j:Nat}(hr:r.length<=8)(hq:q.length<=8)(hj:(j:Int)∈r):L5 [tupI r,.int j,tupI q]=.ok (tupI (vg j r q)) false:=by
 show fin (gO Pp Ke [.fz (tupI r),.fz (.int j),.fz (tupI q),.no,.no] 0)=_
 refine dP ?_
 unfold gO
 refine dq (wd (r:=r) (k:=j) rfl rfl hj) (dq (d:=tupI (r.map (mG j ((q.length:Int) - 1)))) (β1:=0) (cQ (x:=.list (r.map λx=>int (mG j ((q.length:Int) - 1) x))) (bL (l:=r) (e:=int) (λx=>int (mG j ((q.length:Int) - 1) x)) rfl (@AT) λx hx=>⟨_,rfl,ak (ds:=[.int x,.int j,.int ((q.length:Int) - 1)]) (ac rfl (ac rfl (ac (aG (x:=.int (q.map int).length) (y:=.int 1) (cQ (x:=tupI q) rfl rfl) rfl (by show some (int (((q.map int).length:Int) - 1))=_;rw[Rb])) an))) (Pn _ _ _)⟩) (by show some (PyData.tuple _)=some (PyData.tuple _);rw[Sz];rfl)) ?_)
 refine gM (d:=tupI (vg j r q)) (β1:=0) ?_ rfl
 generalize hK:r.map (mG j ((q.length:Int) - 1))=K
 have lK:K.length<=8:=by rw[<-hK,Rb];exact hr
 have e:tupI (vg j r q)=.tuple ((K.map int).take (r.idxOf (j:Int)) ++ (q.map (· + (j:Int))).map int ++ (K.map int).drop (r.idxOf (j:Int) + 1)):=by
  unfold vg tupI
  rw[hK,RS,RS,List.map_take,List.map_drop]
 rw[e]
 refine Fv (Fv (NC (i:=r.idxOf (j:Int)) rfl rfl) (ak (ds:=[tupI q,.int j]) rfl (KR (@AT) j)) ?_) (NK (i:=r.idxOf (j:Int) + 1) rfl (Qn rfl)) ?_
 ·simp only[R9,Rb];omega
 ·simp only[RD,R9,To,Rb];omega
noncomputable def LQ:@Cl:=aS 6 5 (fJ EC Au L5 IK)
def NA {n m j:Nat}{l k:@A_}{rs qs:@LE}(d:Dr n l rs)(d':Dr m k qs)(hj:j < n)(h8:n + m<=9):LQ [ag n l,.int j,ag m k,@D_,@KT]=.ok (.list ((List.range (@Q_)).map λa=>tupI (vg j (gu rs a) (gu qs a)))) true:=by
 show fin (fJ EC Au L5 IK [@C_,.fz (.int j),@Rs,.fz (@D_),.fz (@KT),.no] 0)=_
 refine dP ?_
 unfold fJ
 have:=d.few
 have:=d'.few
 have h8a:=d.O.hi
 have h8b:=d'.O.hi
 refine kI (ak (ds:=[ag n l,.int j,ag m k]) rfl (JW d.O d'.O hj h8)) (kI (ak (ds:=[ag n l,ag m k,@D_,@KT]) rfl (GD d d')) (dq (AO (rs:=rs) (qs:=qs) rfl rfl) ?_))
 generalize hc:@Q_=c
 have hc':c<=20:=@AT
 have e:((List.range c).map λa=>tupI (vg j (gu rs a) (gu qs a)))=(bD c).map λa=>tupI (vg j (gu rs a.toNat) (gu qs a.toNat)):=by
  unfold bD;rw[Sz];rfl
 rw[e]
 refine wW (d:=.list ((bD c).map λa=>tupI (vg j (gu rs a.toNat) (gu qs a.toNat)))) (β1:=0) ?_ rfl
 refine bL (l:=bD c) (e:=int) (λa=>tupI (vg j (gu rs a.toNat) (gu qs a.toNat))) ((fy (n:=c) rfl (@AT)).trans (by rw[lB])) (by rw[b7];omega) λa ha=>?_
 obtain⟨h0,_⟩:=az.mp ha
 obtain⟨b,rfl⟩:∃b:Nat,a=(b:Int):=⟨a.toNat,@AT ⟩
 have pr:=d.pm _ (bI d.ne b)
 have pq:=d'.pm _ (bI d'.ne b)
 have l1:=(sR h8a pr).1
 have l2:=(sR h8b pq).1
 refine⟨[.da (.int b),.da (@D_),.da (.int j),.da (@KT)],rfl,?_⟩
 rw[RT]
 exact ak (ds:=[tupI (gu rs b),.int j,tupI (gu qs b)]) (ac (ak (ds:=[@D_,.int b]) rfl (Df d.ne b)) (ac rfl (ac (ak (ds:=[@KT,.int b]) rfl (Df d'.ne b)) an))) (NN (@AT) (@AT) (pr.mem_iff.mpr (az.mpr (@AT))))
def Bo {n m j:Nat}{r q:@Db}(hr:r.Perm (bD n))(hq:q.Perm (bD m))(hj:j < n):∃P S:@Db,r=P ++ (j:Int) :: S/\(j:Int)∉P/\(j:Int)∉S/\vg j r q=(P.map (mG j ((m:Int) - 1)) ++ q.map (· + (j:Int))) ++ S.map (mG j ((m:Int) - 1)):=by
 have hm:(j:Int)∈r:=hr.mem_iff.mpr (az.mpr (@AT))
 have hl:=Sh.mpr hm
 have nd:r.Nodup:=hr.nodup_iff.mpr (fR n)
 have e:r=r.take (r.idxOf (j:Int)) ++ (j:Int) :: r.drop (r.idxOf (j:Int) + 1):=by
  have h1:=List.take_append_drop (r.idxOf (j:Int)) r
  rw[TK hl,TY hl] at h1
  exact h1.symm
 have nd2:(r.take (r.idxOf (j:Int)) ++ (j:Int) :: r.drop (r.idxOf (j:Int) + 1)).Nodup:=by rw[<-e];exact nd
 rw[Tf] at nd2
 refine⟨r.take (r.idxOf (j:Int)),r.drop (r.idxOf (j:Int) + 1),e,λh=>nd2.2.2 _ h _ (Ro ..) rfl,(R5.mp nd2.2.1).1,?_⟩
 unfold vg
 rw[hq.length_eq,b7,List.map_take,List.map_drop]
def wY {j:Nat}{s a b:Int}(hs:0<=s)(ha:a≠j)(hb:b≠j)(h:mG j s a=mG j s b):a=b:=by
 unfold mG at h
 split at h <;> split at h <;> omega
def wL {m j:Nat}{q P S:@Db}(hm:1<=m)(hq:q.Perm (bD m))(hP:(j:Int)∉P)(hS:(j:Int)∉S){a:Int}(ha:a≠j):((P.map (mG j ((m:Int) - 1)) ++ q.map (· + (j:Int))) ++ S.map (mG j ((m:Int) - 1))).idxOf (mG j ((m:Int) - 1) a)=if a∈P then P.idxOf a else S.idxOf a + (P.length + m):=by
 have hql:q.length=m:=by rw[hq.length_eq,b7]
 have nq:mG j ((m:Int) - 1) a∉q.map (· + (j:Int)):=λh=>by
  have:=az.mp (hq.mem_iff.mp (sv.mp h))
  unfold mG at this
  split at this <;> omega
 have mP:mG j ((m:Int) - 1) a∈P.map (mG j ((m:Int) - 1))↔a∈P:=by
  rw[Rz]
  constructor
  ·rintro⟨x,hx,e⟩;rw[<-wY (@AT) (λz=>hP (z▸hx)) ha e];exact hx
  ·exact λh=>⟨a,h,rfl⟩
 have i1:(P.map (mG j ((m:Int) - 1))).idxOf (mG j ((m:Int) - 1) a)=P.idxOf a:=idx_map λx hx e=>wY (@AT) (λz=>hP (z▸hx)) ha e
 have i2:(S.map (mG j ((m:Int) - 1))).idxOf (mG j ((m:Int) - 1) a)=S.idxOf a:=idx_map λx hx e=>wY (@AT) (λz=>hS (z▸hx)) ha e
 rw[kz,kz,i1,i2,RD,Rb,Rb,hql]
 by_cases c:a∈P
 ·rw[Rg (Sg _ (mP.mpr c)),Rg (mP.mpr c),Rg c]
 ·rw[Rj (λh=>(Rw.mp h).elim (λh=>c (mP.mp h)) nq),Rj c]
def Bs {m j:Nat}{q P S:@Db}(hq:q.Perm (bD m))(hP:(j:Int)∉P){t:Int}(ht:t∈bD m):((P.map (mG j ((m:Int) - 1)) ++ q.map (· + (j:Int))) ++ S.map (mG j ((m:Int) - 1))).idxOf (t + j)=q.idxOf t + P.length:=by
 have nP:t + j∉P.map (mG j ((m:Int) - 1)):=λh=>by
  obtain⟨x,hx,e⟩:=Rz.mp h
  have:=az.mp ht
  have hx:x≠j:=λz=>hP (z▸hx)
  unfold mG at e
  split at e <;> omega
 have mq:t + j∈q.map (· + (j:Int)):=sv.mpr (by rw[show t + (j:Int) - j=t by omega];exact hq.mem_iff.mpr ht)
 rw[kz,Rg (RJ _ mq),kz,Rj nP,A3,Rb,show t + (j:Int) - j=t by omega]
def JN {n m j:Nat}{r q:@Db}(hr:r.Perm (bD n))(hq:q.Perm (bD m))(hj:j < n)(hm:1<=m){a b:Int}(ha:0<=a/\a < ((n + m - 1:Nat):Int))(hb:0<=b/\b < ((n + m - 1:Nat):Int)) :
  (vg j r q).idxOf a < (vg j r q).idxOf b↔(if st j m a=st j m b then st j m a=j/\q.idxOf (xF j m a) < q.idxOf (xF j m b) else r.idxOf (st j m a) < r.idxOf (st j m b)):=by
 obtain⟨P,S,rfl,hP,hS,e⟩:=Bo hr hq hj
 rw[e]
 have nd:(P ++ (j:Int) :: S).Nodup:=hr.nodup_iff.mpr (fR n)
 rw[Tf] at nd
 have old:∀x,x≠(j:Int)->(P ++ (j:Int) :: S).idxOf x=if x∈P then P.idxOf x else S.idxOf x + (P.length + 1):=λx hx=>by
  rw[kz,Uk,beq_false_of_ne (Ne.symm hx)]
  split
  ·rfl
  ·simp only[cond_false];omega
 have oldj:(P ++ (j:Int) :: S).idxOf (j:Int)=P.length:=by
  rw[kz,Rj hP,Uk];simp
 have ltP:∀x,x∈P->P.idxOf x < P.length:=λx hx=>Sh.mpr hx
 have hql:q.length=m:=by rw[hq.length_eq,b7]
 have ltq:∀x,x∈bD m->q.idxOf x < m:=λx hx=>B6 hq hx
 have cs:∀x:Int,(0<=x/\x < ((n + m - 1:Nat):Int))->(st j m x=j/\xF j m x∈bD m/\x=xF j m x + j)\/(st j m x≠j/\x=mG j ((m:Int) - 1) (st j m x)):=λx hx=>by
  rw[az]
  unfold st xF mG
  by_cases c1:x < (j:Int)
  ·right
   rw[Rg c1,Rj (@AT)]
   exact⟨@AT,rfl⟩
  ·rw[Rj c1,Rj c1]
   by_cases c2:x - (m:Int) + 1 > j
   ·right
    rw[Rg c2,Rg c2]
    exact⟨@AT,@AT ⟩
   ·left
    rw[Rj c2,Rg (@AT)]
    exact⟨rfl,@AT,@AT ⟩
 rcases cs a ha with⟨a1,a2,a3⟩ | ⟨a1,a2⟩
 ·rcases cs b hb with⟨b1,b2,b3⟩ | ⟨b1,b2⟩
  ·rw[a1,b1,Rg rfl]
   rw[a3,b3,Bs hq hP a2,Bs hq hP b2,<-a3,<-b3]
   constructor
   ·exact λh=>⟨rfl,@AT ⟩
   ·exact λh=>by have:=h.2;omega
  ·rw[a1,Rj (λz=>b1 z.symm),oldj,old _ b1]
   rw[a3,Bs hq hP a2,b2,wL hm hq hP hS b1,<-b2]
   have:=ltq _ a2
   split
   ·rename_i h
    have:=ltP _ h
    constructor <;> intro <;> omega
   ·constructor <;> intro <;> omega
 ·rcases cs b hb with⟨b1,b2,b3⟩ | ⟨b1,b2⟩
  ·rw[b1,Rj a1,oldj,old _ a1]
   rw[b3,Bs hq hP b2,a2,wL hm hq hP hS a1,<-a2]
   have:=ltq _ b2
   split
   ·rename_i h
    have:=ltP _ h
    constructor <;> intro <;> omega
   ·constructor <;> intro <;> omega
  ·rw[old _ a1,old _ b1]
   have ea:=wL hm hq hP hS a1
   have eb:=wL hm hq hP hS b1
   rw[<-a2] at ea
   rw[<-b2] at eb
   rw[ea,eb]
   by_cases c:st j m a=st j m b
   ·rw[Rg c,c]
    constructor
    ·intro h;omega
    ·exact λh=>absurd (c▸h.1:st j m b=j) b1
   ·rw[Rj c]
    split
    ·rename_i h1
     have:=ltP _ h1
     split
     ·exact Iff.rfl
     ·constructor <;> intro <;> omega
    ·split
     ·rename_i h2
      have:=ltP _ h2
      constructor <;> intro <;> omega
     ·constructor <;> intro <;> omega
def FJ {n m j:Nat}(hj:j < n)(hm:1<=m){x:Int}(hx:0<=x/\x < ((n + m - 1:Nat):Int)):(0<=st j m x/\st j m x < n)/\((st j m x=j/\xF j m x∈bD m/\x=xF j m x + j)\/(st j m x≠j/\x=mG j ((m:Int) - 1) (st j m x))):=by
 rw[az]
 unfold st xF mG
 by_cases c1:x < (j:Int)
 ·rw[Rg c1]
  exact⟨@AT,.inr ⟨@AT,by rw[Rj (@AT)]⟩⟩
 ·rw[Rj c1,Rj c1]
  by_cases c2:x - (m:Int) + 1 > j
  ·rw[Rg c2,Rg c2]
   exact⟨@AT,.inr ⟨@AT,@AT ⟩⟩
  ·rw[Rj c2,Rg (@AT)]
   exact⟨@AT,.inl ⟨rfl,@AT,@AT ⟩⟩
def Hi {n m j:Nat}{r q:@Db}(hr:r.Perm (bD n))(hq:q.Perm (bD m))(hj:j < n)(hm:1<=m):(vg j r q).Perm (bD (n + m - 1)):=by
 obtain⟨P,S,e0,hP,hS,e⟩:=Bo hr hq hj
 have hl:P.length + S.length + 1=n:=by
  have:=hr.length_eq
  rw[b7,e0,RD,RL] at this
  omega
 have hql:q.length=m:=by rw[hq.length_eq,b7]
 rw[e]
 refine (nz (fR _) (λx hx=>?_) ?_).symm
 ·obtain⟨h1,h2⟩:=FJ hj hm (az.mp hx)
  rcases h2 with⟨_,h3,h4⟩ | ⟨h3,h4⟩
  ·refine Sg _ (RJ _ (sv.mpr ?_))
   rw[show x - (j:Int)=xF j m x by omega]
   exact hq.mem_iff.mpr h3
  ·have hm2:st j m x∈r:=hr.mem_iff.mpr (az.mpr h1)
   rw[e0] at hm2
   rcases Rw.mp hm2 with h |h
   ·exact Sg _ (Sg _ (Rz.mpr ⟨_,h,h4.symm⟩))
   ·rcases Rm.mp h with h |h
    ·exact absurd h h3
    ·exact RJ _ (Rz.mpr ⟨_,h,h4.symm⟩)
 ·simp only[RD,Rb,b7]
  omega
def JA {n m j c:Nat}{l k:@A_}{rs qs:@LE}(d:Dr n l rs)(d':Dr m k qs)(hj:j < n)(h8:n + m<=9)(h1:rs.length<=c)(h2:qs.length<=c) :
  (OM.bw (n + m - 1)).filter (nU ((List.range c).map λa=>vg j (gu rs a) (gu qs a)))=(OM.bw (n + m - 1)).filter (A8 l k j m):=by
 have hm:=d'.O.lo
 refine S5 λp hp=>?_
 obtain⟨a,b⟩:=p
 obtain⟨ha,hb⟩:=OM.aY.mp hp
 simp only at ha hb
 rw[Sf,jr]
 obtain⟨sa,ca⟩:=FJ hj hm ha
 obtain⟨sb,cb⟩:=FJ hj hm hb
 have key:(∀r,r∈((List.range c).map λa=>vg j (gu rs a) (gu qs a))->r.idxOf a < r.idxOf b)↔∀i,i < c->(if st j m a=st j m b then st j m a=j/\(gu qs i).idxOf (xF j m a) < (gu qs i).idxOf (xF j m b) else (gu rs i).idxOf (st j m a) < (gu rs i).idxOf (st j m b)):=by
  constructor
  ·exact λh i hi=>(JN (d.pm _ (bI d.ne i)) (d'.pm _ (bI d'.ne i)) hj hm ha hb).mp (h _ (Rz.mpr ⟨i,RW.mpr hi,rfl⟩))
  ·intro h r hr
   obtain⟨i,hi,rfl⟩:=Rz.mp hr
   exact (JN (d.pm _ (bI d.ne i)) (d'.pm _ (bI d'.ne i)) hj hm ha hb).mpr (h i (RW.mp hi))
 have c1:1<=c:=by have:=SJ.mpr d.ne;omega
 simp only[key]
 unfold A8
 dsimp only
 by_cases cs:st j m a=st j m b
 ·simp only[Rg cs]
  rw[RC,Rq,Rq,qe d']
  rcases ca with⟨ca1,ca2,ca3⟩ | ⟨ca1,ca2⟩
  ·rcases cb with⟨cb1,cb2,cb3⟩ | ⟨cb1,cb2⟩
   ·constructor
    ·rintro⟨ne,h⟩
     refine⟨ca1,⟨ca2,cb2⟩,λe=>ne (by rw[ca3,cb3,e]),?_⟩
     exact (nE (P:=λr=>r.idxOf (xF j m a) < r.idxOf (xF j m b)) d'.ne h2).mp λi hi=>(h i hi).2
    ·rintro⟨_,_,ne,h⟩
     exact⟨λe=>ne (by rw[e]),λi hi=>⟨ca1,(nE (P:=λr=>r.idxOf (xF j m a) < r.idxOf (xF j m b)) d'.ne h2).mpr h i hi⟩⟩
   ·exact absurd (cs▸ca1) cb1
  ·constructor
   ·rintro⟨_,h⟩;exact absurd (h 0 (@AT)).1 ca1
   ·rintro⟨h,_⟩;exact absurd h ca1
 ·simp only[Rj cs]
  rw[Rq,qe d,nE (P:=λr=>r.idxOf (st j m a) < r.idxOf (st j m b)) d.ne h1]
  constructor
  ·rintro⟨_,h⟩;exact⟨⟨az.mpr sa,az.mpr sb⟩,cs,h⟩
  ·rintro⟨_,_,h⟩;exact⟨λe=>cs (by rw[e]),h⟩
def Dm.all {n:Nat}{l:@A_}{c:Nat}(O:@KK)(h:Dm n l c):∃rs:@LE,rs.length=c/\(∀r,r∈rs->Row n l r)/\∀t,t∈oB n l->∃r,r∈rs/\Tn r t:=by
 obtain⟨rs,h1,h2,h3⟩:=h
 refine⟨rs,h1,h2,λt ht=>?_⟩
 obtain⟨q,hq,hs,hu⟩:=ka O _ t (Rh _) ht
 obtain⟨r,hr,hT⟩:=h3 q (Rl.mpr ⟨hq,hs⟩)
 exact⟨r,hr,vv (h2 r hr) hu hT⟩
def qc {x a:Int}{r:@Db}(h:x≠a):(x :: r).idxOf a=r.idxOf a + 1:=by rw[Uk,show (x == a)=false by simpa using h];rfl
def pull (n:Nat)(f:Int->Int)(r:@Db):@Db:=r.filterMap λx=>(bD n).find? λa=>decide (f a=x)
theorem qg {n:Nat}{f:Int->Int}(inj:∀a b,a∈bD n->b∈bD n->f a=f b->a=b){a:Int}(ha:a∈bD n):(bD n).find? (λb=>decide (f b=f a))=some a:=by
 cases e:(bD n).find? (λb=>decide (f b=f a)) with
 |none=>
  have:=List.find?_eq_none.mp e a ha
  simp at this
 |some b=>
  have h1:=List.find?_some e
  have h2:=List.mem_of_find?_eq_some e
  rw[inj b a h2 ha (RZ h1)]
def w9 {n:Nat}{f:Int->Int}{x b:Int}(h:(bD n).find? (λa=>decide (f a=x))=some b):b∈bD n/\f b=x:=⟨List.mem_of_find?_eq_some h,by have:=List.find?_some h;simpa using this⟩
def xW {n:Nat}{f:Int->Int}(inj:∀a b,a∈bD n->b∈bD n->f a=f b->a=b){r:@Db}{a:Int}:a∈pull n f r↔a∈bD n/\f a∈r:=by
 unfold pull
 rw[TU]
 constructor
 ·rintro⟨x,hx,h⟩
  obtain⟨h1,h2⟩:=w9 h
  exact⟨h1,by rw[h2];exact hx⟩
 ·rintro⟨h1,h2⟩
  exact⟨f a,h2,qg inj h1⟩
theorem BM {n:Nat}{f:Int->Int}(inj:∀a b,a∈bD n->b∈bD n->f a=f b->a=b):∀{r:@Db},r.Nodup->(pull n f r).Nodup
 | [],_=>Uv
 |x :: r,h=>by
  have h:=R5.mp h
  have ih:=BM inj h.2
  unfold pull
  rw[SU]
  cases e:(bD n).find? (λa=>decide (f a=x)) with
  |none=>exact ih
  |some b=>
   refine R5.mpr ⟨λhm=>?_,ih⟩
   obtain⟨_,h2⟩:=(xW (r:=r) inj).mp hm
   rw[(w9 e).2] at h2
   exact h.1 h2
theorem se {n:Nat}{f:Int->Int}(inj:∀a b,a∈bD n->b∈bD n->f a=f b->a=b){a b:Int}(ha:a∈bD n)(hb:b∈bD n)(hab:a≠b):∀{r:@Db},f a∈r->f b∈r->((pull n f r).idxOf a < (pull n f r).idxOf b↔r.idxOf (f a) < r.idxOf (f b))
 | [],h,_=>by cases h
 |x :: r,h1,h2=>by
  have hf:f a≠f b:=λe=>hab (inj a b ha hb e)
  by_cases ca:x=f a
  ·subst ca
   have e:pull n f (f a :: r)=a :: pull n f r:=by unfold pull;rw[SU,qg inj ha]
   rw[e,Uc,Uc,qc hab,qc hf]
   exact⟨λ_=>Nat.succ_pos _,λ_=>Nat.succ_pos _⟩
  ·by_cases cb:x=f b
   ·subst cb
    have e:pull n f (f b :: r)=b :: pull n f r:=by unfold pull;rw[SU,qg inj hb]
    rw[e,Uc,Uc]
    exact⟨λz=>absurd z (TX _),λz=>absurd z (TX _)⟩
   ·have h1:f a∈r:=(Rm.mp h1).resolve_left (λe=>ca e.symm)
    have h2:f b∈r:=(Rm.mp h2).resolve_left (λe=>cb e.symm)
    have ih:=se inj ha hb hab h1 h2
    rw[qc ca,qc cb]
    cases e:(bD n).find? (λa=>decide (f a=x)) with
    |none=>
     have e2:pull n f (x :: r)=pull n f r:=by unfold pull;rw[SU,e]
     rw[e2,ih]
     omega
    |some y=>
     have hy:=(w9 e).2
     have e2:pull n f (x :: r)=y :: pull n f r:=by unfold pull;rw[SU,e]
     have ya:y≠a:=λz=>ca (by rw[<-hy,z])
     have yb:y≠b:=λz=>cb (by rw[<-hy,z])
     rw[e2,qc ya,qc yb]
     omega
structure Kj (n:Nat)(l:@A_)(N:Nat)(L:@A_)(f:Int->Int):Prop where
 inj:∀a b,a∈bD n->b∈bD n->f a=f b->a=b
 ran:∀a,a∈bD n->f a∈bD N
 iff:∀a b,a∈bD n->b∈bD n->a≠b->((a,b)∈l↔(f a,f b)∈L)
def Kj.dm {n N:Nat}{l L:@A_}{f:Int->Int}(E:Kj n l N L f)(O:@KK)(O':OM.Ord N L){c:Nat}(h:Dm N L c):Dm n l c:=by
 obtain⟨rs,h1,h2,h3⟩:=h.all O'
 have mem:∀r,r∈rs->∀a,a∈bD n->f a∈r:=λr hr a ha=>(h2 r hr).1.mem_iff.mpr (E.ran a ha)
 refine⟨rs.map (pull n f),by rw[Rb];exact h1,λr' hr'=>?_,λt ht=>?_⟩
 ·obtain⟨r,hr,rfl⟩:=Rz.mp hr'
  refine⟨?_,?_⟩
  ·refine (List.perm_ext_iff_of_nodup (BM E.inj ((h2 r hr).1.nodup_iff.mpr (fR _))) (fR _)).mpr λa=>?_
   rw[xW E.inj]
   exact⟨λh=>h.1,λh=>⟨h,mem r hr a h⟩⟩
  ·unfold uE
   rw[RH]
   intro p hp
   have hw:=O.wn p hp
   have ha:=az.mpr hw.1
   have hb:=az.mpr hw.2
   have hne:p.1≠p.2:=λe=>O.irr p.1 (by have:(p.1,p.2)∈l:=hp;rw[<-e] at this;exact this)
   refine Rk ((se E.inj ha hb hne (mem r hr _ ha) (mem r hr _ hb)).mpr ?_)
   exact sF (p:=(f p.1,f p.2)) (h2 r hr) ((E.iff p.1 p.2 ha hb hne).mp hp)
 ·obtain⟨hw,hap⟩:=cH.mp (Rl.mp ht).1
  obtain⟨n1,n2,n3⟩:=mK.mp hap
  have ha:=az.mpr hw.1
  have hb:=az.mpr hw.2
  obtain⟨r,hr,hT⟩:=h3 (f t.1,f t.2) (cH.mpr ⟨⟨az.mp (E.ran _ ha),az.mp (E.ran _ hb)⟩,mK.mpr ⟨λe=>n1 (E.inj _ _ ha hb e),λh=>n2 ((E.iff _ _ ha hb n1).mpr h),λh=>n3 ((E.iff _ _ hb ha (λe=>n1 e.symm)).mpr h)⟩⟩)
  exact⟨pull n f r,Rz.mpr ⟨r,hr,rfl⟩,(se E.inj hb ha (λe=>n1 e.symm) (mem r hr _ hb) (mem r hr _ ha)).mpr hT⟩
def xT.eq {N:Nat}{L:@A_}{ws:@LE}{c:Nat}(h:xT N L ws)(O:OM.Ord N L)(h1:1<=c)(hD:Dm N L c)(hl:∀c',1<=c'->Dm N L c'->c<=c'):ws.length=c:=by
 have a:=(h.iff O h1).mp hD
 have b:=hl _ h.pos h.dm
 omega
def Jd {N:Nat}{L:@A_}{ws:@LE}(O:OM.Ord N L)(hne:ws≠ [])(hr:∀r,r∈ws->Row N L r)(e:(OM.bw N).filter (wH ws)=L):Dm N L ws.length:=⟨ws,rfl,hr,(yC O hne hr).mp e⟩
def AS (ds:List D)(h:iW ds≠.bad):aS 1 1 (jd jT) ds=iW ds:=by
 unfold iW at h
 split at h
 ·obtain⟨n,l,rfl,O⟩:=yS h
  rw[oW O]
  show fin (jd jT [@C_] 0)=_
  exact dP (Qm (eT (eS (ak (ds:=[ag n l]) rfl (vc O)))) (Bh rfl))
 ·exact absurd rfl h
def xT.dr {n:Nat}{l:@A_}{rs:@LE}(h:xT n l rs)(O:@KK):Dr n l rs:=⟨O,h.ne,by have:=h.le O;have:=O.hi;omega,λr hr=>(h.row r hr).1,by rw[KD h.ne,h.tell O]⟩
def Dr.dm {n:Nat}{l:@A_}{rs:@LE}(d:Dr n l rs):Dm n l rs.length:=Jd d.O d.ne (λr hr=>d.row hr) (by rw[<-B9 d.ne,<-d.eq])
section
variable {n m j:Nat}{l k:@A_}{rs qs:@LE}
noncomputable abbrev Kx (n m:Nat)(l k:@A_):@A_:=OM.jx 8 (OM.Mem (mW n l k ++ xP (n + m) n n))
def Ei (O:@KK)(O':OM.Ord m k)(h8:n + m<=8){a b:Int}:(a,b)∈Kx n m l k↔((a,b)∈l\/(a - n,b - n)∈k)\/((0<=a/\a < n)/\((n:Int)<=b/\b < (n + m:Nat))):=by
 rw[OM.jQ]
 show _/\(a,b)∈mW n l k ++ xP (n + m) n n↔_
 rw[Rw,gX,pO]
 constructor
 ·rintro⟨_,h | ⟨h1,h2,h3⟩⟩
  ·exact .inl h
  ·exact .inr ⟨⟨h1.1.1,h2⟩,h3,h1.2.2⟩
 ·rintro (h | ⟨h1,h2⟩)
  ·refine⟨?_,.inl h⟩
   rcases h with h |h
   ·have:=O.wn _ h
    dsimp only at this ⊢
    omega
   ·have:=O'.wn _ h
    dsimp only at this ⊢
    omega
  ·refine⟨?_,.inr ⟨?_,h1.2,h2.1⟩⟩
   ·dsimp only;omega
   ·dsimp only;omega
def OE (d:Dr n l rs)(d':Dr m k qs)(h8:n + m<=8):Dr (n + m) (Kx n m l k) ((List.range (@Q_)).map λa=>qD n rs qs a):=by
 have e:=HX d d' h8 (Tz _ _) (Nat.le_max_right _ _)
 have hne:((List.range (@Q_)).map λa=>qD n rs qs a)≠ []:=λz=>by
  have h0:=congrArg List.length z
  rw[Rb,R4,List.length_nil] at h0
  have h1:=SJ.mpr d.ne
  have h2:=Tz rs.length qs.length
  omega
 refine⟨?_,hne,by rw[Rb,R4];have:=d.few;have:=d'.few;omega,λr hr=>?_,e.symm⟩
 ·unfold Kx;rw[<-e];exact ot (by have:=d.O.lo;omega) h8 hne
 ·obtain⟨a,_,rfl⟩:=Rz.mp hr
  exact wo (d.pm _ (bI d.ne a)) (d'.pm _ (bI d'.ne a))
def M8 {c:Nat}(d:Dr n l rs)(d':Dr m k qs)(h8:n + m<=8)(hc:c + 1=max 2 (@Q_)):Dr (n + m) (mW n l k) (((List.range c).map λa=>qD n rs qs a) ++ [Cy n rs qs c]):=by
 have h1:=Tz rs.length qs.length
 have h2:=Nat.le_max_right rs.length qs.length
 have e:=Jc d d' h8 (c:=c) (@AT) (@AT) (@AT)
 have hne:(((List.range c).map λa=>qD n rs qs a) ++ [Cy n rs qs c])≠ []:=@KM
 refine⟨?_,hne,by rw[RD,Rb,R4,R1];have:=d.few;have:=d'.few;omega,λr hr=>?_,e.symm⟩
 ·rw[<-e];exact ot (by have:=d.O.lo;omega) h8 hne
 ·rcases Rw.mp hr with hr |hr
  ·obtain⟨a,_,rfl⟩:=Rz.mp hr
   exact wo (d.pm _ (bI d.ne a)) (d'.pm _ (bI d'.ne a))
  ·rw[RE] at hr
   subst hr
   exact List.perm_append_comm.trans (wo (d.pm _ (bI d.ne c)) (d'.pm _ (bI d'.ne c)))
def OH (d:Dr n l rs)(d':Dr m k qs)(hj:j < n)(h8:n + m<=9):Dr (n + m - 1) ((OM.bw (n + m - 1)).filter (A8 l k j m)) ((List.range (@Q_)).map λa=>vg j (gu rs a) (gu qs a)):=by
 have e:=JA d d' hj h8 (Tz _ _) (Nat.le_max_right _ _)
 have hm:=d'.O.lo
 have hne:((List.range (@Q_)).map λa=>vg j (gu rs a) (gu qs a))≠ []:=λz=>by
  have h0:=congrArg List.length z
  rw[Rb,R4,List.length_nil] at h0
  have h1:=SJ.mpr d.ne
  have h2:=Tz rs.length qs.length
  omega
 refine⟨?_,hne,by rw[Rb,R4];have:=d.few;have:=d'.few;omega,λr hr=>?_,e.symm⟩
 ·rw[<-e];exact ot (by have:=d.O.lo;omega) (@AT) hne
 ·obtain⟨a,_,rfl⟩:=Rz.mp hr
  exact Hi (d.pm _ (bI d.ne a)) (d'.pm _ (bI d'.ne a)) hj hm
def Ju (O:@KK)(O':OM.Ord m k)(h8:n + m<=8):Kj n l (n + m) (Kx n m l k) λa=>a:=by
 refine⟨λa b _ _ e=>e,λa h=>?_,λa b ha hb _=>?_⟩
 ·have:=az.mp h;exact az.mpr (@AT)
 ·have ha:=az.mp ha
  have hb:=az.mp hb
  rw[Ei O O' h8]
  constructor
  ·exact λh=>.inl (.inl h)
  ·rintro ((h |h) |h)
   ·exact h
   ·have:=(O'.wn _ h).1;dsimp only at this;omega
   ·omega
def Iu (O:@KK)(O':OM.Ord m k)(h8:n + m<=8):Kj m k (n + m) (Kx n m l k) λa=>a + n:=by
 refine⟨λa b _ _ e=>@AT,λa h=>?_,λa b ha hb _=>?_⟩
 ·have:=az.mp h;exact az.mpr (@AT)
 ·have ha:=az.mp ha
  have hb:=az.mp hb
  rw[Ei O O' h8,show a + (n:Int) - n=a by omega,show b + (n:Int) - n=b by omega]
  constructor
  ·exact λh=>.inl (.inr h)
  ·rintro ((h |h) |h)
   ·have:=(O.wn _ h).1;dsimp only at this;omega
   ·exact h
   ·omega
def GV (O:@KK)(O':OM.Ord m k):Kj n l (n + m) (mW n l k) λa=>a:=by
 refine⟨λa b _ _ e=>e,λa h=>?_,λa b ha hb _=>?_⟩
 ·have:=az.mp h;exact az.mpr (@AT)
 ·have ha:=az.mp ha
  rw[gX]
  constructor
  ·exact λh=>.inl h
  ·rintro (h |h)
   ·exact h
   ·have:=(O'.wn _ h).1;dsimp only at this;omega
def JH (O:@KK)(O':OM.Ord m k):Kj m k (n + m) (mW n l k) λa=>a + n:=by
 refine⟨λa b _ _ e=>@AT,λa h=>?_,λa b ha hb _=>?_⟩
 ·have:=az.mp h;exact az.mpr (@AT)
 ·have ha:=az.mp ha
  rw[gX]
  dsimp only
  rw[show a + (n:Int) - n=a by omega,show b + (n:Int) - n=b by omega]
  constructor
  ·exact λh=>.inr h
  ·rintro (h |h)
   ·have:=(O.wn _ h).1;dsimp only at this;omega
   ·exact h
def IA (O:@KK)(O':OM.Ord m k)(hj:j < n):Kj n l (n + m - 1) ((OM.bw (n + m - 1)).filter (A8 l k j m)) (mG j ((m:Int) - 1)):=by
 have hm:=O'.lo
 have hst:∀a:Int,0<=a->st j m (mG j ((m:Int) - 1) a)=a:=λa ha=>by
  unfold st mG
  split <;> split <;> try split
  all_goals omega
 have ran:∀a:Int,0<=a/\a < (n:Int)->0<=mG j ((m:Int) - 1) a/\mG j ((m:Int) - 1) a < ((n + m - 1:Nat):Int):=λa ha=>by
  unfold mG
  split <;> omega
 refine⟨λa b ha hb e=>?_,λa h=>az.mpr (ran a (az.mp h)),λa b ha hb hab=>?_⟩
 ·rw[<-hst a (az.mp ha).1,<-hst b (az.mp hb).1,e]
 ·have ha:=az.mp ha
  have hb:=az.mp hb
  rw[Rl,OM.aY]
  unfold A8
  dsimp only
  rw[hst a ha.1,hst b hb.1,Rj hab,Rq]
  exact⟨λh=>⟨⟨ran a ha,ran b hb⟩,h⟩,λh=>h.2⟩
def Im (O:@KK)(O':OM.Ord m k)(hj:j < n):Kj m k (n + m - 1) ((OM.bw (n + m - 1)).filter (A8 l k j m)) λa=>a + j:=by
 refine⟨λa b _ _ e=>@AT,λa h=>?_,λa b ha hb hab=>?_⟩
 ·have:=az.mp h;exact az.mpr (@AT)
 ·have ha:=az.mp ha
  have hb:=az.mp hb
  rw[Rl,OM.aY]
  unfold A8
  dsimp only
  obtain⟨e1,e2⟩:=oE (j:=j) (m:=m) (a:=a + j) (@AT) (@AT)
  obtain⟨e3,e4⟩:=oE (j:=j) (m:=m) (a:=b + j) (@AT) (@AT)
  rw[e1,e2,e3,e4,Rg rfl,show a + (j:Int) - j=a by omega,show b + (j:Int) - j=b by omega]
  simp only[decide_true,Bool.true_and,Rq]
  exact⟨λh=>⟨@AT,h⟩,λh=>h.2⟩
theorem K8 (O:@KK)(O':OM.Ord m k)(OB:OM.Ord (n + m) (mW n l k)){c:Nat}(h1:1<=c)(h:Dm (n + m) (mW n l k) c):2<=c:=by
 refine Nat.le_of_not_lt λhc=>?_
 have hc:c=1:=@AT
 subst hc
 obtain⟨rs,e,_,hT⟩:=h.all OB
 match rs,e with
 | [r],_=>
  have hn:=O.lo
  have hm:=O'.lo
  have tr:∀a b:Int,((a=0/\b=n)\/(a=n/\b=0))->(a,b)∈oB (n + m) (mW n l k):=λa b hab=>by
   refine cH.mpr ⟨?_,mK.mpr ⟨?_,?_,?_⟩⟩
   ·dsimp only;omega
   ·dsimp only;omega
   ·rw[gX]
    rintro (h |h)
    ·have:=O.wn _ h;dsimp only at this;omega
    ·have:=O'.wn _ h;dsimp only at this;omega
   ·rw[gX]
    rintro (h |h)
    ·have:=O.wn _ h;dsimp only at this;omega
    ·have:=O'.wn _ h;dsimp only at this;omega
  obtain⟨r1,h1,t1⟩:=hT _ (tr 0 n (.inl ⟨rfl,rfl⟩))
  obtain⟨r2,h2,t2⟩:=hT _ (tr n 0 (.inr ⟨rfl,rfl⟩))
  rw[RE] at h1 h2
  subst h1
  subst h2
  unfold Tn at t1 t2
  dsimp only at t1 t2
  omega
end
noncomputable def LV:@Cl:=aS 8 1 (Bm DY KU QG OS IF O0 vR Ma K5 LQ Az gN)
def Oj (ns:@Db):LV [eh ns]=.ok (.bool true) false:=by
 show fin (Bm DY KU QG OS IF O0 vR Ma K5 LQ Az gN [.fz (eh ns),.no,.no,.no,.no,.no,.no,.no] 0)=_
 refine dP ?_
 unfold Bm
 obtain⟨z,ez⟩:=L8 ns 0
 refine G8 (EJ (ds:=[eh ns,.int ((0:Nat):Int)]) rfl ez) (wp_at [.fz (eh ns),.bx,.no,.no,.no,.no,.no,.no] rfl ?_)
 obtain⟨n,l,β1,e1,O,hn⟩:=BF (most:=3) (@AT) (@AT) z
 obtain⟨m,k,β2,e2,O',hm⟩:=BF (most:=3) (@AT) (@AT) β1
 have n1:=O.lo
 have m1:=O'.lo
 refine Et (d:=ag n l) (e:=ag m k) (oM (ds:=[.int ((3:Nat):Int)]) rfl rfl e1) (oM (ds:=[.int ((3:Nat):Int)]) rfl rfl e2) (wp_at [.fz (eh ns),.bx,@C_,@Rs,.no,.no,.no,.no] rfl ?_)
 obtain⟨j,hj,ej⟩:=sO (m:=n) n1 (@AT) β2
 generalize β2 / ((n:Nat):Int)=β3 at ej
 refine dq (d:=.int j) (β1:=β3) (oM (ds:=[.int (n:Nat)]) rfl (ac (MQ (n:=n) (l:=l) rfl) an) ej) (wp_at [.fz (eh ns),.bx,@C_,@Rs,.fz (.int j),.no,.no,.no] rfl ?_)
 have sh:∀{N:Nat} {L:@A_},N<=6->(BH N L).length<=39:=λ{N L} h=>by have:=KA (l:=L) h;omega
 obtain⟨rs,er,hF⟩:=Ld O (sh (@AT))
 obtain⟨qs,eq,hG⟩:=Ld O' (sh (@AT))
 refine Et (d:=@D_) (e:=@KT) (ak (ds:=[ag n l]) rfl er) (ak (ds:=[ag m k]) rfl eq) (wp_at [.fz (eh ns),.bx,@C_,@Rs,.fz (.int j),.fz (@D_),.fz (@KT),.no] rfl ?_)
 obtain⟨c,hc⟩:∃c,c=@Q_:=⟨_,rfl⟩
 refine dq (d:=.int (c:Int)) (β1:=β3) (by rw[hc];exact AO rfl rfl) (wp_at [.fz (eh ns),.bx,@C_,@Rs,.fz (.int j),.fz (@D_),.fz (@KT),.fz (.int (c:Int))] rfl ?_)
 generalize hE:([.fz (eh ns),.bx,@C_,@Rs,.fz (.int j),.fz (@D_),.fz (@KT),.fz (.int (c:Int))]:En)=E
 have d:=hF.dr O
 have d':=hG.dr O'
 have hrp:=hF.pos
 have hqp:=hG.pos
 have hrc:rs.length<=c:=by rw[hc];exact Tz _ _
 have hqc:qs.length<=c:=by rw[hc];exact Nat.le_max_right _ _
 have hcm:∀x,rs.length<=x->qs.length<=x->c<=x:=λx h1 h2=>by rw[hc];exact Nat.max_le.mpr ⟨h1,h2⟩
 have D1:=OE d d' (@AT)
 have D2:=OH d d' hj (@AT)
 obtain⟨c2,hc2⟩:∃c2,c2 + 1=max 2 (@Q_):=⟨max 2 (@Q_) - 1,by have:=Tz 2 (@Q_);omega⟩
 have D3:=M8 d d' (@AT) hc2
 obtain⟨_,_,w1,F1⟩:=LU D1.O (sh (@AT))
 obtain⟨_,_,w2,F2⟩:=LU D2.O (sh (@AT))
 obtain⟨_,_,w3,F3⟩:=LU D3.O (sh (@AT))
 have q1:=F1.eq D1.O (c:=c) (@AT) (by have:=D1.dm;rw[Rb,R4,<-hc] at this;exact this) λx hx hD=>hcm x ((hF.iff O hx).mp ((Ju O O' (@AT)).dm O D1.O hD)) ((hG.iff O' hx).mp ((Iu O O' (@AT)).dm O' D1.O hD))
 have q2:=F2.eq D2.O (c:=c) (@AT) (by have:=D2.dm;rw[Rb,R4,<-hc] at this;exact this) λx hx hD=>hcm x ((hF.iff O hx).mp ((IA O O' hj).dm O D2.O hD)) ((hG.iff O' hx).mp ((Im O O' hj).dm O' D2.O hD))
 have q3:=F3.eq D3.O (c:=c2 + 1) (@AT) (by have:=D3.dm;rw[RD,Rb,R4,R1] at this;exact this) λx hx hD=>by
  rw[hc2,<-hc]
  exact Nat.max_le.mpr ⟨K8 O O' D3.O hx hD,hcm x ((hF.iff O hx).mp ((GV O O').dm O D3.O hD)) ((hG.iff O' hx).mp ((JH O O').dm O' D3.O hD))⟩
 rw[q1] at w1
 rw[q2] at w2
 rw[q3] at w3
 have v2:gv 2 (vl E) β3=.ok (ag n l) β3:=by rw[<-hE];rfl
 have v3:gv 3 (vl E) β3=.ok (ag m k) β3:=by rw[<-hE];rfl
 have v4:gv 4 (vl E) β3=.ok (.int j) β3:=by rw[<-hE];rfl
 have v5:gv 5 (vl E) β3=.ok (@D_) β3:=by rw[<-hE];rfl
 have v6:gv 6 (vl E) β3=.ok (@KT) β3:=by rw[<-hE];rfl
 have v7:gv 7 (vl E) β3=.ok (.int (c:Int)) β3:=by rw[<-hE];rfl
 have g1:aq OS (aa (gv 2) (aa (gv 3) ao)) (vl E) β3=.ok (ag (n + m) (Kx n m l k)) β3:=ak (ds:=[ag n l,ag m k]) (ac v2 (ac v3 an)) (PZ O O' (@AT))
 have g2:aq IF (aa (gv 2) (aa (gv 4) (aa (gv 3) ao))) (vl E) β3=.ok (ag (n + m - 1) ((OM.bw (n + m - 1)).filter (A8 l k j m))) β3:=ak (ds:=[ag n l,.int j,ag m k]) (ac v2 (ac v4 (ac v3 an))) (Nx O O' hj (@AT))
 have g3:aq O0 (aa (gv 2) (aa (gv 3) ao)) (vl E) β3=.ok (ag (n + m) (mW n l k)) β3:=ak (ds:=[ag n l,ag m k]) (ac v2 (ac v3 an)) (Qr O O' (@AT))
 have fz:∀L:@Ix,a8 L E=E:=λL=>by
  have key:∀i,ig E i=E:=λi=>by
   rw[<-hE]
   match i with
   | 0=>rfl
   | 1=>rfl
   | 2=>rfl
   | 3=>rfl
   | 4=>rfl
   | 5=>rfl
   | 6=>rfl
   | 7=>rfl
   |i + 8=>rfl
  unfold a8
  induction L with
  |nil=>rfl
  |cons i L ih=>rw[Ug,key];exact ih
 have eqI:∀{fa fb:VF D} {x y:Nat},fa (vl E) β3=.ok (.int (x:Int)) β3->fb (vl E) β3=.ok (.int (y:Int)) β3->x=y->eO (f2 fa fb (gq true)) (vl E) β3=.ok false β3:=λ{fa fb x y} h1 h2 e=>by
  have:=ju (neg:=true) h1 h2
  rw[Rg rfl,Rk (@AT)] at this
  exact this
 refine jo (yG (eqI (ak (ds:=[ag (n + m) (Kx n m l k)]) (ac g1 an) w1) v7 rfl) (eqI (ak (ds:=[ag (n + m - 1) ((OM.bw (n + m - 1)).filter (A8 l k j m))]) (ac g2 an) w2) v7 rfl)) (wp_at E (fz _) ?_)
 have m2:f2 (cst (.int 2)) (gv 7) (xw λi j=>.int (if j > i then j else i)) (vl E) β3=.ok (.int ((c2 + 1:Nat):Int)) β3:=by
  refine aG (x:=.int 2) (y:=.int (c:Int)) rfl v7 ?_
  show some (int (if (c:Int) > 2 then (c:Int) else 2))=_
  congr 2
  rw[hc2,<-hc]
  split <;> omega
 refine jo (eqI (ak (ds:=[ag (n + m) (mW n l k)]) (ac g3 an) w3) m2 rfl) (wp_at E (fz _) ?_)
 have r1:=N9 d d' (@AT)
 have r2:=Nh d d' (@AT) hc2
 have r3:=NA d d' hj (@AT)
 have x1:(List.range (@Q_)).map (λa=>tupI (qD n rs qs a))=((List.range (@Q_)).map λa=>qD n rs qs a).map tupI:=by rw[Sz];rfl
 have x2:((List.range c2).map λa=>tupI (qD n rs qs a)) ++ [tupI (Cy n rs qs c2)]=(((List.range c2).map λa=>qD n rs qs a) ++ [Cy n rs qs c2]).map tupI:=by rw[RS,Sz];rfl
 have x3:(List.range (@Q_)).map (λa=>tupI (vg j (gu rs a) (gu qs a)))=((List.range (@Q_)).map λa=>vg j (gu rs a) (gu qs a)).map tupI:=by rw[Sz];rfl
 rw[x1] at r1
 rw[x2] at r2
 rw[x3] at r3
 refine jo (eT (eS (ak (ac (ak (ds:=[ag n l,ag m k,@D_,@KT]) (ac v2 (ac v3 (ac v5 (ac v6 an)))) r1) (ac g1 an)) D1.tells))) (wp_at E (fz _) ?_)
 refine jo (eT (eS (ak (ac (ak (ds:=[ag n l,ag m k,@D_,@KT]) (ac v2 (ac v3 (ac v5 (ac v6 an)))) r2) (ac g3 an)) D3.tells))) (wp_at E (fz _) ?_)
 exact gM (ak (ac (ak (ds:=[ag n l,.int j,ag m k,@D_,@KT]) (ac v2 (ac v4 (ac v3 (ac v5 (ac v6 an))))) r3) (ac g2 an)) D2.tells) rfl
end RM
namespace RO
open PySem L2
abbrev mO:Stmt:=RQ.gP
abbrev pS:Stmt:=RQ.top 16
abbrev Fn (K:Frag)(mg:@Fr)(x:Str)(st:Stmt)(ps:@Id)(f:Addr)(fd:FuncData):Prop:=fq K mg x st ps f fd
abbrev Bt (mg:@Fr):Prop:=fP mg
end RO
section
namespace L2
open PySem PySem.Spec PyProof.Rows
section
variable {K:Frag}{H H':Hp}{a:Addr}
theorem bF.snoc {x y:Int}(q:gr K H a [.int x,.int y]):∀{vs:List V} {ps:List (Int×Int)},bF K H vs ps->bF K H (vs ++ [.ref a]) (ps ++ [(x,y)])
 |_,_,.nil=>.cons ⟨a,rfl,q⟩ .nil
 |_,_,.cons r t=>.cons r (bF.snoc q t)
def bF.len {vs:List V}{ps:List (Int×Int)}(h:bF K H vs ps):vs.length=ps.length:=Paired.length h
def bF.same {vs:List V}{ps:List (Int×Int)}(h:bF K H vs ps)(s:aw H H'):bF K H' vs ps:=h.grow s.grow
def bF.at {vs:List V}{ps:List (Int×Int)}{i:Nat}{v:V}(h:bF K H vs ps)(e:vs[i]? =some v):∃p:Int×Int,ps[i]? =some p/\∃b,v=.ref b/\gr K H b [.int p.1,.int p.2]:=Paired.getP h e
def aw.put {o:HO}(s:aw H H')(h:H a=none)(hf:∀x y,H' a≠some (.a8 x y)):aw H (L2.upd H' a o):=λb u e=>nJ (s b u e) (aR e h) hf
def JT (h:H a=none):∀x y,H a≠some (.a8 x y):=λx y z=>by rw[h] at z;cases z
def Nf {xs:List V}(h:H a=some (.lst xs)):∀x y,H a≠some (.a8 x y):=λx y z=>by rw[h] at z;cases z
end
end L2
namespace RO
open PySem L2
def GG (N:@Id)(sc:Scope)(NB:@Id)(own:Nat)(ixs:@Ix)(scope:Scope):Bool:=
 decide (scope.kind=.function) && (scope.names.all λy=>decide (scope.names.lookup y.1=some y.2)) &&
 (scope.names.all λy=>decide (y.2=.free->(sc.names.lookup y.1=some .cell\/sc.names.lookup y.1=some .free))) && decide NB.Nodup && decide (NB.length=own + ixs.length) &&
 ((List.range ixs.length).all λk=>decide (NB[own + k]? =N[ixs.getD k 0]?) && (match NB[own + k]? with |some x=>decide ((x,NameKind.free)∈scope.names) |none=>true))
def qt {X:Cx}{NB:@Id}{own:Nat}{ixs:@Ix}{scope:Scope}(h:GG X.N X.env.scope NB own ixs scope=true):cz X NB own ixs scope:=by
 unfold GG at h
 simp only[RC,RH,Rq,RW] at h
 obtain⟨⟨⟨⟨⟨h1,h3⟩,h4⟩,h5⟩,h6⟩,h7⟩:=h
 refine⟨h1,h3,h4,h5,h6,λk hk=>⟨(h7 k hk).1,λx hx=>?_⟩⟩
 have:=(h7 k hk).2
 rw[hx] at this
 simpa using this
section
variable {X:Cx}{tg l:Expr}{tl:TE}{K:Frag}{H H1:Hp}{a:Addr}{xs:List V}{σ:St}
def P6 (K:Frag)(tl:TE):TI:=λσ H R=>tl σ H λx H1=>∃a xs,x=.ref a/\((ji K H1 a xs/\R (DA K a) H1)\/(gr K H1 a xs/\R (JX K a) H1))
end
def QI (K:Frag){X:Cx}(h:X.K=K:=by rfl):E2 X (Mi K):=by subst h;exact jy
def LG (K:Frag)(i j:Nat){X:Cx}{x y:Str}{px py pos:Pos}{k:Nat}(hN:X.N.Nodup)(hi:X.N[i]? =some x)(hj:X.N[j]? =some y)(hx:@On)(hy:X.env.scope.names.lookup y=some .local)(hc:X.calm=true)(hK:X.K=K) :
  PG X (.Tuple [.Name x px,.Name y py] k pos) (IW K 2 (sf (oz i) (sf (oz j) Hq))):=by
 subst hK
 exact sV hc (fB (dX hN hi (Or.inl hx) (Or.inr hx)) (fB (dX hN hj (Or.inl hy) (Or.inr hy)) pG))
section
open PySem.Spec PyProof.Rows
variable {X:Cx}{tg l:Expr}{tl:TE}
def L4 (hl:PE X l tl):PI X tg l (P6 X.K tl):=by
 intro pins s σ H R I h
 refine cZ (hl pins s σ H _ I h) λv s1 ⟨x,H1,I1,r1,q1⟩=>?_
 obtain⟨a,xs,e,q⟩:=q1
 subst e
 cases r1
 rcases q with⟨hq,q⟩ | ⟨hq,q⟩
 ·obtain⟨its,rv,p,hz⟩:=I1.list hq
  refine TF p.isList ?_
  refine⟨s1.heap.objs.size,[s1.heap.objs.size],_,_,H1,rfl,I1.kept (t':=s1.toks) λb o e=>Ri _ e,p9 a _,⟨_,RB _ rfl,rfl,rfl⟩,λb hb=>?_,q⟩
  have e:b=s1.heap.objs.size:=by simpa using hb
  subst e
  exact I1.fpOk (Rh _) (I1.hok.fresh (Rh _))
 ·obtain⟨its,rv,p,hz⟩:=I1.tuple hq
  refine TV (show s1.heap.IsTuple a its.toArray from p) ?_
  refine⟨s1.heap.objs.size,[s1.heap.objs.size],_,_,H1,rfl,I1.kept (t':=s1.toks) λb o e=>Ri _ e,tK a _,⟨_,RB _ rfl,rfl,rfl⟩,λb hb=>?_,q⟩
  have e:b=s1.heap.objs.size:=by simpa using hb
  subst e
  exact I1.fpOk (Rh _) (I1.hok.fresh (Rh _))
end
section
variable {K:Frag}{H H1 H':Hp}{a:Addr}{xs:List V}{σ:St}
abbrev MZ (J:It)(g:TG)(tb:TS)(D:Ends)(σ:St)(H:Hp):Prop:=∃W:Nat->Nat->St->@P3,(∃m,W 0 m σ H)/\∀i m σ H,W i m σ H->
   (J.stop i H/\D.nx σ H)\/(J.go i H/\∃N:St->@P3,(∀σ' H',N σ' H'->∃m',m' < m/\W (i + 1) m' σ' H')/\∀x H',J.yld i H x H'->g x σ H' λσ2 H2=>tb {D with nx:=N,ct:=N,bk:=D.nx} σ2 H2)
def Hk (s:aw H1 H')(hq:ji K H1 a xs\/gr K H1 a xs):ji K H' a xs\/gr K H' a xs:=hq.elim (λq=>.inl (s.seq q)) λq=>.inr (q.grow s.grow)
def HF {g:TG}{tb:TS}{D:Ends}(hq:ji K H1 a xs\/gr K H1 a xs)(Pv:Nat->St->@P3)(h0:Pv 0 σ H)(hl:∀i σ H',Pv i σ H'->aw H1 H')
  (hs:∀i x σ H,xs[i]? =some x->Pv i σ H->g x σ H λσ2 H2=>tb {D with nx:=Pv (i + 1),ct:=Pv (i + 1),bk:=D.nx} σ2 H2) (hd:∀σ H,Pv xs.length σ H->D.nx σ H) :
  (ji K H a xs/\MZ (DA K a) g tb D σ H)\/(gr K H a xs/\MZ (JX K a) g tb D σ H):=
 hq.elim (λq=>.inl ⟨(hl _ _ _ h0).seq q,zw Pv h0 (λi σ H' _ p=>(hl i σ H' p).seq q) hs hd⟩) λq=>.inr ⟨q.grow (hl _ _ _ h0).grow,Jo Pv h0 (λi σ H' _ p=>q.grow (hl i σ H' p).grow) hs hd⟩
def Bc (J:It)(own:Nat)(ixs:@Ix)(g:TG)(tt:TT)(te:TE)(Q:VK)(D:Addr)(σ:St)(H:Hp):Prop:=∃W:Nat->Nat->St->@P3,(∃m,W 0 m (eY own ixs σ) (upd H D (.lst [])))/\∀i m σ' H',W i m σ' H'->
   (J.stop i H'/\(∃acc,H' D=some (.lst acc))/\Q (.ref D) H')\/
   (J.go i H'/\∃N:St->@P3,(∀σ2 H2,N σ2 H2->∃m',m' < m/\W (i + 1) m' σ2 H2)/\∀x H2,J.yld i H' x H2->gH g tt te D x σ' H2 N)
structure zo (own:Nat)(ixs:@Ix)(wi:TI)(g:TG)(tt:TT)(te:TE)(σ:St)(H:Hp)(Q:VK):Prop where
 out:wi σ H λJ H1=>∀D,H1 D=none->Bc J own ixs g tt te Q D σ H1
def zV {own:Nat}{ixs:@Ix}{wi:TI}{g:TG}{tt:TT}{te:TE}{Q:VK}(h:wi σ H λJ H1=>∀D,H1 D=none->Bc J own ixs g tt te Q D σ H1):zo own ixs wi g tt te σ H Q:=⟨h⟩
def wF {X:Cx}{NB:@Id}{own:Nat}{ixs:@Ix}{scope:Scope}{tg iter elt:Expr}{ifs:List Expr}{wi:TI}{g:TG}{tt:TT}{te:TE}{pos:Pos}(hc:X.calm=true)(S:cz X NB own ixs scope)(hi:PI X tg iter wi)
  (hg:∀C ex s3 H3 pn,PG @KB tg g) (ht:∀C ex s3 H3 pn,E6 @KB ifs tt) (he:∀C ex s3 H3 pn,PE @KB elt te)
  (hs:∀x,foldedSetIterable iter X.env x=pure x:=by intro _;rfl):PE X @Os (zo own ixs wi g tt te):=
 λpins s σ H Q I h=>zC hc S hi hg ht he hs pins s σ H Q I h.out
section
variable {own:Nat}{ixs:@Ix}{g:TG}{tt:TT}{te:TE}{Q:VK}{D:Addr}
def Jz (Pv:Nat->St->@P3)(h0:Pv 0 (eY own ixs σ) (upd H D (.lst [])))(hl:∀i σ H,i<=xs.length->Pv i σ H->ji K H a xs)
  (hs:∀i x σ H,xs[i]? =some x->Pv i σ H->gH g tt te D x σ H (Pv (i + 1))) (hd:∀σ H,Pv xs.length σ H->(∃acc,H D=some (.lst acc))/\Q (.ref D) H):Bc (DA K a) own ixs g tt te Q D σ H:=Dt Pv h0 hl hs hd
def x8 {lo:Int}{n:Nat}(Pv:Nat->St->@P3)(h0:Pv 0 (eY own ixs σ) (upd H D (.lst [])))
  (hs:∀i σ H,i < n->Pv i σ H->gH g tt te D (.int (lo + i)) σ H (Pv (i + 1))) (hd:∀σ H,Pv n σ H->(∃acc,H D=some (.lst acc))/\Q (.ref D) H):Bc (El lo n) own ixs g tt te Q D σ H:=AB Pv h0 hs hd
end
def yr {i:Nat}{te:TE}{D:Addr}{x:V}{N:St->@P3}(h:te (σ.set i (some x)) H λv H5=>∃acc,H5 D=some (.lst acc)/\acc.length < sizeLine/\N (σ.set i (some x)) (upd H5 D (.lst (acc ++ [v])))):gH (oz i) L3 te D x σ H N:=by
 unfold gH oz L3
 exact ue h
def ER {i j:Nat}{x y:V}{Q:St->@P3}(h:gr K H a [x,y])(q:Q ((σ.set i (some x)).set j (some y)) H):IW K 2 (sf (oz i) (sf (oz j) Hq)) (.ref a) σ H Q:=⟨a,_,rfl,h,rfl,x,_,rfl,y,_,rfl,rfl,q⟩
def Qp {c A B:Prop}[Decidable c](h:c)(a:A):if c then A else B:=by rw[Rg h];exact a
def Qw {c A B:Prop}[Decidable c](h:¬c)(b:B):if c then A else B:=by rw[Rj h];exact b
def take_snoc {α:Type}{l:List α}{i:Nat}{x:α}(h:l[i]? =some x):l.take (i + 1)=l.take i ++ [x]:=by
 rw[List.take_add_one,h];rfl
def take_all {α:Type}(l:List α):l.take l.length=l:=Tp (Rh _)
end
def dC (n:Nat):(OM.bw n).length=n * n:=by unfold OM.bw;simp
def HS {n i:Nat}(h:i < n * n):(OM.bw n)[i]? =some (((i / n:Nat):Int),((i % n:Nat):Int)):=by
 unfold OM.bw
 rw[RA,S6 h];rfl
def QP {n:Nat}(h:n<=8):n * n<=64:=Ss h h
section
variable {P:Program}{w:World}{K:Frag}{mg:@Fr}{base:Heap}
def Bu (K:Frag):Sp:=λvs H Q _=>∃n:Nat,vs= [.int n]/\1<=n/\n<=8/\∀H' l ws,aw H H'->H l=none->H' l=some (.lst ws)->bF K H' ws (OM.bw n)->Q (.ref l) H'
def GZ:aB ["many"] ["many"] (ar mO):=@AC
def NL:(["number","many"]:@Id).Nodup:=@FS
def EW {f:Addr}{fd:FuncData}(F:Fn K mg "every_pair" mO ["many"] f fd)(B:Bt mg):gp P w K mg base K4 1 f fd ["many"] (Bu K):=by
 refine F.F.ok GZ (λvs H Q E h=>?_) (λcdv A outer s H vs Q E hr h=>?_)
 ·obtain⟨n,rfl,_⟩:=h;rfl
 ·obtain⟨n,rfl,h1,h8,k⟩:=h
  refine⟨_,ko (qb (wF (NB:=["number","many"]) (own:=1) (ixs:=[0]) rfl (qt (by kernel_rfl)) (nN rfl B.range (ba (vp nI (pv 0) (pv 0)) cf))
   (λC ex s3 H3 pn=>dX (i:=0) NL rfl (Or.inl rfl) (hf:=Or.inr rfl)) (λC ex s3 H3 pn=>wG)
   (λC ex s3 H3 pn=>Ac (ba (vp wR (pv 0) (pv 1)) (ba (vp o9 (pv 0) (pv 1)) cf))))),?_⟩
  have hn:=QP h8
  have e0:((n:Int) * (n:Int))=((n * n:Nat):Int):=by rw[Int.natCast_mul]
  refine zV ⟨_,rfl,_,rfl,_,_,rfl,rfl,.inl ⟨@AT,@AT ⟩,_,rfl,by rw[e0];omega,by rw[e0];omega,λD hD=>?_⟩
  rw[e0,RT]
  refine x8 (λi σ' H'=>(∃v,σ'= [v,some @Re])/\aw H H'/\∃vs,H' D=some (.lst vs)/\bF K H' vs ((OM.bw n).take i)) ⟨⟨none,rfl⟩,(aw.refl H).put hD (JT hD),[],aE,.nil⟩ ?_ ?_
  ·rintro i σ' H' hi ⟨⟨v,rfl⟩,s1,vs,hv,hp⟩
   have hn0:(0:Int) < (n:Int):=@AT
   refine yr ⟨_,rfl,_,rfl,_,_,rfl,rfl,⟨hn0,@AT ⟩,_,rfl,_,rfl,_,_,rfl,rfl,hn0,by show 2<=sizeLine;rw[R7];omega,λp hp0=>?_⟩
   have hpD:D≠p:=aR hv hp0
   have hl:=hp.len
   refine⟨vs,by rw[aC hpD];exact hv,?_,⟨_,rfl⟩,?_,vs ++ [.ref p],aE,?_⟩
   ·rw[hl,R9,R7];rw[dC];omega
   ·exact (s1.put (s1.free hp0) (JT hp0)).put hD (Nf (xs:=vs) (by rw[aC hpD];exact hv))
   ·rw[take_snoc (HS hi)]
    have g1:jO H' (upd H' p (.tup [.int ((0 + (i:Int)) / n),.int ((0 + (i:Int)) % n)])):=jO.new hp0
    have g2:∀o,jO (upd H' p (.tup [.int ((0 + (i:Int)) / n),.int ((0 + (i:Int)) % n)])) (upd (upd H' p (.tup [.int ((0 + (i:Int)) / n),.int ((0 + (i:Int)) % n)])) D o):=λo=>jO.list (by rw[aC hpD];exact hv)
    refine bF.snoc ?_ (hp.grow (g1.trans (g2 _)))
    refine (gr.grow ?_ (g2 _))
    refine .inl (.inl ?_)
    rw[aE,Tv];rfl
  ·rintro σ' H' ⟨_,s1,vs,hv,hp⟩
   refine⟨⟨_,hv⟩,k H' D vs s1 hD hv ?_⟩
   rw[<-dC n,take_all] at hp
   exact hp
end
end RO
end
namespace RO
open PySem L2
structure TabAt (n:Nat)(M:OM.Tb)(L:Addr)(r:Nat->Addr)(H:Hp):Prop where
 top:H L=some (.lst ((List.range n).map λi=>V.ref (r i)))
 row:∀i,i < n->H (r i)=some (.lst ((List.range n).map λj=>V.bl (M i j)))
 inj:∀i j,i < n->j < n->r i=r j->i=j
 ne:∀i,i < n->r i≠L
def Ca {n x:Nat}(h:x < n):xR n (x:Int)=some x:=by
 unfold xR;rw[Rg (@AT),Rg (@AT)];simp
def Fe {α:Type}{xs:List α}{x:Nat}(h:x < xs.length):m9 xs (x:Int)=xs[x]?:=by
 unfold m9;rw[Ca h];rfl
def iX {f:Nat->V}{n x:Nat}(h:x < n):m9 ((List.range n).map f) (x:Int)=some (f x):=by
 rw[Fe (by simpa using h),RA,S6 h];rfl
def vX {f:Nat->V}{n x:Nat}(h:x < n):xR ((List.range n).map f).length (x:Int)=some x:=by
 rw[Rb,R4];exact Ca h
def CB {f:Nat->V}{n y:Nat}{v:V}:((List.range n).map f).set y v=(List.range n).map λj=>if j=y then v else f j:=by
 apply List.ext_getElem?
 intro i
 by_cases hi:i < n
 ·by_cases e:y=i
  ·subst e;simp[List.getElem?_set,hi]
  ·have e':¬i=y:=λz=>e z.symm
   simp[List.getElem?_set,hi,e,e']
 ·rw[SW (by simp;omega),SW (by simp;omega)]
section
variable {n:Nat}{M:OM.Tb}{L:Addr}{r:Nat->Addr}{H H':Hp}
def TabAt.set (T:TabAt n M L r H){x y:Nat}(hx:x < n):TabAt n (M.set x y) L r (upd H (r x) (.lst (((List.range n).map λj=>V.bl (M x j)).set y (.bl true)))):=by
 refine⟨by rw[aC (T.ne x hx).symm];exact T.top,λi hi=>?_,T.inj,T.ne⟩
 by_cases e:i=x
 ·subst e
  rw[aE,CB]
  refine congrArg _ (congrArg _ (SH λj _=>?_))
  unfold OM.Tb.set
  by_cases c:j=y
  ·simp[c]
  ·simp[c]
 ·rw[aC (λz=>e (T.inj i x hi hx z)),T.row i hi]
  refine congrArg _ (congrArg _ (SH λj _=>?_))
  unfold OM.Tb.set;simp[e]
def TabAt.same (T:TabAt n M L r H)(s:aw H H'):TabAt n M L r H':=⟨s _ _ T.top,λi hi=>s _ _ (T.row i hi),T.inj,T.ne⟩
end
def wq {n:Nat}{ps:List (Int×Int)}(w:OM.Wn n ps){p:Int×Int}(h:p∈ps):∃u v:Nat,p=((u:Int),(v:Int))/\u < n/\v < n:=by
 obtain⟨x,y⟩:=p
 have q:=w _ h
 simp only at q
 exact⟨x.toNat,y.toNat,by rw[Int.toNat_of_nonneg q.1.1,Int.toNat_of_nonneg q.2.1],@AT,@AT ⟩
def kQ {M0 M:OM.Tb}{m:Nat}{D D':Nat->Nat->Prop}(P:OM.Phase M0 M m D)(h:∀a b,D a b↔D' a b):OM.Phase M0 M m D':=λa b=>by rw[P a b,h a b]
def oo {l:List (Int×Int)}{u v a b:Nat}:(((a:Int),(b:Int))∈l\/(a=u/\b=v))↔((a:Int),(b:Int))∈l ++ [((u:Int),(v:Int))]:=by
 rw[Rw,RE,Prod.mk.injEq]
 constructor
 ·rintro (h | ⟨h1,h2⟩)
  ·exact .inl h
  ·exact .inr ⟨@AT,@AT ⟩
 ·rintro (h | ⟨h1,h2⟩)
  ·exact .inl h
  ·exact .inr ⟨@AT,@AT ⟩
def G9 {M:OM.Tb}{u v a b:Nat}:M.set u v a b=true↔M a b=true\/(a=u/\b=v):=by
 unfold OM.Tb.set
 by_cases c:a=u/\b=v
 ·simp[c]
 ·rw[Rj c];exact⟨.inl,λh=>h.resolve_right c⟩
def Nj (n:Nat)(x:V):(List.replicate n [x]).flatten=(List.range n).map λ_=>x:=by
 rw[List.flatten_replicate_singleton,List.map_const',R4]
section
variable {P:Program}{w:World}{K:Frag}{mg:@Fr}{base:Heap}
def EH (K:Frag):Sp:=λvs H Q _=>∃(n:Nat) (a:Addr) (xs:List V) (ps:List (Int×Int)),vs= [.int n,.ref a]/\1<=n/\n<=8/\(ji K H a xs\/gr K H a xs)/\bF K H xs ps/\OM.Wn n ps/\
 ∀H' t ws,aw H H'->H t=none->H' t=some (.tup ws)->bF K H' ws (OM.jx n (OM.Tr (OM.Mem ps)))->Q (.ref t) H'
def iU:aB ["many","pairs","corners","leads","a","b","middle"] ["many","pairs"] (ar pS):=@AC
def Ov:(["start","many"]:@Id).Nodup:=@FS
def My:(["a","b","leads"]:@Id).Nodup:=@FS
set_option maxHeartbeats 1000000 in
theorem CW {f g:Addr}{fd gd:FuncData}(F:Fn K mg "closed" pS ["many","pairs"] f fd)(G:Fn K mg "every_pair" mO ["many"] g gd)(GE:gp P w K mg base K4 1 g gd ["many"] (Bu K))(B:Bt mg):gp P w K mg base K4 2 f fd ["many","pairs"] (EH K):=by
 refine F.F.ok iU (λvs H Q E h=>?_) (λcdv A outer s H vs Q E hr h=>?_)
 ·obtain⟨n,a,xs,ps,rfl,_⟩:=h;rfl
 ·obtain⟨n,a,xs,ps,rfl,h1,h8,hq,hp,wn,k⟩:=h
  refine⟨_,jY (tV (i:=2) iU.nd rfl (Or.inl rfl) (pH GE hr rfl G.mg G.F.kp G.b .nil Nk (ba (pv 0) cf)))
   (jY (tV (i:=3) iU.nd rfl (Or.inr rfl) (wF (NB:=["start","many"]) (own:=1) (ixs:=[0]) rfl (qt (by kernel_rfl)) (nN rfl B.range (ba (pv 0) cf))
    (λC ex s3 H3 pn=>dX (i:=0) Ov rfl (Or.inl rfl) (hf:=Or.inr rfl)) (λC ex s3 H3 pn=>wG) (λC ex s3 H3 pn=>vp Er (Ga (ba Co cf)) (pv 1))))
   (jY (wx PassesOwn.never rfl (L4 (pv 1)) (sV rfl (fB (dX (i:=4) iU.nd rfl (Or.inl rfl)) (fB (dX (i:=5) iU.nd rfl (Or.inl rfl)) pG)))
    (ko (tY Co (wM (oF jy (pv 3) (pv 4) @Ch) (pv 5) set_list))))
   (jY (wx PassesOwn.never rfl (nN rfl B.range (ba (pv 0) cf)) (dX (i:=6) iU.nd rfl (Or.inl rfl))
    (ko (wx PassesOwn.never rfl (BX (pv 2)) (sV rfl (fB (dX (i:=4) iU.nd rfl (Or.inl rfl)) (fB (dX (i:=5) iU.nd rfl (Or.inl rfl)) pG)))
     (ko (Kh (PW.pt (EV (AI (oF jy (oF jy (pv 3) (pv 4) @Ch) (pv 6) @Ch)) (Ci (AI (oF jy (oF jy (pv 3) (pv 6) @Ch) (pv 5) @Ch)))))
      (ko (tY Co (wM (oF jy (pv 3) (pv 4) @Ch) (pv 5) set_list))) BU)))))
   (ko (qb (lF bW rfl B.tuple (@FS) (ba (wF (NB:=["a","b","leads"]) (own:=2) (ixs:=[3]) rfl (qt (by kernel_rfl)) (BX (pv 2))
    (λC ex s3 H3 pn=>LG K 0 1 My rfl rfl rfl rfl rfl rfl)
    (λC ex s3 H3 pn=>BE (AI (oF (QI K) (oF (QI K) (pv 2) (pv 0) @Ch) (pv 1) @Ch))) (λC ex s3 H3 pn=>Ac (ba (pv 0) (ba (pv 1) cf)))) cf))))))),?_⟩
  have hn:=QP h8
  have hn0:(0:Int)<=(n:Int):=@AT
  refine⟨_,rfl,n,rfl,h1,h8,λH1 c ws s1 hc0 hc hw=>?_⟩
  have hwl:ws.length=n * n:=by rw[hw.len,dC]
  have gw:OM.Wn n (OM.bw n):=λp hp=>OM.aY.mp hp
  refine zV ?_
  refine⟨_,rfl,n,rfl,@AT,@AT,λD hD=>?_⟩
  rw[RT]
  refine x8 (λi σ' H'=>(∃v,σ'= [v,some @Re])/\aw H1 H'/\∃r:Nat->Addr,H' D=some (.lst ((List.range i).map λk=>V.ref (r k)))/\
   (∀k,k < i->H' (r k)=some (.lst ((List.range n).map λ_=>V.bl false))/\H1 (r k)=none/\r k≠D)/\∀j k,j < i->k < i->r j=r k->j=k)
   ?_ ?_ ?_
  ·exact⟨⟨none,rfl⟩,(aw.refl H1).put hD (JT hD),λ_=>0,aE,λk hk=>absurd hk (TX _),λj k hj=>absurd hj (TX _)⟩
  ·rintro i σ' H' hi ⟨⟨v,rfl⟩,s2,r,hr0,hr1,hr2⟩
   refine yr ⟨by show 1<=sizeLine;rw[R7];omega,λp hp0=>⟨_,rfl,p,n,[.bl false],rfl,rfl,aE,@AT,@AT,by show 1 * (n:Int).toNat<=sizeLine;rw[R7];omega,λq hq0=>?_⟩⟩
   have hqp:q≠p:=by intro e;subst e;rw[aE] at hq0;cases hq0
   have hq1:H' q=none:=by rw[aC hqp] at hq0;exact hq0
   have hDp:D≠p:=aR hr0 hp0
   have hDq:D≠q:=aR hr0 hq1
   rw[RT,Nj]
   refine⟨_,by rw[aC hDq,aC hDp];exact hr0,by rw[Rb,R4,R7];omega,⟨_,rfl⟩,((s2.put (s2.free hp0) (JT hp0)).put (s2.free hq1) (JT hq0)).put hD (Nf (by rw[aC hDq,aC hDp];exact hr0)),λk=>if k=i then q else r k,?_,λk hk=>?_,λj k hj hk e=>?_⟩
   ·have e:(List.range i).map (λk=>V.ref (r k))=(List.range i).map (λk=>V.ref (if k=i then q else r k)):=SH λk hk=>by
     have:=RW.mp hk
     rw[Rj (@AT)]
    rw[aE,List.range_succ,RS,e]
    simp
   ·dsimp only
    by_cases e:k=i
    ·rw[Rg e]
     exact⟨by rw[aC hDq.symm,aE],s2.free hq1,hDq.symm⟩
    ·rw[Rj e]
     obtain⟨a1,a2,a3⟩:=hr1 k (@AT)
     exact⟨by rw[aC a3,aC (aR a1 hq1),aC (aR a1 hp0)];exact a1,a2,a3⟩
   ·dsimp only at e
    by_cases ej:j=i
    ·by_cases ek:k=i
     ·omega
     ·rw[Rg ej,Rj ek] at e
      exact absurd e.symm (aR (hr1 k (@AT)).1 hq1)
    ·by_cases ek:k=i
     ·rw[Rj ej,Rg ek] at e
      exact absurd e (aR (hr1 j (@AT)).1 hq1)
     ·rw[Rj ej,Rj ek] at e
      exact hr2 j k (@AT) (@AT) e
  rintro σ2 H2 ⟨_,s2,r,hr0,hr1,hr2⟩
  refine⟨⟨_,hr0⟩,?_⟩
  have sep:∀i,i < n->H1 (r i)=none:=λi hi=>(hr1 i hi).2.1
  have T0:TabAt n (λ_ _=>false) D r H2:=⟨hr0,λi hi=>(hr1 i hi).1,hr2,λi hi=>(hr1 i hi).2.2⟩
  refine⟨_,rfl,a,xs,rfl,HF (H1:=H1) (Hk s1 hq) (λi σ' H'=>(∃x y,σ'= [some @Re,some (.ref a),some (.ref c),some (.ref D),x,y,none])/\aw H1 H'/\∃M,TabAt n M D r H'/\∀u v:Nat,M u v=true↔((u:Int),(v:Int))∈ps.take i)
   ⟨⟨none,none,rfl⟩,s2,_,T0,λu v=>@KM ⟩ (λi σ' H' q=>q.2.1) ?_ ?_⟩
  ·rintro i x σ' H' hx ⟨⟨_,_,rfl⟩,s3,M,T,hM⟩
   obtain⟨p,hpi,b,rfl,hb⟩:=(hp.same (s1.trans s3)).at hx
   obtain⟨u,v,rfl,hu,hv⟩:=wq wn (RN hpi)
   refine ER hb ?_
   refine⟨_,rfl,_,rfl,D,_,u,_,rfl,rfl,.inl (.inl T.top),iX hu,_,rfl,r u,_,v,v,rfl,rfl,T.row u hu,vX hv,⟨_,_,rfl⟩,s3.put (sep u hu) (Nf (T.row u hu)),_,T.set hu,λx y=>?_⟩
   rw[take_snoc hpi,<-oo,G9,hM]
  rintro σ3 H3 ⟨⟨x3,y3,rfl⟩,s3,M3,T3,hM3⟩
  rw[hp.len,take_all] at hM3
  refine⟨_,rfl,n,rfl,@AT,@AT,?_⟩
  rw[RT]
  refine De (λm σ' H'=>(∃x y z,σ'= [some @Re,some (.ref a),some (.ref c),some (.ref D),x,y,z])/\aw H1 H'/\∃M,TabAt n M D r H'/\OM.Tab n ps M/\OM.G7 M m)
   ⟨⟨_,_,_,rfl⟩,s3,M3,T3,⟨λa b h=>by have:=wn _ ((hM3 a b).mp h);simp only at this;omega,λa b h=>(hM3 a b).mpr h,λa b h=>.one ((hM3 a b).mp h)⟩,λk a b hk=>absurd hk (TX _)⟩ ?_ ?_
  ·rintro m σ' H' hm ⟨⟨_,_,_,rfl⟩,s4,M,T,TT,Th⟩
   rw[Tv]
   refine⟨_,rfl,c,rfl,⟨ws,.inl (.inl (s4 _ _ hc))⟩,zw (xs:=ws) (λi σ' H'=>(∃x y,σ'= [some @Re,some (.ref a),some (.ref c),some (.ref D),x,y,some (.int m)])/\aw H1 H'/\∃M',TabAt n M' D r H'/\OM.Phase M M' m λu v=>((u:Int),(v:Int))∈(OM.bw n).take i)
    ⟨⟨_,_,rfl⟩,s4,M,T,kQ (OM.Phase.start M m) λa b=>@KM ⟩ (λi σ' H' _ q=>.inl (.inl (q.2.1 _ _ hc))) ?_ ?_⟩
   ·rintro i x σ' H' hx ⟨⟨_,_,rfl⟩,s5,M',T',Ph⟩
    obtain⟨p,hpi,b,rfl,hb⟩:=(hw.same s5).at hx
    obtain⟨u,v,rfl,hu,hv⟩:=wq gw (RN hpi)
    refine ER hb ?_
    have st:=Ph.step u v
    refine⟨_,rfl,_,rfl,D,_,u,_,rfl,rfl,.inl (.inl T'.top),iX hu,_,rfl,r u,_,m,_,rfl,rfl,.inl (.inl (T'.row u hu)),iX hm,_,rfl,?_⟩
    by_cases c1:M' u m=true
    ·refine Qp c1 ?_
     refine⟨_,rfl,_,rfl,D,_,m,_,rfl,rfl,.inl (.inl T'.top),iX hm,_,rfl,r m,_,v,_,rfl,rfl,.inl (.inl (T'.row m hm)),iX hv,_,rfl,?_⟩
     by_cases c2:M' m v=true
     ·refine Qp c2 ?_
      rw[Rg ⟨c1,c2⟩] at st
      refine⟨_,rfl,_,rfl,D,_,u,_,rfl,rfl,.inl (.inl T'.top),iX hu,_,rfl,r u,_,v,v,rfl,rfl,T'.row u hu,vX hv,⟨_,_,rfl⟩,s5.put (sep u hu) (Nf (T'.row u hu)),_,T'.set hu,kQ st λa b=>?_⟩
      rw[take_snoc hpi];exact oo
     ·refine Qw c2 ?_
      rw[Rj λz=>c2 z.2] at st
      refine⟨⟨_,_,rfl⟩,s5,_,T',kQ st λa b=>?_⟩
      rw[take_snoc hpi];exact oo
    ·refine Qw c1 ?_
     rw[Rj λz=>c1 z.1] at st
     refine sy ⟨⟨_,_,rfl⟩,s5,_,T',kQ st λa b=>?_⟩
     rw[take_snoc hpi];exact oo
   ·rintro σ' H' ⟨⟨_,_,rfl⟩,s5,M',T',Ph⟩
    rw[hw.len,take_all] at Ph
    have dn:=Ph.done (n:=n) (λa b ha hb=>OM.aY.mpr ⟨⟨@KM,by simp;omega⟩,@KM,by simp;omega⟩) TT.inn Th
    exact⟨⟨_,_,_,rfl⟩,s5,M',T',TT.phase Ph,dn.1⟩
  rintro σ4 H4 ⟨⟨x4,y4,z4,rfl⟩,s4,M,T,TT,Th⟩
  refine zV ⟨_,rfl,c,rfl,⟨ws,.inl (.inl (s4 _ _ hc))⟩,λD' hD'=>Jz (xs:=ws) (λi σ' H'=>(∃x y,σ'= [x,y,some (.ref D)])/\aw H4 H'/\∃vs,H' D'=some (.lst vs)/\bF K H' vs (((OM.bw n).take i).filter λp=>M p.1.toNat p.2.toNat))
   ⟨⟨_,_,rfl⟩,(aw.refl H4).put hD' (JT hD'),[],aE,.nil⟩ (λi σ' H' _ q=>.inl (.inl (q.2.1 _ _ (s4 _ _ hc)))) ?_ ?_⟩
  ·rintro i x σ' H' hx ⟨⟨_,_,rfl⟩,s5,vs,hv,hpv⟩
   obtain⟨p,hpi,b,rfl,hb⟩:=(hw.same (s4.trans s5)).at hx
   obtain⟨u,v,rfl,hu,hv'⟩:=wq gw (RN hpi)
   refine ER hb ?_
   have T':=T.same s5
   refine⟨_,rfl,_,rfl,D,_,u,_,rfl,rfl,.inl (.inl T'.top),iX hu,_,rfl,r u,_,v,_,rfl,rfl,.inl (.inl (T'.row u hu)),iX hv',_,rfl,?_⟩
   by_cases c1:M u v=true
   ·refine Qp c1 ?_
    refine⟨_,rfl,_,rfl,by show 2<=sizeLine;rw[R7];omega,λp hp0=>?_⟩
    have hpD:D'≠p:=aR hv hp0
    refine⟨vs,by rw[aC hpD];exact hv,?_,⟨_,_,rfl⟩,(s5.put (s5.free hp0) (JT hp0)).put hD' (Nf (by rw[aC hpD];exact hv)),_,aE,?_⟩
    ·rw[hpv.len]
     refine Nat.lt_of_le_of_lt (Se ..) ?_
     rw[R9,dC,R7];omega
    ·rw[take_snoc hpi,List.filter_append,List.filter_cons_of_pos (by simpa using c1),List.filter_nil]
     have g1:jO H' (upd H' p (.tup [.int u,.int v])):=jO.new hp0
     have g2:∀o,jO (upd H' p (.tup [.int u,.int v])) (upd (upd H' p (.tup [.int u,.int v])) D' o):=λo=>jO.list (by rw[aC hpD];exact hv)
     refine bF.snoc ?_ (hpv.grow (g1.trans (g2 _)))
     exact gr.grow (.inl (.inl aE)) (g2 _)
   ·refine Qw c1 ?_
    refine⟨⟨_,_,rfl⟩,s5,vs,hv,?_⟩
    rw[take_snoc hpi,List.filter_append,List.filter_cons_of_neg (by simpa using c1),List.filter_nil,Td]
    exact hpv
  ·rintro σ' H' ⟨_,s5,vs,hv,hpv⟩
   rw[hw.len,take_all] at hpv
   refine⟨⟨_,hv⟩,D',vs,rfl,.inl ⟨.inl (.inl hv),λt ht=>?_⟩⟩
   have sA:aw H H':=(s1.trans s4).trans s5
   refine k _ t vs (sA.put (sA.free ht) (JT ht)) (sA.free ht) aE ?_
   have e:((OM.bw n).filter λp=>M p.1.toNat p.2.toNat)=OM.jx n (OM.Tr (OM.Mem ps)):=by
    unfold OM.jx
    refine S5 λp hp=>?_
    obtain⟨u,v,rfl,hu,hv⟩:=wq gw hp
    have:=TT.all wn Th u v
    simp only[RT]
    rw[Sf,this]
    simp
   rw[e] at hpv
   exact hpv.grow (jO.new ht)
end
end RO
namespace RO
open PySem L2 RM
section
variable {P:Program}{w:World}{K:Frag}{mg:@Fr}{base:Heap}{ca:Str->Addr}
def Q0 {k:Nat}{f:Addr}{fd:FuncData}{ps:@Id}{sp:Sp}(F:gp P w K mg base K4 k f fd ps sp):gp P w K mg base (qv P w) k f fd ps sp:=
 ⟨F.len,λA outer s H args us vs Q E hr he hb hv hs=>Ul (F.run A outer s H args us vs Q E hr he hb hv hs) λr s' h=>by
  cases r with
  |ok x=>cases x <;> exact h
  |error e=>exact h.elim⟩
def AF {G H:Hp}(s:aw G H){ws:List V}{ps:@A_}(h:bF K H ws ps):bF K (jS G H) ws ps:=Paired.mapP h λv p ⟨a,e,q⟩=>⟨a,e,pw s q⟩
def tS {ds:List D}(h:fg ds≠.bad):∃(n:Nat) (d:D) (ps:@A_),ds= [.int n,d]/\ni d=some (ps.map aA)/\1<=n/\n<=8/\OM.Wn n ps/\fg ds=.ok (.tuple ((OM.jx n (OM.Tr (OM.Mem ps))).map aA)) false:=by
 unfold fg at h
 split at h
 ·rename_i n d
  cases q:ni d with
  |none=>rw[q] at h;exact absurd rfl h
  |some es=>
   rw[q] at h
   dsimp only at h
   cases q2:j0 es with
   |none=>rw[q2] at h;exact absurd rfl h
   |some ps=>
    rw[q2] at h
    dsimp only at h
    by_cases c:1<=n/\n<=8/\OM.Wn n.toNat ps
    ·have e:((n.toNat:Nat):Int)=n:=@AT
     refine⟨n.toNat,d,ps,by rw[e],by rw[q,nV q2],@AT,@AT,c.2.2,?_⟩
     unfold fg
     dsimp only
     rw[q]
     dsimp only
     rw[q2]
     dsimp only
     rw[Rg c]
    ·rw[Rj c] at h;exact absurd rfl h
 ·exact absurd rfl h
def zO {f g:Addr}{fd gd:FuncData}(F:fq K mg "closed" pS ["many","pairs"] f fd)(E:fq K mg "every_pair" mO ["many"] g gd)(B:fP mg):bK P w K mg base ca "closed" ["many","pairs"] 3 fg:=by
 refine⟨⟨f,fd,F.mg,F.F.kp,F.b,((Q0 (CW F E (EW E B) B)).mono @E_).imp ?_⟩,λds h=>?_⟩
 ·rintro vs H Q X ⟨G,ds,s,hl,r,h⟩
  have hb:fg ds≠.bad:=λz=>by rw[z] at h;exact h
  obtain⟨n,d,ps,rfl,hd,h1,h8,wn,e⟩:=tS hb
  rw[e] at h
  cases r with
  |cons r1 r=>
   cases r with
   |cons r2 r=>
    cases r
    cases r1
    obtain⟨a,xs,rfl,hq,hr⟩:=(ou.seq (B:=none) (G:=G) (H:=G) (.inl r2) hd (aw.refl _))
    refine⟨n,a,xs,ps,rfl,h1,h8,hq.elim (λq=>.inl (s.seq q)) (λq=>.inr (q.grow s.grow)),(hr.pairs).grow s.grow,wn,λH' t ws hh ht ht' hp=>?_⟩
    have s2:=s.trans hh
    refine h (.ref t) (jS G H') H' hh p8 (pY s2) (λb m hb=>by rw[wV hh m];exact hb) ?_
    exact .tup (pw s2 (.inl (.inl ht'))) (bF.rps (AF s2 hp))
 ·obtain⟨n,d,ps,rfl,_⟩:=tS h
  rfl
end
end RO
namespace HD
open PySem PySem.W
noncomputable abbrev Ee:=@PySem.W.Fast.tw10156331382660048174
noncomputable abbrev LB:=@PySem.W.Fast.tw11892475500146522536
noncomputable abbrev Qe:=@PySem.W.Fast.tw6613529449190102663
noncomputable abbrev Ko:=@PySem.W.Fast.tw14364793385576792824
noncomputable abbrev J0:=@PySem.W.Fast.tw17154629097778926822
noncomputable abbrev Fl:=@PySem.W.Fast.tw12822647523644345616
noncomputable def FN (p:Program):Thread:=
 ⟨do
  let code <-J0 p.main
  let frame <-Fl code mainNs mainNs
  let _ <-run (.body (behindTheImports p) {scope:=p.main.scope,locals:=mainNs,globals:=mainNs,cells:=[],code,frame:=some frame})
  ret .none,
  .builtin "claim.caller" {},default,[]⟩
def FI (p:Program):topStub p=FN p:=by
 unfold topStub FN J0 Fl
 rw[<-PySem.W.Fast.te17154629097778926822,<-PySem.W.Fast.te12822647523644345616]
noncomputable def rM (p:Program)(w:World)(n₀:Nat)(ann:Option Value):Nat->SharedT->Thread->Option SharedT
 | 0,_,_=>none
 |n + 1,s,t=>match through t with
  |true=>some s
  |false=>match Qe n₀ ann t with
   |false=>none
   |true=>match Ee (LB Ko) p w s t with
    |some (s',t')=>rM p w n₀ ann n s' t'
    |none=>none
theorem vd {p:Program}{w:World}{n₀:Nat}{ann:Option Value}:∀{n:Nat} {s s':SharedT} {t:Thread},rM p w n₀ ann n s t=some s'->topRun treeTable p w n₀ ann n s.abs t=some s'.abs
 | 0,_,_,_,h=>by cases h
 |n + 1,s,s',t,h=>by
  unfold rM at h
  unfold topRun
  cases ht:through t with
  |true=>rw[ht] at h;cases h;rfl
  |false=>
   rw[ht] at h
   have hq:Qe n₀ ann t=stepOk n₀ ann t:=by unfold Qe;rw[<-PySem.W.Fast.te6613529449190102663]
   dsimp only at h
   rw[hq] at h
   cases hk:stepOk n₀ ann t with
   |false=>rw[hk] at h;cases h
   |true=>
    rw[hk] at h
    have hq:Ee (LB Ko) p w s t=stepT (denote treeTable) p w s t:=by unfold Ee LB Ko;rw[<-PySem.W.Fast.te10156331382660048174,<-PySem.W.Fast.te11892475500146522536,<-PySem.W.Fast.te14364793385576792824]
    dsimp only at h
    rw[hq] at h
    cases hs:stepT (denote treeTable) p w s t with
    |none=>rw[hs] at h;cases h
    |some r=>obtain⟨s₂,t₂⟩:=r;rw[hs] at h;rw[stepT_spec hs];exact vd h
def treeOf (l:List Obj):BT:=(l.foldl (λ(x:BT×Nat) o=>(x.1.ins x.2 o,x.2 + 1)) (.nil,0)).1
noncomputable def GH (P:Params):BT:=treeOf (boot_heap P).objs.toList
abbrev yD:Nat:=11
abbrev EB:Life:={}
def boot_abs (P:Params):absHeap (GH P) yD EB=boot_heap P:=by kernel_rfl
def CF (w:World):((boot_heap w.params).isNs mainGlobals && (Array.mk ([]:List GenState)).size == 0,(boot_heap w.params).objs.size,(boot_heap w.params).nsMap mainGlobals "__annotations__")=(true,yD,some (.ref 6)):=by kernel_rfl
noncomputable def Gw (w:World)(os:OsState):SharedT:=⟨GH w.params,yD,EB,Array.mk [],boot_drawn,boot_toks,os⟩
noncomputable def J9 (p:Program)(w:World)(s:Shared):Bool:=staticsOk (importedModules p.main.body) (boot_heap w.params) s.heap && namesBound p s.heap && gensDone s && laidKept (boot_heap w.params) s.heap
def Jg {p q:Program}{loose:@Id}{Xt:Shared->Bool}{α:Type}{Yf:Shared->α}{Ya:World->α}{N:Nat}{g0:Bool}
  (e:opening p=plainProg p.main.scope.names) (hN:Nat.ble 600 N=true) (f:∀s,fenceModules? p s=some s)
  (run:∀(w:World) (os:OsState),(rM p w yD (some (.ref 6)) N (Gw w os) (FN p)).map (λs=>(J9 p w s.abs,openSeen q loose (importedModules p.main.body) Xt g0 s.abs,Yf s.abs))=some (true,openGood q loose,Ya w)):LeftO p q loose Xt Yf Ya N g0:=λw=>by
 obtain⟨⟨h,gs,d,k,os⟩,e,e'⟩:=Option.map_eq_some_iff.mp (boot_open e hN f w)
 obtain⟨rfl,rfl,rfl,rfl⟩:h=boot_heap w.params/\gs=Array.mk []/\d=boot_drawn/\k=boot_toks:=by simpa using e'
 obtain⟨z1,z2,z3⟩:_/\_/\_:=by simpa only [Prod.mk.injEq] using CF w
 obtain⟨s',r,ls⟩:=Option.map_eq_some_iff.mp (run w os)
 obtain⟨l1,l2,l3⟩:_/\_/\_:=by simpa only [Prod.mk.injEq] using ls
 have r:=vd r
 have ha:(Gw w os).abs=⟨boot_heap w.params,Array.mk [],boot_drawn,boot_toks,os⟩:=by
  show Shared.mk (absHeap (GH w.params) yD EB) _ _ _ _=_
  rw[boot_abs]
  rfl
 rw[ha,<-FI] at r
 have t:topFrom treeTable p w N ⟨boot_heap w.params,Array.mk [],boot_drawn,boot_toks,os⟩=some s'.abs:=by
  unfold topFrom
  dsimp only
  rw[z1,z2,z3,r]
  show (match J9 p w s'.abs with |true=>_ |false=>_)=_
  rw[l1]
 unfold openEnds
 rw[e]
 show (topFrom treeTable p w N _).map _=_
 rw[t]
 exact congrArg some (Prod.ext l2 l3)
end HD
section
namespace RO
open PySem L2 RM
def KY {T:Addr}{K:Frag}{ca:Str->Addr}(vs:List V)(H:Hp)(Q:VK)(E:XK)(h:wt T K vs H Q E):spT T K ca 1 LV vs H Q E:=by
 obtain⟨a,ns,rfl,hT,hS,q⟩:=h
 refine⟨H,[eh ns],O8 hT,aw.refl _,rfl,.cons (.scr hS) .nil,?_⟩
 rw[Oj]
 intro v G' H' s1 s2 s3 s4 fv
 have fv:Rp K G' v (.bool true):=fv
 cases fv
 exact q H' s1
def Am:aP "is_whole" RQ.mr ["thing"]:=λ_ _ _ _ _ _=>Bx λ_=>rfl
def AL:aP "is_below" RQ.mB ["thing","bound"]:=@F_
def DJ:aP "is_many" RQ.oj ["thing"]:=λ_ _ _ _ _ _=>Bx λ_=>rfl
def Dc:aP "is_pair" RQ.nR ["thing","many"]:=@F_
def Dz:aP "is_line" RQ.oh ["thing","many"]:=@F_
def xQ:aP "every_pair" RQ.gP ["many"]:=λ_ _ _ _ _ _=>Bx λ_=>rfl
def EZ:aP "closed" pS ["many","pairs"]:=@F_
def AX:aP "has_ring" RQ.mf ["pairs"]:=λ_ _ _ _ _ _=>Bx λ_=>rfl
def zH:aP "is_order" RQ.lT ["thing"]:=λ_ _ _ _ _ _=>Bx λ_=>rfl
def xr:aP "need_order" RQ.jC ["thing"]:=λ_ _ _ _ _ _=>Bx λ_=>rfl
def mF:aP "need_order_and_thing" RQ.cI ["order","thing"]:=@F_
def zl:aP "are_apart" RQ.kq ["order","a","b"]:=λ_ _ _ _ _ _=>DU λ_ _ _=>rfl
def D7:aP "places" RQ.p4 ["row"]:=λ_ _ _ _ _ _=>Bx λ_=>rfl
def uB:aP "keeps_order" RQ.iN ["thing","order"]:=@F_
def wb:aP "with_thing" RQ.jj ["placed","thing"]:=@F_
def uU:aP "masks_ahead" RQ.iA ["order"]:=λ_ _ _ _ _ _=>Bx λ_=>rfl
def uN:aP "free_things" RQ.iz ["masks","placed"]:=@F_
def xX:aP "row_along" RQ.kx ["masks","late"]:=@F_
def tO:aP "stands_ahead" RQ.gA ["tables","a","b"]:=λ_ _ _ _ _ _=>DU λ_ _ _=>rfl
def ui:aP "shared_pairs" RQ.gz ["many","rows"]:=@F_
def A2:aP "are_rows" RQ.mh ["thing","order"]:=@F_
def LN:aP "tell" RQ.wO ["thing","order"]:=@F_
def yj:aP "need_both" RQ.km @O_:=@F_
def y0:aP "need_room" RQ.kC ["many"]:=λ_ _ _ _ _ _=>Bx λ_=>rfl
def uV:aP "need_joined" RQ.iF @O_:=@F_
def r0:aP "raised_pairs" RQ.gY ["order","step"]:=@F_
def zg:aP "behind_of" RQ.ky @O_:=@F_
def yN:aP "beside_of" RQ.ke @O_:=@F_
def rg:aP "need_replaced" RQ.fD ["order","thing","other"]:=λ_ _ _ _ _ _=>DU λ_ _ _=>rfl
def tL:aP "standing_for" RQ.gE ["new","thing","many"]:=λ_ _ _ _ _ _=>DU λ_ _ _=>rfl
def Ba:aP "replaced" RQ.mC ["order","thing","other"]:=λ_ _ _ _ _ _=>DU λ_ _ _=>rfl
def Ho:aP "moved" RQ.rE ["old","thing","step"]:=λ_ _ _ _ _ _=>DU λ_ _ _=>rfl
def yf:aP "need_rows" RQ.ki @IR:=λ_ _ _ _ _ _=>Qi λ_ _ _ _=>rfl
def Fp:aP "row_at" RQ.p5 ["rows","at"]:=@F_
def xI:aP "raised_row" RQ.jn ["row","step"]:=@F_
def ux:aP "rows_behind" RQ.iO @IR:=λ_ _ _ _ _ _=>Qi λ_ _ _ _=>rfl
def uJ:aP "rows_beside" RQ.iC @IR:=λ_ _ _ _ _ _=>Qi λ_ _ _ _=>rfl
def t7:aP "row_replaced" RQ.gK ["row","thing","inner"]:=λ_ _ _ _ _ _=>DU λ_ _ _=>rfl
def rl:aP "rows_replaced" RQ.fK ["order","thing","other","rows","others"]:=λ_ _ _ _ _ _=>QV λ_ _ _ _ _=>rfl
def JB:aP "turns" RQ.rA ["order"]:=λ_ _ _ _ _ _=>Bx λ_=>rfl
def A0:aP "is_sharp" RQ.l4 ["order","a","b"]:=λ_ _ _ _ _ _=>DU λ_ _ _=>rfl
def uL:aP "sharp_turns" RQ.iu ["order"]:=λ_ _ _ _ _ _=>Bx λ_=>rfl
def A9:aP "leads_on" RQ.mH ["order","turn","other"]:=λ_ _ _ _ _ _=>DU λ_ _ _=>rfl
def AQ:aP "is_ahead" RQ.lW ["masks","a","b"]:=λ_ _ _ _ _ _=>DU λ_ _ _=>rfl
def yA:aP "is_turned" RQ.kh ["masks","turn"]:=@F_
def xZ:aP "is_barred" RQ.kb ["masks","turn"]:=@F_
def zW:aP "put_turn" RQ.l7 ["masks","turn"]:=@F_
def yi:aP "ring_with" RQ.kE ["order","put","turn"]:=λ_ _ _ _ _ _=>DU λ_ _ _=>rfl
def Ds:aP "case_of" RQ.nO ["order","left","rows","number","turn"]:=λ_ _ _ _ _ _=>QV λ_ _ _ _ _=>rfl
def zm:aP "free_rows" RQ.kF ["rows","turn"]:=@F_
def AE:aP "cases_on" RQ.lZ ["order","left","rows"]:=λ_ _ _ _ _ _=>DU λ_ _ _=>rfl
def IH:aP "cases" RQ.rJ ["order","count"]:=@F_
def uS:aP "fewest_rows" RQ.iD ["order"]:=λ_ _ _ _ _ _=>Bx λ_=>rfl
def E9:aP "fewest" RQ.p6 ["order"]:=λ_ _ _ _ _ _=>Bx λ_=>rfl
def Ag:aP "_law_box" RQ.l8 ["script","k"]:=@F_
def yX:aP "_law_take" RQ.kl ["box","many"]:=@F_
def qW:aP "_law_shuffled" RQ.fF ["box","some"]:=@F_
def yg:aP "_law_told" RQ.kJ ["many","rows"]:=@F_
def xu:aP "_law_small" RQ.jv ["box","most"]:=@F_
def all_mk {T c0:Addr}{l:PySem.W.OpenLaw}{w:World}{K:Frag}{h:Heap}{mg:@Fr}{fa f60:Addr}(X:K.In h)(G:h.Ns mainGlobals mg)(hfa:mg "law"=some (.ref fa))
  {od60 an60:@J_} {sl60:Array (Option Value)} {oc60 kV60 dc60 pm60 cd60 ct60:Value} {tMOST_THINGS:Tok}
  (F1:Fo K mg "is_whole" RQ.mr ["thing"])
  (F2:Fo K mg "is_below" RQ.mB ["thing","bound"])
  (F3:Fo K mg "is_many" RQ.oj ["thing"])
  (F4:Fo K mg "is_pair" RQ.nR ["thing","many"])
  (F5:Fo K mg "is_line" RQ.oh ["thing","many"])
  (F6:Fo K mg "every_pair" RQ.gP ["many"])
  (F7:Fo K mg "closed" pS ["many","pairs"])
  (F8:Fo K mg "has_ring" RQ.mf ["pairs"])
  (F9:Fo K mg "is_order" RQ.lT ["thing"])
  (F10:Fo K mg "need_order" RQ.jC ["thing"])
  (F11:Fo K mg "need_order_and_thing" RQ.cI ["order","thing"])
  (F12:Fo K mg "are_apart" RQ.kq ["order","a","b"])
  (F13:Fo K mg "places" RQ.p4 ["row"])
  (F14:Fo K mg "keeps_order" RQ.iN ["thing","order"])
  (F15:Fo K mg "with_thing" RQ.jj ["placed","thing"])
  (F16:Fo K mg "masks_ahead" RQ.iA ["order"])
  (F17:Fo K mg "free_things" RQ.iz ["masks","placed"])
  (F18:Fo K mg "row_along" RQ.kx ["masks","late"])
  (F19:Fo K mg "stands_ahead" RQ.gA ["tables","a","b"])
  (F20:Fo K mg "shared_pairs" RQ.gz ["many","rows"])
  (F21:Fo K mg "are_rows" RQ.mh ["thing","order"])
  (F22:Fo K mg "tell" RQ.wO ["thing","order"])
  (F23:Fo K mg "need_both" RQ.km @O_)
  (F24:Fo K mg "need_room" RQ.kC ["many"])
  (F25:Fo K mg "need_joined" RQ.iF @O_)
  (F26:Fo K mg "raised_pairs" RQ.gY ["order","step"])
  (F27:Fo K mg "behind_of" RQ.ky @O_)
  (F28:Fo K mg "beside_of" RQ.ke @O_)
  (F29:Fo K mg "need_replaced" RQ.fD ["order","thing","other"])
  (F30:Fo K mg "standing_for" RQ.gE ["new","thing","many"])
  (F31:Fo K mg "replaced" RQ.mC ["order","thing","other"])
  (F32:Fo K mg "moved" RQ.rE ["old","thing","step"])
  (F33:Fo K mg "need_rows" RQ.ki @IR)
  (F34:Fo K mg "row_at" RQ.p5 ["rows","at"])
  (F35:Fo K mg "raised_row" RQ.jn ["row","step"])
  (F36:Fo K mg "rows_behind" RQ.iO @IR)
  (F37:Fo K mg "rows_beside" RQ.iC @IR)
  (F38:Fo K mg "row_replaced" RQ.gK ["row","thing","inner"])
  (F39:Fo K mg "rows_replaced" RQ.fK ["order","thing","other","rows","others"])
  (F40:Fo K mg "turns" RQ.rA ["order"])
  (F41:Fo K mg "is_sharp" RQ.l4 ["order","a","b"])
  (F42:Fo K mg "sharp_turns" RQ.iu ["order"])
  (F43:Fo K mg "leads_on" RQ.mH ["order","turn","other"])
  (F44:Fo K mg "is_ahead" RQ.lW ["masks","a","b"])
  (F45:Fo K mg "is_turned" RQ.kh ["masks","turn"])
  (F46:Fo K mg "is_barred" RQ.kb ["masks","turn"])
  (F47:Fo K mg "put_turn" RQ.l7 ["masks","turn"])
  (F48:Fo K mg "ring_with" RQ.kE ["order","put","turn"])
  (F49:Fo K mg "case_of" RQ.nO ["order","left","rows","number","turn"])
  (F50:Fo K mg "free_rows" RQ.kF ["rows","turn"])
  (F51:QQ K mg "cases_on" RQ.lZ ["order","left","rows"] c0)
  (F52:Fo K mg "cases" RQ.rJ ["order","count"])
  (F53:Fo K mg "fewest_rows" RQ.iD ["order"])
  (F54:Fo K mg "fewest" RQ.p6 ["order"])
  (F55:Fo K mg "_law_box" RQ.l8 ["script","k"])
  (F56:Fo K mg "_law_take" RQ.kl ["box","many"])
  (F57:Fo K mg "_law_shuffled" RQ.fF ["box","some"])
  (F58:Fo K mg "_law_told" RQ.kJ ["many","rows"])
  (F59:Fo K mg "_law_small" RQ.jv ["box","most"])
  (a60:PySem.W.nsIn K mainGlobals "law"=some (some (.ref f60))) (l60:K.lookup f60=some ⟨oc60,od60,.func (PySem.W.fnOf "law" "law" (jw RQ.oC) (dw RQ.oC) (ar RQ.oC) .none kV60 dc60 pm60 an60 cd60 ct60),sl60⟩) (c60:PySem.W.codeIn K cd60 "law"=true) (k60:PySem.W.keepIn K (.ref f60)=true)
  (zB:PN K=true)
  (yMOST_THINGS:PySem.W.nsIn K mainGlobals "MOST_THINGS"=some (some (.int 8 tMOST_THINGS)))
  :∃fd:FuncData,(∀(s:Shared) (v:Value),BindsTo s fd ⟨[v],[]⟩ [("script",v)])/\∀base:Heap,K.In base->base.Ns mainGlobals mg->DE mg base c0 T->gp l.prog w K mg base (qv l.prog w) 91 fa fd ["script"] (wt T K):=by
 have e:=hfa.symm.trans (PySem.W.mg_of X G a60)
 cases e
 have B:fP mg:=Nl X G zB
 have dM:=PySem.W.mg_of X G yMOST_THINGS
 obtain⟨f1,d1,cL⟩:=F1.ex
 obtain⟨f2,d2,bJ⟩:=F2.ex
 obtain⟨f3,d3,jF⟩:=F3.ex
 obtain⟨f4,d4,jK⟩:=F4.ex
 obtain⟨f5,d5,jG⟩:=F5.ex
 obtain⟨f6,d6,aV⟩:=F6.ex
 obtain⟨f7,d7,lC⟩:=F7.ex
 obtain⟨f8,d8,hJ⟩:=F8.ex
 obtain⟨f9,d9,hX⟩:=F9.ex
 obtain⟨f10,d10,aK⟩:=F10.ex
 obtain⟨f11,d11,bO⟩:=F11.ex
 obtain⟨f12,d12,gf⟩:=F12.ex
 obtain⟨f13,d13,eN⟩:=F13.ex
 obtain⟨f14,d14,dJ⟩:=F14.ex
 obtain⟨f15,d15,aM⟩:=F15.ex
 obtain⟨f16,d16,dN⟩:=F16.ex
 obtain⟨f17,d17,dI⟩:=F17.ex
 obtain⟨f18,d18,fU⟩:=F18.ex
 obtain⟨f19,d19,c9⟩:=F19.ex
 obtain⟨f20,d20,dg⟩:=F20.ex
 obtain⟨f21,d21,hW⟩:=F21.ex
 obtain⟨f22,d22,gJ⟩:=F22.ex
 obtain⟨f23,d23,cy⟩:=F23.ex
 obtain⟨f24,d24,cw⟩:=F24.ex
 obtain⟨f25,d25,aQ⟩:=F25.ex
 obtain⟨f26,d26,aZ⟩:=F26.ex
 obtain⟨f27,d27,eM⟩:=F27.ex
 obtain⟨f28,d28,eH⟩:=F28.ex
 obtain⟨f29,d29,bz⟩:=F29.ex
 obtain⟨f30,d30,c8⟩:=F30.ex
 obtain⟨f31,d31,fQ⟩:=F31.ex
 obtain⟨f32,d32,nQ⟩:=F32.ex
 obtain⟨f33,d33,bC⟩:=F33.ex
 obtain⟨f34,d34,bZ⟩:=F34.ex
 obtain⟨f35,d35,a9⟩:=F35.ex
 obtain⟨f36,d36,dG⟩:=F36.ex
 obtain⟨f37,d37,dH⟩:=F37.ex
 obtain⟨f38,d38,df⟩:=F38.ex
 obtain⟨f39,d39,cR⟩:=F39.ex
 obtain⟨f40,d40,nY⟩:=F40.ex
 obtain⟨f41,d41,h9⟩:=F41.ex
 obtain⟨f42,d42,dF⟩:=F42.ex
 obtain⟨f43,d43,fO⟩:=F43.ex
 obtain⟨f44,d44,bR⟩:=F44.ex
 obtain⟨f45,d45,gj⟩:=F45.ex
 obtain⟨f46,d46,cx⟩:=F46.ex
 obtain⟨f47,d47,ic⟩:=F47.ex
 obtain⟨f48,d48,gc⟩:=F48.ex
 obtain⟨f49,d49,jJ⟩:=F49.ex
 obtain⟨f50,d50,fV⟩:=F50.ex
 obtain⟨f51,d51,cD,hcode⟩:=F51.ex
 obtain⟨f52,d52,lS⟩:=F52.ex
 obtain⟨f53,d53,bM⟩:=F53.ex
 obtain⟨f54,d54,iS⟩:=F54.ex
 obtain⟨f55,d55,ie⟩:=F55.ex
 obtain⟨f56,d56,bo⟩:=F56.ex
 obtain⟨f57,d57,cS⟩:=F57.ex
 obtain⟨f58,d58,fZ⟩:=F58.ex
 obtain⟨f59,d59,dv⟩:=F59.ex
 have U60:=tX (st:=RQ.oC) l60 c60 k60
 have NI:fq K mg "law" RQ.oC ["script"] fa _:=⟨PySem.W.mg_of X G a60,U60,U60.binds (ps:=["script"]) λ_ _ _ _ _ _=>Bx λ_=>rfl⟩
 obtain⟨ca,hca⟩:∃ca:Str->Addr,True:=⟨λ_=>0,trivial⟩
 refine⟨PySem.W.fnOf "law" "law" (jw RQ.oC) (dw RQ.oC) (ar RQ.oC) .none kV60 dc60 pm60 an60 cd60 ct60,λs v=>.of_eq rfl,λbase _ _ LT=>?_⟩
 have ij:=(RQ.xM (P:=l.prog) (w:=w) (base:=base) (ca:=ca) cL B).imp HV
 have c5:=(RQ.wz (P:=l.prog) (w:=w) (base:=base) (ca:=ca) bJ B ij).imp JI
 have qm:=(RQ.yQ (P:=l.prog) (w:=w) (base:=base) (ca:=ca) jF B ij dM).imp Lj
 have qq:=(RQ.yW (P:=l.prog) (w:=w) (base:=base) (ca:=ca) jK B c5).imp Lg
 have qi:=RQ.yz (P:=l.prog) (w:=w) (base:=base) (ca:=ca) jG B c5
 have b8:=RQ.uo (P:=l.prog) (w:=w) (base:=base) (ca:=ca) aV B
 have tu:=zO (P:=l.prog) (w:=w) (base:=base) (ca:=ca) lC aV B
 have oU:=(RQ.vZ (P:=l.prog) (w:=w) (base:=base) (ca:=ca) hJ B).imp Lo
 have o5:=(RQ.wU (P:=l.prog) (w:=w) (base:=base) (ca:=ca) hX B qm qq tu oU).imp As
 have bg:=(RQ.rW (P:=l.prog) (w:=w) (base:=base) (ca:=ca) aK B o5).imp AS
 have dB:=RQ.kY (P:=l.prog) (w:=w) (base:=base) (ca:=ca) bO B bg c5
 have nH:=RQ.uO (P:=l.prog) (w:=w) (base:=base) (ca:=ca) gf B
 have lD:=RQ.Aq (P:=l.prog) (w:=w) (base:=base) (ca:=ca) eN B
 have k0:=RQ.qS (P:=l.prog) (w:=w) (base:=base) (ca:=ca) dJ B qi lD
 have bu:=RQ.si (P:=l.prog) (w:=w) (base:=base) (ca:=ca) aM B
 have kW:=RQ.qR (P:=l.prog) (w:=w) (base:=base) (ca:=ca) dN B bu
 have k7:=RQ.rn (P:=l.prog) (w:=w) (base:=base) (ca:=ca) dI B bu
 have nM:=RQ.uX (P:=l.prog) (w:=w) (base:=base) (ca:=ca) fU B k7 bu
 have j3:=RQ.ql (P:=l.prog) (w:=w) (base:=base) (ca:=ca) c9 B
 have jZ:=RQ.qh (P:=l.prog) (w:=w) (base:=base) (ca:=ca) dg B lD b8 j3
 have oO:=RQ.xD (P:=l.prog) (w:=w) (base:=base) (ca:=ca) hW B k0
 have me:=RQ.FH (P:=l.prog) (w:=w) (base:=base) (ca:=ca) gJ B bg oO jZ
 have fX:=RQ.uP (P:=l.prog) (w:=w) (base:=base) (ca:=ca) cy B bg
 have fT:=RQ.uw (P:=l.prog) (w:=w) (base:=base) (ca:=ca) cw B dM
 have bN:=RQ.qV (P:=l.prog) (w:=w) (base:=base) (ca:=ca) aQ B fX fT
 have cc:=RQ.qk (P:=l.prog) (w:=w) (base:=base) (ca:=ca) aZ B
 have kG:=RQ.uG (P:=l.prog) (w:=w) (base:=base) (ca:=ca) eM B bN b8 cc
 have kO:=RQ.uR (P:=l.prog) (w:=w) (base:=base) (ca:=ca) eH B bN cc
 have cT:=RQ.pM (P:=l.prog) (w:=w) (base:=base) (ca:=ca) bz B fX dB fT
 have j5:=RQ.qy (P:=l.prog) (w:=w) (base:=base) (ca:=ca) c8 B
 have mj:=RQ.xo (P:=l.prog) (w:=w) (base:=base) (ca:=ca) fQ B cT j5 b8 cc
 have v8:=RQ.CQ (P:=l.prog) (w:=w) (base:=base) (ca:=ca) nQ B
 have cY:=RQ.uM (P:=l.prog) (w:=w) (base:=base) (ca:=ca) bC B me
 have cV:=RQ.zN (P:=l.prog) (w:=w) (base:=base) (ca:=ca) bZ B
 have cn:=RQ.uc (P:=l.prog) (w:=w) (base:=base) (ca:=ca) a9 B
 have k9:=RQ.q8 (P:=l.prog) (w:=w) (base:=base) (ca:=ca) dG B bN cY cV cn
 have k6:=RQ.rh (P:=l.prog) (w:=w) (base:=base) (ca:=ca) dH B bN cY cV cn
 have j8:=RQ.qd (P:=l.prog) (w:=w) (base:=base) (ca:=ca) df B v8 cn
 have i9:=RQ.pz (P:=l.prog) (w:=w) (base:=base) (ca:=ca) cR B cT cY j8 cV
 have wK:=RQ.Cv (P:=l.prog) (w:=w) (base:=base) (ca:=ca) nY B bg b8 nH
 have oR:=RQ.xH (P:=l.prog) (w:=w) (base:=base) (ca:=ca) h9 B
 have lh:=RQ.qY (P:=l.prog) (w:=w) (base:=base) (ca:=ca) dF B wK oR
 have mD:=RQ.wD (P:=l.prog) (w:=w) (base:=base) (ca:=ca) fO B
 have dA:=RQ.wC (P:=l.prog) (w:=w) (base:=base) (ca:=ca) bR B bu
 have nk:=RQ.uI (P:=l.prog) (w:=w) (base:=base) (ca:=ca) gj B dA
 have gk:=RQ.va (P:=l.prog) (w:=w) (base:=base) (ca:=ca) cx B dA
 have oP:=RQ.wB (P:=l.prog) (w:=w) (base:=base) (ca:=ca) ic B dA bu
 have nC:=RQ.u7 (P:=l.prog) (w:=w) (base:=base) (ca:=ca) gc B mD
 have nt:=RQ.u5 (P:=l.prog) (w:=w) (base:=base) (ca:=ca) fV B gk
 have j6:=y1 (T:=T) (P:=l.prog) (w:=w) (base:=base) (ca:=ca) (j:=7) cD (λk F' hk h=>RQ.xG (@AT) cD B hcode LT (RQ.zp (@AT) jJ B h gk nC oP) nk nM nt) 40
 have rS:=RQ.CU (P:=l.prog) (w:=w) (base:=base) (ca:=ca) lS B kW j6 lh
 have c4:=RQ.qX (P:=l.prog) (w:=w) (base:=base) (ca:=ca) bM B bg rS
 have nK:=RQ.AU (P:=l.prog) (w:=w) (base:=base) (ca:=ca) iS B c4
 have oY:=RQ.xt (P:=l.prog) (w:=w) (base:=base) (ca:=ca) ie B
 have cK:=RQ.uH (P:=l.prog) (w:=w) (base:=base) bo B
 have ja:=RQ.pA (P:=l.prog) (w:=w) (base:=base) cS B cK
 have nG:=RQ.u9 (P:=l.prog) (w:=w) (base:=base) (ca:=ca) fZ B
 have jA:=RQ.sU (P:=l.prog) (w:=w) (base:=base) (ca:=ca) dv B nG cK ja
 have NZ:=RQ.Ji (P:=l.prog) (w:=w) (base:=base) (ca:=ca) NI B oY c4 nK kG mj kO me k9 k6 i9 jA cK
 exact gp.imp (sp:=spT T K ca 1 LV) NZ KY
def walk {l:PySem.W.OpenLaw}{q:Program}{loose:@Id}{XP:(@Fr)->Heap->Prop}{YP:World->Heap->Prop}{d:DefRec}{K:Params->Frag}(hn:l.most=some 63)(hdf:d.params.defaults= [])(hi:PyProof.Rows.importsNone q=true)
  {T c:Addr} (hY:∀(w:World) (h:Heap),YP w h->(K w.params).In h) (hYT:∀(w:World) (h:Heap),YP w h->h.get? T=some (PySem.W.tabObj #[])) (hKT:∀p,(K p).lookup T=none) (hcd:∀p,PySem.W.codeHdIn (K p) c T=true)
  (F:∀(w:World) (mg:@Fr) (fa:Addr) (h:Heap),(K w.params).In h->h.Ns mainGlobals mg->mg d.name=some (.ref fa)->
   ∃fd:FuncData,(∀(s:Shared) (u:Value),BindsTo s fd ⟨[u],[]⟩ [("script",u)])/\∀base:Heap,(K w.params).In base->base.Ns mainGlobals mg->DE mg base c T->gp l.prog w (K w.params) mg base (qv l.prog w) 91 fa fd ["script"] (wt T (K w.params))) :
  PySem.W.WalkO q loose XP YP l.row.toRowW d [] (λf vs=>PySem.call f vs):=
 L2.Eo (n:=63) (k:=91) hn @E_ hdf hi ⟨rfl,by decide,by decide,rfl⟩ hY hYT hKT hcd F
end RO
namespace HD
noncomputable def vw:PySem.Program:=PySem.W.view PySem.Challenge.pw_rowsorder_k65_whole_fewest_of_builds [1,2,3,4,5,6,7,9,10,11,12,13,15,16,17,18,19,20,22,23,24,25,26,27,28,29,30,31,33,34,35,36,37,38,39,40,41,42,43,44,45,46,47,48,49,51,52,53,54,55,56,57,58,59,61,62,63,64,65,66,68,69,70,71,72,73]
def OC:PySem.Challenge.rw_rowsorder_k65_whole_fewest_of_builds.wellSaid=true:=by kernel_rfl
end HD
local macro_rules | `(tactic|o_head $H)=>`(tactic| (
 refine PySem.W.holds_open (q:=HD.vw) (loose:=[]) (Xt:=λs=>PySem.W.xlAt HD.vw [] s && PySem.W.recOk (PySem.W.RowW.records _) s) (XP:=PySem.W.XL HD.vw []) (Yf:=PySem.W.Hook.obs $H) (Ya:=PySem.W.Hook.val $H) (YP:=PySem.W.Hook.says $H) (N:=5810) ?hl (PySem.W.Hook.of $H) (PySem.W.Hook.keeps $H) (λs e=>PySem.W.xl_of s (Bool.and_eq_true_iff.mp e).1) PySem.W.XL.keeps (by rfl) (by rfl) (by rfl) (λs e=>PySem.W.recFacts_of (Bool.and_eq_true_iff.mp e).2) (by rfl) (by first |assumption |decide +kernel) (@FS) ⟨rfl,rfl,rfl,rfl,rfl,@FS ⟩ ?hw ?hc
 case hl=>exact HD.Jg (by kernel_rfl) (by kernel_rfl) (λs=>by kernel_rfl) (λw os=>by kernel_rfl)))
open PySem PySem.W PyProof.Rows L2
set_option maxRecDepth 100000 in
set_option maxHeartbeats 0 in
theorem PySem.Challenge.cw_rowsorder_k65_whole_fewest_of_builds_holds : PySem.Challenge.rw_rowsorder_k65_whole_fewest_of_builds.Holds := by
 w_on;(refine holds_law HD.OC λOC=>?_);k_head;(case hw=>w_witness2)
 k_fill
 refine RO.walk (l:=PySem.Challenge.rw_rowsorder_k65_whole_fewest_of_builds) (c:=390) (T:=388) rfl rfl ?hi (λw h Y=>PySem.W.km_in_of Y) (λw h Y=>PySem.W.km_tabs_of Y _ (Ro ..)) ?hKT ?hcd ?F
 case hi=>kernel_rfl
 case hKT=>exact λp=>by kernel_rfl
 case hcd=>exact λp=>by kernel_rfl
 case F=>
  intro w mg fa h KX G hmg
  refine' RO.all_mk KX G hmg ?F1 ?F2 ?F3 ?F4 ?F5 ?F6 ?F7 ?F8 ?F9 ?F10 ?F11 ?F12 ?F13 ?F14 ?F15 ?F16 ?F17 ?F18 ?F19 ?F20 ?F21 ?F22 ?F23 ?F24 ?F25 ?F26 ?F27 ?F28 ?F29 ?F30 ?F31 ?F32 ?F33 ?F34 ?F35 ?F36 ?F37 ?F38 ?F39 ?F40 ?F41 ?F42 ?F43 ?F44 ?F45 ?F46 ?F47 ?F48 ?F49 ?F50 ?F51 ?F52 ?F53 ?F54 ?F55 ?F56 ?F57 ?F58 ?F59 ?a60 ?l60 ?c60 ?k60 ?zB ?yMOST_THINGS
  case F1=>refine' bc KX G RO.Am ?a ?l ?c ?k;(case a=>k_is);(case l=>k_is);(case c=>k_is);(case k=>k_is)
  case F2=>refine' bc KX G RO.AL ?a ?l ?c ?k;(case a=>k_is);(case l=>k_is);(case c=>k_is);(case k=>k_is)
  case F3=>refine' bc KX G RO.DJ ?a ?l ?c ?k;(case a=>k_is);(case l=>k_is);(case c=>k_is);(case k=>k_is)
  case F4=>refine' bc KX G RO.Dc ?a ?l ?c ?k;(case a=>k_is);(case l=>k_is);(case c=>k_is);(case k=>k_is)
  case F5=>refine' bc KX G RO.Dz ?a ?l ?c ?k;(case a=>k_is);(case l=>k_is);(case c=>k_is);(case k=>k_is)
  case F6=>refine' bc KX G RO.xQ ?a ?l ?c ?k;(case a=>k_is);(case l=>k_is);(case c=>k_is);(case k=>k_is)
  case F7=>refine' bc KX G RO.EZ ?a ?l ?c ?k;(case a=>k_is);(case l=>k_is);(case c=>k_is);(case k=>k_is)
  case F8=>refine' bc KX G RO.AX ?a ?l ?c ?k;(case a=>k_is);(case l=>k_is);(case c=>k_is);(case k=>k_is)
  case F9=>refine' bc KX G RO.zH ?a ?l ?c ?k;(case a=>k_is);(case l=>k_is);(case c=>k_is);(case k=>k_is)
  case F10=>refine' bc KX G RO.xr ?a ?l ?c ?k;(case a=>k_is);(case l=>k_is);(case c=>k_is);(case k=>k_is)
  case F11=>refine' bc KX G RO.mF ?a ?l ?c ?k;(case a=>k_is);(case l=>k_is);(case c=>k_is);(case k=>k_is)
  case F12=>refine' bc KX G RO.zl ?a ?l ?c ?k;(case a=>k_is);(case l=>k_is);(case c=>k_is);(case k=>k_is)
  case F13=>refine' bc KX G RO.D7 ?a ?l ?c ?k;(case a=>k_is);(case l=>k_is);(case c=>k_is);(case k=>k_is)
  case F14=>refine' bc KX G RO.uB ?a ?l ?c ?k;(case a=>k_is);(case l=>k_is);(case c=>k_is);(case k=>k_is)
  case F15=>refine' bc KX G RO.wb ?a ?l ?c ?k;(case a=>k_is);(case l=>k_is);(case c=>k_is);(case k=>k_is)
  case F16=>refine' bc KX G RO.uU ?a ?l ?c ?k;(case a=>k_is);(case l=>k_is);(case c=>k_is);(case k=>k_is)
  case F17=>refine' bc KX G RO.uN ?a ?l ?c ?k;(case a=>k_is);(case l=>k_is);(case c=>k_is);(case k=>k_is)
  case F18=>refine' bc KX G RO.xX ?a ?l ?c ?k;(case a=>k_is);(case l=>k_is);(case c=>k_is);(case k=>k_is)
  case F19=>refine' bc KX G RO.tO ?a ?l ?c ?k;(case a=>k_is);(case l=>k_is);(case c=>k_is);(case k=>k_is)
  case F20=>refine' bc KX G RO.ui ?a ?l ?c ?k;(case a=>k_is);(case l=>k_is);(case c=>k_is);(case k=>k_is)
  case F21=>refine' bc KX G RO.A2 ?a ?l ?c ?k;(case a=>k_is);(case l=>k_is);(case c=>k_is);(case k=>k_is)
  case F22=>refine' bc KX G RO.LN ?a ?l ?c ?k;(case a=>k_is);(case l=>k_is);(case c=>k_is);(case k=>k_is)
  case F23=>refine' bc KX G RO.yj ?a ?l ?c ?k;(case a=>k_is);(case l=>k_is);(case c=>k_is);(case k=>k_is)
  case F24=>refine' bc KX G RO.y0 ?a ?l ?c ?k;(case a=>k_is);(case l=>k_is);(case c=>k_is);(case k=>k_is)
  case F25=>refine' bc KX G RO.uV ?a ?l ?c ?k;(case a=>k_is);(case l=>k_is);(case c=>k_is);(case k=>k_is)
  case F26=>refine' bc KX G RO.r0 ?a ?l ?c ?k;(case a=>k_is);(case l=>k_is);(case c=>k_is);(case k=>k_is)
  case F27=>refine' bc KX G RO.zg ?a ?l ?c ?k;(case a=>k_is);(case l=>k_is);(case c=>k_is);(case k=>k_is)
  case F28=>refine' bc KX G RO.yN ?a ?l ?c ?k;(case a=>k_is);(case l=>k_is);(case c=>k_is);(case k=>k_is)
  case F29=>refine' bc KX G RO.rg ?a ?l ?c ?k;(case a=>k_is);(case l=>k_is);(case c=>k_is);(case k=>k_is)
  case F30=>refine' bc KX G RO.tL ?a ?l ?c ?k;(case a=>k_is);(case l=>k_is);(case c=>k_is);(case k=>k_is)
  case F31=>refine' bc KX G RO.Ba ?a ?l ?c ?k;(case a=>k_is);(case l=>k_is);(case c=>k_is);(case k=>k_is)
  case F32=>refine' bc KX G RO.Ho ?a ?l ?c ?k;(case a=>k_is);(case l=>k_is);(case c=>k_is);(case k=>k_is)
  case F33=>refine' bc KX G RO.yf ?a ?l ?c ?k;(case a=>k_is);(case l=>k_is);(case c=>k_is);(case k=>k_is)
  case F34=>refine' bc KX G RO.Fp ?a ?l ?c ?k;(case a=>k_is);(case l=>k_is);(case c=>k_is);(case k=>k_is)
  case F35=>refine' bc KX G RO.xI ?a ?l ?c ?k;(case a=>k_is);(case l=>k_is);(case c=>k_is);(case k=>k_is)
  case F36=>refine' bc KX G RO.ux ?a ?l ?c ?k;(case a=>k_is);(case l=>k_is);(case c=>k_is);(case k=>k_is)
  case F37=>refine' bc KX G RO.uJ ?a ?l ?c ?k;(case a=>k_is);(case l=>k_is);(case c=>k_is);(case k=>k_is)
  case F38=>refine' bc KX G RO.t7 ?a ?l ?c ?k;(case a=>k_is);(case l=>k_is);(case c=>k_is);(case k=>k_is)
  case F39=>refine' bc KX G RO.rl ?a ?l ?c ?k;(case a=>k_is);(case l=>k_is);(case c=>k_is);(case k=>k_is)
  case F40=>refine' bc KX G RO.JB ?a ?l ?c ?k;(case a=>k_is);(case l=>k_is);(case c=>k_is);(case k=>k_is)
  case F41=>refine' bc KX G RO.A0 ?a ?l ?c ?k;(case a=>k_is);(case l=>k_is);(case c=>k_is);(case k=>k_is)
  case F42=>refine' bc KX G RO.uL ?a ?l ?c ?k;(case a=>k_is);(case l=>k_is);(case c=>k_is);(case k=>k_is)
  case F43=>refine' bc KX G RO.A9 ?a ?l ?c ?k;(case a=>k_is);(case l=>k_is);(case c=>k_is);(case k=>k_is)
  case F44=>refine' bc KX G RO.AQ ?a ?l ?c ?k;(case a=>k_is);(case l=>k_is);(case c=>k_is);(case k=>k_is)
  case F45=>refine' bc KX G RO.yA ?a ?l ?c ?k;(case a=>k_is);(case l=>k_is);(case c=>k_is);(case k=>k_is)
  case F46=>refine' bc KX G RO.xZ ?a ?l ?c ?k;(case a=>k_is);(case l=>k_is);(case c=>k_is);(case k=>k_is)
  case F47=>refine' bc KX G RO.zW ?a ?l ?c ?k;(case a=>k_is);(case l=>k_is);(case c=>k_is);(case k=>k_is)
  case F48=>refine' bc KX G RO.yi ?a ?l ?c ?k;(case a=>k_is);(case l=>k_is);(case c=>k_is);(case k=>k_is)
  case F49=>refine' bc KX G RO.Ds ?a ?l ?c ?k;(case a=>k_is);(case l=>k_is);(case c=>k_is);(case k=>k_is)
  case F50=>refine' bc KX G RO.zm ?a ?l ?c ?k;(case a=>k_is);(case l=>k_is);(case c=>k_is);(case k=>k_is)
  case F51=>refine' Mq KX G RO.AE ?a ?l ?c ?k;(case a=>k_is);(case l=>k_is);(case c=>k_is);(case k=>k_is)
  case F52=>refine' bc KX G RO.IH ?a ?l ?c ?k;(case a=>k_is);(case l=>k_is);(case c=>k_is);(case k=>k_is)
  case F53=>refine' bc KX G RO.uS ?a ?l ?c ?k;(case a=>k_is);(case l=>k_is);(case c=>k_is);(case k=>k_is)
  case F54=>refine' bc KX G RO.E9 ?a ?l ?c ?k;(case a=>k_is);(case l=>k_is);(case c=>k_is);(case k=>k_is)
  case F55=>refine' bc KX G RO.Ag ?a ?l ?c ?k;(case a=>k_is);(case l=>k_is);(case c=>k_is);(case k=>k_is)
  case F56=>refine' bc KX G RO.yX ?a ?l ?c ?k;(case a=>k_is);(case l=>k_is);(case c=>k_is);(case k=>k_is)
  case F57=>refine' bc KX G RO.qW ?a ?l ?c ?k;(case a=>k_is);(case l=>k_is);(case c=>k_is);(case k=>k_is)
  case F58=>refine' bc KX G RO.yg ?a ?l ?c ?k;(case a=>k_is);(case l=>k_is);(case c=>k_is);(case k=>k_is)
  case F59=>refine' bc KX G RO.xu ?a ?l ?c ?k;(case a=>k_is);(case l=>k_is);(case c=>k_is);(case k=>k_is)
  case a60=>k_is
  case l60=>k_is
  case c60=>k_is
  case k60=>k_is
  case zB=>kernel_rfl
  case yMOST_THINGS=>k_is
end
