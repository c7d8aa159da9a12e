import PyProof.Rows.All
import KE.RegKIsAll
import KE.KSortTup
import KE.KDictOf
import KE.KFromBytes
import KE.KStateDown
import Wide.FinOn
import PySem.Challenge.RW_rowsorder_k26_what_are_no_turns
set_option Elab.async false
set_option linter.all false
set_option maxRecDepth 100000
set_option maxHeartbeats 1000000
set_option hygiene false
local macro_rules|`(@AC)=>`(⟨rfl,rfl,rfl,by decide +kernel,rfl,by decide +kernel,by decide +kernel⟩)|`(@AT)=>`(by omega)|`(@At)=>`(Inv X pins σ H s)|`(@A_)=>`((by decide))|`(@B_)=>`(by decide +kernel)|`(@Ch)=>`(Value->Shared->Prop)|`(@Cl)=>`((cst (.int 0)))|`(@C_)=>`((λ_ _=>rfl))|`(@Db)=>`(List (Addr×Obj))|`(@Do)=>`(List Pr)|`(@D_)=>`((model X.prog X.w))|`(@EQ)=>`((cst (.int 1)))|`(@Ev)=>`(([] ++ []))|`(@E_)=>`((.list (ms.map int)))|`(@FM)=>`((x == ("__debug__":Str))=false)|`(@FS)=>`((.list (ps.map ao)))|`(@Fa)=>`(Str->Option Value)|`(@Fk)=>`(List D->FR)|`(@Fr)=>`(envOfC qual scope s0.heap.objs.size f cd)|`(@F_)=>`((hr.mono @A_))|`(@GM)=>`(List Value)|`(@GT)=>`(.fz (aA n l))|`(@Go)=>`((by simp))|`(@G_)=>`(SR Γ B G H σ env β)|`(@H_)=>`([@GT,.fz (.list (put.map ao)),.fz (ao t),.ow (.list (ph.map pD)),.fz (.list (left.map ao)),.fz (.int ((k:Nat):Int)),s6])|`(@IN)=>`(.fz (cQ n (bD l)))|`(@IO)=>`(List Nat)|`(@IR)=>`((jW X NB scope C ex s3 H3 pn))|`(@Id)=>`(λ_ _ _ _ _ _=>ln2 λ_ _=>rfl)|`(@Is)=>`((aa (gv 0) af))
local macro_rules|`(@Ix)=>`((.int n))|`(@I_)=>`(by kernel_rfl)|`(@J_)=>`(Option Addr)|`(@KB)=>`((aM 2 [5,4] (.two 0 1) (bC (gv 1)) (cm (f2 (gv 0) (gv 2) (cv false))) (aQ (aa (gv 3) (aa (gv 1) af)))))|`(@KF)=>`(List Int)|`(@KK)=>`(List Str)|`(@KM)=>`(List V->Hp->VK->Prop)|`(@K_)=>`(.fz (.list (rows.map tupI)))|`(@LE)=>`(.ref s.heap.objs.size)|`(@LT)=>`(X.fn x=true\/X.env.scope.names.lookup x=some .local)|`(@L_)=>`((aa (gv 1) af))|`(@M2)=>`([Nv.bx,.da (.int most),.da @Ix,.da @E_,.da (.int th),.da (.list (qs.map ao)),.da (.int (0 + (i:Int))),.da (.int (0 + (i:Int) + 1 + (k:Int)))])|`(@M_)=>`(X.env.cells.lookup x=some c)|`(@NE)=>`(model prog w)|`(@No)=>`((aa (aQ (aa @Cl (aa @Cl af))) (aa (aQ (aa @Cl (aa (gv 5) af))) (aa (aQ (aa (cst (.int (-1))) (aa @Cl af))) (aa (aQ (aa @Cl af)) (aa (bt (aa @Cl (aa @EQ af))) (aa (aQ (aa @Cl (aa @EQ (aa (cst (.int 2)) af)))) (aa (cst .none) (aa (cst (.str "01")) (aa (aQ (aa @Cl (aa (cst .none) af))) (aa (aQ (aa (cst (.bool true)) (aa (cst (.bool false)) af))) (aa (aQ (aa (aQ (aa @Cl (aa @EQ af))) af)) af))))))))))))|`(@N_)=>`((.ListComp elt [⟨tg,iter,ifs,0⟩] scope pos))|`(@On)=>`(List (List Key×V))|`(@Os)=>`(D->Option D)|`(@O_)=>`(starEach (e :: es) X.env=(false,eval e X.env) :: starEach es X.env)|`(@PP)=>`(λds h=>aP ds h)|`(@Pi)=>`(VF (List D))|`(@Ps)=>`((vl env))|`(@P_)=>`(by rw[rD] at h;cases h)|`(@Q_)=>`(St->Hp->Prop)|`(@Re)=>`(SE X Γ E a fa La ma)|`(@Rs)=>`(Shared->Prop)|`(@R_)=>`((l.map ao))|`(@SB)=>`((l7 (o5 P w) P w K mg base N qual scope f cd A outer s0 H0 E))|`(@SC)=>`(.fz (.list (late.map int)))|`(@SJ)=>`(λ_ _ _ _ _ _=>yK λ_=>rfl)
local macro_rules|`(@SK)=>`((ba aO bK (ag 0) ar @C_))|`(@SL)=>`(.fz (mI (dD r) n))|`(@SM)=>`([.fz @Ix,@K_,.ow (.list ((upTo n (mY rows) i k).map ao)),.fz (.int i),.fz (.int k),.fz (.list (L.map λ_=>int 1))])|`(@SN)=>`(List D->Int->FB)|`(@SQ)=>`(.list (ns.map int))|`(@SU)=>`({cls:=.type "range",data:=.fields #[.int lo t,.int hi u,.int 1 v]})|`(@SV)=>`({cls:=.type "set",dict:=none,data:=.set #[] 0 (.fresh 0 0 (kM w))})|`(@SW)=>`({cls:=.type "AttributeError",data:=.fields (#[.ref h.objs.size,.none,.none,.none,.bool false,.none] ++ ownMembersOf (.type "AttributeError") [Value.str msg t])})|`(@SX)=>`((a8 L env))|`(@SY)=>`((env :: outer))|`(@SZ)=>`(.list (((eB n).filter λx=>lM l t.1 x).map int))|`(@Sc)=>`(cellsFrom (s.heap.objs.size + 1) scope.names [])|`(@S0)=>`((i:Int))|`(@S1)=>`((0<=p.1/\p.1 < n)/\(0<=p.2/\p.2 < n))|`(@S2)=>`((.ref a))|`(@S3)=>`((.int i))|`(@S4)=>`((false,eval a X.env))|`(@S5)=>`((by with_unfolding_all rfl))|`(@S6)=>`([.type "ValueError",.type "Exception",.type "BaseException",.type "object"])|`(@S7)=>`(envOfC qual scope s.heap.objs.size f cd)|`(@S8)=>`(OM.Ord n l)|`(@S9)=>`({cls:=.type "list",data:=.seq its.toArray n})|`(@S_)=>`((backToKw cpos (keywordEach [] X.env)).all (λx=>x.1.isSome))|`(@TB)=>`((f2 (gv 0) @Cl bu))|`(@TF)=>`((x == ("__classdict__":Str))=false)|`(@TH)=>`(List Expr)|`(@TJ)=>`(.fz (.list (put.map ao)))|`(@TK)=>`(Option Int)|`(@TM)=>`(Or.inl rfl)|`(@TN)=>`([.da @FS,.da (.list @R_),.da (.int (l.length:Nat)),.da (.list (((l.take (0 + i)).flatMap (yO l)).map ao)),.da (.int p.1),.da (.int p.2)])
local macro_rules|`(@TQ)=>`(if b=true then te σ3 H4 λv H5=>∃acc,H5 D=some (.lst acc)/\acc.length < sizeLine/\N σ3 (upd H5 D (.lst (acc ++ [v]))) else N σ3 H4)|`(@TR)=>`(List.range n)|`(@TU)=>`(.bool true)|`(@TV)=>`((OM.Mem ps))|`(@TW)=>`((.Name x np))|`(@TX)=>`(fa vs β)|`(@TY)=>`(([] ++ @Ev))|`(@TZ)=>`((aa (cst .none) (aa (cst (@TU)) (aa (cst (.bool false)) (aa (cst (.int (-1))) (aa @Cl (aa @EQ (aa (cst (.str "")) (aa (cst (.str "1")) (aa (aQ af) (aa (bt af) (aa (aQ (aa @Cl af)) (aa (aQ (aa @EQ (aa (aQ af) af))) (aa (bt (aa @Cl af)) af))))))))))))))|`(@Ta)=>`((if ([]:List Keyword).isEmpty then 0 else 1))|`(@Tc)=>`((fA (f2 (aQ (aa (gv 1) (aa (gv 2) af))) (f2 (gv 0) @EQ bu) (pB true)) (f2 (aQ (aa (gv 2) @L_)) (f2 (gv 0) @EQ bu) (pB true))))|`(@Td)=>`(cI K G xs ds)|`(@Te)=>`((aa (gv 4) af))|`(@Tf)=>`((cst (.int 2)))|`(@Ti)=>`(λd β'=>∀v G' H',SR Γ B G' H' σ @SX β'->av G G'->i3 B H H'->VO Γ.K B H G' H' (if wv=true then .w else .v) d v->Q v H')|`(@Tj)=>`((.ref D))|`(@Tk)=>`((by rfl))|`(@Tl)=>`(["thing"])
def Pl:=@PySem.wpAny_bind
def Pn:=@List.getElem?_eq_getElem
def Po:=@if_pos
def Pp:=@PySem.wpAny_pure
def Pq:=@PySem.Heap.get?_push_of_some
def Pt:=@Nat.le_refl
def Pu:=@List.mem_cons
def Pw:=@List.mem_cons_of_mem
def Px:=@if_neg
def Py:=@List.length_map
def Pz:=@List.mem_cons_self
def PB:=@PySem.Heap.lt_size
def PD:=@List.mem_map
def PF:=@decide_eq_true
def PH:=@List.mem_filter
def PJ:=@List.size_toArray
def PK:=@List.getElem?_map
def PL:=@decide_eq_true_eq
def PM:=@Bool.and_eq_true
def PN:=@List.getElem?_eq_some_iff
def PQ:=@List.mem_append
def PR:=@Bool.false_ne_true
def PU:=@decide_eq_false
def PV:=@List.mem_of_getElem?
def PX:=@PySem.Heap.get?_push_size
def PY:=@List.getElem?_set_self
def PZ:=@List.getElem?_set_ne
def P0:=@Bool.false_eq_true
def P4:=@List.mem_range
def P5:=@List.length_append
def P6:=@List.mem_singleton
def P7:=@List.length_cons
def P8:=@List.map_cons
def P9:=@List.getD_eq_getElem?_getD
def Qa:=@Nat.lt_of_lt_of_le
def Qb:=@List.getElem?_append_left
def Qc:=@PySem.sizeLine_eq
def Qd:=@Array.getElem?_eq_getElem
def Qe:=@Nat.lt_irrefl
def Qf:=@List.getElem?_append_right
def Qg:=@Nat.ne_of_lt
def Qh:=@List.nodup_cons
def Qi:=@List.mem_append_right
def Qj:=@Int.toNat_natCast
def Qk:=@List.map_append
def Ql:=@List.mem_iff_getElem
def Qm:=@List.all_eq_true
def Qn:=@Bool.eq_iff_iff
def Qo:=@Array.getD_eq_getD_getElem?
def Qp:=@Nat.zero_le
def Qq:=@if_false
def Qr:=@List.length_filter_le
def Qs:=@PySem.W.mg_of
def Qt:=@Nat.zero_add
def Qu:=@PySem.W.kia_one
def Qv:=@List.pairwise_map
def Qw:=@PySem.Heap.get?_update_self
def Qx:=@List.length_take
def Qy:=@Array.getElem?_eq_some_iff
def Qz:=@List.not_mem_nil
def QA:=@Nat.le_trans
def QB:=@PySem.wpAny_setState_of
def QC:=@if_true
def QD:=@PySem.Heap.get?_update_other
def QE:=@List.map_map
def QF:=@PySem.wpAny_newObj_type
def QG:=@Bool.not_eq_true'
def QH:=@PyProof.Rows.slot_tuple_getitem
def QI:=@PySem.wpAny_holding
def QJ:=@Nat.lt_or_ge
def QK:=@decide_eq_decide
def QL:=@PySem.mem_of_lookup
def QM:=@List.replicate_succ
def QN:=@List.append_assoc
def QO:=@List.length_range
def QP:=@List.Pairwise.imp_of_mem
def QQ:=@List.length_set
def QR:=@List.mem_append_left
def QS:=@PySem.wpAny_mono
def QT:=@Int.zero_add
def QU:=@List.nodup_iff_pairwise_ne
def QV:=@Nat.mul_le_mul
def QW:=@PySem.boot_len
def QX:=@PySem.wpAny_truthy_bool
def QY:=@Bool.or_eq_true
def QZ:=@List.getElem?_eq_none
def Q0:=@List.getElem_mem
def Q4:=@List.any_cons
def Q5:=@PySem.Around.under_plainId
def Q6:=@PySem.Heap.size_push
def Q7:=@List.getElem?_replicate
def Q8:=@PySem.F.plainAttrs_list
def Q9:=@decide_eq_false_iff_not
def Ra:=@List.toList_toArray
def Rb:=@List.map_congr_left
def Rf:=@List.take_of_length_le
def Rg:=@PySem.SeqAt.canLay_of_shaped
def Rh:=@List.mem_filterMap
def Ri:=@List.length_replicate
def Rj:=@List.length_singleton
def Rk:=@Array.getElem?_toList
def Rl:=@List.append_nil
def Rm:=@Option.isSome_iff_exists
def Rn:=@PySem.codeAny_builtin
def Ro:=@List.idxOf_lt_length_iff
def Rq:=@List.set_eq_of_length_le
def Rt:=@List.eq_of_mem_replicate
def Ru:=@PySem.Value.isInt_shape
def Rv:=@List.flatten_cons
def Rw:=@PySem.wpAny_call_entry
def Rx:=@List.nodup_range
def Ry:=@PySem.isSubtype_type
def Rz:=@List.lookup_cons
def RA:=@PyProof.Rows.callWith_type1
def RB:=@PySem.wpAny_typeOf
def RC:=@PyProof.Rows.F.plain_set_update_loop
def RD:=@PySem.wpAny_passesOwn
def RE:=@List.foldl_cons
def RF:=@or_false
def RG:=@PySem.wpAny_pyIter_list
def RH:=@List.take_add_one
def RJ:=@Array.mem_toList_iff
def RK:=@List.pairwise_iff_getElem
def RL:=@List.mem_of_mem_take
def RN:=@List.nodup_nil
def RP:=@Nat.lt_trans
def RS:=@List.length_erase_of_mem
def RT:=@PySem.F.called_set
def RU:=@PySem.F.slot_list_getattribute
def RW:=@Array.length_toList
def RX:=@List.getElem?_range
def RY:=@PySem.wpAny_callSpecial?_slot
def RZ:=@Bool.not_true
def R0:=@Bool.and_self
def R1:=@PySem.call_meets
def R3:=@List.find?_cons
def R4:=@PySem.W.cellsFrom_some
def R5:=@Array.getElem?_eq_none
def R6:=@List.filter_congr
def R7:=@of_decide_eq_true
def R8:=@List.nodup_append
def R9:=@Nat.le_of_lt
def Sa:=@PySem.codeAny_mono
def Sb:=@List.getElem?_toArray
def Sd:=@PySem.builtinLookup_eq_fast
def Se:=@PySem.wpAny_setField
def Sf:=@List.mem_iff_getElem?
def Sg:=@PySem.wpAny_askSetting
def Sh:=@Nat.eq_of_testBit_eq
def Si:=@PySem.plainId_quiet
def Sj:=@PySem.wpAny_field
def Sk:=@beq_eq_false_iff_ne
def Sn:=@List.filterMap_cons
def So:=@Array.toList_append
def Sr:=@PySem.wpAny_execs_nil
def Ss:=@List.length_nil
def Su:=@List.getLast?_eq_getElem?
def Sv:=@PySem.wpAny_Call_Name_kw
def Sw:=@List.getElem_idxOf
def Sx:=@PySem.tupleKind_room_in1
def Sy:=@Nat.lt_trichotomy
def Sz:=@Array.getElem_mem
def SD:=@List.ext_getElem?
def SH:=@List.idxOf_append
open List (of_mem_zip nil_append all_cons set_set)
open PySem.W (Frag)
open PySem.PyData (int)
section
set_option Elab.async false
namespace L2
open PySem PySem.Spec PyProof.Rows
abbrev Key:=Sum Int Str
def uB:Key->Value->Bool
 | .inl k,v=>Value.isInt k v
 | .inr x,v=>Value.isStrOf x v
def Oh (w:World):Key->Int
 | .inl k=>hashInt k
 | .inr x=>hashStr w x
theorem cz:∀{k:Key} {v:Value},uB k v=true->(∃i t,k=Sum.inl i/\v=Value.int i t)\/(∃x t,k=Sum.inr x/\v=Value.str x t)
 | .inl i,v,h=>by
  obtain⟨t,e⟩:=Ru (k:=i) (v:=v) h
  exact .inl ⟨i,t,rfl,e⟩
 | .inr x,v,h=>by
  obtain⟨t,e⟩:=Value.isStrOf_shape (x:=x) (v:=v) h
  exact .inr ⟨x,t,rfl,e⟩
def CJ (i:Int)(t:Tok):uB (.inl i) (.int i t)=true:=by simp[uB,Value.isInt]
def C1 (x:Str)(t:Tok):uB (.inr x) (.str x t)=true:=by simp[uB,Value.isStrOf]
def KD (a b:Int):decide ((Sum.inl a:Key)=Sum.inl b)=(a == b):=by
 by_cases e:a=b
 ·subst e;simp
 ·have h:¬(Sum.inl a:Key)=Sum.inl b:=λq=>e (Sum.inl.inj q)
  rw[PU h]
  exact (Sk.mpr e).symm
def K1 (a b:Str):decide ((Sum.inr a:Key)=Sum.inr b)=decide (a=b):=by
 by_cases e:a=b
 ·subst e;simp
 ·have h:¬(Sum.inr a:Key)=Sum.inr b:=λq=>e (Sum.inr.inj q)
  rw[PU h,PU e]
def Jh (a:Int)(b:Str):decide ((Sum.inl a:Key)=Sum.inr b)=false:=PU (λq=>nomatch q)
def KS (a:Str)(b:Int):decide ((Sum.inr a:Key)=Sum.inl b)=false:=PU (λq=>nomatch q)
def bQ (prog:Program)(w:World):PySem.KeyKind prog w Key where
 is:=uB
 hash:=Oh w
 inj:=λv a b ha hb=>by
  rcases cz ha with⟨i,t,rfl,rfl⟩ | ⟨x,t,rfl,rfl⟩
  ·rcases cz hb with⟨j,u,rfl,e⟩ | ⟨y,u,rfl,e⟩
   ·injection e with e1 _;rw[e1]
   ·exact nomatch e
  ·rcases cz hb with⟨j,u,rfl,e⟩ | ⟨y,u,rfl,e⟩
   ·exact nomatch e
   ·injection e with e1 _;rw[e1]
 byValue:=λk v h=>by
  rcases cz h with⟨i,t,rfl,rfl⟩ | ⟨x,t,rfl,rfl⟩ <;> rfl
 pyHash:=λhv h=>by
  rcases cz hv with⟨i,t,rfl,rfl⟩ | ⟨x,t,rfl,rfl⟩
  ·exact wpAny_pyHash_int h
  ·exact wpAny_pyHash_str h
 eqBool:=λhu hv h=>by
  rcases cz hu with⟨i,t,rfl,rfl⟩ | ⟨x,t,rfl,rfl⟩
  ·rcases cz hv with⟨j,u,rfl,rfl⟩ | ⟨y,u,rfl,rfl⟩
   ·rw[KD] at h;exact wpAny_eqBool_int h
   ·rw[Jh] at h;exact SeqAt.EqAt.int_str i t y u _ _ _ _ h
  ·rcases cz hv with⟨j,u,rfl,rfl⟩ | ⟨y,u,rfl,rfl⟩
   ·rw[KS] at h;exact SeqAt.EqAt.str_int x t j u _ _ _ _ h
   ·rw[K1] at h;exact wpAny_eqBool_str h
 «strs»:=λk x t v h=>by
  rcases cz h with⟨i,u,rfl,e⟩ | ⟨y,u,rfl,e⟩
  ·exact nomatch e
  ·injection e with e1 _
   subst e1
   cases v <;> rfl
def wN (prog:Program)(w:World)(i:Int)(t:Tok):(bQ prog w).is (.inl i) (.int i t)=true:=CJ i t
def yr (prog:Program)(w:World)(x:Str)(t:Tok):(bQ prog w).is (.inr x) (.str x t)=true:=C1 x t
inductive V where
 |non |bl (b:Bool) |int (i:Int) |str (x:Str) |byt (b:Array UInt8) |flt (b:UInt64) |ref (a:Addr) |ty (n:String)
 deriving DecidableEq
def RelV:V->Value->Prop
 | .non,u=>u=Value.none
 | .bl b,u=>u=Value.bool b
 | .int i,u=>∃t,u=Value.int i t
 | .str x,u=>∃t,u=Value.str x t
 | .byt b,u=>∃t,u=Value.bytes b t
 | .flt b,u=>∃t,u=Value.float b t
 | .ref a,u=>u=Value.ref a
 | .ty n,u=>u=Value.type n
abbrev Vals:List V->@GM->Prop:=Paired RelV
def Vals.length {xs:List V}{us:@GM}(r:Vals xs us):xs.length=us.length:=Paired.length r
theorem Vals.get:∀{xs:List V} {us:@GM} {i:Nat} {x:V},Vals xs us->xs[i]? =some x->∃u,us[i]? =some u/\RelV x u
 |_,_,_,_,.nil,e=>by simp at e
 |_,_,0,_,.cons r _,e=>by simp at e;subst e;exact⟨_,rfl,r⟩
 |_,_,i + 1,x,.cons _ t,e=>by
  obtain⟨u,h1,h2⟩:=Vals.get (i:=i) (x:=x) t (by simpa using e)
  exact⟨u,by simpa using h1,h2⟩
theorem Vals.set {x:V}{u:Value}(r:RelV x u):∀{xs:List V} {us:@GM} (i:Nat),Vals xs us->Vals (xs.set i x) (us.set i u)
 |_,_,_,.nil=>.nil
 |_,_,0,.cons _ t=>.cons r t
 |_,_,i + 1,.cons q t=>.cons q (Vals.set r i t)
theorem Vals.append:∀{xs ys:List V} {us ws:@GM},Vals xs us->Vals ys ws->Vals (xs ++ ys) (us ++ ws)
 |_,_,_,_,.nil,s=>s
 |_,_,_,_,.cons r t,s=>.cons r (Vals.append t s)
theorem Vals.take:∀{xs:List V} {us:@GM} (n:Nat),Vals xs us->Vals (xs.take n) (us.take n)
 |_,_,0,_=>.nil
 |_,_,_ + 1,.nil=>.nil
 |_,_,n + 1,.cons r t=>.cons r (Vals.take n t)
theorem Vals.drop:∀{xs:List V} {us:@GM} (n:Nat),Vals xs us->Vals (xs.drop n) (us.drop n)
 |_,_,0,r=>r
 |_,_,_ + 1,.nil=>.nil
 |_,_,n + 1,.cons _ t=>Vals.drop n t
def zw:Option V->Option Value->Prop
 |some v,some u=>RelV v u
 |none,none=>True
 |_,_=>False
def KV {κ:Type}:List (κ×V)->List (κ×Value)->Prop:=Paired λ(p:κ×V) (q:κ×Value)=>p.1=q.1/\RelV p.2 q.2
def kV:Key->V
 | .inl i=>.int i
 | .inr x=>.str x
inductive HO where
 |lst (xs:List V)
 |tup (xs:List V)
 |dK (kvs:List (Key×V)) |dT (kvs:@On)
 |set (S:Int->Bool) (n:Nat)
 |ins (C dx:Addr) (fs:List (Str×V))
 |own (x:Addr)
 |xd (fs:List (Str×V))
 |met (f x:Addr)
 |eB (lo hi:Int)
 |a8 (o:Obj) (u:HO)
 |tbl (ps:Array Value)
 |ext (φ:Heap->Prop)
abbrev Hp:=Addr->Option HO
def upd (H:Hp)(a:Addr)(o:HO):Hp:=λb=>if b=a then some o else H b
def aw {H:Hp}{a:Addr}{o:HO}:upd H a o a=some o:=by unfold upd;rw[Po rfl]
def aC {H:Hp}{a b:Addr}{o:HO}(h:b≠a):upd H a o b=H b:=by unfold upd;rw[Px h]
def GY {H:Hp}{a:Addr}{o u:HO}:upd (upd H a o) a u=upd H a u:=by
 funext b;unfold upd;split <;> rfl
def A8 {H:Hp}{a b:Addr}{o u:HO}(h:H a=some o)(h':H b=some u)(d:o≠u):a≠b:=by
 intro e;subst e;rw[h] at h';exact d (Option.some.inj h')
def aL {H:Hp}{a b:Addr}{o:HO}(h:H a=some o)(h':H b=none):a≠b:=by
 intro e;subst e;rw[h] at h';cases h'
section
variable (P:Program)(w:World)
def u5 (h:Heap)(a:Addr)(items:Array Value):Prop:=∃o,h.get? a=some o/\o.cls=.type "tuple"/\∃n,o.data=.seq items n/\o.dict=none
def u5.isTup {h:Heap}{a:Addr}{items:Array Value}(x:u5 h a items):IsTup h a items:=let ⟨o,e,c,n,d,_⟩:=x;⟨o,e,c,n,d⟩
def u5.new (h:Heap)(items:Array Value):u5 (h.push {cls:=.type "tuple",data:=.seq items}) h.objs.size items:=⟨_,PX _ rfl,rfl,_,rfl,rfl⟩
def bV (H:Hp)(h:Heap)(a:Addr):HO->Prop
 | .lst xs=>xs.length<=sizeLine/\∃(its:@GM) (n:Nat),Vals xs its/\h.get? a=some @S9
 | .tup xs=>xs.length<=sizeLine/\∃its:@GM,Vals xs its/\u5 h a its.toArray
 | .dK kvs=>kvs.length<=sizeLine/\(a == sysModules)=false/\∃vs,KV kvs vs/\h.DictOf (bQ P w) a vs
 | .dT kvs=>kvs.length<=sizeLine/\(a == sysModules)=false/\∃xs:List (List Key×Addr×Value),
   Paired (λ(p:List Key×V) (q:List Key×Addr×Value)=>p.1=q.1/\(H q.2.1=some (.tup (p.1.map kV))\/∃o,H q.2.1=some (.a8 o (.tup (p.1.map kV))))/\RelV p.2 q.2.2) kvs xs/\
   ∃o es ep,h.get? a=some o/\o.ExactDict/\o.data=.dict es ep/\es.toList=xs.map (entryOfKey (tupleKind (bQ P w)))/\(xs.map (·.1)).Nodup
 | .set S n=>h.SetOf (intKind P w) a S n
 | .ins C dx fs=>H dx=some (.own a)/\fs.length<=1000/\dx≠a/\h.get? a=some (PySem.W.instObj C dx)/\
   ∃mA,h.Ns1 dx mA/\(∀f,zw (fs.lookup f) (mA f))/\PySem.Within mA (fs.map (·.1))
 | .own _=>∃o,h.get? a=some o
 | .xd fs=>∃mA,h.Ns1 a mA/\∀f,zw (fs.lookup f) (mA f)
 | .eB lo hi=>∃t u v,h.get? a=some @SU
 | .a8 o u=>h.get? a=some o/\bV H h a u
 | .tbl ps=>h.get? a=some {cls:=.none,data:=.fields ps}
 | .met f x=>h.get? a=some (PySem.W.methodObj (.ref f) (.ref x))
 | .ext φ=>φ h/\(∃o,h.get? a=some o)/\∀h1 h2:Heap,φ h1->(∀o,h1.get? a=some o->h2.get? a=some o)->φ h2
def lC (H:Hp)(h:Heap):Prop:=∀a o,H a=some o->bV P w H h a o
end
section
variable {P:Program}{w:World}{H H':Hp}{h h':Heap}{a:Addr}{o:HO}
theorem bV.lt (x:bV P w H h a o):a < h.objs.size:=by
 cases o with
 |lst xs=>obtain⟨_,_,_,_,e⟩:=x;exact PB e
 |tup xs=>obtain⟨_,_,_,p⟩:=x;exact p.isTup.lt
 |dK kvs=>obtain⟨_,_,_,_,o,_,_,e,_⟩:=x;exact PB e
 |dT kvs=>obtain⟨_,_,_,_,o,_,_,e,_⟩:=x;exact PB e
 |set S n=>obtain⟨o,_,_,_,e,_⟩:=x;exact PB e
 |ins C dx fs=>obtain⟨_,_,_,e,_⟩:=x;exact PB e
 |own y=>obtain⟨_,e⟩:=x;exact PB e
 |xd fs=>obtain⟨_,⟨_,_,_,e,_⟩,_⟩:=x;exact PB e
 |eB lo hi=>obtain⟨_,_,_,e⟩:=x;exact PB e
 |a8 ob u=>obtain⟨e,_⟩:=x;exact PB e
 |tbl ps=>exact PB (show h.get? a=some _ from x)
 |met f y=>exact PB (show h.get? a=some _ from x)
 |ext φ=>obtain⟨_,⟨_,e⟩,_⟩:=x;exact PB e
theorem Paired.mapP {α β:Type}{F G:α->β->Prop}:∀{l₁:List α} {l₂:List β},Paired F l₁ l₂->(∀a b,F a b->G a b)->Paired G l₁ l₂
 |_,_,.nil,_=>.nil
 |_,_,.cons r t,f=>.cons (f _ _ r) (Paired.mapP t f)
theorem bV.stay (x:bV P w H h a o)(k:∀b u,(b=a\/H b=some (.own a))->h.get? b=some u->h'.get? b=some u)
  (ho:∀b,H b=some (.own a)->H' b=some (.own a)) (ht:∀b xs,(H b=some (.tup xs)\/∃o,H b=some (.a8 o (.tup xs)))->(H' b=some (.tup xs)\/∃o,H' b=some (.a8 o (.tup xs)))):bV P w H' h' a o:=by
 induction o with
 |lst xs=>obtain⟨z,its,n,r,e⟩:=x;exact⟨z,its,n,r,k _ _ (.inl rfl) e⟩
 |tup xs=>obtain⟨z,its,r,ob,e,c⟩:=x;exact⟨z,its,r,ob,k _ _ (.inl rfl) e,c⟩
 |dK kvs=>obtain⟨z,y,vs,r,ob,es,ep,e,c⟩:=x;exact⟨z,y,vs,r,ob,es,ep,k _ _ (.inl rfl) e,c⟩
 |dT kvs=>
  obtain⟨z,y,xs,r,ob,es,ep,e,c⟩:=x
  exact⟨z,y,xs,Paired.mapP r λp q z=>⟨z.1,ht _ _ z.2.1,z.2.2⟩,ob,es,ep,k _ _ (.inl rfl) e,c⟩
 |set S n=>obtain⟨ob,es,ep,t,e,c⟩:=x;exact⟨ob,es,ep,t,k _ _ (.inl rfl) e,c⟩
 |ins C dx fs=>
  obtain⟨d,z,ne,e,mA,⟨od,es,ep,e2,c⟩,r⟩:=x
  exact⟨ho _ d,z,ne,k _ _ (.inl rfl) e,mA,⟨od,es,ep,k _ _ (.inr d) e2,c⟩,r⟩
 |own y=>obtain⟨ob,e⟩:=x;exact⟨ob,k _ _ (.inl rfl) e⟩
 |xd fs=>obtain⟨mA,⟨od,es,ep,e,c⟩,r⟩:=x;exact⟨mA,⟨od,es,ep,k _ _ (.inl rfl) e,c⟩,r⟩
 |eB lo hi=>obtain⟨t,u,v,e⟩:=x;exact⟨t,u,v,k _ _ (.inl rfl) e⟩
 |a8 ob u ih=>obtain⟨e,q⟩:=x;exact⟨k _ _ (.inl rfl) e,ih q⟩
 |tbl ps=>
  have e:h.get? a=some {cls:=.none,data:=.fields ps}:=x
  show h'.get? a=some {cls:=.none,data:=.fields ps}
  exact k a _ (.inl rfl) e
 |met f y=>
  have e:h.get? a=some (PySem.W.methodObj (.ref f) (.ref y)):=x
  show h'.get? a=some (PySem.W.methodObj (.ref f) (.ref y))
  exact k a _ (.inl rfl) e
 |ext φ=>obtain⟨p,⟨o,e⟩,st⟩:=x;exact⟨st _ _ p λo q=>k _ _ (.inl rfl) q,⟨o,k _ _ (.inl rfl) e⟩,st⟩
def lC.lt (x:lC P w H h)(e:H a=some o):a < h.objs.size:=(x a o e).lt
theorem lC.fresh (x:lC P w H h)(e:h.objs.size<=a):H a=none:=by
 cases q:H a with
 |none=>rfl
 |some u=>exact absurd (Qa (x.lt q) e) (Qe _)
def lC.kept (x:lC P w H h)(k:∀b u,h.get? b=some u->h'.get? b=some u):lC P w H h':=λa o e=>
 (x a o e).stay (λb u _ q=>k b u q) (λ_ q=>q) λ_ _ q=>q
def lC.laid (x:lC P w H h)(k:∀b u,h.get? b=some u->h'.get? b=some u)(hp:h.objs.size<=a)(new:bV P w (upd H a o) h' a o):lC P w (upd H a o) h':=λb u e=>by
 have hn:=x.fresh hp
 by_cases hb:b=a
 ·subst hb;rw[aw] at e;cases e;exact new
 ·rw[aC hb] at e
  exact (x b u e).stay (λc v _ q=>k c v q) (λc q=>by rw[aC (aL q hn)];exact q) λc xs q=>q.imp (λq=>by rw[aC (aL q hn)];exact q) λ⟨o,q⟩=>⟨o,by rw[aC (aL q hn)];exact q⟩
end
def Rd (H:Hp)(a:Addr)(u:HO):Prop:=H a=some u\/∃o,H a=some (.a8 o u)
def Rd.ok {P:Program}{w:World}{H:Hp}{h:Heap}{a:Addr}{u:HO}(r:Rd H a u)(x:lC P w H h):bV P w H h a u:=by
 rcases r with r | ⟨o,r⟩
 ·exact x a u r
 ·obtain⟨_,q⟩:=x a _ r
  exact q
def LW:Option HO->Prop
 |some (.lst _)=>True
 |some (.dK _)=>True
 |some (.dT _)=>True
 |some (.set _ _)=>True
 |some (.ins _ _ _)=>True
 |some (.ext _)=>True
 |_=>False
section
variable {P:Program}{w:World}{H:Hp}{h h':Heap}{x e:Addr}{o':HO}
def lC.write (ok:lC P w H h)(mu:LW (H x))(he:e=x\/H e=some (.own x))(k:∀b u,b≠e->h.get? b=some u->h'.get? b=some u)(heo:∃u,h'.get? e=some u)
  (new:bV P w (upd H x o') h' x o'):lC P w (upd H x o') h':=λb u q=>by
 have nown:∀c y,H c=some (.own y)->c≠x:=λc y r z=>by subst z;rw[r] at mu;exact mu
 have ntup:∀c xs,H c=some (.tup xs)->c≠x:=λc xs r z=>by subst z;rw[r] at mu;exact mu
 by_cases hb:b=x
 ·subst hb;rw[aw] at q;cases q;exact new
 ·rw[aC hb] at q
  by_cases hbe:b=e
  ·have q':H b=some (.own x):=by
    rcases he with z |z
    ·exact absurd (hbe.trans z) hb
    ·rw[hbe];exact z
   rw[q] at q';cases q'
   obtain⟨v,hv⟩:=heo
   exact⟨v,by rw[hbe];exact hv⟩
  ·refine (ok b u q).stay (λc v hc r=>k c v ?_ r) (λc r=>by rw[aC (nown c b r)];exact r) λc xs r=>r.imp (λr=>by rw[aC (ntup c xs r)];exact r) λ⟨o,r⟩=>⟨o,by rw[aC (λz=>by subst z;rw[r] at mu;exact mu)];exact r⟩
   rcases hc with rfl |hc
   ·exact hbe
   ·rintro rfl
    rcases he with z |z
    ·exact nown c b hc z
    ·rw[hc] at z;cases z;exact hb rfl
end
structure Un (fs ex:List Addr)(H H':Hp)(h h':Heap):Prop where
 keep:∀b o,h.get? b=some o->H b=none->b∉fs->b∉ex->h'.get? b=some o
 slot:∀b o,h.get? b=some o->H b=none->b∈fs->b∉ex->∃sl,h'.get? b=some {o with slots:=sl}
 free:∀b o,h.get? b=some o->H b=none->b∉ex->H' b=none
 there:∀b o,h.get? b=some o->b∉ex->∃o',h'.get? b=some o'
 tups:∀b xs,H b=some (.tup xs)->H' b=some (.tup xs)
 frzs:∀b o u,H b=some (.a8 o u)->H' b=some (.a8 o u)
 tbls:∀b ps,H b=some (.tbl ps)->∃more,H' b=some (.tbl (ps ++ more))
section
variable {fs fs' ex ex':List Addr}{H H1 H2:Hp}{h h1 h2 h':Heap}{a x e:Addr}{o:HO}
def Un.any (u:Un fs ex H H1 h h1){b:Addr}{ob:Obj}(q:h.get? b=some ob)(n:H b=none)(hx:b∉ex):∃sl,h1.get? b=some {ob with slots:=sl}:=by
 by_cases hb:b∈fs
 ·exact u.slot b ob q n hb hx
 ·exact⟨ob.slots,u.keep b ob q n hb hx⟩
def Un.kept (k:∀b u,h.get? b=some u->h'.get? b=some u):Un fs ex H H h h':=
 ⟨λb ob q _ _ _=>k b ob q,λb ob q _ _ _=>⟨ob.slots,k b ob q⟩,λ_ _ _ n _=>n,λb ob q _=>⟨ob,k b ob q⟩,λ_ _ q=>q,λ_ _ _ q=>q,λ_ ps q=>⟨#[],by rw[q];simp⟩⟩
def Un.refl:Un fs ex H H h h:=Un.kept λ_ _ q=>q
def Un.laid (k:∀b u,h.get? b=some u->h'.get? b=some u)(hp:h.objs.size<=a)(hn:H a=none):Un fs ex H (upd H a o) h h' where
 keep:=λb u q _ _ _=>k b u q
 slot:=λb u q _ _ _=>⟨u.slots,k b u q⟩
 free:=λb u q n _=>by rw[aC (Qg (Qa (PB q) hp))];exact n
 there:=λb u q _=>⟨u,k b u q⟩
 tups:=λb xs q=>by rw[aC (aL q hn)];exact q
 frzs:=λb u xs q=>by rw[aC (aL q hn)];exact q
 tbls:=λb ps q=>⟨#[],by rw[aC (aL q hn),q];simp⟩
def Un.write (mu:LW (H x))(he:e=x\/H e=some (.own x))(k:∀b u,b≠e->h.get? b=some u->h'.get? b=some u)(heo:∃u,h'.get? e=some u):Un fs ex H (upd H x o) h h':=by
 have hx:∀b,H b=none->b≠x:=λb n z=>by subst z;rw[n] at mu;exact mu
 have hb:∀b,H b=none->b≠e:=λb n z=>by
  subst z
  rcases he with r |r
  ·exact hx b n r
  ·rw[n] at r;cases r
 have hm:∀b u,H b=some u->¬LW (some u)->b≠x:=λb u q nm z=>by subst z;rw[q] at mu;exact nm mu
 refine⟨λb u q n _ _=>k b u (hb b n) q,λb u q n _ _=>⟨u.slots,k b u (hb b n) q⟩,λb u q n _=>by rw[aC (hx b n)];exact n,λb u q _=>?_,
  λb xs q=>by rw[aC (hm b _ q λz=>z)];exact q,λb u xs q=>by rw[aC (hm b _ q λz=>z)];exact q,λb ps q=>⟨#[],by rw[aC (hm b _ q λz=>z),q];simp⟩⟩
 by_cases hbe:b=e
 ·subst hbe;exact heo
 ·exact⟨u,k b u hbe q⟩
end
def Nr (h:Heap)(H:Hp):List Addr:=(List.range h.objs.size).filter λa=>(H a).isSome
def v5 (h:Heap)(H:Hp):Heap:=PySem.W.hideAll h (Nr h H)
def Ct (h:Heap)(H:Hp):(v5 h H).objs.size=h.objs.size:=PySem.W.hideAll_size _ _
def DT {h:Heap}{H:Hp}{b:Addr}{o:Obj}(e:h.get? b=some o)(n:H b=none):(v5 h H).get? b=some o:=
 PySem.W.hideAll_get _ e λhm=>by
  have q:(H b).isSome=true:=(PH.mp hm).2
  rw[n] at q;simp at q
theorem Gk {h:Heap}{H:Hp}{b:Addr}{o:Obj}(e:(v5 h H).get? b=some o):h.get? b=some o/\H b=none:=by
 have e':h.get? b=some o:=PySem.W.of_hideAll (Nr h H) e
 refine⟨e',?_⟩
 cases q:H b with
 |none=>rfl
 |some x=>
  have hm:b∈Nr h H:=PH.mpr ⟨P4.mpr (PB e'),by simp[q]⟩
  have z:(v5 h H).get? b=none:=PySem.W.hideAll_none (Nr h H) hm
  rw[z] at e;cases e
def HQ (g h:Heap)(L:Addr):@Db:=(List.range h.objs.size).filterMap λa=>if a=L\/(g.get? a).isSome=true then none else (h.get? a).map λo=>(a,o)
def rest (g h:Heap)(L d:Addr):@Db:=(HQ g h L).filter λp=>decide (p.1≠d)
structure Mod (K:Frag)(mg:@Fa)(base:Heap):Prop where
 kin:K.In base
 glob:base.Ns mainGlobals mg
 blt:∃mb,base.Ns builtinsNs mb/\∀x:Str,x≠"__name__"->mb x=bootBuiltins x
 nolimit:base.NoLimit
 sys:∃mm,base.Ns sysModules mm
structure Cx where
 prog:Program
 w:World
 K:Frag
 mg:@Fa
 base:Heap
 A:Around
 N:@KK
 s₀:Shared
 H₀:Hp
 env:Env
 outer:List Env
 stack:List Env
 ex:List Addr
 fn:Str->Bool
 calm:Bool
 pn:@Db
 xe:@Ch
def gi (l:List Env):List Addr:=l.filterMap (·.frame)
abbrev Cx.fs (X:Cx):List Addr:=gi X.outer
def yM (sc:Scope)(x:Str):Prop:=sc.names.lookup x=some .local\/sc.names.lookup x=some .cell\/sc.names.lookup x=some .free
def Loc (sc:Scope)(x:Str):Prop:=sc.names.lookup x=some .local\/sc.names.lookup x=some .cell
def Look (env:Env)(h:Heap)(m:@Fa)(x:Str)(u:Value):Prop:=
 (env.kindOf x=some .local/\m x=some u)\/((env.kindOf x=some .cell\/env.kindOf x=some .free)/\∃c,env.cells.lookup x=some c/\h.IsCell c (some u))
structure Cx.Ok (X:Cx):Prop where
 mod:Mod X.K X.mg X.base
 kind:X.env.scope.kind=.function
 glob:X.env.globals=mainGlobals
 blt:X.env.builtins=builtinsNs
 above:X.s₀.heap.objs.size<=X.env.locals
 inj:∀x y c,@M_->X.env.cells.lookup y=some c->x=y
 has:∀x,(X.env.kindOf x=some .cell\/X.env.kindOf x=some .free)->∃c,@M_
 cab:∀x c,X.fn x=true->@M_->X.s₀.heap.objs.size<=c
 hd:X.calm=true->X.A.handled=none
 frames:X.A.frames=some X.stack
 stk:X.stack=X.outer\/(X.stack=X.env :: X.outer/\X.env.frame=some X.env.locals)
 exf:∀b∈X.ex,b≠X.env.locals/\∀x c,@M_->c≠b
 bs:∀b o,X.base.get? b=some o->X.s₀.heap.get? b=some o/\X.H₀ b=none
 bsz:X.base.objs.size<=X.s₀.heap.objs.size
 noex:∀b o,X.base.get? b=some o->b∉X.ex
 exfs:∀b∈X.ex,b∉X.fs
 funs:X.s₀.heap.FunFrames X.base X.outer
 frf:∀b∈X.fs,X.H₀ b=none
structure Inv (X:Cx)(pins:@Db)(σ:List (Option V))(H:Hp)(s:Shared):Prop where
 ok:X.Ok
 os:s.os=X.s₀.os
 bare:AllBare s.gens
 base:Un X.fs X.ex X.H₀ H X.s₀.heap s.heap
 loc:∃m,s.heap.Ns X.env.locals m/\∀(i:Nat) (x:Str) (v:V),X.N[i]? =some x->σ[i]? =some (some v)->yM X.env.scope x->∃u,RelV v u/\Look X.env s.heap m x u
 cell:∀x c,@M_->∃v,s.heap.IsCell c v
 free:H X.env.locals=none
 freeC:∀x c,@M_->H c=none
 pin:∀p∈X.pn ++ pins,s.heap.get? p.1=some p.2/\H p.1=none/\p.1≠X.env.locals/\p.1∉X.fs/\∀v,p.2.data≠.cell v
 hok:lC X.prog X.w H s.heap
 len:σ.length=X.N.length
section
variable {X:Cx}{pins:@Db}{σ:List (Option V)}{H H':Hp}{s:Shared}{h':Heap}
def Cx.Ok.nofr (ok:X.Ok){b:Addr}{o:Obj}(e:X.base.get? b=some o):b∉X.fs:=λhb=>by
 have:=(ok.funs.mem hb).1
 rw[e] at this;cases this
def Inv.bs (I:@At):∀b o,X.base.get? b=some o->s.heap.get? b=some o/\H b=none:=λb o e=>
 ⟨I.base.keep b o (I.ok.bs b o e).1 (I.ok.bs b o e).2 (I.ok.nofr e) (I.ok.noex b o e),I.base.free b o (I.ok.bs b o e).1 (I.ok.bs b o e).2 (I.ok.noex b o e)⟩
def Inv.bk (I:@At):∀b o,X.base.get? b=some o->s.heap.get? b=some o:=λb o e=>(I.bs b o e).1
def Inv.mod (I:@At):Mod X.K X.mg X.base:=I.ok.mod
def Inv.kIn (I:@At):X.K.In s.heap:=I.ok.mod.kin.keeps I.bk
def Inv.lt (I:@At):X.env.locals < s.heap.objs.size:=let ⟨_,hn,_⟩:=I.loc;hn.lt
def Inv.sz (I:@At):X.s₀.heap.objs.size<=s.heap.objs.size:=QA I.ok.above (R9 I.lt)
def Inv.nofs (I:@At){a:Addr}(h:s.heap.objs.size<=a):a∉X.fs:=λhb=>by
 obtain⟨_,o,ho,_⟩:=I.ok.funs.mem hb
 exact absurd (Qa (PB ho) (QA I.sz h)) (Qe _)
def Inv.cne (I:@At):∀x c,@M_->c≠X.env.locals:=λx c e z=>by
 obtain⟨v,o,ho,hd⟩:=I.cell x c e
 obtain⟨m,⟨o',es,ep,ho',hd',_⟩,_⟩:=I.loc
 rw[z,ho'] at ho;cases ho;rw[hd'] at hd;cases hd
def Inv.funs (I:@At):s.heap.FunFrames X.base X.outer:=by
 have all:∀(l:List Env),(∀b∈gi l,b∈X.fs)->X.s₀.heap.FunFrames X.base l->s.heap.FunFrames X.base l:=by
  intro l
  induction l with
  |nil=>intro _ _;trivial
  |cons env r ih=>
   intro hs hl
   obtain⟨hk,⟨L,o,hf,hn,ho,hd⟩,hr⟩:=hl
   have hL:L∈X.fs:=hs L (by unfold gi;rw[Sn,hf];exact Pz)
   obtain⟨sl,e⟩:=I.base.slot L o ho (I.ok.frf L hL) hL λz=>I.ok.exfs L z hL
   exact⟨hk,⟨L,_,hf,hn,e,hd⟩,ih (λb hb=>hs b (by unfold gi;rw[Sn,hf];exact Pw _ hb)) hr⟩
 exact all X.outer (λ_ hb=>hb) I.ok.funs
def Inv.stack (I:@At):s.heap.FunFrames X.base X.stack:=by
 rcases I.ok.stk with e | ⟨e,hf⟩
 ·rw[e];exact I.funs
 ·rw[e]
  obtain⟨m,hn,_⟩:=I.loc
  refine .cons (by rw[I.ok.kind];decide) hf hn ?_ I.funs
  exact Heap.get?_none_of_le (QA I.ok.bsz I.ok.above)
def Inv.stkSub (I:@At):∀b∈gi X.stack,b∈X.env.locals :: X.fs:=λb hb=>by
 rcases I.ok.stk with e | ⟨e,hf⟩
 ·rw[e] at hb;exact Pw _ hb
 ·rw[e] at hb
  unfold gi at hb
  rw[Sn,hf] at hb
  exact hb
def Inv.stkFree (I:@At):∀b∈gi X.stack,H b=none:=λb hb=>by
 rcases Pu.mp (I.stkSub b hb) with e |hb
 ·rw[e];exact I.free
 ·obtain⟨_,o,ho,_⟩:=I.ok.funs.mem hb
  exact I.base.free b o ho (I.ok.frf b hb) λz=>I.ok.exfs b z hb
def Inv.step {g':Array GenState}{t':Nat}{d':Drawn}{ch:List Addr}(I:@At)
  (hch:∀b∈ch,(b∈X.ex\/X.s₀.heap.objs.size<=b)/\b≠X.env.locals/\(∀x c,@M_->c≠b)/\∀p∈X.pn ++ pins,p.1≠b)
  (keep:∀b o,b≠X.env.locals->b∉X.fs->b∉ch->s.heap.get? b=some o->H b=none->h'.get? b=some o)
  (slot:∀b o,b≠X.env.locals->b∈X.fs->b∉ch->s.heap.get? b=some o->H b=none->∃sl,h'.get? b=some {o with slots:=sl}) (free:∀b o,b∉ch->s.heap.get? b=some o->H b=none->H' b=none)
  (there:∀b o,b∉ch->s.heap.get? b=some o->∃o',h'.get? b=some o')
  (tups:∀b xs,H b=some (.tup xs)->H' b=some (.tup xs)) (frzs:∀b o u,H b=some (.a8 o u)->H' b=some (.a8 o u)) (tbls:∀b ps,H b=some (.tbl ps)->∃more,H' b=some (.tbl (ps ++ more)))
  (ns:∀m,s.heap.Ns X.env.locals m->h'.Ns X.env.locals m) (hok:lC X.prog X.w H' h') (hg:AllBare g') :
  Inv X pins σ H' {s with heap:=h',gens:=g',drawn:=d',toks:=t'}:=by
 have neL:∀b o,X.s₀.heap.get? b=some o->b≠X.env.locals:=λb o e=>Qg (Qa (PB e) I.ok.above)
 have neC:∀b o,X.s₀.heap.get? b=some o->b∉X.ex->b∉ch:=λb o e hx hb=>by
  rcases (hch b hb).1 with z |z
  ·exact hx z
  ·exact absurd (Qa (PB e) z) (Qe _)
 have cellK:∀x c,@M_->∀v,s.heap.IsCell c v->h'.IsCell c v:=λx c e v ⟨o,ho,hd⟩=>by
  have nch:c∉ch:=λz=>(hch c z).2.2.1 x c e rfl
  by_cases hc:c∈X.fs
  ·obtain⟨sl,q⟩:=slot c o (I.cne x c e) hc nch ho (I.freeC x c e)
   exact⟨_,q,hd⟩
  ·exact⟨o,keep c o (I.cne x c e) hc nch ho (I.freeC x c e),hd⟩
 refine⟨I.ok,I.os,hg,⟨λb o e n hb hx=>?_,λb o e n hb hx=>?_,λb o e n hx=>?_,λb o e hx=>?_,λb xs e=>tups b xs (I.base.tups b xs e),λb o xs e=>frzs b o xs (I.base.frzs b o xs e),λb ps e=>?_⟩,?_,λx c e=>?_,?_,λx c e=>?_,λp hp=>?_,hok,I.len⟩
 ·exact keep b o (neL b o e) hb (neC b o e hx) (I.base.keep b o e n hb hx) (I.base.free b o e n hx)
 ·obtain⟨sl,e1⟩:=I.base.slot b o e n hb hx
  obtain⟨sl',e2⟩:=slot b _ (neL b o e) hb (neC b o e hx) e1 (I.base.free b o e n hx)
  exact⟨sl',e2⟩
 ·obtain⟨o',e1⟩:=I.base.there b o e hx
  exact free b o' (neC b o e hx) e1 (I.base.free b o e n hx)
 ·obtain⟨o',e1⟩:=I.base.there b o e hx
  exact there b o' (neC b o e hx) e1
 ·obtain⟨m1,e1⟩:=I.base.tbls b ps e
  obtain⟨m2,e2⟩:=tbls b _ e1
  exact⟨m1 ++ m2,by rw[e2,Array.append_assoc]⟩
 ·obtain⟨m,hn,hl⟩:=I.loc
  refine⟨m,ns m hn,λi x v e1 e2 e3=>?_⟩
  obtain⟨u,r,l⟩:=hl i x v e1 e2 e3
  refine⟨u,r,?_⟩
  rcases l with l | ⟨k,c,e,z⟩
  ·exact .inl l
  ·exact .inr ⟨k,c,e,cellK x c e _ z⟩
 ·obtain⟨v,z⟩:=I.cell x c e
  exact⟨v,cellK x c e v z⟩
 ·obtain⟨m,⟨o,_,_,ho,_⟩,_⟩:=I.loc
  exact free _ o (λz=>(hch _ z).2.1 rfl) ho I.free
 ·obtain⟨v,o,ho,hd⟩:=I.cell x c e
  exact free c o (λz=>(hch c z).2.2.1 x c e rfl) ho (I.freeC x c e)
 ·obtain⟨e,n,ne,nf,d⟩:=I.pin p hp
  have nch:p.1∉ch:=λz=>(hch p.1 z).2.2.2 p hp rfl
  exact⟨keep p.1 p.2 ne nf nch e n,free p.1 p.2 nch e n,ne,nf,d⟩
def Inv.un {t':Nat}(I:@At)(u:Un X.fs [] H H' s.heap h')(hok:lC X.prog X.w H' h'):Inv X pins σ H' {s with heap:=h',toks:=t'}:=by
 obtain⟨m,⟨o,es,ep,ho,r⟩,_⟩:=id I.loc
 obtain⟨sl,hL⟩:=u.any ho I.free @Go
 exact I.step (g':=s.gens) (d':=s.drawn) (ch:=[]) (λ_ z=>nomatch z) (λb o _ hb _ e n=>u.keep b o e n hb @Go) (λb o _ hb _ e n=>u.slot b o e n hb @Go) (λb o _ e n=>u.free b o e n @Go) (λb o _ e=>u.there b o e @Go) u.tups u.frzs u.tbls (λm' hm=>by
  obtain⟨o',es',ep',ho',r'⟩:=hm
  rw[ho] at ho';cases ho'
  exact⟨_,es',ep',hL,r'⟩) hok I.bare
def Inv.call {g':Array GenState}{t':Nat}{d':Drawn}{ch:List Addr}(I:@At)(u:Un (gi X.stack) ch H H' s.heap h')(hok:lC X.prog X.w H' h')(hg:AllBare g')
  (hch:∀b∈ch,(b∈X.ex\/X.s₀.heap.objs.size<=b)/\b≠X.env.locals/\(∀x c,@M_->c≠b)/\∀p∈X.pn ++ pins,p.1≠b) :
  Inv X pins σ H' {s with heap:=h',gens:=g',drawn:=d',toks:=t'}:=by
 obtain⟨m,⟨o,es,ep,ho,r⟩,_⟩:=id I.loc
 obtain⟨sl,hL⟩:=u.any ho I.free λz=>(hch _ z).2.1 rfl
 exact I.step (ch:=ch) hch (λb o hL hb hc e n=>u.keep b o e n (λz=>(Pu.mp (I.stkSub b z)).elim hL hb) hc) (λb o _ _ hc e n=>u.any e n hc) (λb o hc e n=>u.free b o e n hc) (λb o hc e=>u.there b o e hc) u.tups u.frzs u.tbls (λm' hm=>by
  obtain⟨o',es',ep',ho',r'⟩:=hm
  rw[ho] at ho';cases ho'
  exact⟨_,es',ep',hL,r'⟩) hok hg
def Inv.turned {t':Nat}{it:Addr}(I:@At)(k:∀b o,b≠it->s.heap.get? b=some o->h'.get? b=some o)(hn:H it=none)(hL:it≠X.env.locals)
  (h1:it∈X.ex\/X.s₀.heap.objs.size<=it) (h2:∀x c,@M_->c≠it) (h3:∀p∈X.pn ++ pins,p.1≠it):Inv X pins σ H {s with heap:=h',toks:=t'}:=by
 have nit:∀b u,H b=some u->b≠it:=λb u e z=>by rw[z,hn] at e;cases e
 refine I.step (g':=s.gens) (d':=s.drawn) (ch:=[it]) (λb hb=>?_) (λb o _ _ hc e _=>k b o (λz=>hc (by simp[z])) e) (λb o _ _ hc e _=>⟨o.slots,k b o (λz=>hc (by simp[z])) e⟩) (λ_ _ _ _ n=>n)
  (λb o hc e=>⟨o,k b o (λz=>hc (by simp[z])) e⟩) (λ_ _ e=>e) (λ_ _ _ e=>e) (λb ps e=>⟨#[],by rw[e];simp⟩) (λm hm=>?_) (λb u e=>?_) I.bare
 ·have e:b=it:=by simpa using hb
  subst e
  exact⟨h1,hL,h2,h3⟩
 ·obtain⟨o,es,ep,ho,r⟩:=hm
  exact⟨o,es,ep,k _ o (Ne.symm hL) ho,r⟩
 ·refine (I.hok b u e).stay (λc v hc q=>k c v ?_ q) (λ_ q=>q) λ_ _ q=>q
  rcases hc with z |z
  ·rw[z];exact nit b u e
  ·exact nit c _ z
def Inv.tok (I:@At)(t:Nat):Inv X pins σ H {s with toks:=t}:=I.un (h':=s.heap) (t':=t) Un.refl I.hok
def Inv.kept {t':Nat}(I:@At)(k:∀b u,s.heap.get? b=some u->h'.get? b=some u):Inv X pins σ H {s with heap:=h',toks:=t'}:=I.un (Un.kept k) (I.hok.kept k)
def Inv.laid {a:Addr}{o:HO}{t':Nat}(I:@At)(k:∀b u,s.heap.get? b=some u->h'.get? b=some u)(hp:s.heap.objs.size<=a)(new:bV X.prog X.w (upd H a o) h' a o) :
  Inv X pins σ (upd H a o) {s with heap:=h',toks:=t'}:=I.un (Un.laid k hp (I.hok.fresh hp)) (I.hok.laid k hp new)
def Inv.write {x e:Addr}{o:HO}{t':Nat}(I:@At)(mu:LW (H x))(he:e=x\/H e=some (.own x))(k:∀b u,b≠e->s.heap.get? b=some u->h'.get? b=some u)(heo:∃u,h'.get? e=some u)
  (new:bV X.prog X.w (upd H x o) h' x o):Inv X pins σ (upd H x o) {s with heap:=h',toks:=t'}:=I.un (Un.write mu he k heo) (I.hok.write mu he k heo new)
def Inv.pins_of {pins':@Db}(I:@At)(h:∀p∈pins',s.heap.get? p.1=some p.2/\H p.1=none/\p.1≠X.env.locals/\p.1∉X.fs/\∀v,p.2.data≠.cell v):Inv X pins' σ H s:=
 ⟨I.ok,I.os,I.bare,I.base,I.loc,I.cell,I.free,I.freeC,λp hp=>(PQ.mp hp).elim (λz=>I.pin p (QR _ z)) (h p),I.hok,I.len⟩
def sH {N:@KK}(hN:N.Nodup){i j:Nat}{x:Str}(a:N[i]? =some x)(b:N[j]? =some x):i=j:=by
 obtain⟨h1,e1⟩:=PN.mp a
 obtain⟨h2,e2⟩:=PN.mp b
 exact (List.getElem_inj hN).mp (e1.trans e2.symm)
def uW {M:Model}{A:Around}{E:@Ch}{i:Nat}{x:Str}{v:V}{u:Value}{Q:Unit->@Rs}(I:@At)(hN:X.N.Nodup)(hi:X.N[i]? =some x)(hx:Loc X.env.scope x)(r:RelV v u)
  (h:∀s',Inv X pins (σ.set i (some v)) H s'->(∃a,Heap.SameBut a s.heap s'.heap/\(a=X.env.locals\/X.env.cells.lookup x=some a))->Q () s') (hf:@LT:=by first |exact .inl rfl |exact .inr rfl |assumption):wpAny M A (storeName X.env x u) Q E s:=by
 obtain⟨m,hn,hl⟩:=id I.loc
 have hcls:(X.env.scope.kind == .class || (X.env.scope.kind == .module && X.env.locals != X.env.globals))=false:=by rw[I.ok.kind];rfl
 have hiσ:i < σ.length:=by rw[I.len];exact (PN.mp hi).1
 have cne:=I.cne
 have tracked:∀{a:Addr} {h':Heap},(∃o,s.heap.get? a=some o/\H a=none)->Heap.SameBut a s.heap h'->lC X.prog X.w H h':=λ{a h'} ha hs b ob e=>by
  obtain⟨_,_,hfree⟩:=ha
  refine (I.hok b ob e).stay (λc w' hc q=>(hs.2 c ?_).trans q) (λ_ q=>q) λ_ _ q=>q
  rintro rfl
  rcases hc with rfl |hc
  ·rw[hfree] at e;cases e
  ·rw[hfree] at hc;cases hc
 rcases hx with hk |hk
 ·refine wpAny_storeName_local hk hn (λh' hn' hs=>?_) hcls
  obtain⟨oL,_,_,hoL,_⟩:=id hn
  refine h _ ⟨I.ok,I.os,I.bare,⟨λb o e n hb hx=>?_,λb o e n hb hx=>?_,I.base.free,λb o e hx=>?_,I.base.tups,I.base.frzs,I.base.tbls⟩,⟨_,hn',λj y v' e1 e2 e3=>?_⟩,λy c e=>?_,I.free,I.freeC,λp hp=>?_,tracked ⟨oL,hoL,I.free⟩ hs,by simpa using I.len⟩ ⟨_,hs,.inl rfl⟩
  ·exact (hs.2 b (Qg (Qa (PB e) I.ok.above))).trans (I.base.keep b o e n hb hx)
  ·obtain⟨sl,e1⟩:=I.base.slot b o e n hb hx
   exact⟨sl,(hs.2 b (Qg (Qa (PB e) I.ok.above))).trans e1⟩
  ·obtain⟨o',e1⟩:=I.base.there b o e hx
   exact⟨o',(hs.2 b (Qg (Qa (PB e) I.ok.above))).trans e1⟩
  ·by_cases hj:j=i
   ·subst hj
    rw[hi] at e1;cases e1
    rw[PY hiσ] at e2
    cases e2
    exact⟨u,r,.inl ⟨hk,by simp⟩⟩
   ·rw[PZ (Ne.symm hj)] at e2
    obtain⟨u',r',q⟩:=hl j y v' e1 e2 e3
    refine⟨u',r',?_⟩
    rcases q with⟨k,e⟩ | ⟨k,c,e,z⟩
    ·refine .inl ⟨k,?_⟩
     have:y≠x:=λe=>hj (sH hN e1 (e▸hi))
     simp[this,e]
    ·exact .inr ⟨k,c,e,z.sameBut hs (cne y c e)⟩
  ·obtain⟨w',z⟩:=I.cell y c e
   exact⟨w',z.sameBut hs (cne y c e)⟩
  ·obtain⟨e,n,ne,nf,d⟩:=I.pin p hp
   exact⟨(hs.2 p.1 ne).trans e,n,ne,nf,d⟩
 ·have hfn:X.fn x=true:=by
   rcases hf with z |z
   ·exact z
   ·rw[z] at hk;cases hk
  obtain⟨c,hc⟩:=I.ok.has x (.inl hk)
  obtain⟨w',z⟩:=I.cell x c hc
  refine wpAny_storeName_cell I.ok.kind hk hc z (λh' hc' hs=>?_)
  obtain⟨oc,hoc,hocd⟩:=id z
  refine h {s with heap:=h'} ⟨I.ok,I.os,I.bare,⟨λb o e n hb hx=>?_,λb o e n hb hx=>?_,I.base.free,λb o e hx=>?_,I.base.tups,I.base.frzs,I.base.tbls⟩,⟨m,hn.sameBut hs (Ne.symm (cne x c hc)),λj y v' e1 e2 e3=>?_⟩,λy c' e=>?_,I.free,I.freeC,λp hp=>?_,tracked ⟨oc,hoc,I.freeC x c hc⟩ hs,by simpa using I.len⟩ ⟨c,hs,.inr hc⟩
  ·exact (hs.2 b (Qg (Qa (PB e) (I.ok.cab x c hfn hc)))).trans (I.base.keep b o e n hb hx)
  ·obtain⟨sl,e1⟩:=I.base.slot b o e n hb hx
   exact⟨sl,(hs.2 b (Qg (Qa (PB e) (I.ok.cab x c hfn hc)))).trans e1⟩
  ·obtain⟨o',e1⟩:=I.base.there b o e hx
   exact⟨o',(hs.2 b (Qg (Qa (PB e) (I.ok.cab x c hfn hc)))).trans e1⟩
  ·by_cases hj:j=i
   ·subst hj
    rw[hi] at e1;cases e1
    rw[PY hiσ] at e2
    cases e2
    exact⟨u,r,.inr ⟨.inl hk,c,hc,hc'⟩⟩
   ·rw[PZ (Ne.symm hj)] at e2
    obtain⟨u',r',q⟩:=hl j y v' e1 e2 e3
    refine⟨u',r',?_⟩
    rcases q with q | ⟨k,c',e,z'⟩
    ·exact .inl q
    ·refine .inr ⟨k,c',e,z'.sameBut hs ?_⟩
     rintro rfl
     exact hj (sH hN e1 (I.ok.inj _ _ _ e hc▸hi))
  ·by_cases hcc:c'=c
   ·subst hcc;exact⟨_,hc'⟩
   ·obtain⟨w2,z2⟩:=I.cell y c' e
    exact⟨w2,z2.sameBut hs hcc⟩
  ·obtain⟨e,n,ne,nf,d⟩:=I.pin p hp
   refine⟨(hs.2 p.1 ?_).trans e,n,ne,nf,d⟩
   intro q
   rw[q,hoc] at e
   have q':oc=p.2:=Option.some.inj e
   exact d w' (by rw[<-q'];exact hocd)
def oW {M:Model}{A:Around}{E:@Ch}{i:Nat}{x:Str}{v:V}{u:Value}{Q:Unit->@Rs}(I:@At)(hN:X.N.Nodup)(hi:X.N[i]? =some x)(hx:Loc X.env.scope x)(r:RelV v u)
  (h:∀s',Inv X pins (σ.set i (some v)) H s'->Q () s') (hf:@LT:=by first |exact .inl rfl |exact .inr rfl |assumption):wpAny M A (storeName X.env x u) Q E s:=
 uW I hN hi hx r (λs' I' _=>h s' I') hf
def Inv.call' {s':Shared}{ch:List Addr}(I:@At)(ho:s'.os=s.os)(u:Un (gi X.stack) ch H H' s.heap s'.heap)(hok:lC X.prog X.w H' s'.heap)(hg:AllBare s'.gens)
  (hch:∀b∈ch,(b∈X.ex\/X.s₀.heap.objs.size<=b)/\b≠X.env.locals/\(∀x c,@M_->c≠b)/\∀p∈X.pn ++ pins,p.1≠b):Inv X pins σ H' s':=by
 obtain⟨h',g',d',t',o'⟩:=s'
 have e:o'=s.os:=ho
 subst e
 exact I.call (g':=g') (t':=t') (d':=d') u hok hg hch
end
abbrev XK:=Value->@J_->Hp->Prop
abbrev St:=List (Option V)
abbrev VK:=V->Hp->Prop
abbrev TE:=St->Hp->VK->Prop
abbrev TT:=St->Hp->(Bool->Hp->Prop)->Prop
abbrev TA:=St->Hp->(List V->Hp->Prop)->Prop
structure Ends where
 nx:@Q_
 rt:VK
 bk:@Q_:=λ_ _=>False
 ct:@Q_:=λ_ _=>False
abbrev TS:=Ends->@Q_
def EP (X:Cx)(pins:@Db)(σ:St)(Q:VK)(u:Value)(s':Shared):Prop:=∃v H',Inv X pins σ H' s'/\RelV v u/\Q v H'
def TP (X:Cx)(pins:@Db)(σ:St)(Q:Bool->Hp->Prop)(b:Bool)(s':Shared):Prop:=∃H',Inv X pins σ H' s'/\Q b H'
def AP (X:Cx)(pins:@Db)(σ:St)(Q:List V->Hp->Prop)(us:@GM)(s':Shared):Prop:=∃vs H',Inv X pins σ H' s'/\Vals vs us/\Q vs H'
def SP (X:Cx)(pins:@Db)(D:Ends)(f:Flow)(s':Shared):Prop:=
 match f with
 | .next=>∃σ' H',Inv X pins σ' H' s'/\D.nx σ' H'
 | .brk=>∃σ' H',Inv X pins σ' H' s'/\D.bk σ' H'
 | .cont=>∃σ' H',Inv X pins σ' H' s'/\D.ct σ' H'
 | .ret u=>∃v σ' H',Inv X pins σ' H' s'/\RelV v u/\D.rt v H'
def PE (X:Cx)(e:Expr)(t:TE):Prop:=
 ∀(pins:@Db) (s:Shared) (σ:St) (H:Hp) (Q:VK),@At->t σ H Q->wpAny @D_ X.A (eval e X.env) (EP X pins σ Q) X.xe s
def PT (X:Cx)(e:Expr)(t:TT):Prop:=
 ∀(pins:@Db) (s:Shared) (σ:St) (H:Hp) (Q:Bool->Hp->Prop),@At->t σ H Q->wpAny @D_ X.A (isTrue e X.env (eval e X.env)) (TP X pins σ Q) X.xe s
def PW (X:Cx)(e:Expr)(t:TT):Prop:=
 ∀(whole:Sem Value) (pins:@Db) (s:Shared) (σ:St) (H:Hp) (Q:Bool->Hp->Prop),@At->t σ H Q->wpAny @D_ X.A (isTrue e X.env whole) (TP X pins σ Q) X.xe s
def PW.pt {X:Cx}{e:Expr}{t:TT}(h:PW X e t):PT X e t:=h _
def PA (X:Cx)(es:@TH)(t:TA):Prop:=
 ∀(pos:Pos) (pins:@Db) (s:Shared) (σ:St) (H:Hp) (Q:List V->Hp->Prop),@At->t σ H Q->wpAny @D_ X.A (spliced (backTo pos (starEach es X.env))) (AP X pins σ Q) X.xe s
def PS (X:Cx)(st:Stmt)(t:TS):Prop:=
 ∀(pins:@Db) (s:Shared) (σ:St) (H:Hp) (D:Ends),@At->t D σ H->wpAny @D_ X.A (exec st X.env) (SP X pins D) X.xe s
def qB (X:Cx)(st:List Stmt)(t:TS):Prop:=
 ∀(pins:@Db) (s:Shared) (σ:St) (H:Hp) (D:Ends),@At->t D σ H->wpAny @D_ X.A (execs st X.env) (SP X pins D) X.xe s
def cG {α:Type}{t:Sem α}{Q Q':α->@Rs}{M:Model}{A:Around}{E:@Ch}{s:Shared}(h:wpAny M A t Q E s)(hQ:∀a s,Q a s->Q' a s):wpAny M A t Q' E s:=QS h hQ λ_ _ x=>x
section
variable {X:Cx}
def bin {a b:Expr}{ta tb:TE}(ha:PE X a ta)(hb:PE X b tb){pins:@Db}{s:Shared}{σ:St}{H:Hp}{R:V->V->Hp->Prop}(I:@At)(h:ta σ H λx H1=>tb σ H1 λy H2=>R x y H2)
  {α:Type} {Q:α->@Rs} {f:Value->Value->Sem α}
  (hf:∀v u s2 x y H2,Inv X pins σ H2 s2->RelV x v->RelV y u->R x y H2->wpAny @D_ X.A (f v u) Q X.xe s2) :
  wpAny @D_ X.A (eval a X.env) (λv s₁=>wpAny @D_ X.A (eval b X.env) (λu s₂=>wpAny @D_ X.A (f v u) Q X.xe s₂) X.xe s₁) X.xe s:=by
 refine cG (ha pins s σ H _ I h) λv s1 ⟨x,H1,I1,r1,q1⟩=>?_
 refine cG (hb pins s1 σ H1 _ I1 q1) λu s2 ⟨y,H2,I2,r2,q2⟩=>?_
 exact hf v u s2 x y H2 I2 r1 r2 q2
def HP (i:Nat):TE:=λσ H Q=>∃v,σ[i]? =some (some v)/\Q v H
def tC (v:V):TE:=λ_ H Q=>Q v H
def jn {i:Nat}{x:Str}{pos:Pos}(hN:X.N[i]? =some x)(hv:yM X.env.scope x)(hd:@FM:=by decide)(hcd:@TF:=by decide):PE X (.Name x pos) (HP i):=by
 intro pins s σ H Q I h
 obtain⟨v,e,h⟩:=h
 obtain⟨m,hn,hl⟩:=I.loc
 obtain⟨u,r,l⟩:=hl i x v hN e hv
 have fin:EP X pins σ Q u s:=⟨v,H,I,r,h⟩
 rcases l with⟨hk,hm⟩ | ⟨hk,c,hc,hcell⟩
 ·exact wpAny_Name (wpAny_loadName_local I.ok.kind hk hn hm fin) hd
 ·rcases hk with hk |hk
  ·exact wpAny_Name (wpAny_loadName_cell I.ok.kind hk hc hcell fin) hd
  ·exact wpAny_Name (wpAny_loadName_free I.ok.kind hk hc hcell fin hcd) hd
def ra {i j pos}:PE X (.Constant @S3 j pos) (tC @S3):=λ_ _ _ H _ I h=>wpAny_Constant_int ⟨.int i,H,I.tok _,⟨_,rfl⟩,h⟩
def uC {b j pos}:PE X (.Constant (.bool b) j pos) (tC (.bl b)):=λ_ _ _ H _ I h=>Constant_bool ⟨.bl b,H,I,rfl,h⟩
def JL {j pos}:PE X (.Constant .none j pos) (tC .non):=λ_ _ _ H _ I h=>Constant_none ⟨.non,H,I,rfl,h⟩
def sU {x j pos}:PE X (.Constant (.str x) j pos) (tC (.str x)):=λ_ _ _ H _ I h=>Calls.Constant_str ⟨.str x,H,I.tok _,⟨_,rfl⟩,h⟩
def Gl (X:Cx)(x:Str):Prop:=X.env.kindOf x=some .globalImplicit
def oO {E:@Ch}{pins:@Db}{s:Shared}{σ:St}{H:Hp}{x:Str}{u:Value}{pos:Pos}{Q:@Ch}(I:@At)(hg:Gl X x)(hm:X.mg x=some u)(h:Q u s)
  (hd:@FM:=by decide):wpAny @D_ X.A (eval (.Name x pos) X.env) Q E s:=
 Calls.Name_function_global I.ok.kind hg (Calls.loadGlobal_global (by rw[I.ok.glob];exact I.mod.glob.keeps I.bk) hm h) hd
def pO {E:@Ch}{pins:@Db}{s:Shared}{σ:St}{H:Hp}{x:Str}{u:Value}{pos:Pos}{Q:@Ch}(I:@At)(hg:Gl X x)(hm:X.mg x=none)(hv:bootBuiltins x=some u)(h:Q u s)
  (hn:x≠"__name__":=by decide) (hd:@FM:=by decide):wpAny @D_ X.A (eval (.Name x pos) X.env) Q E s:=by
 obtain⟨mb,h1,h2⟩:=I.mod.blt
 exact Calls.Name_function_global I.ok.kind hg (Calls.loadGlobal_builtin (by rw[I.ok.glob];exact I.mod.glob.keeps I.bk) hm (by rw[I.ok.blt];exact h1.keeps I.bk) ((h2 x hn).trans hv) h) hd
def dk {x:Str}{v:V}{u:Value}{pos:Pos}(hg:Gl X x)(hm:X.mg x=some u)(r:RelV v u)(hd:@FM:=by decide):PE X (.Name x pos) (tC v):=
 λ_ _ _ H _ I h=>oO I hg hm ⟨v,H,I,r,h⟩ hd
def BC {x:Str}{v:V}{u:Value}{pos:Pos}(hg:Gl X x)(hm:X.mg x=none)(hv:bootBuiltins x=some u)(r:RelV v u)(hn:x≠"__name__":=by decide)(hd:@FM:=by decide):PE X (.Name x pos) (tC v):=
 λ_ _ _ H _ I h=>pO I hg hm hv ⟨v,H,I,r,h⟩ hn hd
variable {a b:Expr}{ta tb:TE}{pos:Pos}
def PC (X:Cx)(op:CmpOp)(a b:Expr)(t:TE):Prop:=
 ∀(pins:@Db) (s:Shared) (σ:St) (H:Hp) (Q:VK),@At->t σ H Q->
  wpAny @D_ X.A (eval a X.env) (λv s₁=>wpAny @D_ X.A (eval b X.env) (λu s₂=>wpAny @D_ X.A (compareOp op v u) (EP X pins σ Q) X.xe s₂) X.xe s₁) X.xe s
def EL (b:Expr){op:CmpOp}(h:op≠.In)(h2:op≠.NotIn):behindInMarks op b=false:=by
 have e1:(op == CmpOp.In)=false:=by cases op <;> first |rfl |exact absurd rfl h
 have e2:(op == CmpOp.NotIn)=false:=by cases op <;> first |rfl |exact absurd rfl h2
 cases b <;> simp[behindInMarks,e1,e2]
def tB (t:TE):TT:=λσ H Q=>t σ H λx H1=>∃c,x=.bl c/\Q c H1
def N6 {op:CmpOp}{t:TE}(h:PC X op a b t)(h1:behindInMarks op b=false:=by first |exact EL _ @A_ @A_ |rfl):PT X (.Compare a [op] [b] pos) (tB t):=by
 intro pins s σ H Q I hw
 refine wpAny_isTrue_Compare1 (cG (h pins s σ H _ I hw) λv s1 h1=>cG h1 λu s2 h2=>cG h2 λc s3 ⟨x,H1,I1,r1,q1⟩=>?_) h1
 obtain⟨d,rfl,q⟩:=q1
 cases r1
 exact QX ⟨H1,I1,q⟩
def sE {e:Expr}{t:TE}(h:PE X e t)(he:∀whole,isTrue e X.env whole=(do let v <-whole;standAt e.pos;holding [v] (truthy v)):=by intro _;rfl):PT X e (tB t):=by
 intro pins s σ H Q I hw
 refine isTrue_plain (cG (h pins s σ H _ I hw) λv s1 ⟨x,H1,I1,r1,q1⟩=>?_) (he _)
 obtain⟨d,rfl,q⟩:=q1
 cases r1
 exact QX ⟨H1,I1,q⟩
variable {tA tB':TT}{rest:@TH}
def Ob (t u:TT):TT:=λσ H Q=>t σ H λc H1=>if c=true then u σ H1 Q else Q false H1
def Pf (t u:TT):TT:=λσ H Q=>t σ H λc H1=>if c=true then Q true H1 else u σ H1 Q
def NQ (t:TT):TT:=λσ H Q=>t σ H λc H1=>Q (!c) H1
theorem BB (ha:PT X a tA):PW X (.BoolOp .And [a] pos) tA:=by
 intro wh pins s σ H Q I h
 refine isTrue_and (cG (ha pins s σ H Q I h) λc s1 e=>?_)
 cases c with
 |true=>exact isTrue_and_nil e
 |false=>exact e
theorem EI (ha:PT X a tA):PW X (.BoolOp .Or [a] pos) tA:=by
 intro wh pins s σ H Q I h
 refine isTrue_or (cG (ha pins s σ H Q I h) λc s1 e=>?_)
 cases c with
 |false=>exact isTrue_or_nil e
 |true=>exact e
theorem E1 (ha:PT X a tA)(hb:PW X (.BoolOp .And (b :: rest) pos) tB'):PW X (.BoolOp .And (a :: b :: rest) pos) (Ob tA tB'):=by
 intro wh pins s σ H Q I h
 refine isTrue_and (cG (ha pins s σ H _ I h) λc s1 ⟨H1,I1,q1⟩=>?_)
 cases c with
 |true=>exact hb wh pins s1 σ H1 Q I1 q1
 |false=>exact⟨H1,I1,q1⟩
theorem IK (ha:PT X a tA)(hb:PW X (.BoolOp .Or (b :: rest) pos) tB'):PW X (.BoolOp .Or (a :: b :: rest) pos) (Pf tA tB'):=by
 intro wh pins s σ H Q I h
 refine isTrue_or (cG (ha pins s σ H _ I h) λc s1 ⟨H1,I1,q1⟩=>?_)
 cases c with
 |true=>exact⟨H1,I1,q1⟩
 |false=>exact hb wh pins s1 σ H1 Q I1 q1
def Al (ha:PT X a tA):PT X (.UnaryOp .Not a pos) (NQ tA):=by
 intro pins s σ H Q I h
 exact isTrue_not (ha pins s σ H (λc H1=>Q (!c) H1) I h)
def Mu (ta tb:TE):TE:=λσ H Q=>ta σ H λx H1=>∃c,x=.bl c/\if c=true then tb σ H1 Q else Q (.bl false) H1
def Ox (ta tb:TE):TE:=λσ H Q=>ta σ H λx H1=>∃c,x=.bl c/\if c=true then Q (.bl true) H1 else tb σ H1 Q
def L7 (ta:TE):TE:=λσ H Q=>ta σ H λx H1=>∃c,x=.bl c/\Q (.bl (!c)) H1
def JQ {op}{t:TE}(h:PE X a t):PE X (.BoolOp op [a] pos) t:=λpins s σ H Q I hw=>BoolOp_one (h pins s σ H Q I hw)
theorem Kd (ha:PE X a ta)(hb:PE X (.BoolOp .And (b :: rest) pos) tb):PE X (.BoolOp .And (a :: b :: rest) pos) (Mu ta tb):=by
 intro pins s σ H Q I h
 refine BoolOp_and (cG (ha pins s σ H _ I h) λv s1 ⟨x,H1,I1,r1,q1⟩=>?_)
 obtain⟨c,rfl,q1⟩:=q1
 cases r1
 refine QX ?_
 cases c with
 |true=>exact hb pins s1 σ H1 Q I1 q1
 |false=>exact⟨.bl false,H1,I1,rfl,q1⟩
theorem Lq (ha:PE X a ta)(hb:PE X (.BoolOp .Or (b :: rest) pos) tb):PE X (.BoolOp .Or (a :: b :: rest) pos) (Ox ta tb):=by
 intro pins s σ H Q I h
 refine BoolOp_or (cG (ha pins s σ H _ I h) λv s1 ⟨x,H1,I1,r1,q1⟩=>?_)
 obtain⟨c,rfl,q1⟩:=q1
 cases r1
 refine QX ?_
 cases c with
 |false=>exact hb pins s1 σ H1 Q I1 q1
 |true=>exact⟨.bl true,H1,I1,rfl,q1⟩
def KI (ha:PE X a ta):PE X (.UnaryOp .Not a pos) (L7 ta):=by
 intro pins s σ H Q I h
 refine UnaryOp_ (cG (ha pins s σ H _ I h) λv s1 ⟨x,H1,I1,r1,q1⟩=>?_)
 obtain⟨c,rfl,q1⟩:=q1
 cases r1
 exact not_of (QX ⟨.bl (!c),H1,I1,rfl,q1⟩)
def O7 (t:TT)(ta tb:TE):TE:=λσ H Q=>t σ H λc H1=>if c=true then ta σ H1 Q else tb σ H1 Q
theorem Es {c:Expr}(hc:PT X c tA)(ha:PE X a ta)(hb:PE X b tb):PE X (.IfExp c a b pos) (O7 tA ta tb):=by
 intro pins s σ H Q I h
 refine wpAny_IfExp (cG (hc pins s σ H _ I h) λd s1 ⟨H1,I1,q1⟩=>?_)
 cases d with
 |true=>exact ha pins s1 σ H1 Q I1 q1
 |false=>exact hb pins s1 σ H1 Q I1 q1
end
def gk (K:Frag)(H:Hp)(a:Addr)(xs:List V):Prop:=
 Rd H a (.lst xs)\/
  ∃(o:Obj) (its:Array Value) (n:Nat),K.lookup a=some o/\o.cls=.type "list"/\o.dict=none/\o.data=.seq its n/\its.size<=sizeLine/\Vals xs its.toList
def gj (K:Frag)(H:Hp)(a:Addr)(xs:List V):Prop:=
 Rd H a (.tup xs)\/
  ∃(o:Obj) (its:Array Value) (n:Nat),K.lookup a=some o/\o.cls=.type "tuple"/\o.data=.seq its n/\its.size<=sizeLine/\Vals xs its.toList/\o.dict=none
def Nx:Value->Option V
 | .none=>some .non
 | .bool b=>some (.bl b)
 | .int i _=>some @S3
 | .str x _=>some (.str x)
 | .bytes b _=>some (.byt b)
 | .float b _=>some (.flt b)
 | .ref a=>some @S2
 | .type n=>some (.ty n)
 |_=>none
theorem RelV.abs {x:V}{u:Value}(r:RelV x u):Nx u=some x:=by
 cases x with
 |non=>cases r;rfl
 |bl _=>cases r;rfl
 |int _=>obtain⟨t,rfl⟩:=r;rfl
 |str _=>obtain⟨t,rfl⟩:=r;rfl
 |byt _=>obtain⟨t,rfl⟩:=r;rfl
 |flt _=>obtain⟨t,rfl⟩:=r;rfl
 |ref _=>cases r;rfl
 |ty _=>cases r;rfl
def RelV.inj {x y:V}{u:Value}(r:RelV x u)(q:RelV y u):x=y:=Option.some.inj (r.abs.symm.trans q.abs)
theorem Vals.inj:∀{xs ys:List V} {us:@GM},Vals xs us->Vals ys us->xs=ys
 |_,_,_,.nil,.nil=>rfl
 |_,_,_,.cons r t,.cons r' t'=>by rw[r.inj r',Vals.inj t t']
section
variable {X:Cx}{pins:@Db}{σ:St}{H:Hp}{s:Shared}{a:Addr}{xs ys:List V}
def Inv.list (I:@At)(h:gk X.K H a xs):∃its:@GM,Vals xs its/\PlainL s.heap a its.toArray/\xs.length<=sizeLine:=by
 rcases h with h | ⟨o,its,n,hk,hc,hd,hs,hz,r⟩
 ·obtain⟨z,its,n,r,e⟩:=h.ok I.hok
  exact⟨its,r,⟨_,n,e,rfl,rfl,rfl⟩,z⟩
 ·refine⟨its.toList,r,⟨o,n,I.kIn a o hk,hc,hd,by simpa using hs⟩,?_⟩
  have e:=r.length
  simp only[RW] at e
  omega
def Inv.tuple (I:@At)(h:gj X.K H a xs):∃its:@GM,Vals xs its/\IsTup s.heap a its.toArray/\xs.length<=sizeLine:=by
 rcases h with h | ⟨o,its,n,hk,hc,hs,hz,r,_⟩
 ·obtain⟨z,its,r,p⟩:=h.ok I.hok
  exact⟨its,r,p.isTup,z⟩
 ·refine⟨its.toList,r,⟨o,I.kIn a o hk,hc,n,by simpa using hs⟩,?_⟩
  have e:=r.length
  simp only[RW] at e
  omega
def Inv.list_inj (I:@At)(h:gk X.K H a xs)(h':gk X.K H a ys):xs=ys:=by
 obtain⟨its,r,⟨o,n,e,_,_,d⟩,_⟩:=I.list h
 obtain⟨its',r',⟨o',n',e',_,_,d'⟩,_⟩:=I.list h'
 rw[e] at e';cases e'
 rw[d] at d'
 injection d' with d1 _
 have:its=its':=by simpa using congrArg Array.toList d1
 subst this
 exact r.inj r'
def Inv.tuple_inj (I:@At)(h:gj X.K H a xs)(h':gj X.K H a ys):xs=ys:=by
 obtain⟨its,r,⟨o,e,_,n,d⟩,_⟩:=I.tuple h
 obtain⟨its',r',⟨o',e',_,n',d'⟩,_⟩:=I.tuple h'
 rw[e] at e';cases e'
 rw[d] at d'
 injection d' with d1 _
 have:its=its':=by simpa using congrArg Array.toList d1
 subst this
 exact r.inj r'
end
abbrev Cx.wish (X:Cx)(E:@Ch):Cx:={X with xe:=E}
abbrev Cx.nox (X:Cx):Cx:=X.wish λ_ _=>False
def Cx.Ok.wish {X:Cx}(ok:X.Ok)(E:@Ch):(X.wish E).Ok:=
 ⟨ok.mod,ok.kind,ok.glob,ok.blt,ok.above,ok.inj,ok.has,ok.cab,ok.hd,ok.frames,ok.stk,ok.exf,ok.bs,ok.bsz,ok.noex,ok.exfs,ok.funs,ok.frf⟩
def Cx.Ok.unwish {X:Cx}{E:@Ch}(ok:(X.wish E).Ok):X.Ok:=
 ⟨ok.mod,ok.kind,ok.glob,ok.blt,ok.above,ok.inj,ok.has,ok.cab,ok.hd,ok.frames,ok.stk,ok.exf,ok.bs,ok.bsz,ok.noex,ok.exfs,ok.funs,ok.frf⟩
section
variable {X:Cx}{pins:@Db}{σ:St}{H:Hp}{s:Shared}{E:@Ch}
def Inv.wish (I:@At)(E:@Ch):Inv (X.wish E) pins σ H s:=⟨I.ok.wish E,I.os,I.bare,I.base,I.loc,I.cell,I.free,I.freeC,I.pin,I.hok,I.len⟩
def Inv.unwish (I:Inv (X.wish E) pins σ H s):@At:=⟨I.ok.unwish,I.os,I.bare,I.base,I.loc,I.cell,I.free,I.freeC,I.pin,I.hok,I.len⟩
theorem SP.unwish {D:Ends}{f:Flow}{s':Shared}(h:SP (X.wish E) pins D f s'):SP X pins D f s':=by
 cases f with
 |next=>obtain⟨σ',H',I,q⟩:=h;exact⟨σ',H',I.unwish,q⟩
 |brk=>obtain⟨σ',H',I,q⟩:=h;exact⟨σ',H',I.unwish,q⟩
 |cont=>obtain⟨σ',H',I,q⟩:=h;exact⟨σ',H',I.unwish,q⟩
 |ret u=>obtain⟨v,σ',H',I,r,q⟩:=h;exact⟨v,σ',H',I.unwish,r,q⟩
def qB.nox {st:List Stmt}{t:TS}(h:qB X.nox st t):qB X st t:=λpins s σ H D I hw=>
 QS (h pins s σ H D (I.wish _) hw) (λ_ _ q=>q.unwish) λ_ _ z=>False.elim z
end
section
variable {X:Cx}{st:Stmt}{rest:List Stmt}{t u:TS}{e:Expr}{te:TE}{pos:Pos}
def L5:TS:=λD σ H=>D.nx σ H
def Oy (t u:TS):TS:=λD σ H=>t {D with nx:=u D} σ H
def qO:qB X [] L5:=λ_ _ σ H _ I h=>Sr ⟨σ,H,I,h⟩
theorem cL (h1:PS X st t)(h2:qB X rest u):qB X (st :: rest) (Oy t u):=by
 intro pins s σ H D I h
 refine wpAny_execs_cons (cG (h1 pins s σ H {D with nx:=u D} I h) λf s1 q=>?_)
 cases f with
 |next=>
  obtain⟨σ',H',I',q⟩:=q
  exact h2 pins s1 σ' H' D I' q
 |ret v=>exact q
 |brk=>exact q
 |cont=>exact q
theorem fg (h1:PS X st t):qB X [st] t:=by
 intro pins s σ H D I h
 refine wpAny_execs_cons (cG (h1 pins s σ H D I h) λf s1 q=>?_)
 cases f with
 |next=>exact Sr q
 |ret v=>exact q
 |brk=>exact q
 |cont=>exact q
def Inv.quiet {pins:@Db}{σ:St}{H:Hp}{s:Shared}(I:@At):interactive X.env=false:=by simp[interactive,I.ok.kind]
def MP (te:TE):TS:=λD σ H=>te σ H λ_ H1=>D.nx σ H1
def qI (he:PE X e te)(hs:swapsWith e none pos.line X.env=pure false:=by rfl):PS X (.Expr e pos) (MP te):=by
 intro pins s σ H D I h
 exact wpAny_Expr_any (cG (he pins s σ H _ I h) λv s1 ⟨x,H1,I1,r1,q1⟩=>⟨σ,H1,I1,q1⟩) I.quiet hs
def NF (te:TE):TS:=λD σ H=>te σ H D.rt
def jY (he:PE X e te):PS X (.Return (some e) pos) (NF te):=by
 intro pins s σ H D I h
 exact wpAny_Return_some (cG (he pins s σ H _ I h) λv s1 ⟨x,H1,I1,r1,q1⟩=>⟨x,σ,H1,I1,r1,q1⟩)
def OB (c:TT)(t u:TS):TS:=λD σ H=>c σ H λb H1=>if b=true then t D σ H1 else u D σ H1
theorem Bb {c:Expr}{a b:List Stmt}{tc:TT}(hc:PT X c tc)(ha:qB X a t)(hb:qB X b u):PS X (.If c a b pos) (OB tc t u):=by
 intro pins s σ H D I h
 refine wpAny_If (cG (hc pins s σ H _ I h) λd s1 ⟨H1,I1,q1⟩=>?_)
 cases d with
 |true=>exact ha pins s1 σ H1 D I1 q1
 |false=>exact hb pins s1 σ H1 D I1 q1
end
abbrev TG:=V->St->Hp->(@Q_)->Prop
abbrev Kw:=List V->St->Hp->(@Q_)->Prop
def PG (X:Cx)(target:Expr)(t:TG):Prop:=
 ∀(pins:@Db) (s:Shared) (σ:St) (H:Hp) (v:V) (u:Value) (Q:@Q_),@At->RelV v u->t v σ H Q->
  wpAny @D_ X.A (assign target X.env u) (λ_ s'=>∃σ' H',Inv X pins σ' H' s'/\Q σ' H') X.xe s
def Nb (X:Cx)(ts:@TH)(t:Kw):Prop:=
 ∀(pins:@Db) (s:Shared) (σ:St) (H:Hp) (vs:List V) (us:@GM) (Q:@Q_),@At->Vals vs us->t vs σ H Q->
  wpAny @D_ X.A (assignInOrder ((assignEach ts X.env).map (·.2)) us) (λ_ s'=>∃σ' H',Inv X pins σ' H' s'/\Q σ' H') X.xe s
abbrev Jy:=V->V->V->Hp->(Hp->Prop)->Prop
def vg (X:Cx)(t:Jy):Prop:=
 ∀(pins:@Db) (s:Shared) (σ:St) (H:Hp) (o i v:V) (ov iv u:Value) (Q:Hp->Prop),@At->RelV o ov->RelV i iv->RelV v u->t o i v H Q->
  wpAny @D_ X.A (setItem ov iv u) (λ_ s'=>∃H',Inv X pins σ H' s'/\Q H') X.xe s
section
variable {X:Cx}{pos:Pos}
def nq (i:Nat):TG:=λv σ H Q=>Q (σ.set i (some v)) H
def di {i:Nat}{x:Str}(hN:X.N.Nodup)(hi:X.N[i]? =some x)(hx:Loc X.env.scope x)(hf:@LT:=by first |exact .inl rfl |exact .inr rfl |assumption):PG X (.Name x pos) (nq i):=by
 intro pins s σ H v u Q I r h
 exact wpAny_assign_Name (oW I hN hi hx r (λs' I'=>⟨_,H,I',h⟩) hf)
def Hy:Kw:=λvs σ H Q=>vs= []/\Q σ H
def se (t:TG)(u:Kw):Kw:=λvs σ H Q=>∃v r,vs=v :: r/\t v σ H λσ' H'=>u r σ' H' Q
def oU:Nb X [] Hy:=by
 intro pins s σ H vs us Q I r h
 obtain⟨e,h⟩:=h
 subst e
 cases r
 exact assignInOrder_nil ⟨σ,H,I,h⟩
theorem eO {e:Expr}{es:@TH}{t:TG}{u:Kw}(h1:PG X e t)(h2:Nb X es u)
  (hs:(assignEach (e :: es) X.env).map (·.2)=assign e X.env :: (assignEach es X.env).map (·.2):=by rfl):Nb X (e :: es) (se t u):=by
 intro pins s σ H vs us Q I r h
 obtain⟨v,vr,e1,h⟩:=h
 subst e1
 cases r with
 |cons r rr=>
  rw[hs]
  refine assignInOrder_cons (cG (h1 pins s σ H _ _ _ I r h) λ_ s1 ⟨σ1,H1,I1,q1⟩=>?_)
  exact h2 pins s1 σ1 H1 _ _ Q I1 rr q1
def GW (K:Frag)(n:Nat)(t:Kw):TG:=λv σ H Q=>∃a xs,v=.ref a/\gj K H a xs/\xs.length=n/\t xs σ H Q
def sv {es:@TH}{k:Nat}{t:Kw}{n:Nat}(hc:X.calm=true)(h:Nb X es t)
  (hn:(assignEach es X.env).length=n:=by rfl) (hst:(assignEach es X.env).findIdx? (·.1)=none:=by rfl):PG X (.Tuple es k pos) (GW X.K n t):=by
 intro pins s σ H v u Q I r hw
 obtain⟨a,xs,e1,hq,hl,hw⟩:=hw
 subst e1
 cases r
 obtain⟨its,rv,ht,hz⟩:=I.tuple hq
 refine assign_Tuple_tuple (I.ok.hd hc) ht (by simp[hn,<-hl,rv.length]) hst λh' hx=>?_
 have I1:Inv X pins σ H {s with heap:=h'}:=I.kept (t':=s.toks) λb o e=>hx b o (Qg (PB e)) e
 exact h pins _ σ H xs _ Q I1 (by simpa using rv) hw
def OG (to ti:TE)(t:Jy):TG:=λv σ H Q=>to σ H λo H1=>ti σ H1 λi H2=>t o i v H2 λH3=>Q σ H3
def wm {o i:Expr}{to ti:TE}{t:Jy}(ho:PE X o to)(hi:PE X i ti)(hs:vg X t)
  (ha:∀v,assign (.Subscript o i pos) X.env v=(do
   let ov <-holding [v] (eval o X.env)
   let iv <-holding [v,ov] (eval i X.env)
   standAt pos
   holding [v,ov,iv] (setItem ov iv v)
   release [v,ov,iv] []):=by intro _;rfl):PG X (.Subscript o i pos) (OG to ti t):=by
 intro pins s σ H v u Q I r h
 rw[ha]
 refine Pl (QI (cG (ho pins s σ H _ I h) λov s1 ⟨x,H1,I1,r1,q1⟩=>?_))
 refine Pl (QI (cG (hi pins s1 σ H1 _ I1 q1) λiv s2 ⟨y,H2,I2,r2,q2⟩=>?_))
 refine Pl (wpAny_standAt (Pl (QI (cG (hs pins s2 σ H2 x y v ov iv u _ I2 r1 r2 r q2) λ_ s3 ⟨H3,I3,q3⟩=>?_))))
 exact wpAny_release ⟨σ,H3,I3,q3⟩
def MH (te:TE)(g:TG):TS:=λD σ H=>te σ H λx H1=>g x σ H1 D.nx
def rT {tg e:Expr}{te:TE}{g:TG}(he:PE X e te)(hg:PG X tg g)(hs:swapsWithSole [tg] e pos.line X.env=pure false:=by rfl)(hw:swappedStores [tg] e X.env=pure none:=by rfl)
  (h1:(assignEach [tg] X.env).map (·.2)= [assign tg X.env]:=by rfl):PS X (.Assign [tg] e pos) (MH te g):=by
 intro pins s σ H D I h
 refine wpAny_Assign_stores (cG (he pins s σ H _ I h) λv s1 ⟨x,H1,I1,r1,q1⟩=>?_) hs hw
 rw[h1]
 exact cG (hg pins s1 σ H1 x v _ I1 r1 q1) λ_ s2 q=>q
def kZ {i:Nat}{x:Str}{e:Expr}{te:TE}{pos':Pos}(hN:X.N.Nodup)(hi:X.N[i]? =some x)(hx:Loc X.env.scope x)(he:PE X e te)(hs:swapsWith e (some (.Name x pos')) pos.line X.env=pure false:=by rfl)(hf:@LT:=by first |exact .inl rfl |exact .inr rfl |assumption) :
  PS X (.Assign [.Name x pos'] e pos) (MH te (nq i)):=by
 intro pins s σ H D I h
 refine wpAny_Assign_Name (cG (he pins s σ H _ I h) λv s1 ⟨y,H1,I1,r1,q1⟩=>?_) hs
 exact oW I1 hN hi hx r1 (λs2 I2=>⟨_,H1,I2,q1⟩) hf
end
section
variable {X:Cx}{pos:Pos}
def J0 (c:TT)(tb:TS):TS:=λD σ H=>∃W:Nat->@Q_,(∃m,W m σ H)/\∀m σ H,W m σ H->
 c σ H λb H1=>if b=true then ∃N:@Q_,(∀σ' H',N σ' H'->∃m',m' < m/\W m' σ' H')/\tb {D with nx:=N,ct:=N,bk:=D.nx} σ H1 else D.nx σ H1
theorem Dy {c:Expr}{body:List Stmt}{tc:TT}{tb:TS}(hp:PassesOwn @D_ X.A X.env X.xe)(hc:PT X c tc)(hb:qB X body tb):PS X (.While c body [] pos) (J0 tc tb):=by
 intro pins s σ H D I h
 obtain⟨W,⟨m0,w0⟩,turn⟩:=h
 refine wpAny_While (codeAny_whileLoop (λn s'=>∃σ' H',Inv X pins σ' H' s'/\W n σ' H') ?_ m0 ⟨σ,H,I,w0⟩)
 rintro n s1 ⟨σ1,H1,I1,w1⟩
 refine RD hp (cG (hc pins s1 σ1 H1 _ I1 (turn n σ1 H1 w1)) λb s2 ⟨H2,I2,q2⟩=>?_)
 cases b with
 |true=>
  obtain⟨N,hN,q2⟩:=q2
  rw[Po rfl]
  refine RD hp (cG (hb pins s2 σ1 H2 _ I2 q2) λf s3 q3=>?_)
  cases f with
  |next=>
   obtain⟨σ3,H3,I3,n3⟩:=q3
   obtain⟨m',hm,w3⟩:=hN σ3 H3 n3
   exact⟨m',hm,σ3,H3,I3,w3⟩
  |cont=>
   obtain⟨σ3,H3,I3,n3⟩:=q3
   obtain⟨m',hm,w3⟩:=hN σ3 H3 n3
   exact⟨m',hm,σ3,H3,I3,w3⟩
  |brk=>exact q3
  |ret v=>exact q3
 |false=>
  rw[Px PR]
  exact Sr ⟨σ1,H2,I2,q2⟩
end
structure It where
 go:Nat->Hp->Prop
 yld:Nat->Hp->V->Hp->Prop
 stop:Nat->Hp->Prop
def p4 (X:Cx)(pins:@Db)(H:Hp)(b:Addr):Prop:=
 H b=none/\b≠X.env.locals/\b∉X.fs/\(b∈X.ex\/X.s₀.heap.objs.size<=b)/\(∀x c,@M_->c≠b)/\∀p∈X.pn ++ pins,p.1≠b
def Inv.fpOk {X:Cx}{pins:@Db}{σ:St}{H H':Hp}{s:Shared}{b:Addr}(I:@At)(hb:s.heap.objs.size<=b)(hn:H' b=none):p4 X pins H' b:=by
 refine⟨hn,Nat.ne_of_gt (Qa I.lt hb),I.nofs hb,.inr (QA I.sz hb),λx c e z=>?_,λp hp z=>?_⟩
 ·obtain⟨v,q⟩:=I.cell x c e
  exact absurd (Qa q.lt (by rw[z];exact hb)) (Qe _)
 ·exact absurd (Qa (PB (I.pin p hp).1) (by rw[z];exact hb)) (Qe _)
structure Turn (P:Program)(w:World)(K:Frag)(tg:Expr)(J:It)(fp:List Addr)(it:Addr)(tn:Nat->Heap->Prop):Prop where
 mem:it∈fp
 obj:∀i h,tn i h->∀b∈fp,∃o,h.get? b=some o/\∀v,o.data≠.cell v
 keep:∀i h h',tn i h->(∀b∈fp,∀o,h.get? b=some o->h'.get? b=some o)->tn i h'
 item:∀(X:Cx),X.prog=P->X.w=w->X.K=K->X.calm=true->∀(i:Nat) (pins:@Db) (s:Shared) (σ:St) (H:Hp) (E:@Ch),@At->(∀b∈fp,p4 X pins H b)->tn i s.heap->J.go i H->
  wpAny (model P w) X.A (pyNext (.ref it)) (λr s1=>∃u,r=some u/\
   wpAny (model P w) X.A (letOwnedTupleGo tg (.ref it) u) (λ_ s2=>∃x H',Inv X pins σ H' s2/\RelV x u/\J.yld i H x H'/\tn (i + 1) s2.heap/\∀b∈fp,H' b=none) E s1) E s
 done:∀(X:Cx),X.prog=P->X.w=w->X.K=K->X.calm=true->∀(i:Nat) (pins:@Db) (s:Shared) (σ:St) (H:Hp) (E:@Ch),@At->(∀b∈fp,p4 X pins H b)->tn i s.heap->J.stop i H->
  wpAny (model P w) X.A (pyNext (.ref it)) (λr s1=>r=none/\Inv X pins σ H s1) E s
 self:∀(A:Around) (i:Nat) (s:Shared) (Q:@Ch) (E:@Ch),tn i s.heap->Q (.ref it) s->wpAny (model P w) A (pyIter (.ref it)) Q E s
abbrev TI:=St->Hp->(It->Hp->Prop)->Prop
def OR (X:Cx)(pins:@Db)(σ:St)(tg:Expr)(R:It->Hp->Prop)(itv:Value)(s2:Shared):Prop:=
 ∃(it:Addr) (fp:List Addr) (tn:Nat->Heap->Prop) (J:It) (H':Hp),itv=.ref it/\Inv X pins σ H' s2/\Turn X.prog X.w X.K tg J fp it tn/\tn 0 s2.heap/\(∀b∈fp,p4 X pins H' b)/\R J H'
def PI (X:Cx)(tg iter:Expr)(wi:TI):Prop:=
 ∀(pins:@Db) (s:Shared) (σ:St) (H:Hp) (R:It->Hp->Prop),@At->wi σ H R->
  wpAny @D_ X.A (eval iter X.env) (λv s1=>wpAny @D_ X.A (pyIter v) (OR X pins σ tg R) X.xe s1) X.xe s
def E3 {M:Model}{A:Around}{E:@Ch}{s:Shared}{tg:Expr}{it:Addr}{u:Value}{o:Obj}{n:String}{vs:Array Value}{Q:Unit->@Rs}(ho:s.heap.get? it=some o)(hc:o.cls=.type n)(hd:o.data=.fields vs)
  (hn: ["enumerate","zip","dict_itemiterator","dict_reverseitemiterator","odict_iterator","itertools.zip_longest","itertools.pairwise"].contains n=false) (hQ:Q () s):wpAny M A (letOwnedTupleGo tg (.ref it) u) Q E s:=by
 unfold letOwnedTupleGo
 cases tg <;> first
  |exact Pp hQ
  | (cases u <;> first
    |exact Pp hQ
    | (refine Pl (wpAny_load ho ?_)
       rw[hc,hd]
       show wpAny M A (if (["enumerate","zip","dict_itemiterator","dict_reverseitemiterator","odict_iterator","itertools.zip_longest","itertools.pairwise"].contains n && vs[0]? == some (rawInt _))=true then _ else _) Q E s
       rw[Px (by intro h;rw[hn,Bool.false_and] at h;cases h)]
       exact Pp hQ))
def Cz (K:Frag)(a:Addr):It:=
 ⟨λi H=>∃xs x,gk K H a xs/\xs[i]? =some x,λi H x H'=>H'=H/\∀xs,gk K H a xs->xs[i]? =some x,λi H=>∃xs,gk K H a xs/\xs.length<=i⟩
def IH (K:Frag)(a:Addr):It:=
 ⟨λi H=>∃xs x,gj K H a xs/\xs[i]? =some x,λi H x H'=>H'=H/\∀xs,gj K H a xs->xs[i]? =some x,λi H=>∃xs,gj K H a xs/\xs.length<=i⟩
def Co (lo:Int)(n:Nat):It:=⟨λi _=>i < n,λi H x H'=>H'=H/\x=.int (lo + i),λi _=>n<=i⟩
def pG {P:Program}{w:World}{K:Frag}{tg:Expr}(a it:Addr):Turn P w K tg (Cz K a) [it] it (λi h=>h.IsListIter it a i) where
 mem:=by simp
 obj:=λi h st b hb=>by
  have e:b=it:=by simpa using hb
  subst e
  obtain⟨o,e,c,d⟩:=st
  exact⟨o,e,λv z=>by rw[d] at z;cases z⟩
 keep:=λi h h' st k=>st.at λo e=>k it @Go o e
 item:=by
  intro X hP hw hK hc i pins s σ H E I hf st hg
  subst hP hw hK
  obtain⟨xs,x,hq,hx⟩:=hg
  obtain⟨its,rv,p,hz⟩:=I.list hq
  obtain⟨u,hu,ru⟩:=rv.get hx
  obtain⟨f0,f1,f2,f3,f4,f5⟩:=hf it @Go
  refine wpAny_pyNext_list_item st p.isList (x:=u) (by simpa using hu) λh' st' sb=>?_
  have I1:Inv X pins σ H {s with heap:=h'}:=I.turned (t':=s.toks) (λb o hb e=>(sb.2 b hb).trans e) f0 f1 f3 f4 f5
  obtain⟨o,e,c,d⟩:=id st'
  exact⟨u,rfl,E3 (s:={s with heap:=h'}) e c d @A_ ⟨x,H,I1,ru,⟨rfl,λys hy=>by rw[I.list_inj hy hq];exact hx⟩,st',λb hb=>(hf b hb).1⟩⟩
 done:=by
  intro X hP hw hK hc i pins s σ H E I hf st hg
  subst hP hw hK
  obtain⟨xs,hq,hx⟩:=hg
  obtain⟨its,rv,p,hz⟩:=I.list hq
  obtain⟨f0,f1,f2,f3,f4,f5⟩:=hf it @Go
  have hl:=rv.length
  exact wpAny_pyNext_list_end (I.ok.hd hc) st p.isList (by simp;omega) λh' eb=>⟨rfl,I.turned (t':=s.toks) (λb o hb e=>eb b o hb e) f0 f1 f3 f4 f5⟩
 self:=λ_ _ _ _ _ st h=>wpAny_pyIter_listiter st h
def sg {P:Program}{w:World}{K:Frag}{tg:Expr}(a it:Addr):Turn P w K tg (IH K a) [it] it (λi h=>h.IsTupleIter it a i) where
 mem:=by simp
 obj:=λi h st b hb=>by
  have e:b=it:=by simpa using hb
  subst e
  obtain⟨o,e,c,d⟩:=st
  exact⟨o,e,λv z=>by rw[d] at z;cases z⟩
 keep:=λi h h' st k=>st.at λo e=>k it @Go o e
 item:=by
  intro X hP hw hK hc i pins s σ H E I hf st hg
  subst hP hw hK
  obtain⟨xs,x,hq,hx⟩:=hg
  obtain⟨its,rv,p,hz⟩:=I.tuple hq
  obtain⟨u,hu,ru⟩:=rv.get hx
  obtain⟨f0,f1,f2,f3,f4,f5⟩:=hf it @Go
  refine wpAny_pyNext_tuple_item st (show s.heap.IsTuple a its.toArray from p) (x:=u) (by simpa using hu) λh' st' sb=>?_
  have I1:Inv X pins σ H {s with heap:=h'}:=I.turned (t':=s.toks) (λb o hb e=>(sb.2 b hb).trans e) f0 f1 f3 f4 f5
  obtain⟨o,e,c,d⟩:=id st'
  exact⟨u,rfl,E3 (s:={s with heap:=h'}) e c d @A_ ⟨x,H,I1,ru,⟨rfl,λys hy=>by rw[I.tuple_inj hy hq];exact hx⟩,st',λb hb=>(hf b hb).1⟩⟩
 done:=by
  intro X hP hw hK hc i pins s σ H E I hf st hg
  subst hP hw hK
  obtain⟨xs,hq,hx⟩:=hg
  obtain⟨its,rv,p,hz⟩:=I.tuple hq
  obtain⟨f0,f1,f2,f3,f4,f5⟩:=hf it @Go
  have hl:=rv.length
  exact wpAny_pyNext_tuple_end (I.ok.hd hc) st (show s.heap.IsTuple a its.toArray from p) (by simp;omega) λh' eb=>⟨rfl,I.turned (t':=s.toks) (λb o hb e=>eb b o hb e) f0 f1 f3 f4 f5⟩
 self:=λ_ _ _ _ _ st h=>wpAny_pyIter_tupleiter st h
def zp {P:Program}{w:World}{K:Frag}{tg:Expr}(it:Addr)(lo:Int)(n:Nat):Turn P w K tg (Co lo n) [it] it (λi h=>IsRangeIter h it (lo + (i:Nat) * 1) ((n:Int) - (i:Nat)) 1) where
 mem:=by simp
 obj:=λi h st b hb=>by
  have e:b=it:=by simpa using hb
  subst e
  exact⟨_,st,λv z=>by
   have z':Data.fields _=Data.cell v:=z
   cases z'⟩
 keep:=λi h h' st k=>k it @Go _ st
 item:=by
  intro X hP hw hK hc i pins s σ H E I hf st hg
  subst hP hw hK
  obtain⟨f0,f1,f2,f3,f4,f5⟩:=hf it @Go
  have W:=Walks.range (prog:=X.prog) (w:=X.w) (I.ok.hd hc) it lo 1 n
  refine W.item i s _ _ hg st λv h' tk hv st' kk=>?_
  obtain⟨t,rfl⟩:=hv
  have I1:Inv X pins σ H {s with heap:=h',toks:=tk}:=I.turned (λb o hb e=>kk b o (by simpa using hb) e) f0 f1 f3 f4 f5
  refine⟨_,rfl,E3 (s:={s with heap:=h',toks:=tk}) (n:="range_iterator") st' rfl rfl @A_ ⟨.int (lo + i),H,I1,⟨t,?_⟩,⟨rfl,rfl⟩,st',λb hb=>(hf b hb).1⟩⟩
  rw[Int.mul_one]
 done:=by
  intro X hP hw hK hc i pins s σ H E I hf st hg
  subst hP hw hK
  obtain⟨f0,f1,f2,f3,f4,f5⟩:=hf it @Go
  exact wpAny_pyNext_range_end (I.ok.hd hc) st (by have:n<=i:=hg;omega) λh' eb=>⟨rfl,I.turned (t':=s.toks) (λb o hb e=>eb b o hb e) f0 f1 f3 f4 f5⟩
 self:=λ_ _ _ _ _ st h=>wpAny_pyIter_rangeiter st h
section
variable {X:Cx}{tg:Expr}
def L8 (K:Frag)(tl:TE):TI:=λσ H R=>tl σ H λx H1=>∃a,x=.ref a/\(∃xs,gk K H1 a xs)/\R (Cz K a) H1
def BF {l:Expr}{tl:TE}(hl:PE X l tl):PI X tg l (L8 X.K tl):=by
 intro pins s σ H R I h
 refine cG (hl pins s σ H _ I h) λv s1 ⟨x,H1,I1,r1,q1⟩=>?_
 obtain⟨a,e,⟨xs,hq⟩,q⟩:=q1
 subst e
 cases r1
 obtain⟨its,rv,p,hz⟩:=I1.list hq
 refine RG p.isList ?_
 refine⟨s1.heap.objs.size,[s1.heap.objs.size],_,_,H1,rfl,I1.kept (t':=s1.toks) λb o e=>Pq _ e,pG a _,⟨_,PX _ rfl,rfl,rfl⟩,λb hb=>?_,q⟩
 have e:b=s1.heap.objs.size:=by simpa using hb
 subst e
 exact I1.fpOk (Pt _) (I1.hok.fresh (Pt _))
def yo {pins:@Db}{σ:St}{H:Hp}{s:Shared}{R:It->Hp->Prop}{E:@Ch}{lo hi:Int}{t u v:Tok}{tk:Nat}(I:@At)(h1: -(2 ^ 62)<=lo)(h2:lo < 2 ^ 62)(h3: -(2 ^ 62)<=hi)(h4:hi < 2 ^ 62)
  (q:R (Co lo (hi - lo).toNat) H):wpAny @D_ X.A (pyIter (@LE)) (OR X pins σ tg R) E {s with heap:=s.heap.push @SU,toks:=tk}:=by
 refine wpAny_pyIter_range (IsRange.new ..) (small_one h1 h2 h3 h4) ?_
 have I1:Inv X pins σ H {s with heap:=s.heap.push @SU,toks:=tk}:=I.kept λb o e=>Pq _ e
 refine⟨(s.heap.push @SU).objs.size,[(s.heap.push @SU).objs.size],_,_,H,rfl,
  I1.kept (t':=tk) λb o e=>Pq _ e,zp _ lo (hi - lo).toNat,?_,λb hb=>?_,q⟩
 ·have e1:lo + ((0:Nat):Int) * 1=lo:=by simp
  have e2:(((hi - lo).toNat:Nat):Int) - ((0:Nat):Int)=Builtin.Range.rangeSize lo hi 1:=by rw[rangeSize_one];split <;> omega
  show IsRangeIter _ _ (lo + ((0:Nat):Int) * 1) ((((hi - lo).toNat:Nat):Int) - ((0:Nat):Int)) 1
  rw[e1,e2]
  exact PX _ rfl
 ·have e:b=(s.heap.push @SU).objs.size:=by simpa using hb
  subst e
  exact I1.fpOk (Pt _) (I1.hok.fresh (Pt _))
def LI (ta:TA):TI:=λσ H R=>ta σ H λvs H1=>∃j:Int,vs= [.int j]/\ -(2 ^ 62)<=j/\j < 2 ^ 62/\R (Co 0 j.toNat) H1
def Lu (ta:TA):TI:=λσ H R=>ta σ H λvs H1=>∃i j:Int,vs= [.int i,.int j]/\(-(2 ^ 62)<=i/\i < 2 ^ 62/\ -(2 ^ 62)<=j/\j < 2 ^ 62)/\R (Co i (j - i).toNat) H1
theorem mX {a:Expr}{ta:TA}{p pos:Pos}(hg:Gl X "range")(hm:X.mg "range"=none)(ha:PA X [a] ta)(hs:starEach [a] X.env= [@S4]:=by rfl):PI X tg (.Call (.Name "range" p) [a] [] pos) (LI ta):=by
 intro pins s σ H R I h
 refine Call_ (pO I hg hm boot_range (RA (cG (ha pos pins s σ H _ I h) λus s1 ⟨vs,H1,I1,r1,q1⟩=>?_) hs rfl))
 obtain⟨j,e,q1,q2,q⟩:=q1
 subst e
 cases r1 with
 |cons r rr=>
  cases rr
  obtain⟨t,rfl⟩:=r
  exact call_range_1 (yo I1 (@AT) (@AT) q1 q2 (by simpa using q))
theorem Cg {a b:Expr}{ta:TA}{p pos:Pos}(hg:Gl X "range")(hm:X.mg "range"=none)(ha:PA X [a,b] ta)(hs:starEach [a,b] X.env= [@S4,(false,eval b X.env)]:=by rfl)(hs2:starEach [b] X.env= [(false,eval b X.env)]:=by rfl) :
  PI X tg (.Call (.Name "range" p) [a,b] [] pos) (Lu ta):=by
 intro pins s σ H R I h
 refine Call_ (pO I hg hm boot_range (RA (cG (ha pos pins s σ H _ I h) λus s1 ⟨vs,H1,I1,r1,q1⟩=>?_) (by rw[hs,hs2]) (by rw[hs2];rfl)))
 obtain⟨i,j,e,⟨q1,q2,q3,q4⟩,q⟩:=q1
 subst e
 cases r1 with
 |cons r rr=>
  cases rr with
  |cons r' rr=>
   cases rr
   obtain⟨t,rfl⟩:=r
   obtain⟨t',rfl⟩:=r'
   exact call_range_2 (yo I1 q1 q2 q3 q4 q)
def ND (wi:TI)(g:TG)(tb:TS):TS:=λD σ H=>wi σ H λJ H1=>∃W:Nat->Nat->@Q_,(∃m,W 0 m σ H1)/\∀i m σ H,W i m σ H->
 (J.stop i H/\D.nx σ H)\/(J.go i H/\∃N:@Q_,(∀σ' H',N σ' H'->∃m',m' < m/\W (i + 1) m' σ' H')/\∀x H',J.yld i H x H'->g x σ H' λσ2 H2=>tb {D with nx:=N,ct:=N,bk:=D.nx} σ2 H2)
def sQ (fp:List Addr)(h:Heap):@Db:=fp.filterMap λb=>(h.get? b).map λo=>(b,o)
def ky {fp:List Addr}{h:Heap}{b:Addr}{o:Obj}(hb:b∈fp)(e:h.get? b=some o):(b,o)∈sQ fp h:=Rh.mpr ⟨b,hb,by rw[e];rfl⟩
theorem CC {fp:List Addr}{h:Heap}{p:Addr×Obj}(hp:p∈sQ fp h):p.1∈fp/\h.get? p.1=some p.2:=by
 obtain⟨b,hb,e⟩:=Rh.mp hp
 cases q:h.get? b with
 |none=>rw[q] at e;cases e
 |some o=>
  rw[q] at e
  have e':(b,o)=p:=Option.some.inj e
  subst e'
  exact⟨hb,q⟩
def Inv.pinned {pins:@Db}{σ:St}{H:Hp}{s:Shared}{fp:List Addr}(I:@At)(hf:∀b∈fp,p4 X pins H b)(ho:∀b∈fp,∃o,s.heap.get? b=some o/\∀v,o.data≠.cell v):Inv X (pins ++ sQ fp s.heap) σ H s:=
 I.pins_of λp hp=>(PQ.mp hp).elim (λz=>I.pin p (Qi _ z)) λz=>by
  obtain⟨hb,e⟩:=CC z
  obtain⟨f0,f1,f2,_⟩:=hf p.1 hb
  obtain⟨o,e',d⟩:=ho p.1 hb
  rw[e] at e';cases e'
  exact⟨e,f0,f1,f2,d⟩
def Inv.unpinned {pins pl:@Db}{σ:St}{H:Hp}{s:Shared}(I:Inv X (pins ++ pl) σ H s):@At:=I.pins_of λp hp=>I.pin p (Qi _ (QR _ hp))
def vB {iter:Expr}{body:List Stmt}{wi:TI}{g:TG}{tb:TS}{pos:Pos}(hp:PassesOwn @D_ X.A X.env X.xe)(hc:X.calm=true)(hi:PI X tg iter wi)(hg:PG X tg g)(hb:qB X body tb)
  (hs:∀x,foldedSetIterable iter X.env x=pure x:=by intro _;rfl):PS X (.For tg iter body [] pos) (ND wi g tb):=by
 intro pins s σ H D I h
 refine wpAny_For (cG (hi pins s σ H _ I h) λv s1 h1=>cG h1 λitv s2 h2=>?_) hs
 obtain⟨it,fp,tn,J,H2,e,I2,T,st2,f2,W,⟨m0,w0⟩,turn⟩:=h2
 subst e
 have stat:∀{H':Hp},(∀b∈fp,H' b=none)->∀b∈fp,p4 X pins H' b:=λhn b hb=>⟨hn b hb,(f2 b hb).2⟩
 refine codeAny_forLoop_any (λn s'=>∃i σ' H',Inv X pins σ' H' s'/\tn i s'.heap/\(∀b∈fp,H' b=none)/\W i n σ' H') ?_ m0 ⟨0,σ,H2,I2,st2,λb hb=>(f2 b hb).1,w0⟩
 rintro n s3 ⟨i,σ3,H3,I3,st3,fr3,w3⟩
 rcases turn i n σ3 H3 w3 with⟨stop,qn⟩ | ⟨go,N,hN,step⟩
 ·refine RD hp (cG (T.done X rfl rfl rfl hc i pins s3 σ3 H3 X.xe I3 (stat fr3) st3 stop) λr s4 ⟨hr,I4⟩=>?_)
  subst hr
  exact Sr ⟨σ3,H3,I4,qn⟩
 ·refine RD hp (cG (T.item X rfl rfl rfl hc i pins s3 σ3 H3 X.xe I3 (stat fr3) st3 go) λr s4 ⟨u,hr,h4⟩=>?_)
  subst hr
  refine RD hp (cG h4 λ_ s5 ⟨x,H5,I5,r5,y5,st5,fr5⟩=>?_)
  have I5':=I5.pinned (stat fr5) (T.obj _ _ st5)
  refine RD hp (cG (hg _ s5 σ3 H5 x u _ I5' r5 (step x H5 y5)) λ_ s6 ⟨σ6,H6,I6,q6⟩=>?_)
  refine RD hp (cG (hb _ s6 σ6 H6 _ I6 q6) λf s7 q7=>?_)
  have again:∀{σ7:St} {H7:Hp},Inv X (pins ++ sQ fp s5.heap) σ7 H7 s7->N σ7 H7->∃m,m < n/\∃i σ' H',Inv X pins σ' H' s7/\tn i s7.heap/\(∀b∈fp,H' b=none)/\W i m σ' H':=λ{σ7 H7} I7 n7=>by
   obtain⟨m',hm,w7⟩:=hN σ7 H7 n7
   refine⟨m',hm,i + 1,σ7,H7,I7.unpinned,T.keep _ _ _ st5 λb hb o e=>(I7.pin (b,o) (Qi _ (Qi _ (ky hb e)))).1,λb hb=>?_,w7⟩
   obtain⟨o,e,d⟩:=T.obj _ _ st5 b hb
   exact (I7.pin (b,o) (Qi _ (Qi _ (ky hb e)))).2.1
  cases f with
  |next=>obtain⟨σ7,H7,I7,n7⟩:=q7;exact again I7 n7
  |cont=>obtain⟨σ7,H7,I7,n7⟩:=q7;exact again I7 n7
  |brk=>obtain⟨σ7,H7,I7,q7⟩:=q7;exact⟨σ7,H7,I7.unpinned,q7⟩
  |ret v=>obtain⟨x7,σ7,H7,I7,r7,q7⟩:=q7;exact⟨x7,σ7,H7,I7.unpinned,r7,q7⟩
end
def xB {K:Frag}{a:Addr}{xs:List V}{g:TG}{tb:TS}{D:Ends}{σ:St}{H:Hp}(Pv:Nat->@Q_)(h0:Pv 0 σ H)(hl:∀i σ H,i<=xs.length->Pv i σ H->gk K H a xs)
  (hs:∀i x σ H,xs[i]? =some x->Pv i σ H->g x σ H λσ2 H2=>tb {D with nx:=Pv (i + 1),ct:=Pv (i + 1),bk:=D.nx} σ2 H2) (hd:∀σ H,Pv xs.length σ H->D.nx σ H) :
  ∃W:Nat->Nat->@Q_,(∃m,W 0 m σ H)/\∀i m σ H,W i m σ H->
   ((Cz K a).stop i H/\D.nx σ H)\/((Cz K a).go i H/\∃N:@Q_,(∀σ' H',N σ' H'->∃m',m' < m/\W (i + 1) m' σ' H')/\∀x H',(Cz K a).yld i H x H'->g x σ H' λσ2 H2=>tb {D with nx:=N,ct:=N,bk:=D.nx} σ2 H2):=by
 refine⟨λi m σ H=>m=xs.length - i/\i<=xs.length/\Pv i σ H,⟨xs.length,by simp,Qp _,h0⟩,?_⟩
 rintro i m σ H ⟨rfl,hi,p⟩
 have q:=hl i σ H hi p
 by_cases hlt:i < xs.length
 ·refine .inr ⟨⟨xs,xs[i],q,by simp[hlt]⟩,Pv (i + 1),λσ' H' p'=>⟨xs.length - (i + 1),@AT,rfl,hlt,p'⟩,λx H' y=>?_⟩
  obtain⟨e,y⟩:=y
  subst e
  exact hs i x σ _ (y xs q) p
 ·have e:i=xs.length:=@AT
  subst e
  exact .inl ⟨⟨xs,q,Pt _⟩,hd σ H p⟩
def Ho {K:Frag}{a:Addr}{xs:List V}{g:TG}{tb:TS}{D:Ends}{σ:St}{H:Hp}(Pv:Nat->@Q_)(h0:Pv 0 σ H)(hl:∀i σ H,i<=xs.length->Pv i σ H->gj K H a xs)
  (hs:∀i x σ H,xs[i]? =some x->Pv i σ H->g x σ H λσ2 H2=>tb {D with nx:=Pv (i + 1),ct:=Pv (i + 1),bk:=D.nx} σ2 H2) (hd:∀σ H,Pv xs.length σ H->D.nx σ H) :
  ∃W:Nat->Nat->@Q_,(∃m,W 0 m σ H)/\∀i m σ H,W i m σ H->
   ((IH K a).stop i H/\D.nx σ H)\/((IH K a).go i H/\∃N:@Q_,(∀σ' H',N σ' H'->∃m',m' < m/\W (i + 1) m' σ' H')/\∀x H',(IH K a).yld i H x H'->g x σ H' λσ2 H2=>tb {D with nx:=N,ct:=N,bk:=D.nx} σ2 H2):=by
 refine⟨λi m σ H=>m=xs.length - i/\i<=xs.length/\Pv i σ H,⟨xs.length,by simp,Qp _,h0⟩,?_⟩
 rintro i m σ H ⟨rfl,hi,p⟩
 have q:=hl i σ H hi p
 by_cases hlt:i < xs.length
 ·refine .inr ⟨⟨xs,xs[i],q,by simp[hlt]⟩,Pv (i + 1),λσ' H' p'=>⟨xs.length - (i + 1),@AT,rfl,hlt,p'⟩,λx H' y=>?_⟩
  obtain⟨e,y⟩:=y
  subst e
  exact hs i x σ _ (y xs q) p
 ·have e:i=xs.length:=@AT
  subst e
  exact .inl ⟨⟨xs,q,Pt _⟩,hd σ H p⟩
def BU {lo:Int}{n:Nat}{g:TG}{tb:TS}{D:Ends}{σ:St}{H:Hp}(Pv:Nat->@Q_)(h0:Pv 0 σ H)
  (hs:∀i σ H,i < n->Pv i σ H->g (.int (lo + i)) σ H λσ2 H2=>tb {D with nx:=Pv (i + 1),ct:=Pv (i + 1),bk:=D.nx} σ2 H2) (hd:∀σ H,Pv n σ H->D.nx σ H) :
  ∃W:Nat->Nat->@Q_,(∃m,W 0 m σ H)/\∀i m σ H,W i m σ H->
   ((Co lo n).stop i H/\D.nx σ H)\/((Co lo n).go i H/\∃N:@Q_,(∀σ' H',N σ' H'->∃m',m' < m/\W (i + 1) m' σ' H')/\∀x H',(Co lo n).yld i H x H'->g x σ H' λσ2 H2=>tb {D with nx:=N,ct:=N,bk:=D.nx} σ2 H2):=by
 refine⟨λi m σ H=>m=n - i/\i<=n/\Pv i σ H,⟨n,by simp,Qp _,h0⟩,?_⟩
 rintro i m σ H ⟨rfl,hi,p⟩
 by_cases hlt:i < n
 ·refine .inr ⟨hlt,Pv (i + 1),λσ' H' p'=>⟨n - (i + 1),@AT,rfl,hlt,p'⟩,λx H' y=>?_⟩
  obtain⟨e,y⟩:=y
  subst e y
  exact hs i σ _ hlt p
 ·have e:i=n:=@AT
  subst e
  exact .inl ⟨Pt _,hd σ H p⟩
abbrev R2:=V->V->Hp->VK->Prop
def mQ (X:Cx)(f:Value->Value->Sem Value)(r:R2):Prop:=
 ∀(pins:@Db) (s:Shared) (σ:St) (H:Hp) (x y:V) (v u:Value) (Q:VK),@At->RelV x v->RelV y u->r x y H Q->
  wpAny @D_ X.A (f v u) (EP X pins σ Q) X.xe s
def Nl (X:Cx)(f:Value->Sem Value)(r:V->Hp->VK->Prop):Prop:=
 ∀(pins:@Db) (s:Shared) (σ:St) (H:Hp) (x:V) (v:Value) (Q:VK),@At->RelV x v->r x H Q->
  wpAny @D_ X.A (f v) (EP X pins σ Q) X.xe s
def dr (X:Cx)(f:Value)(r:@KM):Prop:=
 ∀(pins:@Db) (s:Shared) (σ:St) (H:Hp) (xs:List V) (us:@GM) (Q:VK),@At->Vals xs us->r xs H Q->
  wpAny @D_ X.A (call f us) (EP X pins σ Q) X.xe s
def Ot (X:Cx)(r:V->Hp->(Bool->Hp->Prop)->Prop):Prop:=
 ∀(pins:@Db) (s:Shared) (σ:St) (H:Hp) (x:V) (v:Value) (Q:Bool->Hp->Prop),@At->RelV x v->r x H Q->
  wpAny @D_ X.A (truthy v) (TP X pins σ Q) X.xe s
def MY (r:R2)(ta tb:TE):TE:=λσ H Q=>ta σ H λx H1=>tb σ H1 λy H2=>r x y H2 Q
def Pc (r:V->Hp->VK->Prop)(ta:TE):TE:=λσ H Q=>ta σ H λx H1=>r x H1 Q
def rI (C:Int->Int->Prop)(g:Int->Int->V):R2:=λx y H Q=>∃i j,x=.int i/\y=.int j/\C i j/\Q (g i j) H
def zI (g:Int->Int->V):R2:=λx y H Q=>∃i j,x=.int i/\y=.int j/\Q (g i j) H
def rU (g:Int->V):V->Hp->VK->Prop:=λx H Q=>∃i,x=.int i/\Q (g i) H
section
variable {X:Cx}{a b c:Expr}{ta tb tc:TE}{pos:Pos}
def Ki (ha:PE X a ta)(hb:PE X b tb){pins:@Db}{s:Shared}{σ:St}{H:Hp}{R:V->V->Hp->Prop}(I:@At)
  (h:ta σ H λx H1=>tb σ H1 λy H2=>R x y H2) {Q:@Ch} {f:Value->Value->Sem Value}
  (hf:∀v u s2 x y H2,Inv X pins σ H2 s2->RelV x v->RelV y u->R x y H2->wpAny @D_ X.A (f v u) Q X.xe s2) :
  wpAny @D_ X.A (eval a X.env) (λv s₁=>wpAny @D_ X.A (eval b X.env) (λu s₂=>wpAny @D_ X.A (f v u) Q X.xe s₂) X.xe s₁) X.xe s:=by
 refine cG (ha pins s σ H _ I h) λv s1 ⟨x,H1,I1,r1,q1⟩=>?_
 refine cG (hb pins s1 σ H1 _ I1 q1) λu s2 ⟨y,H2,I2,r2,q2⟩=>?_
 exact hf v u s2 x y H2 I2 r1 r2 q2
def qi {op:Operator}{r:R2}(ho:mQ X (binaryOp op) r)(ha:PE X a ta)(hb:PE X b tb):PE X (.BinOp a op b pos) (MY r ta tb):=by
 intro pins s σ H Q I h
 exact wpAny_BinOp (Ki ha hb I h λv u s2 x y H2 I2 rx ry q=>ho pins s2 σ H2 x y v u Q I2 rx ry q)
def MS {op:UnaryOp}{r:V->Hp->VK->Prop}(ho:Nl X (unaryOp op) r)(ha:PE X a ta):PE X (.UnaryOp op a pos) (Pc r ta):=by
 intro pins s σ H Q I h
 exact UnaryOp_ (cG (ha pins s σ H _ I h) λv s1 ⟨x,H1,I1,r1,q1⟩=>ho pins s1 σ H1 x v Q I1 r1 q1)
def MU {f:Value->Value->Sem Value}{C:Int->Int->Prop}{g:Int->Int->Int}
  (rule:∀(i j:Int) (t u:Tok) (s:Shared) (Q:@Ch) (E:@Ch),C i j->Q (.int (g i j) s.toks) {s with toks:=s.toks + 1}->wpAny @D_ X.A (f (.int i t) (.int j u)) Q E s) :
  mQ X f (rI C λi j=>.int (g i j)):=by
 intro pins s σ H x y v u Q I rx ry h
 obtain⟨i,j,rfl,rfl,hc,q⟩:=h
 obtain⟨t,rfl⟩:=rx
 obtain⟨t',rfl⟩:=ry
 exact rule i j t t' s _ _ hc ⟨.int (g i j),H,I.tok _,⟨_,rfl⟩,q⟩
def KC {f:Value->Value->Sem Value}{g:Int->Int->Int}
  (rule:∀(i j:Int) (t u:Tok) (s:Shared) (Q:@Ch) (E:@Ch),Q (.int (g i j) s.toks) {s with toks:=s.toks + 1}->wpAny @D_ X.A (f (.int i t) (.int j u)) Q E s) :
  mQ X f (zI λi j=>.int (g i j)):=by
 intro pins s σ H x y v u Q I rx ry h
 obtain⟨i,j,rfl,rfl,q⟩:=h
 obtain⟨t,rfl⟩:=rx
 obtain⟨t',rfl⟩:=ry
 exact rule i j t t' s _ _ ⟨.int (g i j),H,I.tok _,⟨_,rfl⟩,q⟩
def Js {f:Value->Value->Sem Value}{g:Int->Int->Bool}
  (rule:∀(i j:Int) (t u:Tok) (s:Shared) (Q:@Ch) (E:@Ch),Q (.bool (g i j)) s->wpAny @D_ X.A (f (.int i t) (.int j u)) Q E s) :
  mQ X f (zI λi j=>.bl (g i j)):=by
 intro pins s σ H x y v u Q I rx ry h
 obtain⟨i,j,rfl,rfl,q⟩:=h
 obtain⟨t,rfl⟩:=rx
 obtain⟨t',rfl⟩:=ry
 exact rule i j t t' s _ _ ⟨.bl (g i j),H,I,rfl,q⟩
def He (i j:Int):Prop:=0 < j/\j < 1073741824
def DD (i j:Int):Prop:=0<=j/\j<=1000000/\i.natAbs < 2 ^ 64
def Dk (i j:Int):Prop:=(-(2 ^ 64) < i/\i < 2 ^ 64)\/(-(2 ^ 64) < j/\j < 2 ^ 64)
def Dk.ok {i j:Int}(h:Dk i j):IntMulOk i j:=by
 rcases h with⟨h1,h2⟩ | ⟨h1,h2⟩
 ·exact .of_left (intBits_le_64 h1 h2)
 ·exact .of_right (intBits_le_64 h1 h2)
def jo:mQ X (binaryOp .Add) (zI λi j=>.int (i + j)):=KC λ_ _ _ _ _ _ _ q=>add_int q
def jT:mQ X (binaryOp .Mult) (rI Dk λi j=>.int (i * j)):=MU λ_ _ _ _ _ _ _ hc q=>mul_int q hc.ok
def oQ:mQ X (binaryOp .FloorDiv) (rI He λi j=>.int (i / j)):=MU λi j _ _ _ _ _ hc q=>by
 have h1:(0:Int) < j:=hc.1
 have h2:j < 1073741824:=hc.2
 exact floordiv_int (@AT) (by rw[Int.fdiv_eq_ediv_of_nonneg i (@AT)];exact q) (.inl (PyProof.noPylong_small (@AT)))
def nH:mQ X (binaryOp .Mod) (rI (λ_ j=>0 < j) λi j=>.int (i % j)):=MU λi j _ _ _ _ _ hc q=>by
 have h1:(0:Int) < j:=hc
 exact mod_int' (@AT) (by rw[Int.fmod_eq_emod_of_nonneg i (@AT)];exact q)
def Jw:mQ X (binaryOp .Pow) (rI DD λi j=>.int (i ^ j.toNat)):=MU λ_ _ _ _ _ _ _ hc q=>pow_int_small hc.1 hc.2.1 hc.2.2 q
def Ld:mQ X (binaryOp .LShift) (rI DD λi j=>.int (i * 2 ^ j.toNat)):=MU λ_ _ _ _ _ _ _ hc q=>lshift_int_small hc.1 hc.2.1 hc.2.2 q
def Kx:mQ X (binaryOp .BitAnd) (zI λi j=>.int (Builtin.bitAnd i j)):=KC λ_ _ _ _ _ _ _ q=>and_int q
def IB:mQ X (binaryOp .BitOr) (zI λi j=>.int (Builtin.bitOr i j)):=KC λ_ _ _ _ _ _ _ q=>or_int q
def Pe {f:Value->Sem Value}{g:Int->Int}
  (rule:∀(i:Int) (t:Tok) (s:Shared) (Q:@Ch) (E:@Ch),Q (.int (g i) s.toks) {s with toks:=s.toks + 1}->wpAny @D_ X.A (f (.int i t)) Q E s) :
  Nl X f (rU λi=>.int (g i)):=by
 intro pins s σ H x v Q I rx h
 obtain⟨i,rfl,q⟩:=h
 obtain⟨t,rfl⟩:=rx
 exact rule i t s _ _ ⟨.int (g i),H,I.tok _,⟨_,rfl⟩,q⟩
def su:Nl X (unaryOp .USub) (rU λi=>.int (-i)):=Pe λ_ _ _ _ _ q=>neg_int q
end
def NO:V->V->Bool
 | .non,.non=>true | .non,.int _=>true | .int _,.non=>true | .non,.bl _=>true | .bl _,.non=>true | .non,.str _=>true | .str _,.non=>true
 | .int _,.int _=>true | .bl _,.bl _=>true | .str _,.str _=>true | .byt _,.byt _=>true
 | .int _,.str _=>true | .str _,.int _=>true | .bl _,.str _=>true | .str _,.bl _=>true
 |_,_=>false
def Pb:R2:=λx y H Q=>NO x y=true/\Q (.bl (!decide (x=y))) H
def Hd {i j:Int}:decide (V.int i=V.int j)=(i == j):=by
 rw[Qn]
 simp
def KA {i j:Bool}:decide (V.bl i=V.bl j)=(i == j):=by
 rw[Qn]
 simp
def GR {i j:Str}:decide (V.str i=V.str j)=(i == j):=by
 rw[Qn]
 simp
def GU {i j:Array UInt8}:decide (V.byt i=V.byt j)=(i.toList == j.toList):=by
 rw[Qn]
 cases i
 cases j
 simp
section
variable {X:Cx}{a b c:Expr}{ta tb tc:TE}{pos:Pos}
def fC {pins:@Db}{σ:St}{H:Hp}{s:Shared}{Q:VK}{k k':Bool}(I:@At)(q:Q (.bl k) H)(e:k=k'):EP X pins σ Q (.bool k') s:=by
 subst e
 exact⟨.bl k,H,I,rfl,q⟩
theorem LC:mQ X (compareOp .NotEq) Pb:=by
 intro pins s σ H x y v u Q I rx ry h
 obtain⟨hs,q⟩:=h
 cases x with
 |non=>
  cases rx
  cases y with
  |non=>cases ry;exact PySem.EqNone.ne_none_none (fC I q @Go)
  |bl j=>cases ry;exact PySem.EqNone.ne_none_bool (fC I q @Go)
  |int j=>obtain⟨t',rfl⟩:=ry;exact PySem.EqNone.ne_none_int (fC I q @Go)
  |str j=>obtain⟨t',rfl⟩:=ry;exact PySem.EqNone.ne_none_str (fC I q @Go)
  |_=>exact absurd (show false=true from hs) PR
 |bl i=>
  cases rx
  cases y with
  |non=>cases ry;exact PySem.EqNone.ne_bool_none (fC I q @Go)
  |bl j=>cases ry;exact ne_bool (fC I q (congrArg not KA))
  |str j=>obtain⟨t',rfl⟩:=ry;exact PySem.EqMixed.ne_bool_str (fC I q @Go)
  |_=>exact absurd (show false=true from hs) PR
 |int i=>
  obtain⟨t,rfl⟩:=rx
  cases y with
  |non=>cases ry;exact PySem.EqNone.ne_int_none (fC I q @Go)
  |int j=>obtain⟨t',rfl⟩:=ry;exact ne_int (fC I q (congrArg not Hd))
  |str j=>obtain⟨t',rfl⟩:=ry;exact PySem.EqMixed.ne_int_str (fC I q @Go)
  |_=>exact absurd (show false=true from hs) PR
 |str i=>
  obtain⟨t,rfl⟩:=rx
  cases y with
  |non=>cases ry;exact PySem.EqNone.ne_str_none (fC I q @Go)
  |bl j=>cases ry;exact PySem.EqMixed.ne_str_bool (fC I q @Go)
  |int j=>obtain⟨t',rfl⟩:=ry;exact PySem.EqMixed.ne_str_int (fC I q @Go)
  |str j=>obtain⟨t',rfl⟩:=ry;exact ne_str (fC I q (congrArg not GR))
  |_=>exact absurd (show false=true from hs) PR
 |byt i=>
  obtain⟨t,rfl⟩:=rx
  cases y with
  |byt j=>obtain⟨t',rfl⟩:=ry;exact PySem.W.ne_bytes (fC I q (congrArg not GU))
  |_=>exact absurd (show false=true from hs) PR
 |_=>cases y <;> exact absurd (show false=true from hs) PR
def DU:mQ X (compareOp .Lt) (zI λi j=>.bl (decide (i < j))):=Js λ_ _ _ _ _ _ _ q=>lt_int q
def ER:mQ X (compareOp .LtE) (zI λi j=>.bl (decide (i<=j))):=Js λ_ _ _ _ _ _ _ q=>le_int q
def L9:mQ X (compareOp .Gt) (zI λi j=>.bl (decide (j < i))):=Js λ_ _ _ _ _ _ _ q=>gt_int q
def bh (b:Expr){op:CmpOp}(h:op≠.In:=by decide)(h2:op≠.NotIn:=by decide):behindInMarks op b=false:=by
 have e1:(op == CmpOp.In)=false:=by cases op <;> first |rfl |exact absurd rfl h
 have e2:(op == CmpOp.NotIn)=false:=by cases op <;> first |rfl |exact absurd rfl h2
 cases b <;> simp[behindInMarks,e1,e2]
def HH {op:CmpOp}{r:R2}(ho:mQ X (compareOp op) r)(ha:PE X a ta)(hb:PE X b tb)(hm:behindInMarks op b=false):PE X (.Compare a [op] [b] pos) (MY r ta tb):=by
 intro pins s σ H Q I h
 exact wpAny_Compare1 (Ki ha hb I h λv u s2 x y H2 I2 rx ry q=>ho pins s2 σ H2 x y v u Q I2 rx ry q) hm
def LA (t:TE):TT:=λσ H Q=>t σ H λx H'=>∃k,x=.bl k/\Q k H'
def A9 {op:CmpOp}{r:R2}(ho:mQ X (compareOp op) r)(ha:PE X a ta)(hb:PE X b tb)(hm:behindInMarks op b=false):PT X (.Compare a [op] [b] pos) (LA (MY r ta tb)):=by
 intro pins s σ H Q I h
 refine wpAny_isTrue_Compare1 (cG (ha pins s σ H _ I h) λv s1 ⟨x,H1,I1,r1,q1⟩=>cG (hb pins s1 σ H1 _ I1 q1) λu s2 ⟨y,H2,I2,r2,q2⟩=>
  cG (ho pins s2 σ H2 x y v u _ I2 r1 r2 q2) λc s3 ⟨z,H3,I3,r3,k,e,q3⟩=>?_) hm
 subst e
 cases r3
 exact QX ⟨H3,I3,q3⟩
def KJ (r r':R2)(ta tb tc:TE):TE:=λσ H Q=>ta σ H λx H1=>tb σ H1 λy H2=>r x y H2 λz H3=>∃k,z=.bl k/\
 (if k=true then tc σ H3 λw' H4=>r' y w' H4 Q else Q (.bl false) H3)
theorem Fs {op op':CmpOp}{r r':R2}(ho:mQ X (compareOp op) r)(ho':mQ X (compareOp op') r')(ha:PE X a ta)(hb:PE X b tb)(hc:PE X c tc)
  (hm:lastMarks [op,op'] [b,c]=false:=by with_unfolding_all rfl):PE X (.Compare a [op,op'] [b,c] pos) (KJ r r' ta tb tc):=by
 intro pins s σ H Q I h
 refine Compare_chain (cG (ha pins s σ H _ I h) λv s1 ⟨x,H1,I1,r1,q1⟩=>chain_link (cG (hb pins s1 σ H1 _ I1 q1) λu s2 ⟨y,H2,I2,r2,q2⟩=>
  cG (ho pins s2 σ H2 x y v u _ I2 r1 r2 q2) λd s3 ⟨z,H3,I3,r3,k,e,q3⟩=>?_)) hm
 subst e
 cases r3
 refine QX ?_
 cases k with
 |false=>exact ite_ff ⟨.bl false,H3,I3,rfl,q3⟩
 |true=>exact ite_tt (chain_last (cG (hc pins s3 σ H3 _ I3 q3) λw' s4 ⟨z',H4,I4,r4,q4⟩=>ho' pins s4 σ H4 y z' u w' Q I4 r2 r4 q4))
def Me (K:Frag)(x:V)(H:Hp)(k:Bool):Prop:=
 match x with
 | .non=>k=false
 | .bl b=>k=b
 | .int i=>k=(i != 0)
 | .str y=>y.length<=sizeLine/\k=((y.length:Int) != 0)
 | .byt y=>y.size<=sizeLine/\k=((y.size:Int) != 0)
 | .ref p=>(∃xs,gk K H p xs/\k= !xs.isEmpty)\/(∃xs,gj K H p xs/\k= !xs.isEmpty)\/∃kvs,H p=some (.dK kvs)/\k= !kvs.isEmpty
 |_=>False
def zR {κ:Type}{kvs:List (κ×V)}{vs:List (κ×Value)}(r:KV kvs vs):(!vs.isEmpty)= !kvs.isEmpty:=by
 cases r <;> rfl
def rM {xs:List V}{its:@GM}(r:Vals xs its):(!its.toArray.isEmpty)= !xs.isEmpty:=by
 cases r <;> simp
def pJ:(sizeLine:Nat) < 2 ^ 63:=by rw[Qc];decide
theorem J6:Ot X (λx H Q=>∃k,Me X.K x H k/\Q k H):=by
 intro pins s σ H x v Q I rx h
 obtain⟨k,e,q⟩:=h
 have hl:=pJ
 have hs:sizeLine=16777216:=Qc
 cases x with
 |non=>
  cases rx
  have e':k=false:=e
  subst e'
  exact truthy_none ⟨H,I,q⟩
 |bl b=>
  cases rx
  have e':k=b:=e
  subst e'
  exact QX ⟨H,I,q⟩
 |int i=>
  obtain⟨t,rfl⟩:=rx
  have e':k=(i != 0):=e
  subst e'
  exact PySem.P.truthy_int ⟨H,I,q⟩
 |str y=>
  obtain⟨t,rfl⟩:=rx
  obtain⟨hy,e'⟩:y.length<=sizeLine/\k=((y.length:Int) != 0):=e
  subst e'
  exact PySem.P.truthy_str (@AT) ⟨H,I.tok _,q⟩
 |byt y=>
  obtain⟨t,rfl⟩:=rx
  obtain⟨hy,e'⟩:y.size<=sizeLine/\k=((y.size:Int) != 0):=e
  subst e'
  exact PySem.W.truthy_bytes (@AT) ⟨H,I.tok _,q⟩
 |ref p=>
  cases rx
  have e':(∃xs,gk X.K H p xs/\k= !xs.isEmpty)\/(∃xs,gj X.K H p xs/\k= !xs.isEmpty)\/∃kvs,H p=some (.dK kvs)/\k= !kvs.isEmpty:=e
  rcases e' with⟨xs,hx,e'⟩ | ⟨xs,hx,e'⟩ | ⟨kvs,hx,e'⟩
  ·subst e'
   obtain⟨its,r,pl,hz⟩:=I.list hx
   have hlen:=r.length
   exact wpAny_truthy_list pl.isList (by simp only[PJ];omega) ⟨H,I.tok _,by rw[rM r];exact q⟩
  ·subst e'
   obtain⟨its,r,pl,hz⟩:=I.tuple hx
   have hlen:=r.length
   exact truthy_tuple pl (by simp only[PJ];omega) ⟨H,I.tok _,by rw[rM r];exact q⟩
  ·subst e'
   obtain⟨hz,hS,vs,r,m⟩:kvs.length<=sizeLine/\(p == sysModules)=false/\∃vs,KV kvs vs/\s.heap.DictOf (bQ X.prog X.w) p vs:=I.hok p _ hx
   have hlen:kvs.length=vs.length:=Paired.length r
   exact wpAny_truthy_dict hS m (@AT) ⟨H,I.tok _,by rw[zR r];exact q⟩
 |_=>exact (show False from e).elim
def Dm (ha:PE X a ta)(he:∀whole,isTrue a X.env whole=(do let v <-whole;standAt a.pos;holding [v] (truthy v))) :
  PT X a (λσ H Q=>ta σ H λx H'=>∃k,Me X.K x H' k/\Q k H'):=by
 intro pins s σ H Q I h
 exact isTrue_plain (cG (ha pins s σ H _ I h) λv s1 ⟨x,H1,I1,r1,q1⟩=>J6 pins s1 σ H1 x v Q I1 r1 q1) (he _)
theorem vals1 {x:V}{us:@GM}(r:Vals [x] us):∃u,us= [u]/\RelV x u:=by
 cases r with
 |cons r1 r2=>cases r2;exact⟨_,rfl,r1⟩
theorem vals2 {x y:V}{us:@GM}(r:Vals [x,y] us):∃u w',us= [u,w']/\RelV x u/\RelV y w':=by
 cases r with
 |cons r1 r2=>
  cases r2 with
  |cons r3 r4=>cases r4;exact⟨_,_,rfl,r1,r3⟩
def Ep:dr X (.builtin "abs") (λxs H Q=>∃i,xs= [.int i]/\Q (.int (if i < 0 then -i else i)) H):=by
 intro pins s σ H xs us Q I r h
 obtain⟨i,rfl,q⟩:=h
 obtain⟨u,rfl,t,rfl⟩:=vals1 r
 exact call_abs_int λu tk=>⟨.int (if i < 0 then -i else i),H,I.tok _,⟨_,rfl⟩,q⟩
def BR (hc:X.calm=true):dr X (.builtin "max") (λxs H Q=>∃i j,xs= [.int i,.int j]/\Q (.int (if j > i then j else i)) H):=by
 intro pins s σ H xs us Q I r h
 obtain⟨i,j,rfl,q⟩:=h
 obtain⟨u,w',rfl,⟨t,rfl⟩,⟨t',rfl⟩⟩:=vals2 r
 refine max_two_ints (I.ok.hd hc) λh' tk k=>⟨_,H,I.kept k,?_,q⟩
 by_cases hj:j > i
 ·rw[Po hj,Po hj];exact⟨_,rfl⟩
 ·rw[Px hj,Px hj];exact⟨_,rfl⟩
def BG (hc:X.calm=true):dr X (.builtin "min") (λxs H Q=>∃i j,xs= [.int i,.int j]/\Q (.int (if j < i then j else i)) H):=by
 intro pins s σ H xs us Q I r h
 obtain⟨i,j,rfl,q⟩:=h
 obtain⟨u,w',rfl,⟨t,rfl⟩,⟨t',rfl⟩⟩:=vals2 r
 refine min_two_ints (I.ok.hd hc) λh' tk k=>⟨_,H,I.kept k,?_,q⟩
 by_cases hj:j < i
 ·rw[Po hj,Po hj];exact⟨_,rfl⟩
 ·rw[Px hj,Px hj];exact⟨_,rfl⟩
def Mq (K:Frag)(x:V)(H:Hp)(n:Nat):Prop:=
 match x with
 | .str y=>y.length<=sizeLine/\n=y.length
 | .byt y=>y.size<=sizeLine/\n=y.size
 | .ref p=>(∃xs,gk K H p xs/\n=xs.length)\/∃xs,gj K H p xs/\n=xs.length
 |_=>False
theorem dw:dr X (.builtin "len") (λxs H Q=>∃x n,xs= [x]/\Mq X.K x H n/\Q @Ix H):=by
 intro pins s σ H xs us Q I r h
 obtain⟨x,n,rfl,e,q⟩:=h
 obtain⟨u,rfl,rx⟩:=vals1 r
 have hl:=pJ
 have hs:sizeLine=16777216:=Qc
 cases x with
 |str y=>
  obtain⟨t,rfl⟩:=rx
  obtain⟨hy,e'⟩:y.length<=sizeLine/\n=y.length:=e
  subst e'
  exact len_str (@AT) ⟨.int _,H,I.tok _,⟨_,rfl⟩,q⟩
 |byt y=>
  obtain⟨t,rfl⟩:=rx
  obtain⟨hy,e'⟩:y.size<=sizeLine/\n=y.size:=e
  subst e'
  exact PySem.W.len_bytes (@AT) ⟨.int _,H,I.tok _,⟨_,rfl⟩,q⟩
 |ref p=>
  cases rx
  have e':(∃xs,gk X.K H p xs/\n=xs.length)\/∃xs,gj X.K H p xs/\n=xs.length:=e
  rcases e' with⟨xs,hx,e'⟩ | ⟨xs,hx,e'⟩
  ·subst e'
   obtain⟨its,r',pl,hz⟩:=I.list hx
   have hlen:=r'.length
   exact Calls.call_len_list pl.isList (by simp only[PJ];omega) ⟨.int xs.length,H,I.tok _,⟨_,by simp only[PJ];rw[hlen]⟩,q⟩
  ·subst e'
   obtain⟨its,r',pl,hz⟩:=I.tuple hx
   have hlen:=r'.length
   exact len_tuple pl (by simp only[PJ];omega) ⟨.int xs.length,H,I.tok _,⟨_,by simp only[PJ];rw[hlen]⟩,q⟩
 |_=>exact (show False from e).elim
def x9:dr X (.builtin "divmod") (λxs H Q=>∃i j,xs= [.int i,.int j]/\He i j/\∀p,H p=none->Q (.ref p) (upd H p (.tup [.int (i / j),.int (i % j)]))):=by
 intro pins s σ H xs us Q I r h
 obtain⟨i,j,rfl,⟨h1,h2⟩,q⟩:=h
 obtain⟨u,w',rfl,⟨t,rfl⟩,⟨t',rfl⟩⟩:=vals2 r
 refine divmod_int (@AT) ?_ (.inl (PyProof.noPylong_small (@AT)))
 rw[Int.fdiv_eq_ediv_of_nonneg i (@AT),Int.fmod_eq_emod_of_nonneg i (@AT)]
 have hn:H s.heap.objs.size=none:=I.hok.fresh (Pt _)
 refine⟨@LE,_,?_,rfl,q _ hn⟩
 refine I.laid (λb o e=>Pq _ e) (Pt _) ⟨by simp only[P7,Ss];rw[Qc];decide,[.int (i / j) s.toks,.int (i % j) (s.toks + 1)],.cons ⟨_,rfl⟩ (.cons ⟨_,rfl⟩ .nil),?_⟩
 exact⟨_,PX s.heap rfl,rfl,0,rfl,rfl⟩
end
structure JU (h:Heap)(x dx C:Addr)(mA:@Fa):Prop where
 obj:h.get? x=some (PySem.W.instObj C dx)
 ns:h.Ns1 dx mA
 ne:dx≠x
def B5 {h:Heap}{dx:Addr}{mA:@Fa}(n:h.Ns1 dx mA):∃od,h.get? dx=some od/\∀name,PySem.W.lookIn name od=some (mA name):=by
 obtain⟨o,es,ep,ho,hd,hk,_,hm⟩:=n
 refine⟨o,ho,λname=>?_⟩
 have e:=hm name
 unfold nsFind findBy at e
 rw[<-Array.find?_toList] at e
 unfold PySem.W.lookIn
 rw[hd]
 dsimp only
 split
 ·rename_i y q
  rw[q] at e
  exact congrArg some e
 ·rename_i q
  rw[q] at e
  have a:es.toList.any (·.refKey)=false:=by
   rw[List.any_eq_false]
   intro y hy
   obtain⟨z,t,hkey⟩:=hk y (RJ.mp hy)
   simp[DictEntry.refKey,hkey]
  have a':¬es.toList.any (·.refKey)=true:=by rw[a];exact PR
  rw[Px a']
  exact congrArg some e
def JU.look {h:Heap}{x dx C:Addr}{mA:@Fa}(I:JU h x dx C mA):∃od,PySem.W.InstAt h x (PySem.W.instObj C dx) C (some od)/\∀name,PySem.W.lookIn name od=some (mA name):=
 let ⟨od,ho,hl⟩:=B5 I.ns
 ⟨od,⟨I.obj,rfl,rfl,ho⟩,hl⟩
section
variable {P:Program}{w:World}{H H':Hp}{h h':Heap}{a C dx:Addr}{fs fs':List (Str×V)}
def Gq (hok:lC P w H h)(e:H a=some (.ins C dx fs)):∃mA,JU h a dx C mA/\(∀f,zw (fs.lookup f) (mA f))/\PySem.Within mA (fs.map (·.1))/\fs.length<=1000/\H dx=some (.own a):=by
 obtain⟨d,z,ne,ob,mA,n,r,q⟩:=(show bV P w H h a (.ins C dx fs) from hok a _ e)
 exact⟨mA,⟨ob,n,ne⟩,r,q,z,d⟩
end
structure OD (K:Frag)(C:Addr):Prop where
 pg:PySem.W.plainGet K C Str.empty=true
 hd:PySem.W.hasDictIn K C=true
 po:PySem.W.plainOver K C=true
 sa:PySem.W.findIn K (.ref C) "__setattr__"=some (some (.builtin "object.__setattr__"))
def OD.get {K:Frag}{C:Addr}(c:OD K C)(f:Str):PySem.W.plainGet K C f=true:=c.pg
section
variable {X:Cx}{pins:@Db}{σ:St}{H:Hp}{s:Shared}{A:Around}{E:@Ch}{Q:@Ch}{c:Value}{b:Bool}
inductive qF (K:Frag)(H:Hp):V->Value->Prop where
 |non:qF K H .non (.type "NoneType")
 |bl (x:Bool):qF K H (.bl x) (.type "bool")
 |int (i:Int):qF K H @S3 (.type "int")
 |str (x:Str):qF K H (.str x) (.type "str")
 |flt (x:UInt64):qF K H (.flt x) (.type "float")
 |lst {a:Addr} {xs:List V} (e:H a=some (.lst xs)):qF K H @S2 (.type "list")
 |a8 {a:Addr} {o:Obj} {xs:List V} (e:H a=some (.a8 o (.lst xs))):qF K H @S2 (.type "list")
 |tup {a:Addr} {xs:List V} (e:H a=some (.tup xs)):qF K H @S2 (.type "tuple")
 |dK {a:Addr} {kvs:List (Key×V)} (e:H a=some (.dK kvs)):qF K H @S2 (.type "dict")
 |dT {a:Addr} {kvs:@On} (e:H a=some (.dT kvs)):qF K H @S2 (.type "dict")
 |ins {a C dx:Addr} {fs:List (Str×V)} (e:H a=some (.ins C dx fs)) (cl:OD K C) (ha:PySem.W.findIn K (.ref C) "__class__"=some (some (.builtin "object.__class__")))
   (hn:PySem.W.specialIn K (.builtin "object.__class__") "__get__"=some (some (.builtin "getset_descriptor.__get__"))) (htk:PySem.W.takesIn K (.builtin "object.__class__")=some true)
   (hm:PySem.W.mroIn K C (.type "object")=some true):qF K H @S2 (.ref C)
theorem ko {x:V}{u t:Value}(I:@At)(rx:RelV x u)(ty:qF X.K H x t)(e:PySem.W.kitOne X.K t c=some b)(h:∀tk,Q (.bool b) {s with toks:=tk}) :
  wpAny @D_ A (call (.builtin "isinstance") [u,c]) Q E s:=by
 cases ty with
 |non=>cases (show u=Value.none from rx);exact Qu PySem.W.kitx_none I.kIn True.intro e (λz=>nomatch z) h
 |bl y=>cases (show u=Value.bool y from rx);exact Qu PySem.W.kitx_bool I.kIn True.intro e (λz=>nomatch z) h
 |int i=>obtain⟨t,q⟩:=(show ∃t,u=Value.int i t from rx);cases q;exact Qu PySem.W.kitx_int I.kIn True.intro e (λz=>nomatch z) h
 |str y=>obtain⟨t,q⟩:=(show ∃t,u=Value.str y t from rx);cases q;exact Qu PySem.W.kitx_str I.kIn True.intro e (λz=>nomatch z) h
 |flt y=>obtain⟨t,q⟩:=(show ∃t,u=Value.float y t from rx);cases q;exact Qu PySem.W.kitx_float I.kIn True.intro e (λz=>nomatch z) h
 | @lst a xs ea=>
  cases (show u=Value.ref a from rx)
  obtain⟨_,_,n,_,h1⟩:=(show bV X.prog X.w H s.heap a (.lst xs) from I.hok a _ ea)
  exact Qu PySem.W.kitx_list I.kIn ⟨_,h1,rfl⟩ e (λz=>nomatch z) h
 | @a8 a ob xs ea=>
  cases (show u=Value.ref a from rx)
  obtain⟨_,_,_,n,_,h1⟩:=(show bV X.prog X.w H s.heap a (.a8 ob (.lst xs)) from I.hok a _ ea)
  exact Qu PySem.W.kitx_list I.kIn ⟨_,h1,rfl⟩ e (λz=>nomatch z) h
 | @tup a xs ea=>
  cases (show u=Value.ref a from rx)
  obtain⟨_,_,_,p⟩:=(show bV X.prog X.w H s.heap a (.tup xs) from I.hok a _ ea)
  obtain⟨o,h1,h2,_⟩:=p
  exact Qu PySem.W.kitx_tuple I.kIn ⟨o,h1,h2⟩ e (λz=>nomatch z) h
 | @dK a kvs ea=>
  cases (show u=Value.ref a from rx)
  obtain⟨_,_,vs,_,p⟩:=(show bV X.prog X.w H s.heap a (.dK kvs) from I.hok a _ ea)
  obtain⟨o,es,ep,h1,h2,_⟩:=p
  exact Qu PySem.W.kitx_dict I.kIn ⟨o,h1,h2.1⟩ e (λz=>nomatch z) h
 | @dT a kvs ea=>
  cases (show u=Value.ref a from rx)
  obtain⟨_,_,xs,_,o,es,ep,h1,h2,_⟩:=(show bV X.prog X.w H s.heap a (.dT kvs) from I.hok a _ ea)
  exact Qu PySem.W.kitx_dict I.kIn ⟨o,h1,h2.1⟩ e (λz=>nomatch z) h
 | @ins a C dx fs ea cl ha hn htk hm=>
  cases (show u=Value.ref a from rx)
  obtain⟨mA,O,_⟩:=Gq I.hok ea
  obtain⟨od,J,_⟩:=O.look
  exact Qu (PySem.W.kitx_own (cl.get _) cl.hd ha hn htk hm) I.kIn J e (λz=>nomatch z) h
end
structure eM (k:Nat)(A:Around):Prop where
 hd:A.handled=none
 dp:A.depth + 3 * k + 5 < recursionLimit
 un:A.units + 16 * k + 200 < cLine
 gd:A.guards=some []
def eM.mono {j k:Nat}{A:Around}(r:eM k A)(h:j<=k):eM j A:=⟨r.hd,by have:=r.dp;omega,by have:=r.un;omega,r.gd⟩
def eM.deeper {k:Nat}{A:Around}(r:eM (k + 1) A)(env:Env):eM k (A.deeper env):=
 ⟨r.hd,by have:=r.dp;show A.depth + 1 + 3 * k + 5 < _;omega,by have:=r.un;show A.units + 3 + 16 * k + 200 < _;omega,r.gd⟩
def eM.depth {k:Nat}{A:Around}(r:eM k A):A.depth < recursionLimit:=by have:=r.dp;omega
def eM.units {k:Nat}{A:Around}(r:eM k A):A.units + 64 < cLine:=by have:=r.un;omega
def N0:TA:=λ_ H Q=>Q [] H
def LO (ta:TE)(tr:TA):TA:=λσ H Q=>ta σ H λx H1=>tr σ H1 λxs H2=>Q (x :: xs) H2
section
variable {X:Cx}{e:Expr}{es:@TH}{te:TE}{t:TA}{pos:Pos}
def aR:PA X [] N0:=λ_ _ _ _ H Q I h=>Calls.spliced_nil ⟨[],H,I,.nil,h⟩
def ax (ha:PE X e te)(hr:PA X es t)(hs:@O_:=by rfl):PA X (e :: es) (LO te t):=by
 intro pos pins s σ H Q I h
 rw[hs]
 show wpAny _ _ (spliced ((false,eval e X.env) :: backTo pos (starEach es X.env))) _ _ s
 refine Calls.spliced_cons (cG (ha pins s σ H _ I h) λu s1 ⟨x,H1,I1,r1,q1⟩=>?_)
 exact cG (hr pos pins s1 σ H1 _ I1 q1) λus s2 ⟨xs,H2,I2,r2,q2⟩=>⟨x :: xs,H2,I2,.cons r1 r2,q2⟩
def OE (t:TA):TE:=λσ H Q=>t σ H λxs H1=>xs.length<=sizeLine/\∀p,H1 p=none->Q (.ref p) (upd H1 p (.tup xs))
def NS (t:TA):TE:=λσ H Q=>t σ H λxs H1=>xs.length<=sizeLine/\∀p,H1 p=none->Q (.ref p) (upd H1 p (.lst xs))
def zL {x1}(h:PA X es t):PE X (.Tuple es x1 pos) (OE t):=by
 intro pins s σ H Q I hq
 refine wpAny_Tuple_spliced (cG (h pos pins s σ H _ I hq) λus s1 ⟨xs,H1,I1,r,z,q⟩=>⟨by rw[<-r.length];exact z,?_⟩)
 have hf:H1 s1.heap.objs.size=none:=I1.hok.fresh (Pt _)
 refine⟨.ref s1.heap.objs.size,upd H1 s1.heap.objs.size (.tup xs),I1.laid (t':=s1.toks) (λb u e=>Pq _ e) (Pt _) ?_,rfl,q _ hf⟩
 exact⟨z,us,r,u5.new _ _⟩
def pU (h:PA X es t):PE X (.List es pos) (NS t):=by
 intro pins s σ H Q I hq
 refine wpAny_List_spliced (cG (h pos pins s σ H _ I hq) λus s1 ⟨xs,H1,I1,r,z,q⟩=>⟨by rw[<-r.length];exact z,?_⟩)
 have hf:H1 s1.heap.objs.size=none:=I1.hok.fresh (Pt _)
 refine⟨.ref s1.heap.objs.size,upd H1 s1.heap.objs.size (.lst xs),I1.laid (t':=s1.toks) (λb u e=>Pq _ e) (Pt _) ?_,rfl,q _ hf⟩
 exact⟨z,us,0,r,PX _ rfl⟩
end
abbrev Sp:=List V->Hp->VK->XK->Prop
abbrev yv:=List Env->Hp->Shared->XK->@Ch
structure yP (P:Program)(w:World)(K:Frag)(mg:@Fa)(base:Heap)(A:Around)(outer:List Env)(s:Shared)(H:Hp):Prop where
 frames:A.frames=some outer
 mod:Mod K mg base
 bs:∀b o,base.get? b=some o->s.heap.get? b=some o/\H b=none
 bsz:base.objs.size<=s.heap.objs.size
 funs:s.heap.FunFrames base outer
 frf:∀b∈gi outer,H b=none
 hok:lC P w H s.heap
 bare:AllBare s.gens
def CE (outer:List Env)(P:Program)(w:World)(H:Hp)(s:Shared)(Q:VK)(u:Value)(s':Shared):Prop:=
 ∃v H',s'.os=s.os/\AllBare s'.gens/\Un (gi outer) [] H H' s.heap s'.heap/\lC P w H' s'.heap/\RelV v u/\Q v H'
def CR (CX:yv)(outer:List Env)(P:Program)(w:World)(H:Hp)(s:Shared)(Q:VK)(E:XK)(r:Result)(s':Shared):Prop:=
 match r with
 | .ok (.ret u)=>CE outer P w H s Q u s'
 | .ok _=>False
 | .error e=>CX outer H s E e s'
structure ie (P:Program)(w:World)(K:Frag)(mg:@Fa)(base:Heap)(CX:yv)(k:Nat)(f:Addr)(fd:FuncData)(ps:@KK)(sp:Sp):Prop where
 len:∀vs H Q E,sp vs H Q E->vs.length=ps.length
 run:∀(A:Around) (outer:List Env) (s:Shared) (H:Hp) (args:Args) (us:@GM) (vs:List V) (Q:VK) (E:XK),eM k A->yP P w K mg base A outer s H->BindsTo s fd args (ps.zip us)->Vals vs us->sp vs H Q E->
  codeAny (model P w) A (.call (.ref f) args) (CR CX outer P w H s Q E) s
def ie.mono {P:Program}{w:World}{K:Frag}{mg:@Fa}{base:Heap}{CX:yv}{j k:Nat}{f:Addr}{fd:FuncData}{ps:@KK}{sp:Sp}(F:ie P w K mg base CX j f fd ps sp)(h:j<=k) :
  ie P w K mg base CX k f fd ps sp:=⟨F.len,λA outer s H args us vs Q E hr=>F.run A outer s H args us vs Q E (hr.mono h)⟩
def ie.imp {P:Program}{w:World}{K:Frag}{mg:@Fa}{base:Heap}{CX:yv}{k:Nat}{f:Addr}{fd:FuncData}{ps:@KK}{sp sp':Sp}(F:ie P w K mg base CX k f fd ps sp)
  (h:∀vs H Q E,sp' vs H Q E->sp vs H Q E):ie P w K mg base CX k f fd ps sp':=
 ⟨λvs H Q E q=>F.len vs H Q E (h _ _ _ _ q),λA outer s H args us vs Q E hr he hb hv hs=>F.run A outer s H args us vs Q E hr he hb hv (h _ _ _ _ hs)⟩
section
variable {X:Cx}{pins:@Db}{σ:St}{H:Hp}{s s':Shared}
def Inv.env0 (I:@At):yP X.prog X.w X.K X.mg X.base X.A X.stack s H:=
 ⟨I.ok.frames,I.ok.mod,I.bs,QA I.ok.bsz I.sz,I.stack,I.stkFree,I.hok,I.bare⟩
def Inv.after {Q:VK}{u:Value}(I:@At)(h:CE X.stack X.prog X.w H s Q u s'):EP X pins σ Q u s':=by
 obtain⟨v,H',os,bare,un,hok,r,q⟩:=h
 obtain⟨hh,g,d,t,os'⟩:=s'
 obtain rfl:os'=s.os:=os
 exact⟨v,H',I.call (h':=hh) (g':=g) (d':=d) (t':=t) (ch:=[]) un hok bare (λb z=>absurd z @Go),r,q⟩
end
def Iy (sp:Sp)(dvs:List V)(E:XK)(t:TA):TE:=λσ H Q=>t σ H λvs H1=>sp (vs ++ dvs) H1 Q E
def Binds (K:Frag)(fd:FuncData)(ps:@KK)(ds:@GM):Prop:=
 ∀(s:Shared) (us:@GM),K.In s.heap->(us ++ ds).length=ps.length->BindsTo s fd ⟨us,[]⟩ (ps.zip (us ++ ds))
def Binds.all {K:Frag}{fd:FuncData}{ps:@KK}(h:∀us:@GM,us.length=ps.length->bindArgs fd ⟨us,[]⟩=pure (ps.zip us)):Binds K fd ps []:=λs us _ hl=>by
 rw[Rl] at hl ⊢
 exact .of_eq (h us hl)
def Passes (CX:yv)(X:Cx)(E:XK):Prop:=∀(pins:@Db) (σ:St) (H:Hp) (s:Shared) (e:Value) (s':Shared),@At->CX X.stack H s E e s'->X.xe e s'
section
variable {X:Cx}{CX:yv}{k:Nat}{f C:Addr}{fd:FuncData}{ps:@KK}{sp:Sp}{dvs:List V}{ds:@GM}{E:XK}{x m:Str}{p pos apos:Pos}{e o:Expr}{es:@TH}{ta:TE}{t:TA}
theorem KR {pins:@Db}{σ:St}{H:Hp}{s:Shared}{Q:VK}{us:@GM}{vs:List V}(F:ie X.prog X.w X.K X.mg X.base CX k f fd ps sp)(hr:eM k X.A)(hb:Binds X.K fd ps ds)(hd:Vals dvs ds)(hx:Passes CX X E)
  (I:@At) (r:Vals vs us) (h:sp (vs ++ dvs) H Q E):wpAny @D_ X.A (call (.ref f) us) (EP X pins σ Q) X.xe s:=by
 have r2:Vals (vs ++ dvs) (us ++ ds):=r.append hd
 have hl:(us ++ ds).length=ps.length:=by rw[<-r2.length];exact F.len _ _ _ _ h
 refine wpAny_call (Sa (F.run X.A X.stack s H ⟨us,[]⟩ (us ++ ds) (vs ++ dvs) Q E hr I.env0 (hb s us I.kIn hl) r2 h) λr s' hq=>?_)
 cases r with
 |error e=>exact hx pins σ H s e s' I hq
 |ok fl=>
  cases fl with
  |ret u=>exact I.after hq
  |next=>exact False.elim hq
  |brk=>exact False.elim hq
  |cont=>exact False.elim hq
def qZ (F:ie X.prog X.w X.K X.mg X.base CX k f fd ps sp)(hr:eM k X.A)(hg:Gl X x)(hm:X.mg x=some (.ref f))(hk:PySem.W.keepIn X.K (.ref f)=true)(hb:Binds X.K fd ps ds)(hd:Vals dvs ds)(hx:Passes CX X E)
  (ha:PA X (e :: es) t) (hdb:@FM:=by decide) (he:@O_:=by rfl) (hpl:(backTo pos (starEach es X.env)).any (·.1)=false:=by rfl) :
  PE X (.Call (.Name x p) (e :: es) [] pos) (Iy sp dvs E t):=by
 intro pins s σ H Q I h
 refine Sv (oO I hg hm ?_ hdb)
 refine PySem.W.callWith_K (h₀:=X.base) I.ok.mod.kin hk (cG (ha pos pins s σ H _ I h) λus s1 ⟨vs,H1,I1,r,q⟩=>⟨I1.kIn,?_⟩) he hpl
 exact KR F hr hb hd hx I1 r q
end
structure aG (N P:@KK)(sc:Scope):Prop where
 kind:sc.kind=.function
 co:sc.isCoroutine=false
 gen:sc.isGenerator=false
 nd:N.Nodup
 pre:N.take P.length=P
 par:∀x∈P,sc.names.lookup x=some .local\/sc.names.lookup x=some .cell
 nofree:∀y∈sc.names,y.2≠.free
theorem uG {kindOf:Str->Option NameKind}{x:Str}:∀{binds:List (Str×Value)} {m:@Fa},(∀v,(x,v)∉binds)->bindL kindOf binds m x=m x
 | [],_,_=>rfl
 | (n,v) :: r,m,h=>by
  unfold bindL
  rw[uG λw hw=>h w (Pw _ hw)]
  split
  ·have:x≠n:=by rintro rfl;exact h v Pz
   simp[this]
  ·rfl
theorem uQ {kindOf:Str->Option NameKind}{x:Str}:∀{binds:List (Str×Value)} {m:@Fa},(∀v,(x,v)∉binds)->bindC kindOf binds m x=m x
 | [],_,_=>rfl
 | (n,v) :: r,m,h=>by
  unfold bindC
  rw[uQ λw hw=>h w (Pw _ hw)]
  split
  ·rfl
  ·have:x≠n:=by rintro rfl;exact h v Pz
   simp[this]
theorem uU {kindOf:Str->Option NameKind}{x:Str}{v:Value}:∀{P:@KK} {vs:@GM} {i:Nat} {m:@Fa},P.Nodup->P[i]? =some x->vs[i]? =some v->kindOf x=some .local->
  bindL kindOf (P.zip vs) m x=some v
 | [],_,_,_,_,h,_,_=>by simp at h
 |_ :: _,[],_,_,_,_,h,_=>by simp at h
 |p :: P,w :: vs,0,m,nd,h1,h2,hk=>by
  simp at h1 h2;subst h1;subst h2
  show bindL kindOf ((p,w) :: P.zip vs) m p=_
  unfold bindL
  rw[uG λv hv=>(Qh.mp nd).1 (of_mem_zip hv).1,Po hk]
  simp
 |p :: P,w :: vs,i + 1,m,nd,h1,h2,hk=>by
  show bindL kindOf ((p,w) :: P.zip vs) m x=_
  unfold bindL
  exact uU (i:=i) (Qh.mp nd).2 (by simpa using h1) (by simpa using h2) hk
theorem uE {kindOf:Str->Option NameKind}{x:Str}{v:Value}:∀{P:@KK} {vs:@GM} {i:Nat} {m:@Fa},P.Nodup->P[i]? =some x->vs[i]? =some v->kindOf x≠some .local->
  bindC kindOf (P.zip vs) m x=some v
 | [],_,_,_,_,h,_,_=>by simp at h
 |_ :: _,[],_,_,_,_,h,_=>by simp at h
 |p :: P,w :: vs,0,m,nd,h1,h2,hk=>by
  simp at h1 h2;subst h1;subst h2
  show bindC kindOf ((p,w) :: P.zip vs) m p=_
  unfold bindC
  rw[uQ λv hv=>(Qh.mp nd).1 (of_mem_zip hv).1,Px hk]
  simp
 |p :: P,w :: vs,i + 1,m,nd,h1,h2,hk=>by
  show bindC kindOf ((p,w) :: P.zip vs) m x=_
  unfold bindC
  exact uE (i:=i) (Qh.mp nd).2 (by simpa using h1) (by simpa using h2) hk
def start (N:@KK)(vs:List V):St:=vs.map some ++ List.replicate (N.length - vs.length) none
def l7 (CX:yv)(P:Program)(w:World)(K:Frag)(mg:@Fa)(base:Heap)(N:@KK)(qual:Str)(scope:Scope)(f:Addr)(cd:Value)(A:Around)(outer:List Env)(s:Shared)(H:Hp)(E:XK):Cx where
 prog:=P
 w:=w
 K:=K
 mg:=mg
 base:=base
 A:=A.deeper (@S7)
 N:=N
 s₀:=s
 H₀:=H
 env:=@S7
 outer:=outer
 stack:=@S7 :: outer
 ex:=[]
 calm:=true
 fn:=λ_=>true
 pn:=[]
 xe:=λe s'=>wpAny (model P w) (A.deeper (@S7)) (leaving (@S7) e) (λ_ s''=>CX outer H s E e s'') (λe' s''=>CX outer H s E e' s'') s'
def ye {sc:Scope}{n:Nat}{x:Str}(h:sc.names.lookup x=some .cell):∃c,(cellsFrom n sc.names []).lookup x=some c:=by
 have q:=R4 sc.names n [] (.inl h)
 exact Rm.mp q
def um {CX:yv}{P:Program}{w:World}{K:Frag}{mg:@Fa}{base:Heap}{N ps:@KK}{qual:Str}{scope:Scope}{f:Addr}{cd:Value}{A:Around}{outer:List Env}{s s1:Shared}{H:Hp}{E:XK}{us:@GM}{vs:List V}
  (S:aG N ps scope) (hd:A.handled=none) (e0:yP P w K mg base A outer s H) (hl:vs.length=ps.length) (r:Vals vs us)
  (x:InCallC s s.heap.objs.size (bindL (@S7).kindOf (ps.zip us) λ_=>none) (@Sc) (bindC (@S7).kindOf (ps.zip us) λ_=>none) s1) :
  Inv (l7 CX P w K mg base N qual scope f cd A outer s H E) [] (start N vs) H s1:=by
 have hpl:ps.length<=N.length:=by have:=congrArg List.length S.pre;rw[Qx] at this;omega
 obtain⟨h1,tk,rfl,hk⟩:=x.done
 have noA:∀b:Addr,b∉(l7 CX P w K mg base N qual scope f cd A outer s H E).ex:=λb z=>absurd (show b∈([]:List Addr) from z) @Go
 refine⟨⟨e0.mod,S.kind,rfl,rfl,Pt _,λy z c h1 h2=>?_,λy hy=>?_,λy c _ h=>?_,λ_=>hd,Around.frames_deeper e0.frames,.inr ⟨rfl,rfl⟩,λb z=>absurd z (noA b),e0.bs,e0.bsz,λb _ _=>noA b,λb z=>absurd z (noA b),e0.funs,e0.frf⟩,
  rfl,e0.bare,Un.kept hk,⟨_,x.toInCall.ns,λi y v h1 h2 h3=>?_⟩,λy c h=>⟨_,x.cell y c h⟩,e0.hok.fresh (Pt _),λy c h=>?_,λp hp=>absurd (show p∈([]:@Db) from hp) @Go,e0.hok.kept hk,?_⟩
 ·exact name_of_addr x.apart (QL h1) (QL h2)
 ·have hy:scope.names.lookup y=some .cell\/scope.names.lookup y=some .free:=hy
  rcases hy with hy |hy
  ·exact ye hy
  ·exact absurd rfl (S.nofree _ (QL hy))
 ·exact R9 (x.above y c (QL h))
 ·have hi:i < vs.length:=by
   unfold start at h2
   by_cases hi:i < vs.length
   ·exact hi
   ·rw[Qf (by simpa using hi)] at h2
    rw[Q7] at h2
    split at h2 <;> cases h2
  have ha:vs[i]? =some v:=by
   unfold start at h2
   rw[Qb (by simpa using hi),PK] at h2
   cases e:vs[i]? with
   |none=>rw[e] at h2;cases h2
   |some a=>rw[e] at h2;cases h2;rfl
  obtain⟨u,hu,rv⟩:=r.get ha
  have hp:ps[i]? =some y:=by
   rw[<-S.pre,List.getElem?_take_of_lt (@AT)];exact h1
  have ndP:ps.Nodup:=by rw[<-S.pre];exact S.nd.sublist (List.take_sublist _ _)
  refine⟨u,rv,?_⟩
  rcases S.par y (PV hp) with k |k
  ·exact .inl ⟨k,uU ndP hp hu k⟩
  ·obtain⟨c,e⟩:=ye (n:=s.heap.objs.size + 1) k
   refine .inr ⟨.inl k,c,e,?_⟩
   have q:=x.cell y c e
   rw[uE ndP hp hu (by show scope.names.lookup y≠_;rw[k];decide)] at q
   exact q
 ·exact e0.hok.fresh (R9 (x.above y c (QL h)))
 ·unfold start
  show _=N.length
  rw[P5,Py,Ri]
  omega
theorem IV {CX:yv}{P:Program}{w:World}{K:Frag}{mg:@Fa}{base:Heap}{k:Nat}{f:Addr}{name qual:Str}{params:Arguments}{body:List Stmt}{scope:Scope}{dV kV doc pm cdv ct oc:Value}{an od:@J_}
  {osl:Array (Option Value)} {N ps:@KK} {sp:Sp} (lk:K.lookup f=some ⟨oc,od,.func (PySem.W.fnOf name qual params body scope dV kV doc pm an cdv ct),osl⟩) (hcd:PySem.W.codeIn K cdv qual=true) (S:aG N ps scope)
  (len:∀vs H Q E,sp vs H Q E->vs.length=ps.length)
  (hbody:∀(A:Around) (outer:List Env) (s:Shared) (H:Hp) (vs:List V) (Q:VK) (E:XK),eM k (A.deeper (envOfC qual scope s.heap.objs.size f cdv))->sp vs H Q E->
   ∃t,qB (l7 CX P w K mg base N qual scope f cdv A outer s H E) body t/\t {nx:=λ_ H'=>Q .non H',rt:=Q} (start N vs) H) :
  ie P w K mg base CX (k + 1) f (PySem.W.fnOf name qual params body scope dV kV doc pm an cdv ct) ps sp:=by
 refine⟨len,λA outer s H args us vs Q E hr e0 hb r hsp=>?_⟩
 have hl:=len _ _ _ _ hsp
 have KX:K.In s.heap:=e0.mod.kin.keeps λb o e=>(e0.bs b o e).1
 have lim:s.heap.NoLimit:=e0.mod.nolimit.keeps λb o e=>(e0.bs b o e).1
 have hkind:∀y∈ps.zip us,scope.names.lookup y.1=some .local\/(scope.names.lookup y.1=some .cell/\((@Sc).lookup y.1).isSome=true):=λ⟨n,v⟩ hy=>by
  rcases S.par n (of_mem_zip hy).1 with q |q
  ·exact .inl q
  ·exact .inr ⟨q,R4 _ _ _ (.inl q)⟩
 refine codeAny_call_function hr.depth (KX _ _ lk) rfl S.co S.gen rfl (PySem.W.codeRec_of KX hcd) (hb _ _ _ _ ?_)
 refine wpAny_newFunctionEnv_cells S.kind hkind λenv he s1 x=>?_
 subst he
 refine⟨lim.keeps x.toInCall.keep,codeAny_func ?_⟩
 obtain⟨t,ht,hq⟩:=hbody A outer s H vs Q E (hr.deeper _) hsp
 have I:Inv (l7 CX P w K mg base N qual scope f cdv A outer s H E) [] (start N vs) H s1:=um S hr.hd e0 hl r x
 refine QS (ht [] s1 (start N vs) H _ I hq) (λfl s' hs=>?_) λe s' hs=>hs
 have fin:∀{σ':St} {H':Hp} {v:V} {u:Value},Inv (l7 CX P w K mg base N qual scope f cdv A outer s H E) [] σ' H' s'->RelV v u->Q v H'->CE outer P w H s Q u s':=
  λ{σ' H' v u} J rv q=>⟨v,H',J.os,J.bare,J.base,J.hok,rv,q⟩
 cases fl with
 |ret u=>
  obtain⟨v,σ',H',J,rv,q⟩:=hs
  exact fin J rv q
 |next=>
  obtain⟨σ',H',J,q⟩:=hs
  exact fin (v:=V.non) (u:=Value.none) J rfl q
 |brk=>
  obtain⟨_,_,_,q⟩:=hs
  exact False.elim q
 |cont=>
  obtain⟨_,_,_,q⟩:=hs
  exact False.elim q
section
variable {X:Cx}{x:Str}{p pos:Pos}{e:Expr}{es:@TH}{t:TA}{id T:String}{r:@KM}
def OU (r:@KM)(t:TA):TE:=λσ H Q=>t σ H λvs H1=>r vs H1 Q
def bB (hc:dr X (.builtin id) r)(hg:Gl X x)(hm:X.mg x=none)(hv:bootBuiltins x=some (.builtin id))(ha:PA X (e :: es) t)(hn:x≠"__name__":=by decide)(hdb:@FM:=by decide)
  (he:@O_:=by rfl) (hpl:(backTo pos (starEach es X.env)).any (·.1)=false:=by rfl):PE X (.Call (.Name x p) (e :: es) [] pos) (OU r t):=by
 intro pins s σ H Q I h
 refine Sv (pO I hg hm hv ?_ hn hdb)
 exact PyProof.Rows.callWith_builtin1 (cG (ha pos pins s σ H _ I h) λus s1 ⟨vs,H1,I1,r1,q1⟩=>hc pins s1 σ H1 vs us Q I1 r1 q1) he hpl
def ki (hc:dr X (.type T) r)(hg:Gl X x)(hm:X.mg x=none)(hv:bootBuiltins x=some (.type T))(ha:PA X (e :: es) t)(hn:x≠"__name__":=by decide)(hdb:@FM:=by decide)
  (he:@O_:=by rfl) (hpl:(backTo pos (starEach es X.env)).any (·.1)=false:=by rfl):PE X (.Call (.Name x p) (e :: es) [] pos) (OU r t):=by
 intro pins s σ H Q I h
 refine Sv (pO I hg hm hv ?_ hn hdb)
 exact RA (cG (ha pos pins s σ H _ I h) λus s1 ⟨vs,H1,I1,r1,q1⟩=>hc pins s1 σ H1 vs us Q I1 r1 q1) he hpl
end
end L2
namespace HT
open PySem PyProof.Rows
section
open PySem.SeqAt
open PySem.AutoSeq1 (wpAny_loadPart')
open PySem.MeetsSeq PySem.MeetsSeq2 PySem.MeetsSeq3
end
section
variable {prog:Program}{w:World}{A:Around}{E:@Ch}{s:Shared}
def eJ (n d:Nat):@TK->Nat
 |none=>d
 |some v=>if v < 0 then (v + (n:Int)).toNat else min v.toNat n
def xk (n d:Nat):eJ n d none=d:=rfl
def Ax (n d k:Nat):eJ n d (some (k:Int))=min k n:=by
 show (if (k:Int) < 0 then ((k:Int) + (n:Int)).toNat else min (k:Int).toNat n)=min k n
 rw[Px (@AT),Qj]
theorem J8 (n d:Nat)(hd:d<=n)(o:@TK):eJ n d o<=n:=by
 cases o with
 |none=>exact hd
 |some v=>
  show (if v < 0 then (v + (n:Int)).toNat else min v.toNat n)<=n
  by_cases hv:v < 0
  ·rw[Po hv];omega
  ·rw[Px hv];exact Nat.min_le_right _ _
def AS (v:Int)(n d:Nat):(if v < 0 then max (v + (n:Int)) 0 else min v (n:Int))=((eJ n d (some v):Nat):Int):=by
 show (if v < 0 then max (v + (n:Int)) 0 else min v (n:Int))=(((if v < 0 then (v + (n:Int)).toNat else min v.toNat n):Nat):Int)
 by_cases hv:v < 0
 ·simp only[Po hv];omega
 ·simp only[Px hv];omega
def zu (lo hi:@TK)(n:Nat):Builtin.Slice.sliceAdjust lo hi 1 (n:Int)=(((eJ n 0 lo:Nat):Int),((eJ n n hi:Nat):Int)):=by
 have h1:¬((1:Int) < 0):=@AT
 unfold Builtin.Slice.sliceAdjust
 simp only[h1,Qq]
 refine Prod.ext ?_ ?_
 ·cases lo with
  |none=>rfl
  |some v=>exact AS v n 0
 ·cases hi with
  |none=>rfl
  |some v=>exact AS v n n
def zE (i j:Nat):Builtin.Slice.slicePlaces @S0 (j:Int) 1=j - i:=by
 unfold Builtin.Slice.slicePlaces
 have h1:(1:Int) > 0:=@AT
 simp only[h1,QC,Int.ediv_one]
 split <;> omega
theorem sW {v:Value}{o:@TK}{Q:@TK->@Rs}(p:IsPart v o)(h:Q o s):wpAny (@NE) A (Builtin.Slice.slicePartIndex v) Q E s:=by
 cases p with
 |none=>exact slicePart_none h
 |int i t=>exact slicePart_int h
def j3 {sl:Addr}{vl vu:Value}{lo hi:@TK}{n:Nat}{Q:Int×Int×Nat->@Rs}(hs:s.heap.IsSliceOf sl vl vu .none)(pl:IsPart vl lo)(pu:IsPart vu hi)
  (h:Q (((eJ n 0 lo:Nat):Int),1,eJ n n hi - eJ n 0 lo) s):wpAny (@NE) A (Builtin.Slice.sliceApplied (.ref sl) (pure (n:Int))) Q E s:=by
 obtain⟨os,hos,hcs,hds⟩:=id hs
 unfold Builtin.Slice.sliceApplied Builtin.Slice.sliceFields
 refine Pl (Pl (Sj hos hds (x:=vl) rfl (Pl (Sj hos hds (x:=vu) rfl (Pl (Sj hos hds (x:=.none) rfl (Pp ?_)))))))
 refine Pl (slicePart_none ?_)
 show wpAny _ _ (if ((1:Int) == 0)=true then _ else _) _ _ s
 rw[Px @A_]
 refine Pl (sW pl (Pl (sW pu (Pl (Pp ?_)))))
 show wpAny _ _ (match Builtin.Slice.sliceAdjust lo hi 1 (n:Int) with | (lo,hi)=>pure (lo,(1:Int),Builtin.Slice.slicePlaces lo hi 1)) _ _ s
 rw[zu lo hi n]
 show wpAny _ _ (pure (((eJ n 0 lo:Nat):Int),(1:Int),Builtin.Slice.slicePlaces ((eJ n 0 lo:Nat):Int) ((eJ n n hi:Nat):Int) 1)) _ _ s
 rw[zE]
 exact Pp h
def Ef (xs:Array Value)(i k:Nat):((List.range k).filterMap λ(m:Nat)=>xs[(@S0 + (m:Int) * 1).toNat]?).toArray=((xs.toList.drop i).take k).toArray:=by
 have e:(λ(m:Nat)=>xs[(@S0 + (m:Int) * 1).toNat]?)=λm=>xs[i + m]?:=by
  funext m
  have:(@S0 + (m:Int) * 1).toNat=i + m:=@AT
  rw[this]
 rw[e]
 have:=pick_run xs i k
 rw[List.filterMap_map] at this
 have e2:((λx=>xs[x]?) ∘ λx=>i + x)=λm=>xs[i + m]?:=rfl
 rw[e2] at this
 rw[this]
def o4 {t sl:Addr}{items:Array Value}{vl vu:Value}{lo hi:@TK}{Q:@Ch}(ht:IsTup s.heap t items)(hs:s.heap.IsSliceOf sl vl vu .none)(pl:IsPart vl lo)(pu:IsPart vu hi)
  (hw:¬(eJ items.size 0 lo=0/\eJ items.size items.size hi=items.size))
  (h:Q (@LE) {s with heap:=s.heap.push {cls:=.type "tuple",data:=.seq ((items.toList.drop (eJ items.size 0 lo)).take (eJ items.size items.size hi - eJ items.size 0 lo)).toArray}})
  (hsz:items.size<=sizeLine):wpAny (@NE) A (getItem (.ref t) (.ref sl)) Q E s:=by
 have htake:sizeOk (.seq ((items.toList.drop (eJ items.size 0 lo)).take (eJ items.size items.size hi - eJ items.size 0 lo)).toArray):=by
  show ((items.toList.drop (eJ items.size 0 lo)).take (eJ items.size items.size hi - eJ items.size 0 lo)).toArray.size<=sizeLine
  rw[PJ,Qx,List.length_drop,RW]
  omega
 have hj:eJ items.size items.size hi<=items.size:=J8 _ _ (Pt _) hi
 obtain⟨os,hos,hcs,hds⟩:=id hs
 have hTs:s.TypeIs (.ref sl) "slice":=⟨os,hos,hcs⟩
 unfold getItem
 try with_reducible refine QI ?_
 first |refine Pl (Pp ?_) |skip
 refine Pl (wpAny_sequenceKey ht.typeIs @A_ ?_)
 refine Pl (RY (name:=Str.ofString "__getitem__") ht.typeIs QH
  (Rw QH ht.typeIs entry_tuple_getitem ?_ (args_tuple_getitem _ _)))
 show wpAny _ _ (Builtin.Tuple.tupleItemsOf (.ref t) >>= _) _ _ s
 refine Pl (tupleItemsOf_ ht ?_)
 refine Pl (RB hTs ?_)
 rw[Po @A_]
 refine Pl (j3 hs pl pu ?_)
 have hno:¬((((eJ items.size 0 lo:Nat):Int) == 0 && (1:Int) == 1 && (eJ items.size items.size hi - eJ items.size 0 lo) == items.size)=true):=by
  intro q
  rw[PM,PM] at q
  have q1:((eJ items.size 0 lo:Nat):Int)=0:=eq_of_beq q.1.1
  have q2:eJ items.size items.size hi - eJ items.size 0 lo=items.size:=eq_of_beq q.2
  exact hw ⟨@AT,@AT ⟩
 show wpAny _ _ (if (((eJ items.size 0 lo:Nat):Int) == 0 && (1:Int) == 1 && (eJ items.size items.size hi - eJ items.size 0 lo) == items.size)=true then _ else _) _ _ s
 rw[Px hno,Ef]
 first
  |exact Pl (m:=Builtin.Tuple.tupleExact _) (QF (Pp ⟨_,rfl,Pp h⟩) htake)
  |exact Pl (m:=Builtin.Tuple.tupleExact _) (QF (Pl (Pp (Pp ⟨_,rfl,Pp h⟩))) htake)
  |exact Pl (Pl (m:=Builtin.Tuple.tupleExact _) (QF (Pp (Pp ⟨_,rfl,Pp h⟩)) htake))
  |exact Pl (Pl (m:=Builtin.Tuple.tupleExact _) (QF (Pp ⟨_,rfl,Pp h⟩) htake))
end
end HT
namespace L2
open PySem PySem.Spec PyProof.Rows
abbrev TO:=St->Hp->(@TK->Hp->Prop)->Prop
def PO (X:Cx)(e:Option Expr)(t:TO):Prop:=
 ∀(pins:@Db) (s:Shared) (σ:St) (H:Hp) (Q:@TK->Hp->Prop),@At->t σ H Q->
  wpAny @D_ X.A (evalPart e X.env) (λu s'=>∃o H',Inv X pins σ H' s'/\IsPart u o/\Q o H') X.xe s
def GG:TO:=λ_ H Q=>Q none H
def My (t:TE):TO:=λσ H Q=>t σ H λx H1=>∃i,x=.int i/\Q (some i) H1
section
variable {X:Cx}{e:Expr}{te:TE}{lo hi:Option Expr}{tl th:TO}{pos p2:Pos}
def Il:PO X none GG:=by
 intro pins s σ H Q I h
 rw[evalPart_none]
 exact Pp ⟨none,H,I,.none,h⟩
def HA (h:PE X e te):PO X (some e) (My te):=by
 intro pins s σ H Q I hw
 rw[evalPart_some]
 refine cG (h pins s σ H _ I hw) λu s1 ⟨x,H1,I1,r1,q1⟩=>?_
 obtain⟨i,rfl,q⟩:=q1
 obtain⟨t,rfl⟩:=r1
 exact⟨some i,H1,I1,.int i t,q⟩
def Nw (X:Cx)(r:V->@TK->@TK->Hp->VK->Prop):Prop:=
 ∀(pins:@Db) (s:Shared) (σ:St) (H:Hp) (x:V) (v vl vu:Value) (lo hi:@TK) (sl:Addr) (Q:VK),@At->RelV x v->s.heap.IsSliceOf sl vl vu .none->IsPart vl lo->IsPart vu hi->r x lo hi H Q->
  ∃T id,typeLookup (.type T) "__getitem__"=pure (some (.builtin id))/\s.TypeIs v T/\wpAny @D_ X.A (getItem v (.ref sl)) (EP X pins σ Q) X.xe s
def Pa (r:V->@TK->@TK->Hp->VK->Prop)(te:TE)(tl th:TO):TE:=λσ H Q=>te σ H λx H1=>tl σ H1 λl H2=>th σ H2 λu H3=>r x l u H3 Q
def xq {r:V->@TK->@TK->Hp->VK->Prop}(hr:Nw X r)(he:PE X e te)(hl:PO X lo tl)(hu:PO X hi th):PE X (.Subscript e (.Slice lo hi none p2) pos) (Pa r te tl th):=by
 intro pins s σ H Q I h
 refine Subscript_ (cG (he pins s σ H _ I h) λv s1 ⟨x,H1,I1,r1,q1⟩=>?_)
 refine wpAny_Slice (cG (hl pins s1 σ H1 _ I1 q1) λvl s2 ⟨l,H2,I2,pl,q2⟩=>cG (hu pins s2 σ H2 _ I2 q2) λvu s3 ⟨u,H3,I3,pu,q3⟩=>?_)
 rw[evalPart_none]
 refine Pp ?_
 have I4:Inv X pins σ H3 {s3 with heap:=s3.heap.push {cls:=.type "slice",data:=.fields #[vl,vu,.none]}}:=I3.kept (t':=s3.toks) λb ob q=>Pq _ q
 obtain⟨T,id,hT,ht,hg⟩:=hr pins {s3 with heap:=s3.heap.push {cls:=.type "slice",data:=.fields #[vl,vu,.none]}} σ H3 x v vl vu l u s3.heap.objs.size Q I4 r1 (Heap.IsSliceOf.new ..) pl pu q3
 show wpAny @D_ X.A (subscriptTail e (.Slice lo hi none p2) v (.ref s3.heap.objs.size)) (EP X pins σ Q) X.xe {s3 with heap:=s3.heap.push {cls:=.type "slice",data:=.fields #[vl,vu,.none]}}
 exact tail_any (ops:=[.ref s3.heap.objs.size,v]) ht hT hg @S5
def sS (xs:List V)(lo hi:@TK):List V:=(xs.drop (HT.eJ xs.length 0 lo)).take (HT.eJ xs.length xs.length hi - HT.eJ xs.length 0 lo)
def qp (xs:List V)(lo hi:@TK):(sS xs lo hi).length<=xs.length:=by
 unfold sS
 rw[Qx,List.length_drop]
 omega
def OA (K:Frag):V->@TK->@TK->Hp->VK->Prop:=λx lo hi H Q=>∃a xs,x=.ref a/\gj K H a xs/\
 ¬(HT.eJ xs.length 0 lo=0/\HT.eJ xs.length xs.length hi=xs.length)/\∀p,H p=none->Q (.ref p) (upd H p (.tup (sS xs lo hi)))
def KU:Nw X (OA X.K):=by
 intro pins s σ H x v vl vu lo hi sl Q I rx hs pl pu h
 obtain⟨a,xs,rfl,hx,hw,q⟩:=h
 cases rx
 obtain⟨its,r,ht,hz⟩:=I.tuple hx
 have hlen:its.toArray.size=xs.length:=by rw[PJ];exact r.length.symm
 refine⟨"tuple",_,QH.lookup,ht.typeIs,?_⟩
 refine HT.o4 ht hs pl pu (by rw[hlen];exact hw) ?_ (by rw[hlen];exact hz)
 rw[hlen]
 refine⟨@LE,_,I.laid (t':=s.toks) (o:=.tup (sS xs lo hi)) (λb ob q=>Pq _ q) (Pt _) ?_,rfl,q _ (I.hok.fresh (Pt _))⟩
 exact⟨QA (qp xs lo hi) hz,_,(r.drop (HT.eJ xs.length 0 lo)).take (HT.eJ xs.length xs.length hi - HT.eJ xs.length 0 lo),u5.new _ _⟩
end
def wM (n:Nat)(i:Int):Option Nat:=if 0<=i then (if i < n then some i.toNat else none) else if -(n:Int)<=i then some (i + n).toNat else none
def kq {α:Type}(xs:List α)(i:Int):Option α:=(wM xs.length i).bind λj=>xs[j]?
def Bs {n:Nat}{i:Int}{j:Nat}(h:wM n i=some j):seqIndex? i n=some j/\j < n/\ -(n:Int)<=i/\i < n:=by
 unfold wM at h
 by_cases h0:0<=i
 ·rw[Po h0] at h
  by_cases h1:i < n
  ·rw[Po h1] at h
   have e:i.toNat=j:=Option.some.inj h
   exact⟨by rw[seqIndex_of h0 h1,e],@AT,@AT,h1⟩
  ·rw[Px h1] at h;cases h
 ·rw[Px h0] at h
  by_cases h1: -(n:Int)<=i
  ·rw[Po h1] at h
   have e:(i + n).toNat=j:=Option.some.inj h
   exact⟨by rw[seqIndex_neg (@AT) h1,e],@AT,h1,@AT ⟩
  ·rw[Px h1] at h;cases h
theorem wJ {α:Type}{xs:List α}{i:Int}{v:α}(h:kq xs i=some v):∃j,seqIndex? i xs.length=some j/\xs[j]? =some v/\j < xs.length/\ -(xs.length:Int)<=i/\i < xs.length:=by
 unfold kq at h
 cases e:wM xs.length i with
 |none=>rw[e] at h;cases h
 |some j=>
  rw[e] at h
  obtain⟨h1,h2,h3,h4⟩:=Bs e
  exact⟨j,h1,h,h2,h3,h4⟩
def kU {α:Type}{xs:List α}{j:Nat}{v:α}(h:xs[j]? =some v):kq xs (j:Int)=some v:=by
 have hj:j < xs.length:=(PN.mp h).1
 have e:wM xs.length (j:Int)=some j:=by
  unfold wM
  rw[Po (@AT),Po (@AT)];simp
 unfold kq;rw[e];exact h
def Bo (b:Expr):Prop:=∀o i,subscripted b false o i=operate [o,i] (getItem o i)
def DN (X:Cx)(r:R2):Prop:=
 ∀(value slice:Expr) (pins:@Db) (s:Shared) (σ:St) (H:Hp) (x y:V) (v u:Value) (Q:VK),@At->RelV x v->RelV y u->r x y H Q->
  subscripted slice false v u=operate [v,u] (getItem v u)->wpAny @D_ X.A (subscriptTail value slice v u) (EP X pins σ Q) X.xe s
def Pg (X:Cx)(id:String)(r:V->@KM):Prop:=
 ∀(pins:@Db) (s:Shared) (σ:St) (H:Hp) (x:V) (xs:List V) (v:Value) (us:@GM) (Q:VK),@At->RelV x v->Vals xs us->r x xs H Q->
  wpAny @D_ X.A (call (.builtin id) (v :: us)) (EP X pins σ Q) X.xe s
section
variable {X:Cx}{a b:Expr}{ta tb:TE}{pos:Pos}
def DN.or {r r':R2}(h:DN X r)(h':DN X r'):DN X (λx y H Q=>r x y H Q\/r' x y H Q):=by
 intro value slice pins s σ H x y v u Q I rx ry q hs
 rcases q with q |q
 ·exact h value slice pins s σ H x y v u Q I rx ry q hs
 ·exact h' value slice pins s σ H x y v u Q I rx ry q hs
def lV {r:R2}(hr:DN X r)(ha:PE X a ta)(hb:PE X b tb)(hs:Bo b):PE X (.Subscript a b pos) (MY r ta tb):=by
 intro pins s σ H Q I h
 exact Subscript_ (Ki ha hb I h λv u s2 x y H2 I2 rx ry q=>hr a b pins s2 σ H2 x y v u Q I2 rx ry q (hs _ _))
def JK (K:Frag):R2:=λx y H Q=>∃p xs i v,x=.ref p/\y=.int i/\gk K H p xs/\kq xs i=some v/\Q v H
def Mv (K:Frag):R2:=λx y H Q=>∃p xs i v,x=.ref p/\y=.int i/\gj K H p xs/\kq xs i=some v/\Q v H
def LP:R2:=λx y H Q=>∃z i c,x=.str z/\y=.int i/\z.length<=sizeLine/\kq z.cps.toList i=some c/\Q (.str ⟨#[c]⟩) H
def hW:DN X (JK X.K):=by
 intro value slice pins s σ H x y v u Q I rx ry h hs
 obtain⟨p,xs,i,z,rfl,rfl,hq,he,q⟩:=h
 cases rx
 obtain⟨t,rfl⟩:=ry
 obtain⟨its,r,pl,hz⟩:=I.list hq
 obtain⟨j,h1,h2,h3,h4,h5⟩:=wJ he
 obtain⟨w,ew,rw'⟩:=r.get h2
 have hl:=r.length
 have hn:=pJ
 have fin:EP X pins σ Q w s:=⟨z,H,I,rw',q⟩
 by_cases h0:0<=i
 ·have hj:i.toNat=j:=by
   rw[seqIndex_of h0 h5] at h1
   exact Option.some.inj h1
  exact item_listR pl.isList h0 (@AT) (by rw[hj];simpa using ew) fin hs
 ·have hj:(i + (its.toArray.size:Int)).toNat=j:=by
   rw[seqIndex_neg (@AT) h4] at h1
   rw[PJ,<-hl]
   exact Option.some.inj h1
  exact subscriptTail_builtinR (x:=w) pl.isList.typeIs slot_list_getitem.lookup
   (wpAny_getItem_list_neg (Q:=λr s'=>r=w/\EP X pins σ Q r s') pl.isList (@AT) (by rw[PJ] <;> omega) (@AT) (by rw[hj];simpa using ew) ⟨rfl,fin⟩) hs
def Ji:DN X (Mv X.K):=by
 intro value slice pins s σ H x y v u Q I rx ry h hs
 obtain⟨p,xs,i,z,rfl,rfl,hq,he,q⟩:=h
 cases rx
 obtain⟨t,rfl⟩:=ry
 obtain⟨its,r,pl,hz⟩:=I.tuple hq
 obtain⟨j,h1,h2,h3,h4,h5⟩:=wJ he
 obtain⟨w,ew,rw'⟩:=r.get h2
 have hl:=r.length
 have hn:=pJ
 have fin:EP X pins σ Q w s:=⟨z,H,I,rw',q⟩
 exact subscriptTail_builtinR (x:=w) pl.typeIs slot_tuple_getitem.lookup
  (getItem_tuple (j:=j) (Q:=λr s'=>r=w/\EP X pins σ Q r s') pl (@AT) (@AT) (by rw[PJ,<-hl];exact h1) (by simpa using ew) ⟨rfl,fin⟩) hs
def Ju:DN X LP:=by
 intro value slice pins s σ H x y v u Q I rx ry h hs
 obtain⟨z,i,c,rfl,rfl,hz,he,q⟩:=h
 obtain⟨t,rfl⟩:=rx
 obtain⟨t',rfl⟩:=ry
 obtain⟨j,h1,h2,h3,h4,h5⟩:=wJ he
 have hl:z.cps.toList.length=z.length:=by simp[Str.length]
 rw[hl] at h1 h4 h5
 have hn:=pJ
 exact tail_any (typeIs_str s z t) slot_str_getitem.lookup (getItem_str (c:=c) (by
  have e1:decide (i < -(2 ^ 63:Int))=false:=PU (@AT)
  have e2:decide (i>=2 ^ 63)=false:=PU (@AT)
  rw[e1,e2,Bool.or_false]) (by rw[h1];simpa using h2) ⟨.str ⟨#[c]⟩,H,I.tok _,⟨_,rfl⟩,q⟩) hs
def OX (K:Frag):R2:=λx y H Q=>JK K x y H Q\/Mv K x y H Q\/LP x y H Q
def aO:DN X (OX X.K):=hW.or (Ji.or Ju)
def zg (its:@GM)(n j:Nat)(u:Value):Obj.mapSeq (·.setIfInBounds j u) @S9={cls:=.type "list",data:=.seq (its.set j u).toArray n}:=by
 simp[Obj.mapSeq]
def Inv.lst {pins:@Db}{σ:St}{H:Hp}{s:Shared}{p:Addr}{xs:List V}(I:@At)(h:H p=some (.lst xs)) :
  ∃(its:@GM) (n:Nat),Vals xs its/\s.heap.get? p=some @S9/\xs.length<=sizeLine:=by
 obtain⟨z,its,n,r,e⟩:=I.hok p _ h
 exact⟨its,n,r,e,z⟩
def Inv.lstUpd {pins:@Db}{σ:St}{H:Hp}{s:Shared}{p:Addr}{xs ys:List V}{its its':@GM}{n n':Nat}{f:Obj->Obj}(I:@At)(h:H p=some (.lst xs))
  (ho:s.heap.get? p=some @S9) (hf:f @S9={cls:=.type "list",data:=.seq its'.toArray n'}) (r:Vals ys its') (hz:ys.length<=sizeLine) (t:Nat) :
  Inv X pins σ (upd H p (.lst ys)) {s with heap:=s.heap.update p f,toks:=t}:=by
 have e:(s.heap.update p f).get? p=some {cls:=.type "list",data:=.seq its'.toArray n'}:=by
  rw[Qw f ho (by rw[hf] <;> rfl),hf]
 refine I.write (x:=p) (e:=p) (by rw[h];trivial) (.inl rfl) (λb u hb q=>(QD _ _ (Ne.symm hb)).trans q) ⟨_,e⟩ ?_
 exact⟨hz,its',n',r,e⟩
def Mk:V->V->V->Hp->(Hp->Prop)->Prop:=λo i v H Q=>∃p xs k j,o=.ref p/\i=.int k/\H p=some (.lst xs)/\wM xs.length k=some j/\Q (upd H p (.lst (xs.set j v)))
def set_list:vg X Mk:=by
 intro pins s σ H o i v ov iv u Q I ro ri rv h
 obtain⟨p,xs,k,j,rfl,rfl,hp,hj,q⟩:=h
 cases ro
 obtain⟨t,rfl⟩:=ri
 obtain⟨its,n,r,ho,hz⟩:=I.lst hp
 obtain⟨h1,h2,h3,h4⟩:=Bs hj
 have hl:=r.length
 have hn:=pJ
 have I':Inv X pins σ (upd H p (.lst (xs.set j v))) {s with heap:=s.heap.update p (Obj.mapSeq (·.setIfInBounds j u))}:=
  I.lstUpd hp ho (zg its n j u) (r.set rv j) (by rw[QQ];exact hz) s.toks
 by_cases h0:0<=k
 ·have hk:k.toNat=j:=by
   rw[seqIndex_of h0 h4] at h1
   exact Option.some.inj h1
  exact PySem.W.ki_setAt ho h0 (@AT) (by rw[PJ,<-hl];exact h4) (by rw[hk];exact⟨_,I',q⟩)
 ·have hk:(k + (its.toArray.size:Int)).toNat=j:=by
   rw[seqIndex_neg (@AT) h3] at h1
   rw[PJ,<-hl]
   exact Option.some.inj h1
  exact PySem.W.ki_setBack ho (@AT) (by rw[PJ,<-hl];exact h3) (@AT) (by rw[hk];exact⟨_,I',q⟩)
def v8 (lo hi:@TK)(n:Nat):(sliceBounds lo hi none n).1=((HT.eJ n 0 lo:Nat):Int)/\(sliceBounds lo hi none n).2.1=((HT.eJ n n hi:Nat):Int)/\(sliceBounds lo hi none n).2.2=1:=by
 refine⟨?_,?_,rfl⟩
 ·cases lo with
  |none=>simp[sliceBounds,HT.eJ]
  |some i=>
   simp only[sliceBounds,HT.eJ,Option.getD_none,show (1:Int) > 0 by decide,QC]
   by_cases h:i < 0
   ·simp only[h,QC] <;> omega
   ·simp only[h,Qq] <;> omega
 ·cases hi with
  |none=>simp[sliceBounds,HT.eJ]
  |some i=>
   simp only[sliceBounds,HT.eJ,Option.getD_none,show (1:Int) > 0 by decide,QC]
   by_cases h:i < 0
   ·simp only[h,QC] <;> omega
   ·simp only[h,Qq] <;> omega
def tI (its:@GM)(lo hi:@TK):slicePick its.toArray lo hi none=((its.drop (HT.eJ its.length 0 lo)).take (HT.eJ its.length its.length hi - HT.eJ its.length 0 lo)).toArray:=by
 obtain⟨h1,h2,h3⟩:=v8 lo hi its.toArray.size
 unfold slicePick
 rw[h1,h2,h3]
 simp only[sliceRange_one,pick_run,PJ] <;> rfl
def Od (K:Frag):V->@TK->@TK->Hp->VK->Prop:=λx lo hi H Q=>∃a xs,x=.ref a/\gk K H a xs/\∀p,H p=none->Q (.ref p) (upd H p (.lst (sS xs lo hi)))
def Ie:Nw X (Od X.K):=by
 intro pins s σ H x v vl vu lo hi sl Q I rx hs pl pu h
 obtain⟨a,xs,rfl,hx,q⟩:=h
 cases rx
 obtain⟨its,r,ht,hz⟩:=I.list hx
 have hlen:=r.length
 refine⟨"list",_,slot_list_getitem.lookup,ht.isList.typeIs,?_⟩
 refine wpAny_getItem_list_slice ht.isList hs pl pu .none @Go ?_ (by rw[PJ] <;> omega)
 rw[tI,<-hlen]
 refine⟨@LE,_,I.laid (t':=s.toks) (o:=.lst (sS xs lo hi)) (λb ob q=>Pq _ q) (Pt _) ?_,rfl,q _ (I.hok.fresh (Pt _))⟩
 exact⟨QA (qp xs lo hi) hz,_,0,(r.drop (HT.eJ xs.length 0 lo)).take (HT.eJ xs.length xs.length hi - HT.eJ xs.length 0 lo),PX _ rfl⟩
def oZ:dr X (.type "list") (λxs H Q=>∃p ys,xs= [.ref p]/\(gk X.K H p ys\/gj X.K H p ys)/\∀l,H l=none->Q (.ref l) (upd H l (.lst ys))):=by
 intro pins s σ H xs us Q I r h
 obtain⟨p,ys,rfl,hq,q⟩:=h
 obtain⟨u,rfl,rx⟩:=vals1 r
 cases rx
 have fin:∀(its:@GM),Vals ys its->ys.length<=sizeLine->∀(h':Heap) (c':Nat),(∀b o',s.heap.get? b=some o'->h'.get? b=some o')->
   h'.get? s.heap.objs.size=some {cls:=.type "list",dict:=none,data:=.seq its.toArray c',slots:=#[]}->EP X pins σ Q (@LE) {s with heap:=h'}:=λits r' hz h' c' kp e=>
  ⟨@LE,_,I.laid (t':=s.toks) kp (Pt _) (show bV X.prog X.w _ h' _ (.lst ys) from⟨hz,its,c',r',e⟩),rfl,q _ (I.hok.fresh (Pt _))⟩
 rcases hq with hq |hq
 ·obtain⟨its,r',pl,hz⟩:=I.list hq
  have hlen:=r'.length
  obtain⟨o,ho,hc,n,hd⟩:=pl.isList
  exact call_list_seq p (.inl rfl) ho hc hd (λh' c' kp e=>fin its r' hz h' c' kp e) (by simp only[PJ] <;> omega)
 ·obtain⟨its,r',pl,hz⟩:=I.tuple hq
  have hlen:=r'.length
  obtain⟨o,ho,hc,n,hd⟩:=pl
  exact call_list_seq p (.inr rfl) ho hc hd (λh' c' kp e=>fin its r' hz h' c' kp e) (by simp only[PJ] <;> omega)
def cD:dr X (.type "tuple") (λxs H Q=>∃p ys,xs= [.ref p]/\((gk X.K H p ys/\∀l,H l=none->Q (.ref l) (upd H l (.tup ys)))\/(gj X.K H p ys/\Q (.ref p) H))):=by
 intro pins s σ H xs us Q I r h
 obtain⟨p,ys,rfl,h⟩:=h
 obtain⟨u,rfl,rx⟩:=vals1 r
 cases rx
 rcases h with⟨hq,q⟩ | ⟨hq,q⟩
 ·obtain⟨its,r',pl,hz⟩:=I.list hq
  have hlen:=r'.length
  refine call_tuple_list pl.isList (λh' kp=>?_) (by simp only[PJ] <;> omega)
  have I1:Inv X pins σ H {s with heap:=h'}:=I.kept (t':=s.toks) kp
  have I2:Inv X pins σ (upd H h'.objs.size (.tup ys)) {s with heap:=h'.push {cls:=.type "tuple",data:=.seq its.toArray}}:=
   I1.laid (t':=s.toks) (λb o e=>Pq _ e) (Pt _) (show bV X.prog X.w _ _ _ (.tup ys) from⟨hz,its,r',u5.new _ _⟩)
  exact⟨.ref h'.objs.size,_,I2,rfl,q _ (I1.hok.fresh (Pt _))⟩
 ·obtain⟨its,r',pl,hz⟩:=I.tuple hq
  exact call_tuple_same pl ⟨.ref p,H,I,rfl,q⟩
def O0 (K:Frag)(T:String)(x:V)(H:Hp):Prop:=match x with
 | .str _=>T="str"
 | .int _=>T="int"
 | .ref p=>(T="list"/\∃xs,gk K H p xs)\/(T="tuple"/\∃o,K.lookup p=some o/\o.cls=.type "tuple"/\o.dict=none)\/
   (T="dict"/\((∃kvs,H p=some (.dK kvs))\/∃kvs,H p=some (.dT kvs)))\/(T="set"/\∃S n,H p=some (.set S n))
 |_=>False
theorem Kh {pins:@Db}{σ:St}{H:Hp}{s:Shared}{T:String}{x:V}{v:Value}(I:@At)(r:RelV x v)(ty:O0 X.K T x H) :
  s.TypeIs v T/\∀a,v=.ref a->∃ob,s.heap.get? a=some ob/\ob.dict=none:=by
 cases x with
 |str z=>
  obtain⟨t,rfl⟩:=r
  cases (show T="str" from ty)
  exact⟨typeIs_str s z t,λ_ e=>nomatch e⟩
 |int i=>
  obtain⟨t,rfl⟩:=r
  cases (show T="int" from ty)
  exact⟨typeIs_int s i t,λ_ e=>nomatch e⟩
 |ref p=>
  cases r
  rcases ty with⟨rfl,xs,hq⟩ | ⟨rfl,o,hk,hc,hd⟩ | ⟨rfl,hk⟩ | ⟨rfl,S,n,hk⟩
  ·obtain⟨its,_,pl,_⟩:=I.list hq
   refine⟨pl.isList.typeIs,λa e=>?_⟩
   cases e
   obtain⟨o,n,e,c,hd,_⟩:=pl
   exact⟨o,e,hd⟩
  ·refine⟨⟨o,I.kIn p o hk,hc⟩,λa e=>?_⟩
   cases e
   exact⟨o,I.kIn _ o hk,hd⟩
  ·have z:∃o,s.heap.get? p=some o/\o.ExactDict:=by
    rcases hk with⟨kvs,hk⟩ | ⟨kvs,hk⟩
    ·obtain⟨_,_,_,_,o,_,_,e,ex,_⟩:=I.hok p _ hk
     exact⟨o,e,ex⟩
    ·obtain⟨_,_,_,_,o,_,_,e,ex,_⟩:=I.hok p _ hk
     exact⟨o,e,ex⟩
   obtain⟨o,e,ex⟩:=z
   refine⟨⟨o,e,ex.1⟩,λa e2=>?_⟩
   cases e2
   exact⟨o,e,ex.2.1⟩
  ·obtain⟨o,_,_,_,e,ex,_⟩:=I.hok p _ hk
   refine⟨⟨o,e,ex.1⟩,λa e2=>?_⟩
   cases e2
   exact⟨o,e,ex.2.1⟩
 |_=>exact False.elim ty
def Pj (K:Frag)(T:String)(r:V->@KM)(to:TE)(t:TA):TE:=λσ H Q=>to σ H λx H1=>O0 K T x H1/\t σ H1 λxs H2=>r x xs H2 Q
variable {o e:Expr}{es:@TH}{to:TE}{t:TA}{name:Str}{apos cpos:Pos}{T id:String}{r:V->@KM}
def t9 (pa:PlainAttrs T)(slot:Slot T name id)(hty:typeOf (.builtin id)=pure (.type "method_descriptor"))(hm:Pg X id r)(ho:PE X o to)(ha:PA X (e :: es) t)
  (hbase:attributeBase o name X.env (eval o X.env)=eval o X.env:=by rfl)
  (hfew:((backTo cpos (starEach (e :: es) X.env)).all (λx=> !x.1) && @S_
   && decide ((e :: es).length + ([]:List Keyword).length + @Ta < 30))=true:=by rfl)
  (hline:(apos.endLine == cpos.line)=true:=by rfl) (hs:@O_:=by rfl) (hplain:(backTo cpos (starEach es X.env)).any (·.1)=false:=by rfl) :
  PE X (.Call (.Attribute o name apos) (e :: es) [] cpos) (Pj X.K T r to t):=by
 intro pins s σ H Q I h
 refine wpAny_Call_method_late hbase hfew hline rfl (cG (ho pins s σ H _ I h) λv s1 ⟨x,H1,I1,r1,ty,q1⟩=>?_)
 obtain⟨h1,h2⟩:=Kh I1 r1 ty
 refine⟨T,id,pa,slot,hty,h1,h2,?_⟩
 have hA:=ha cpos pins s1 σ H1 _ I1 q1
 rw[hs] at hA ⊢
 refine Calls.callWith_builtin (by show (false || (backTo cpos (starEach es X.env)).any (·.1))=false;rw[hplain] <;> rfl) (Calls.evalArgs_plain ?_)
 exact cG hA λus s2 ⟨vs,H2,I2,r2,q2⟩=>hm pins s2 σ H2 x vs v us Q I2 r1 r2 q2
end
def IG (X:Cx)(id:String)(r:V->@KM):Prop:=
 ∀(pins:@Db) (s:Shared) (σ:St) (H:Hp) (x:V) (xs:List V) (v:Value) (us:@GM) (Q:VK),@At->RelV x v->Vals xs us->r x xs H Q->
  wpAny @D_ X.A (call (.builtin id) (v :: us)) (EP X pins σ Q) X.xe s
theorem Vals.one:∀{x:V} {us:@GM},Vals [x] us->∃u,us= [u]/\RelV x u
 |_,_,.cons r .nil=>⟨_,rfl,r⟩
theorem Vals.eraseIdx:∀{xs:List V} {us:@GM} (i:Nat),Vals xs us->Vals (xs.eraseIdx i) (us.eraseIdx i)
 |_,_,_,.nil=>.nil
 |_,_,0,.cons _ t=>t
 |_,_,i + 1,.cons r t=>.cons r (Vals.eraseIdx i t)
theorem Vals.rep {xs:List V}{us:@GM}(h:Vals xs us):∀k:Nat,Vals (List.replicate k xs).flatten (List.replicate k us).flatten
 | 0=>.nil
 |k + 1=>by
  rw[QM,QM,Rv,Rv]
  exact Vals.append h (Vals.rep h k)
theorem uJ {α:Type}:∀(l:List α) (i:Nat),(l.eraseIdx i).length<=l.length
 | [],_=>Pt _
 |_ :: _,0=>Nat.le_succ _
 |_ :: r,i + 1=>Nat.succ_le_succ (uJ r i)
theorem foldl_rep (its:@GM):∀(k:Nat) (acc:@GM),
  List.foldl (λx1 x2=>x1 ++ x2) acc.toArray (List.replicate k its.toArray)=(acc ++ (List.replicate k its).flatten).toArray
 | 0,acc=>by simp
 |k + 1,acc=>by
  have e:acc.toArray ++ its.toArray=(acc ++ its).toArray:=by simp
  have e2:(acc ++ its) ++ (List.replicate k its).flatten=acc ++ (List.replicate (k + 1) its).flatten:=by
   rw[QM,Rv,QN]
  rw[<-e2,<-foldl_rep its k (acc ++ its),<-e,QM,RE]
section
variable {X:Cx}{pins:@Db}{σ:St}{H:Hp}{s:Shared}{l b:Addr}{xs ys zs:List V}
def Inv.lset {its its':@GM}{n:Nat}{f:Array Value->Array Value}{t':Nat}(I:@At)(hH:H l=some (.lst xs))
  (e:s.heap.get? l=some @S9) (hf:f its.toArray=its'.toArray) (hv:Vals ys its') (hz:ys.length<=sizeLine) :
  Inv X pins σ (upd H l (.lst ys)) {s with heap:=s.heap.update l (Obj.mapSeq f),toks:=t'}:=by
 have q:=PySem.IsL.update e f
 rw[hf] at q
 refine I.write (x:=l) (e:=l) (by rw[hH];exact trivial) (.inl rfl) (λb' u hb hu=>(QD s.heap (Obj.mapSeq f) (Ne.symm hb)).trans hu) ⟨_,q⟩ ?_
 exact⟨hz,its',_,hv,q⟩
def Inv.lnew {its:@GM}{t':Nat}(I:@At)(hv:Vals ys its)(hz:ys.length<=sizeLine) :
  Inv X pins σ (upd H s.heap.objs.size (.lst ys)) {s with heap:=s.heap.push {cls:=.type "list",data:=.seq its.toArray},toks:=t'}:=
 I.laid (λ_ _ q=>Pq _ q) (Pt _) ⟨hz,its,0,hv,PX _ rfl⟩
def Inv.fresh (I:@At):H s.heap.objs.size=none:=I.hok.fresh (Pt _)
def Inv.lstM (I:@At)(hH:H l=some (.lst xs)):xs.length<=sizeLine/\∃(its:@GM) (n:Nat),Vals xs its/\xs.length=its.length/\s.heap.get? l=some @S9:=by
 obtain⟨z,its,n,r,e⟩:=I.hok l _ hH
 exact⟨z,its,n,r,r.length,e⟩
def sV {n:Nat}(h:n<=sizeLine):Builtin.List.listTooLong n=false:=by
 unfold Builtin.List.listTooLong
 exact PU (@AT)
end
section
variable {X:Cx}
def Gw:V->@KM:=λx vs H Q=>∃l xs y,x=.ref l/\vs= [y]/\H l=some (.lst xs)/\xs.length < sizeLine/\Q .non (upd H l (.lst (xs ++ [y])))
def pZ:IG X "list.append" Gw:=by
 intro pins s σ H x vs v us Q I rx rv h
 obtain⟨l,xs,y,rfl,rfl,hH,hz,q⟩:=h
 cases rx
 obtain⟨u,rfl,ru⟩:=rv.one
 obtain⟨z,its,n,r,hl,e⟩:=I.lstM hH
 refine R1 F.slot_list_append ⟨_,e,rfl⟩ F.entry_list_append (F.args_list_append_2 _ _) (PySem.list_append l its.toArray n u (by rw[PJ];omega)) ⟨e,?_⟩
 refine⟨.non,_,I.lset (its':=its ++ [u]) hH e @Go (r.append (.cons ru .nil)) ?_,rfl,q⟩
 rw[P5,Rj]
 omega
def Gu:V->@KM:=λx vs H Q=>∃l b xs zs,x=.ref l/\vs= [.ref b]/\H l=some (.lst xs)/\H b=some (.lst zs)/\xs.length + zs.length<=sizeLine/\Q .non (upd H l (.lst (xs ++ zs)))
def Lk:IG X "list.extend" Gu:=by
 intro pins s σ H x vs v us Q I rx rv h
 obtain⟨l,b,xs,zs,rfl,rfl,hH,hB,hz,q⟩:=h
 cases rx
 obtain⟨u,rfl,ru⟩:=rv.one
 cases ru
 obtain⟨z,its,n,r,hl,e⟩:=I.lstM hH
 obtain⟨z2,its2,n2,r2,hl2,e2⟩:=I.lstM hB
 have hsz:its.toArray.size + its2.toArray.size<=sizeLine:=by rw[PJ,PJ];omega
 have hlong:¬(!its.toArray.isEmpty && Builtin.List.listTooLong (its.toArray.size + its2.toArray.size))=true:=by
  rw[sV hsz,Bool.and_false]
  exact PR
 refine R1 F.slot_list_extend ⟨_,e,rfl⟩ F.entry_list_extend (F.args_list_extend_2 _ _)
  (AutoSeq1.list_extend_list_list_0 l its.toArray n b its2.toArray n2 hlong (by rw[PJ];omega) (@AT)) ⟨e,e2,?_⟩
 refine⟨.non,_,I.lset (its':=its ++ its2) hH e @Go (r.append r2) ?_,rfl,q⟩
 rw[P5]
 omega
def KZ:V->@KM:=λx vs H Q=>∃l xs i k y,x=.ref l/\vs= [.int i]/\H l=some (.lst xs)/\ -(2 ^ 63)<=i/\i < 2 ^ 63/\seqIndex? i xs.length=some k/\xs[k]? =some y/\Q y (upd H l (.lst (xs.eraseIdx k)))
def EN:IG X "list.pop" KZ:=by
 intro pins s σ H x vs v us Q I rx rv h
 obtain⟨l,xs,i,k,y,rfl,rfl,hH,h1,h2,hk,hy,q⟩:=h
 cases rx
 obtain⟨u,rfl,ru⟩:=rv.one
 obtain⟨t,rfl⟩:=ru
 obtain⟨z,its,n,r,hl,e⟩:=I.lstM hH
 obtain⟨w,hw,rw'⟩:=r.get hy
 refine R1 F.slot_list_pop ⟨_,e,rfl⟩ F.entry_list_pop (F.args_list_pop_2 _ _)
  (MeetsSeq.list_pop_at l its.toArray n i t k w (fitsIndex_both h1 h2) (by rw[PJ,<-hl];exact hk) (by rw[<-Rk];exact hw) (by rw[PJ];omega)) ⟨e,?_⟩
 refine⟨y,_,I.lset (its':=its.eraseIdx k) hH e ?_ (r.eraseIdx k) ?_,rw',q⟩
 ·show its.toArray.eraseIdxIfInBounds k=(its.eraseIdx k).toArray
  rw[List.eraseIdxIfInBounds_toArray]
 ·have:=uJ xs k
  omega
def OI:R2:=λx y H Q=>∃l b xs zs,x=.ref l/\y=.ref b/\H l=some (.lst xs)/\H b=some (.lst zs)/\xs.length + zs.length<=sizeLine/\∀p,H p=none->Q (.ref p) (upd H p (.lst (xs ++ zs)))
def E9:mQ X (binaryOp .Add) OI:=by
 intro pins s σ H x y v u Q I rx ry h
 obtain⟨l,b,xs,zs,rfl,rfl,hH,hB,hz,q⟩:=h
 cases rx
 cases ry
 obtain⟨z,its,n,r,hl,e⟩:=I.lstM hH
 obtain⟨z2,its2,n2,r2,hl2,e2⟩:=I.lstM hB
 refine PySem.P.add_list e e2 ?_ (by rw[PJ,PJ];omega)
 have ea:its.toArray ++ its2.toArray=(its ++ its2).toArray:=by simp
 rw[ea]
 exact⟨.ref _,_,I.lnew (t':=s.toks) (r.append r2) (by rw[P5];omega),rfl,q _ I.fresh⟩
def NL:R2:=λx y H Q=>∃l k xs,x=.ref l/\y=.int k/\H l=some (.lst xs)/\ -(2 ^ 63)<=k/\k < 2 ^ 63/\xs.length * k.toNat<=sizeLine/\
 ∀p,H p=none->Q (.ref p) (upd H p (.lst (List.replicate k.toNat xs).flatten))
theorem len_rep {α:Type}(xs:List α)(k:Nat):(List.replicate k xs).flatten.length=k * xs.length:=by
 induction k with
 |zero=>simp
 |succ k ih=>rw[QM,Rv,P5,ih,Nat.succ_mul,Nat.add_comm]
def E6:mQ X (binaryOp .Mult) NL:=by
 intro pins s σ H x y v u Q I rx ry h
 obtain⟨l,k,xs,rfl,rfl,hH,h1,h2,hz,q⟩:=h
 cases rx
 obtain⟨t,rfl⟩:=ry
 obtain⟨z,its,n,r,hl,e⟩:=I.lstM hH
 have hlen:its.toArray.size * k.toNat<=sizeLine:=by rw[PJ,<-hl];exact hz
 have hcap:¬its.toArray.size * k.toNat > (2 ^ 63 - 1) / 8:=by
  have:(sizeLine:Nat)<=(2 ^ 63 - 1) / 8:=by decide
  omega
 have hfit:¬(!Builtin.List.listFitsIndex k)=true:=by
  rw[fitsIndex_both h1 h2]
  exact PR
 have hlong:¬Builtin.List.listTooLong (its.toArray.size * k.toNat)=true:=by
  rw[sV hlen]
  exact PR
 have hnew:List.foldl (λx1 x2=>x1 ++ x2) #[] (List.replicate (if its.toArray.isEmpty=true then 0 else k.toNat) its.toArray)=(List.replicate k.toNat its).flatten.toArray:=by
  have f0:∀m:Nat,List.foldl (λx1 x2=>x1 ++ x2) #[] (List.replicate m its.toArray)=(List.replicate m its).flatten.toArray:=λm=>by
   have:=foldl_rep its m []
   rw[nil_append] at this
   exact this
  rw[f0]
  cases its with
  |nil=>simp
  |cons a r'=>rw[Px @Go]
 refine wpAny_binaryOp_repeat_ref (T:="list") (U:="int") @A_ ⟨_,e,rfl⟩ (λs'=>typeIs_int s' k t) noFill_list_mul F.fills_int_mul F.slot_int_rmul repeat_list F.slot_int_index.lookup
  (R1 F.slot_int_rmul (typeIs_int s k t) F.entry_int_rmul (F.args_int_rmul_2 _ _) (int___rmul___int_list k t l its.toArray n)
   ⟨e,rfl,⟨_,e,rfl⟩,R1 F.slot_list_mul ⟨_,e,rfl⟩ F.entry_list_mul (F.args_list_mul_2 _ _) (AutoListH.list___mul___list_int_3 l its.toArray n k t hfit hcap hlong) ⟨e,?_⟩⟩)
 rw[hnew]
 exact⟨.ref _,_,I.lnew (t':=s.toks) (r.rep k.toNat) (by rw[len_rep,Nat.mul_comm];exact hz),rfl,q _ I.fresh⟩
end
end L2
namespace Att
open PySem PySem.W PySem.Calls PyProof.Rows
theorem qt {P:Params}{h:Heap}:∀(ns:@KF) (vs:@GM),WellAll P h vs (ns.map WData.int)->IntsAre vs ns:=by
 intro ns
 induction ns with
 |nil=>
  intro vs w
  rw[List.map_nil] at w
  cases w
  exact .nil
 |cons n ns ih=>
  intro vs w
  rw[P8] at w
  cases w with
  |cons a b=>
   cases a
   exact .cons _ _ (ih _ b)
theorem Cd {l:OpenLaw}{n:Nat}(hn:l.most=some n){P:Params}{h:Heap}{args:List WData}{vals:@GM}
  (hpre:l.row.toRowW.claim.pre args=true) (hwl:WellAll P h vals args) :
  ∃a vs ns,vals= [Value.ref a]/\args= [WData.list (ns.map WData.int)]/\h.get? a=some {cls:=.type "list",data:=.seq vs.toArray}/\IntsAre vs ns/\ns.length<=n:=by
 have hsh:WShape.hasAll [] args [.list .int]=true:=(pre_splitW hpre).1
 have hc:l.pre.holds [] {args:=args}=true:=(pre_splitW hpre).2
 obtain⟨d,r,rfl,h1,h2⟩:=hasAllW_cons hsh
 obtain rfl:=hasAllW_nil h2
 obtain⟨xs,rfl,h3⟩:=hasW_list h1
 obtain⟨ns,rfl⟩:=items_int h3
 have hlen:ns.length<=n:=by
  unfold OpenLaw.pre at hc
  have h4:(WTm.not (.lt (.lit (.int (n:Int))) (.len (.arg 0)))).holds [] {args:=[.list (ns.map .int)]}=true:=by
   have h4:=(holds_andW hc).1
   rw[hn] at h4
   exact h4
  have h5:=condW_of h4 (w_not (w_lt w_lit (w_len_list (w_arg rfl))))
  rw[Py] at h5
  refine Nat.le_of_not_lt λq=>?_
  have q':(n:Int) < ((ns.length:Nat):Int):=@AT
  first
   | (rw[PF q'] at h5;exact absurd h5 @A_)
   | (simp at h5;omega)
 cases hwl with
 |cons w1 w2=>
  cases w2
  cases w1 with
  |list ho hall=>exact⟨_,_,ns,rfl,rfl,ho,qt ns _ hall,hlen⟩
def B3 (l:OpenLaw)(args:List WData):l.row.toRowW.claim.post args (@TU) args=true:=
 postW_of (r:=l.row.toRowW) (X:=(true == true))
  (show WShape.has [] (@TU) .bool=true by first |rfl |decide |simp[WShape.has,WShape.arms,WShape.armsAll])
  (show (WTm.eq .res (.lit (@TU))).value [] {args:=args,res:=some (@TU),after:=args}=some (.bool (true == true)) from w_eq_bool (w_res rfl) w_lit) rfl
def wZ {l:OpenLaw}{n:Nat}{q:Program}{loose:@KK}{XP:(@Fa)->Heap->Prop}{YP:World->Heap->Prop}{d:DefRec}
  (hn:l.most=some n) (hdf:d.params.defaults= [])
  (call:∀(w:World) (s₀ s₁:Shared) (mg mb:@Fa) (fa:Addr) (o:Obj) (pm cd doc:Value) (a:Addr) (vs:@GM) (ns:@KF),
   Ground q loose [] XP w s₀ mg mb s₁.heap->YP w s₁.heap->
   s₁.heap.get? fa=some o->o.data=.func (docDef d.name d.params d.body d.scope pm cd doc)->s₁.heap.CodeRec cd d.name->mg d.name=some (.ref fa)->
   s₁.heap.get? a=some {cls:=.type "list",data:=.seq vs.toArray}->IntsAre vs ns->ns.length<=n->s₁.gens=#[]->
   codeAny (model l.prog w) callerA (.call (.ref fa) ⟨[.ref a],[]⟩) (λr s'=>r=.ok (.ret (@TU))/\OldK s₁.heap s'.heap/\s'.os=s₁.os/\AllBare s'.gens) s₁) :
  WalkO q loose XP YP l.row.toRowW d [] (λf vs=>PySem.call f vs):=by
 intro w s₀ s₁ mg mb G Y fa o pm cd doc dV kV ho hd hcd hD hmg hg args vals as hpre hlay hrd hwl hlo
 obtain rfl:dV=.none:=Dflts.none hD hdf
 obtain rfl:kV=.none:=Dflts.noKw hD
 obtain⟨a,vs,ns,rfl,rfl,hobj,hints,hlen⟩:=Cd hn hpre hwl
 refine enter_call (Sa (call w s₀ s₁ mg mb fa o pm cd doc a vs ns G Y ho (fd_plain hd) hcd hmg hobj hints hlen hg) λr s' hq=>?_)
 obtain⟨rfl,h2,h3,h4⟩:=hq
 exact⟨.inl ⟨@TU,@TU,[],rfl,λ_=>rfl,@TU,B3 l _,λ_=>⟨List.Pairwise.nil,λ_ hm=>(nomatch hm)⟩⟩,h2,h3,h4⟩
end Att
namespace L2
open PySem PySem.Spec PyProof.Rows
theorem uc:∀{vs:@GM} {ns:@KF},IntsAre vs ns->Vals (ns.map V.int) vs
 |_,_,.nil=>.nil
 |_,_,.cons n t h=>.cons ⟨t,rfl⟩ (uc h)
def KN (H:Hp):Prop:=∀b,H b=none\/∃o xs,H b=some (.a8 o (.lst xs))
theorem FJ {P:Program}{w:World}{K:Frag}{mg mb:@Fa}{CX:yv}{k:Nat}{fa a:Addr}{fd:FuncData}{x:Str}{sp:Sp}{s₁:Shared}{vs:@GM}{ns:@KF}
  (KX:K.In s₁.heap) (hns:s₁.heap.Ns mainGlobals mg) (hb:s₁.heap.Ns builtinsNs mb) (hbb:∀x:Str,x≠"__name__"->mb x=bootBuiltins x) (hlim:s₁.heap.NoLimit) (hsys:∃mm,s₁.heap.Ns sysModules mm) (hg:s₁.gens=#[])
  (ha:s₁.heap.get? a=some {cls:=.type "list",data:=.seq vs.toArray}) (hi:IntsAre vs ns) (hl:ns.length<=sizeLine) (hr:eM k callerA)
  (F:∀base:Heap,K.In base->base.Ns mainGlobals mg->ie P w K mg base CX k fa fd [x] sp) (hbind:∀(s:Shared) (u:Value),BindsTo s fd ⟨[u],[]⟩ [(x,u)])
  (hsp:∀H:Hp,KN H->gk K H a (ns.map V.int)->sp [.ref a] H (λv _=>v=.bl true) λ_ _ _=>False)
  (hCX:∀H e s',CX [] H s₁ (λ_ _ _=>False) e s'->False) :
  codeAny (model P w) callerA (.call (.ref fa) ⟨[.ref a],[]⟩) (λr s'=>r=.ok (.ret (@TU))/\OldK s₁.heap s'.heap/\s'.os=s₁.os/\AllBare s'.gens) s₁:=by
 have rv:=uc hi
 have lenV:=hi.length
 have core:∀H:Hp,KN H->gk K H a (ns.map V.int)->lC P w H s₁.heap->(∀b,H b≠none->b=a)->(H a≠none->K.lookup a=none)->
   codeAny (model P w) callerA (.call (.ref fa) ⟨[.ref a],[]⟩) (λr s'=>r=.ok (.ret (@TU))/\OldK s₁.heap s'.heap/\s'.os=s₁.os/\AllBare s'.gens) s₁:=by
  intro H hO hS hok hA hK
  have base_of:∀{b:Addr} {o:Obj},s₁.heap.get? b=some o->H b=none->(v5 s₁.heap H).get? b=some o:=λe n=>DT e n
  have noA:∀{b:Addr} {o:Obj} {es:Array DictEntry} {ep:Nat},s₁.heap.get? b=some o->o.data=.dict es ep->H b=none:=λ{b o es ep} e d=>by
   cases q:H b with
   |none=>rfl
   |some u=>
    have e':b=a:=hA b (by rw[q];simp)
    subst e'
    rw[ha] at e;cases e
    have d':Data.seq vs.toArray _=Data.dict es ep:=d
    cases d'
  have nsK:∀{b:Addr} {m:@Fa},s₁.heap.Ns b m->(v5 s₁.heap H).Ns b m:=λ{b m} ⟨o,es,ep,e,d,r⟩=>⟨o,es,ep,base_of e (noA e d),d,r⟩
  have hKb:K.In (v5 s₁.heap H):=λb o e=>base_of (KX b o e) (by
   cases q:H b with
   |none=>rfl
   |some u=>
    have e':b=a:=hA b (by rw[q];simp)
    subst e'
    rw[hK (by rw[q];simp)] at e;cases e)
  have hM:Mod K mg (v5 s₁.heap H):=⟨hKb,nsK hns,⟨mb,nsK hb,hbb⟩,let ⟨mc,h1,h2⟩:=hlim;⟨mc,nsK h1,h2⟩,let ⟨mm,h1⟩:=hsys;⟨mm,nsK h1⟩⟩
  have e0:yP P w K mg (v5 s₁.heap H) callerA [] s₁ H:=⟨rfl,hM,λb o e=>Gk e,Nat.le_of_eq (Ct _ _),trivial,λb hb=>absurd (show b∈([]:List Addr) from hb) @Go,hok,.of_eq hg⟩
  refine Sa ((F _ hKb (nsK hns)).run callerA [] s₁ H ⟨[.ref a],[]⟩ [.ref a] [.ref a] _ _ hr e0 (hbind s₁ @S2) (.cons rfl .nil) (hsp H hO hS)) λr s' h=>?_
  cases r with
  |error e=>exact (hCX H e s' h).elim
  |ok fl=>
   cases fl with
   |next=>exact False.elim h
   |brk=>exact False.elim h
   |cont=>exact False.elim h
   |ret u=>
    obtain⟨v,H',os,bare,un,hok',r',q⟩:=h
    have q':v=.bl true:=q
    subst q'
    obtain rfl:u=Value.bool true:=r'
    refine⟨rfl,OldK.of_keep λb o e=>?_,os,bare⟩
    cases q:H b with
    |none=>exact un.keep b o e q (by intro z;exact absurd (show b∈([]:List Addr) from z) @Go) @Go
    |some u=>
     rcases hO b with z | ⟨ob,xs,z⟩
     ·rw[q] at z;cases z
     ·have z2:=un.frzs b ob _ z
      obtain⟨e1,_⟩:=hok b _ z
      obtain⟨e2,_⟩:=hok' b _ z2
      rw[e] at e1;cases e1
      exact e2
 cases hk:K.lookup a with
 |some o=>
  have e:=KX a o hk
  rw[ha] at e
  cases e
  refine core (λ_=>none) (λ_=>.inl rfl) (.inr ⟨_,vs.toArray,_,hk,rfl,rfl,rfl,by rw[PJ,lenV];exact hl,by simpa using rv⟩) (λb u z=>by have z':(none:Option HO)=some u:=z;cases z') (λb z=>absurd rfl z) λz=>absurd rfl z
 |none=>
  refine core (λb=>if b=a then some (.a8 {cls:=.type "list",data:=.seq vs.toArray} (.lst (ns.map V.int))) else none) (λb=>?_) (.inl (.inr ⟨{cls:=.type "list",data:=.seq vs.toArray},Po rfl⟩)) (λb u z=>?_) (λb z=>?_) λ_=>hk
  ·by_cases hb:b=a
   ·exact .inr ⟨_,_,Po hb⟩
   ·exact .inl (Px hb)
  ·by_cases hb:b=a
   ·have z':=(Po hb).symm.trans z
    cases z'
    subst hb
    exact⟨ha,by rw[Py];exact hl,vs,_,rv,ha⟩
   ·have z':=(Px hb).symm.trans z
    cases z'
  ·by_cases hb:b=a
   ·exact hb
   ·exact absurd (Px hb) z
def Gp {l:PySem.W.OpenLaw}{n k:Nat}{q:Program}{loose:@KK}{XP:(@Fa)->Heap->Prop}{YP:World->Heap->Prop}{d:DefRec}{K:Params->Frag}{CX:World->yv}{sp:World->Sp}{x:Str}
  (hn:l.most=some n) (hn2:n<=sizeLine) (hdf:d.params.defaults= []) (hi:PyProof.Rows.importsNone q=true) (hr:eM k callerA)
  (hY:∀(w:World) (h:Heap),YP w h->(K w.params).In h)
  (F:∀(w:World) (mg:@Fa) (fa:Addr) (h:Heap),(K w.params).In h->h.Ns mainGlobals mg->mg d.name=some (.ref fa)->
   ∃fd:FuncData,(∀(s:Shared) (u:Value),BindsTo s fd ⟨[u],[]⟩ [(x,u)])/\
    ∀base:Heap,(K w.params).In base->base.Ns mainGlobals mg->ie l.prog w (K w.params) mg base (CX w) k fa fd [x] (sp w))
  (hsp:∀(w:World) (H:Hp) (a:Addr) (ns:@KF),ns.length<=n->KN H->gk (K w.params) H a (ns.map V.int)->sp w [.ref a] H (λv _=>v=.bl true) λ_ _ _=>False)
  (hCX:∀(w:World) (H:Hp) (s:Shared) (e:Value) (s':Shared),CX w [] H s (λ_ _ _=>False) e s'->False) :
  PySem.W.WalkO q loose XP YP l.row.toRowW d [] (λf vs=>PySem.call f vs):=by
 refine Att.wZ hn hdf λw s₀ s₁ mg mb fa o pm cd doc a vs ns G Y ho hd hcd hmg hobj hints hlen hg=>?_
 have KX:=hY w _ Y
 obtain⟨fd,hb,hF⟩:=F w mg fa _ KX G.T.g hmg
 exact FJ KX G.T.g G.T.b G.T.builtins G.T.nolimit (let ⟨mm,h1,_⟩:=(G.T.seer hi).mods;⟨mm,h1⟩) hg hobj hints (QA hlen hn2) hr hF hb (λH hO hS=>hsp w H a ns hlen hO hS) λH e s'=>hCX w H s₁ e s'
def jG (s:Stmt):Arguments:=match s with
 | .FunctionDef _ a _ _ _ _ _ _ _ _=>a
 |_=>{posonlyargs:=[],args:=[],vararg:=none,kwonlyargs:=[],kw_defaults:=[],kwarg:=none,defaults:=[]}
def cj (s:Stmt):List Stmt:=match s with
 | .FunctionDef _ _ b _ _ _ _ _ _ _=>b
 |_=>[]
def aq (s:Stmt):Scope:=match s with
 | .FunctionDef _ _ _ _ _ _ sc _ _ _=>sc
 |_=>{kind:=.function,names:=[],isGenerator:=false,isCoroutine:=false}
abbrev zy:yv:=λ_ _ _ _ _ _=>False
abbrev E0:XK:=λ_ _ _=>False
def ID {X:Cx}:Passes zy X E0:=λ_ _ _ _ _ _ _ h=>h.elim
structure C7 (K:Frag)(x qual:Str)(st:Stmt)(f:Addr)(fd:FuncData):Prop where
 ex:∃(oc:Value) (od:@J_) (kV doc pm:Value) (an:@J_) (cdv ct:Value) (osl:Array (Option Value)),
  fd=PySem.W.fnOf x qual (jG st) (cj st) (aq st) .none kV doc pm an cdv ct/\K.lookup f=some ⟨oc,od,.func fd,osl⟩/\PySem.W.codeIn K cdv qual=true
 kp:PySem.W.keepIn K (.ref f)=true
section
variable {P:Program}{w:World}{K:Frag}{mg:@Fa}{base:Heap}
def C7.ok {x qual:Str}{st:Stmt}{f:Addr}{fd:FuncData}{N ps:@KK}{k:Nat}{sp:Sp}(F:C7 K x qual st f fd)(S:aG N ps (aq st))(len:∀vs H Q E,sp vs H Q E->vs.length=ps.length)
  (hbody:∀(cdv:Value) (A:Around) (outer:List Env) (s:Shared) (H:Hp) (vs:List V) (Q:VK) (E:XK),eM k (A.deeper (envOfC qual (aq st) s.heap.objs.size f cdv))->sp vs H Q E->
   ∃t,qB (l7 zy P w K mg base N qual (aq st) f cdv A outer s H E).nox (cj st) t/\t {nx:=λ_ H'=>Q .non H',rt:=Q} (start N vs) H):ie P w K mg base zy (k + 1) f fd ps sp:=by
 obtain⟨oc,od,kV,doc,pm,an,cdv,ct,osl,rfl,lk,hcd⟩:=F.ex
 refine IV lk hcd S len λA outer s H vs Q E hr hsp=>?_
 obtain⟨t,h,q⟩:=hbody cdv A outer s H vs Q E hr hsp
 exact⟨t,h.nox,q⟩
def C7.binds {x qual:Str}{st:Stmt}{f:Addr}{fd:FuncData}{ps:@KK}(F:C7 K x qual st f fd)
  (h:∀(kV doc pm:Value) (an:@J_) (cdv ct:Value) (us:@GM),us.length=ps.length->bindArgs (PySem.W.fnOf x qual (jG st) (cj st) (aq st) .none kV doc pm an cdv ct) ⟨us,[]⟩=pure (ps.zip us)):Binds K fd ps []:=by
 obtain⟨oc,od,kV,doc,pm,an,cdv,ct,osl,rfl,lk,hcd⟩:=F.ex
 exact .all (h kV doc pm an cdv ct)
def zF {x qual:Str}{st:Stmt}{f:Addr}{oc:Value}{od an:@J_}{osl:Array (Option Value)}{kV doc pm cdv ct:Value}(l:K.lookup f=some ⟨oc,od,.func (PySem.W.fnOf x qual (jG st) (cj st) (aq st) .none kV doc pm an cdv ct),osl⟩)
  (c:PySem.W.codeIn K cdv qual=true) (k:PySem.W.keepIn K (.ref f)=true):C7 K x qual st f (PySem.W.fnOf x qual (jG st) (cj st) (aq st) .none kV doc pm an cdv ct):=⟨⟨oc,od,kV,doc,pm,an,cdv,ct,osl,rfl,l,c⟩,k⟩
end
section
variable {X:Cx}
def pv (i:Nat){x:Str}{pos:Pos}(hN:X.N[i]? =some x:=by rfl)(hv:yM X.env.scope x:=by first |exact @TM |exact Or.inr (@TM) |exact Or.inr (Or.inr rfl))(hd:@FM:=by decide)
  (hcd:@TF:=by decide):PE X (.Name x pos) (HP i):=jn hN hv hd hcd
end
def p5 {A B:Prop}(h:B):if false=true then A else B:=by
 rw[Px PR]
 exact h
def tX {A B:Prop}(h:A):if true=true then A else B:=by
 rw[Po rfl]
 exact h
def Ow (o:Obj):Prop:=∃vs q t,o.data=.fields vs/\vs[1]? =some (.str q t)
def JZ:@GM->Prop
 | []=>True
 | .int _ _ :: .int _ _ :: .ref _ :: r=>JZ r
 |_=>False
theorem JZ.app:∀{l m:@GM},JZ l->JZ m->JZ (l ++ m)
 | [],_,_,h=>h
 | .int _ _ :: .int _ _ :: .ref _ :: r,_,h,k=>JZ.app (l:=r) h k
def Kt (H:Hp)(b:Addr):HO->Prop
 | .tbl ps=>∃more:Array Value,H b=some (.tbl (ps ++ more))/\JZ more.toList/\∀c,Value.ref c∈more.toList->∃o,H c=some (.a8 o (.own 0))/\Ow o
 |o=>H b=some o
theorem Kt.of {H:Hp}{b:Addr}{o:HO}(h:H b=some o):Kt H b o:=by
 cases o with
 |tbl ps=>exact⟨#[],by rw[h];simp,trivial,λc hc=>by simp at hc⟩
 |_=>exact h
def av (H H':Hp):Prop:=∀b o,H b=some o->Kt H' b o
def av.refl (H:Hp):av H H:=λ_ _ h=>Kt.of h
theorem Kt.some {H:Hp}{b:Addr}{o:HO}(h:Kt H b o):∃u,H b=Option.some u/\((∀ps,o≠.tbl ps)->u=o)/\((∃ps,o=.tbl ps)->∃ps,u=.tbl ps):=by
 cases o with
 |tbl ps=>obtain⟨m,e,_⟩:=h;exact⟨_,e,λz=>absurd rfl (z ps),λ_=>⟨_,rfl⟩⟩
 |_=>exact⟨_,h,λ_=>rfl,λ⟨ps,z⟩=>by cases z⟩
theorem Kt.step {H H':Hp}{b:Addr}{o:HO}(h:Kt H b o)(s:av H H'):Kt H' b o:=by
 cases o with
 |tbl ps=>
  obtain⟨m,e,t1,k⟩:=h
  obtain⟨m2,e2,t2,k2⟩:=s b _ e
  refine⟨m ++ m2,by rw[e2,Array.append_assoc],by rw[So];exact t1.app t2,λc hc=>?_⟩
  rw[So,PQ] at hc
  rcases hc with hc |hc
  ·obtain⟨o,eo,io⟩:=k c hc;exact⟨o,s c _ eo,io⟩
  ·exact k2 c hc
 |lst xs=>exact s b _ h
 |tup xs=>exact s b _ h
 |dK xs=>exact s b _ h
 |dT xs=>exact s b _ h
 |set S n=>exact s b _ h
 |ins C dx fs=>exact s b _ h
 |own x=>exact s b _ h
 |xd fs=>exact s b _ h
 |met f x=>exact s b _ h
 |eB lo hi=>exact s b _ h
 |a8 o u=>exact s b _ h
 |ext φ=>exact s b _ h
def av.trans {H H1 H2:Hp}(a:av H H1)(b:av H1 H2):av H H2:=λc o h=>(a c o h).step b
theorem av.free {H H':Hp}(e:av H H'){l:Addr}(h:H' l=Option.none):H l=Option.none:=by
 cases q:H l with
 |none=>rfl
 |some o=>
  obtain⟨u,z,_⟩:=(e l o q).some
  rw[z] at h
  cases h
def av.seq {K:Frag}{H H':Hp}{a:Addr}{xs:List V}(e:av H H')(h:gk K H a xs):gk K H' a xs:=by
 rcases h with (h | ⟨o,h⟩) |h
 ·exact .inl (.inl (e _ _ h))
 ·exact .inl (.inr ⟨o,e _ _ h⟩)
 ·exact .inr h
end L2
end
namespace L2.ST
open PySem PySem.SetTable
abbrev kB (xs:Array Nat):Prop:=xs.toList.Pairwise (· < ·)
def jN {xs:Array Nat}(h:kB xs){i k d:Nat}(hik:i < k)(hk:k < xs.size):xs.getD i d < xs.getD k d:=by
 have hi:i < xs.size:=RP hik hk
 have:=RK.mp h i k (by simpa using hi) (by simpa using hk) hik
 simpa[Array.getD,hi,hk] using this
theorem Dl {xs:Array Nat}{j:Nat}(h:kB xs):∀(fuel lo hi:Nat),lo<=hi->hi<=xs.size->hi - lo<=fuel->
  (∀i,i < lo->xs.getD i j < j)->(∀i,hi<=i->i < xs.size->j<=xs.getD i j)->
  below.go xs j fuel lo hi<=xs.size/\(∀i,i < below.go xs j fuel lo hi->xs.getD i j < j)/\(∀i,below.go xs j fuel lo hi<=i->i < xs.size->j<=xs.getD i j):=by
 intro fuel
 induction fuel with
 |zero=>
  intro lo hi h1 h2 h3 h4 h5
  have:lo=hi:=@AT
  subst this
  exact⟨h2,h4,h5⟩
 |succ fuel ih=>
  intro lo hi h1 h2 h3 h4 h5
  unfold below.go
  by_cases hlt:lo < hi
  ·rw[Po hlt]
   dsimp only
   by_cases hm:xs.getD ((lo + hi) / 2) j < j
   ·rw[Po hm]
    refine ih _ _ (@AT) h2 (@AT) (λi hi'=>?_) h5
    by_cases e:i=(lo + hi) / 2
    ·rw[e];exact hm
    ·exact RP (jN h (show i < (lo + hi) / 2 by omega) (@AT)) hm
   ·rw[Px hm]
    refine ih _ _ (@AT) (@AT) (@AT) h4 (λi hi' hs=>?_)
    by_cases e:i=(lo + hi) / 2
    ·rw[e];omega
    ·have:=jN (d:=j) h (show (lo + hi) / 2 < i by omega) hs
     omega
  ·rw[Px hlt]
   have:lo=hi:=@AT
   subst this
   exact⟨h2,h4,h5⟩
def fy {xs:Array Nat}(h:kB xs)(j:Nat) :
  below xs j<=xs.size/\(∀i,i < below xs j->xs.getD i j < j)/\(∀i,below xs j<=i->i < xs.size->j<=xs.getD i j):=
 Dl h xs.size 0 xs.size (Qp _) (Pt _) (@AT) (λi hi=>@AT) (λi h1 h2=>@AT)
def Cs {xs:Array Nat}(h:kB xs){i j:Nat}(hi:xs[i]? =some j):below xs j=i:=by
 obtain⟨b1,b2,b3⟩:=fy h j
 have hs:i < xs.size:=(Qy.mp hi).1
 have hv:xs.getD i j=j:=by rw[Qo,hi];rfl
 rcases Sy i (below xs j) with c |c |c
 ·have:=b2 i c;omega
 ·exact c.symm
 ·have hb:below xs j < xs.size:=@AT
  have q:=b3 (below xs j) (Pt _) hb
  have:=jN (d:=j) h c hs
  omega
def Bk (j:Nat):has #[] j=false:=by
 unfold has
 simp
def uo {t:SetTable}(h:kB t.place){i j:Nat}(hi:t.place[i]? =some j):t.slot j=.live i:=by
 unfold slot
 dsimp only
 rw[Cs h hi,Po (by simp[hi])]
def y2 {t:SetTable}(hd:t.dummies=#[]){j:Nat}(hj:j∉t.place):t.slot j=.empty:=by
 unfold slot
 dsimp only
 have:¬(t.place[below t.place j]? == some j)=true:=by
  intro e
  have e':t.place[below t.place j]? =some j:=by simpa using e
  obtain⟨h1,h2⟩:=Qy.mp e'
  exact hj (Array.mem_iff_getElem.mpr ⟨_,h1,h2⟩)
 rw[Px this,hd,Bk]
 rfl
def yJ (mask:Nat)(p:Probe):Probe:=
 if p.more > 0 then {p with j:=p.j + 1,more:=p.more - 1} else
 {p with j:=(leap mask p.i p.perturb).1,more:=runEnd mask (leap mask p.i p.perturb).1 - (leap mask p.i p.perturb).1,i:=(leap mask p.i p.perturb).1,perturb:=(leap mask p.i p.perturb).2}
def BO (mask i perturb:Nat):Probe:={j:=i,more:=runEnd mask i - i,i,perturb,dummy:=none}
def st (mask:Nat)(h:Int):Probe:=BO mask (bits h % (mask + 1)) (bits h)
def DW (t:SetTable)(p:Probe):t.advance p=yJ t.mask p:=rfl
def Iw (t:SetTable)(h:Int):t.probeStart h=st t.mask h:=rfl
def gy (mask:Nat):Nat->Probe->Probe
 | 0,p=>p
 |n + 1,p=>gy mask n (yJ mask p)
theorem mF (mask:Nat):∀(n m:Nat) (p:Probe),gy mask (n + m) p=gy mask m (gy mask n p)
 | 0,m,p=>by rw[Qt];rfl
 |n + 1,m,p=>by rw[Nat.add_right_comm];exact mF mask n m (yJ mask p)
def FQ {mask:Nat}{p:Probe}(h:p.dummy=none):(yJ mask p).dummy=none:=by
 unfold yJ;split <;> exact h
def kc {mask i:Nat}(h:i<=mask):i<=runEnd mask i/\runEnd mask i<=mask/\runEnd mask i - i<=9:=by
 unfold runEnd;split <;> omega
def In (mask:Nat)(p:Probe):Prop:=p.j + p.more<=mask/\p.more<=9
def JB {mask i q:Nat}(h:i<=mask):In mask (BO mask i q):=by
 have:=kc h
 unfold In BO;dsimp only;omega
def oX (mask i q:Nat):(leap mask i q).1<=mask:=by
 unfold leap;exact Nat.lt_succ_iff.mp (Nat.mod_lt _ (Nat.succ_pos _))
def Kq {mask:Nat}{p:Probe}(h:In mask p):In mask (yJ mask p):=by
 unfold yJ
 by_cases hm:p.more > 0
 ·rw[Po hm];unfold In at *;dsimp only;omega
 ·rw[Px hm]
  have:=kc (oX mask p.i p.perturb)
  unfold In;dsimp only;omega
theorem Ap {mask:Nat}:∀(n:Nat) {p:Probe},In mask p->In mask (gy mask n p)
 | 0,_,h=>h
 |n + 1,_,h=>Ap n (Kq h)
def ME (mask:Nat)(h:Int):In mask (st mask h):=JB (Nat.lt_succ_iff.mp (Nat.mod_lt _ (Nat.succ_pos _)))
theorem xg (mask:Nat):∀(k:Nat) (p:Probe),p.more=k->gy mask (k + 1) p={p with j:=(leap mask p.i p.perturb).1,more:=runEnd mask (leap mask p.i p.perturb).1 - (leap mask p.i p.perturb).1,i:=(leap mask p.i p.perturb).1,perturb:=(leap mask p.i p.perturb).2}
 | 0,p,h=>by
  show yJ mask p=_
  unfold yJ
  rw[Px (@AT)]
 |k + 1,p,h=>by
  have e:yJ mask p={p with j:=p.j + 1,more:=p.more - 1}:=by unfold yJ;rw[Po (@AT)]
  show gy mask (k + 1) (yJ mask p)=_
  rw[e,xg mask k _ (by dsimp only;omega)]
def pW (mask i q:Nat):gy mask (runEnd mask i - i + 1) (BO mask i q)=BO mask (leap mask i q).1 (leap mask i q).2:=by
 exact xg mask _ (BO mask i q) rfl
theorem kI (mask i q:Nat):∀(k:Nat),k<=runEnd mask i - i->(gy mask k (BO mask i q))={BO mask i q with j:=i + k,more:=runEnd mask i - i - k}
 | 0,_=>rfl
 |k + 1,h=>by
  rw[mF mask k 1,kI mask i q k (@AT)]
  show yJ mask _=_
  unfold yJ
  rw[Po (by dsimp only;omega)]
  simp only[Probe.mk.injEq]
  refine⟨@AT,@AT,?_⟩
  trivial
def iq (mask:Nat):Nat->Nat×Nat->Nat×Nat
 | 0,x=>x
 |k + 1,x=>iq mask k (leap mask x.1 x.2)
theorem p7 (mask:Nat):∀(k i q:Nat),i<=mask->∃n,n<=10 * k/\gy mask n (BO mask i q)=BO mask (iq mask k (i,q)).1 (iq mask k (i,q)).2
 | 0,i,q,_=>⟨0,Pt _,rfl⟩
 |k + 1,i,q,h=>by
  obtain⟨n,hn,e⟩:=p7 mask k (leap mask i q).1 (leap mask i q).2 (oX _ _ _)
  have:=kc h
  refine⟨(runEnd mask i - i + 1) + n,@AT,?_⟩
  rw[mF,pW,e]
  rfl
theorem uR (mask:Nat):∀(a b:Nat) (x:Nat×Nat),iq mask (a + b) x=iq mask b (iq mask a x)
 | 0,b,x=>by rw[Qt];rfl
 |a + 1,b,x=>by rw[Nat.add_right_comm];exact uR mask a b (leap mask x.1 x.2)
theorem xW (mask:Nat):∀(k:Nat) (x:Nat×Nat),x.1<=mask->(iq mask k x).1<=mask
 | 0,_,h=>h
 |k + 1,x,_=>xW mask k _ (oX mask x.1 x.2)
theorem nk (mask:Nat):∀(k:Nat) (x:Nat×Nat),(iq mask k x).2=x.2 / 32 ^ k
 | 0,x=>by simp[iq]
 |k + 1,x=>by
  show (iq mask k (leap mask x.1 x.2)).2=_
  rw[nk mask k,Nat.pow_succ,Nat.mul_comm,<-Nat.div_div_eq_div_mul]
  rfl
def nx (mask i:Nat):Nat:=(i * 5 + 1) % (mask + 1)
def C6 (mask:Nat):Nat->Nat->Nat
 | 0,i=>i
 |k + 1,i=>C6 mask k (nx mask i)
theorem qR (mask:Nat):∀(a b i:Nat),C6 mask (a + b) i=C6 mask b (C6 mask a i)
 | 0,b,i=>by rw[Qt];rfl
 |a + 1,b,i=>by rw[Nat.add_right_comm];exact qR mask a b (nx mask i)
theorem rK (mask:Nat):∀(k i:Nat),iq mask k (i,0)=(C6 mask k i,0)
 | 0,_=>rfl
 |k + 1,i=>by
  show iq mask k (leap mask i 0)=_
  have:leap mask i 0=(nx mask i,0):=by simp[leap,nx]
  rw[this,rK mask k]
  rfl
def ES (mask:Nat):Prop:=mask=7\/mask=31\/mask=127
def Mg (mask:Nat)(hm:ES mask):C6 mask (mask + 1) 0=0/\∀j,j<=mask->∃k,k<=mask/\C6 mask k 0=j:=by
 have h7:∀j:Nat,j < 8->∃k,k < 8/\C6 7 k 0=j:=@B_
 have h31:∀j:Nat,j < 32->∃k,k < 32/\C6 31 k 0=j:=@B_
 have h127:∀j:Nat,j < 128->∃k,k < 128/\C6 127 k 0=j:=@B_
 rcases hm with rfl |rfl |rfl
 ·exact⟨@B_,λj hj=>let ⟨k,a,b⟩:=h7 j (@AT);⟨k,@AT,b⟩⟩
 ·exact⟨@B_,λj hj=>let ⟨k,a,b⟩:=h31 j (@AT);⟨k,@AT,b⟩⟩
 ·exact⟨@B_,λj hj=>let ⟨k,a,b⟩:=h127 j (@AT);⟨k,@AT,b⟩⟩
def MT {mask:Nat}(hm:ES mask){i j:Nat}(hi:i<=mask)(hj:j<=mask):∃k,k<=mask/\C6 mask k i=j:=by
 obtain⟨z,o⟩:=Mg mask hm
 obtain⟨a,ha,ea⟩:=o i hi
 obtain⟨b,hb,eb⟩:=o j hj
 have back:C6 mask (mask + 1 - a) i=0:=by
  rw[<-ea,<-qR,show a + (mask + 1 - a)=mask + 1 by omega];exact z
 by_cases hab:a<=b
 ·refine⟨b - a,@AT,?_⟩
  rw[<-ea,<-qR,show a + (b - a)=b by omega];exact eb
 ·refine⟨mask + 1 - a + b,@AT,?_⟩
  rw[qR,back];exact eb
def rF {mask:Nat}(hm:ES mask){i q j:Nat}(hi:i<=mask)(hq:q < 2 ^ 64)(hj:j<=mask):∃k,k<=mask + 13/\(iq mask k (i,q)).1=j:=by
 have hz:(iq mask 13 (i,q)).2=0:=by
  rw[nk]
  exact Nat.div_eq_of_lt (Qa hq @A_)
 obtain⟨k,hk,e⟩:=MT hm (xW mask 13 (i,q) hi) hj
 refine⟨13 + k,@AT,?_⟩
 rw[uR]
 have:iq mask 13 (i,q)=((iq mask 13 (i,q)).1,0):=Prod.ext rfl hz
 rw[this,rK]
 exact e
def Bg (h:Int):bits h < 2 ^ 64:=by
 unfold bits
 have:=Int.emod_lt_of_pos h (show (0:Int) < 2 ^ 64 by decide)
 have:=Int.emod_nonneg h (show (2 ^ 64:Int)≠0 by decide)
 omega
def EU {mask:Nat}(hm:ES mask)(h:Int){j:Nat}(hj:j<=mask):∃n,n < 10 * turns mask/\(gy mask n (st mask h)).j=j:=by
 have hi:bits h % (mask + 1)<=mask:=Nat.lt_succ_iff.mp (Nat.mod_lt _ (Nat.succ_pos _))
 obtain⟨k,hk,e⟩:=rF hm hi (Bg h) hj
 obtain⟨n,hn,q⟩:=p7 mask k (bits h % (mask + 1)) (bits h) hi
 refine⟨n,by unfold turns;omega,?_⟩
 show (gy mask n (BO mask _ _)).j=j
 rw[q];exact e
theorem Ea {t:SetTable}{hashAt:Nat->Int}{h:Int}:∀(n fuel:Nat) (p:Probe),n < fuel->p.dummy=none->
  (∀m,m < n->∃i,t.slot (gy t.mask m p).j=.live i/\hashAt i≠h)->t.slot (gy t.mask n p).j=.empty->
  probe.go t hashAt h fuel p=some (.empty (gy t.mask n p).j none):=by
 intro n
 induction n with
 |zero=>
  intro fuel p hf hd _ he
  obtain⟨f,rfl⟩:∃f,fuel=f + 1:=⟨fuel - 1,@AT ⟩
  unfold probe.go
  have he':t.slot p.j=.empty:=he
  rw[he',hd]
  rfl
 |succ n ih=>
  intro fuel p hf hd hl he
  obtain⟨f,rfl⟩:∃f,fuel=f + 1:=⟨fuel - 1,@AT ⟩
  unfold probe.go
  obtain⟨i,e,ne⟩:=hl 0 (@AT)
  have e':t.slot p.j=.live i:=e
  rw[e']
  dsimp only
  rw[Px (by simpa using ne),DW]
  exact ih f (yJ t.mask p) (@AT) (FQ hd) (λm hm=>hl (m + 1) (@AT)) he
theorem DA {t:SetTable}{hashAt:Nat->Int}{h:Int}:∀(n fuel:Nat) (p:Probe),n < fuel->
  (∀m,m<=n->∃i,t.slot (gy t.mask m p).j=.live i)->(∃i,t.slot (gy t.mask n p).j=.live i/\hashAt i=h)->
  ∃j i next,probe.go t hashAt h fuel p=some (.candidate j i next)/\t.slot j=.live i/\hashAt i=h:=by
 intro n
 induction n with
 |zero=>
  intro fuel p hf _ he
  obtain⟨f,rfl⟩:∃f,fuel=f + 1:=⟨fuel - 1,@AT ⟩
  obtain⟨i,e,eh⟩:=he
  have e':t.slot p.j=.live i:=e
  unfold probe.go
  rw[e']
  dsimp only
  rw[Po (by simpa using eh)]
  exact⟨p.j,i,_,rfl,e',eh⟩
 |succ n ih=>
  intro fuel p hf hl he
  obtain⟨f,rfl⟩:∃f,fuel=f + 1:=⟨fuel - 1,@AT ⟩
  obtain⟨i,e⟩:=hl 0 (@AT)
  have e':t.slot p.j=.live i:=e
  unfold probe.go
  rw[e']
  dsimp only
  by_cases hh:hashAt i=h
  ·rw[Po (by simpa using hh)]
   exact⟨p.j,i,_,rfl,e',hh⟩
  ·rw[Px (by simpa using hh),DW]
   exact ih f (yJ t.mask p) (@AT) (λm hm=>hl (m + 1) (@AT)) he
def Reach (mask:Nat)(L:Nat->Prop)(h:Int)(j:Nat):Prop:=∃n,n < 10 * turns mask/\(gy mask n (st mask h)).j=j/\∀m,m < n->L (gy mask m (st mask h)).j
def Reach.mono {mask:Nat}{L L':Nat->Prop}{h:Int}{j:Nat}(r:Reach mask L h j)(k:∀x,L x->L' x):Reach mask L' h j:=
 let ⟨n,a,b,c⟩:=r;⟨n,a,b,λm hm=>k _ (c m hm)⟩
structure Tab (t:SetTable)(hs:@KF):Prop where
 mask:ES t.mask
 dum:t.dummies=#[]
 rise:kB t.place
 le:∀j,j∈t.place->j<=t.mask
 size:t.place.size=hs.length
 load:t.place.size * 5 < t.mask * 3
 reach:∀(i j:Nat) (h:Int),t.place[i]? =some j->hs[i]? =some h->Reach t.mask (· ∈t.place) h j
 plain:t.plain=true
theorem bM {α:Type}[DecidableEq α]:∀{l m:List α},l.Nodup->(∀x,x∈l->x∈m)->l.length<=m.length
 | [],_,_,_=>Qp _
 |a :: l,m,hn,hs=>by
  have ha:=hs a (Pz ..)
  have hl:=Qh.mp hn
  have:=bM (l:=l) (m:=m.erase a) hl.2 λx hx=>by
   refine (List.mem_erase_of_ne ?_).mpr (hs x (Pw _ hx))
   rintro rfl;exact hl.1 hx
  rw[RS ha] at this
  have:0 < m.length:=List.length_pos_of_mem ha
  simp only[P7];omega
def yT {mask:Nat}{xs:Array Nat}(hl:xs.size<=mask):∃j,j<=mask/\j∉xs:=by
 refine Classical.byContradiction λhc=>?_
 have all:∀j,j∈List.range (mask + 1)->j∈xs.toList:=λj hj=>by
  have:=P4.mp hj
  refine Classical.byContradiction λhn=>hc ⟨j,@AT,λz=>hn (by simpa using z)⟩
 have:=bM Rx all
 simp at this
 omega
theorem wD {P:Nat->Prop}(h:∃n,P n):∃n,P n/\∀m,m < n->¬P m:=by
 obtain⟨n,hn⟩:=h
 induction n using Nat.strongRecOn with
 |_ n ih=>
  by_cases hc:∃m,m < n/\P m
  ·obtain⟨m,hm,hp⟩:=hc
   exact ih m hm hp
  ·exact⟨n,hn,λm hm hp=>hc ⟨m,hm,hp⟩⟩
section
variable {t:SetTable}{hs:@KF}
def Tab.load' (T:Tab t hs):t.place.size<=t.mask:=by have:=T.load;omega
def Tab.slotL (T:Tab t hs){j:Nat}(hj:j∈t.place):∃i,t.slot j=.live i/\t.place[i]? =some j:=by
 obtain⟨i,hi,e⟩:=Array.mem_iff_getElem.mp hj
 have q:t.place[i]? =some j:=by rw[Qd hi,e]
 exact⟨i,uo T.rise q,q⟩
def Tab.slotE (T:Tab t hs){j:Nat}(hj:j∉t.place):t.slot j=.empty:=y2 T.dum hj
def Tab.first (T:Tab t hs)(h:Int):∃n,n < 10 * turns t.mask/\(gy t.mask n (st t.mask h)).j∉t.place/\∀m,m < n->(gy t.mask m (st t.mask h)).j∈t.place:=by
 obtain⟨j,hj,hn⟩:=yT T.load'
 obtain⟨n,h1,h2⟩:=EU T.mask h hj
 obtain⟨k,hk,hlt⟩:=wD (P:=λn=>(gy t.mask n (st t.mask h)).j∉t.place) ⟨n,by rw[h2];exact hn⟩
 refine⟨k,?_,hk,λm hm=>Classical.byContradiction λz=>hlt m hm z⟩
 rcases QJ n k with c |c
 ·exact absurd (show (gy t.mask n (st t.mask h)).j∉t.place by rw[h2];exact hn) (hlt n c)
 ·omega
def Tab.absent (T:Tab t hs){hashAt:Nat->Int}(ha:∀i,i < hs.length->some (hashAt i)=hs[i]?){h:Int}(hn:h∉hs) :
  ∃j,t.probe hashAt h (t.probeStart h)=some (.empty j none)/\j∉t.place/\j<=t.mask/\Reach t.mask (· ∈t.place) h j:=by
 obtain⟨n,h1,h2,h3⟩:=T.first h
 refine⟨(gy t.mask n (st t.mask h)).j,?_,h2,?_,⟨n,h1,rfl,h3⟩⟩
 ·unfold probe
  rw[Iw]
  refine Ea n _ _ h1 rfl (λm hm=>?_) (T.slotE h2)
  obtain⟨i,e,q⟩:=T.slotL (h3 m hm)
  refine⟨i,e,λz=>hn ?_⟩
  have hi:i < hs.length:=by rw[<-T.size];exact (Qy.mp q).1
  have:=ha i hi
  rw[z] at this
  exact PV this.symm
 ·have:=Ap n (ME t.mask h)
  unfold In at this;omega
def Tab.present (T:Tab t hs){hashAt:Nat->Int}(ha:∀i,i < hs.length->some (hashAt i)=hs[i]?){h:Int}(hm:h∈hs) :
  ∃j i next,t.probe hashAt h (t.probeStart h)=some (.candidate j i next)/\t.slot j=.live i/\i < hs.length/\hs[i]? =some h:=by
 obtain⟨i,hi,e⟩:=Ql.mp hm
 have hi':hs[i]? =some h:=by rw[Pn hi,e]
 have hp:i < t.place.size:=by rw[T.size];exact hi
 obtain⟨n,h1,h2,h3⟩:=T.reach i t.place[i] h (Qd hp) hi'
 have hj:(gy t.mask n (st t.mask h)).j∈t.place:=by rw[h2];exact Sz hp
 obtain⟨j',i',nx,g1,g2,g3⟩:=DA (t:=t) (hashAt:=hashAt) (h:=h) n (10 * turns t.mask) (st t.mask h) h1 (λm hm=>by
   rcases QJ m n with c |c
   ·obtain⟨i,e,_⟩:=T.slotL (h3 m c);exact⟨i,e⟩
   ·have:m=n:=@AT
    subst this
    obtain⟨i,e,_⟩:=T.slotL hj;exact⟨i,e⟩)
  ⟨i,by rw[h2];exact uo T.rise (Qd hp),by
   have:=ha i hi
   rw[hi'] at this
   exact Option.some.inj this⟩
 have hi2:i' < t.place.size:=by
  unfold slot at g2
  dsimp only at g2
  split at g2
  ·rename_i c
   have c':t.place[below t.place j']? =some j':=by simpa using c
   cases g2
   exact (Qy.mp c').1
  ·split at g2 <;> cases g2
 refine⟨j',i',nx,by unfold probe;rw[Iw];exact g1,g2,by rw[<-T.size];exact hi2,?_⟩
 have:=ha i' (by rw[<-T.size];exact hi2)
 rw[g3] at this
 exact this.symm
end
def cu {α:Type}(xs:Array α)(p:Nat)(x:α)(_:p<=xs.size):(insertAt xs p x).toList=xs.toList.take p ++ x :: xs.toList.drop p:=by
 unfold insertAt
 simp[Array.toList_extract,List.extract_eq_take_drop]
 rw[Rf @Go]
def uP (t:SetTable)(j:Nat)(hd:t.dummies=#[]):(t.put j).1={t with place:=insertAt t.place (below t.place j) j}/\(t.put j).2=below t.place j:=by
 unfold put
 dsimp only
 rw[hd,Bk]
 exact⟨by simp,rfl⟩
section
variable {t:SetTable}{hs:@KF}
def oK {α:Type}{xs:Array α}{p:Nat}{x y:α}(hp:p<=xs.size):y∈insertAt xs p x↔y∈xs\/y=x:=by
 rw[<-RJ,cu xs p x hp,PQ,Pu,<-RJ]
 have:y∈xs.toList↔y∈xs.toList.take p\/y∈xs.toList.drop p:=by
  conv=>lhs;rw[<-List.take_append_drop p xs.toList]
  exact PQ
 rw[this]
 constructor
 ·rintro (a |a |a)
  ·exact .inl (.inl a)
  ·exact .inr a
  ·exact .inl (.inr a)
 ·rintro ((a |a) |a)
  ·exact .inl a
  ·exact .inr (.inr a)
  ·exact .inr (.inl a)
def tj {xs:Array Nat}(h:kB xs){j:Nat}(hj:j∉xs):kB (insertAt xs (below xs j) j):=by
 obtain⟨b1,b2,b3⟩:=fy h j
 unfold kB
 rw[cu _ _ _ b1]
 have hl:∀y,y∈xs.toList.take (below xs j)->y < j:=λy hy=>by
  obtain⟨i,hi,e⟩:=Ql.mp hy
  have hi1:i < below xs j:=by simp at hi;omega
  have hi2:i < xs.size:=@AT
  have:=b2 i hi1
  rw[Qo,Qd hi2] at this
  simp at e this
  omega
 have hr:∀y,y∈xs.toList.drop (below xs j)->j < y:=λy hy=>by
  obtain⟨i,hi,e⟩:=Ql.mp hy
  have hi2:below xs j + i < xs.size:=by simp at hi;omega
  have:=b3 (below xs j + i) (@AT) hi2
  rw[Qo,Qd hi2] at this
  simp at e this
  rcases QJ j y with c |c
  ·exact c
  ·have:j=y:=@AT
   exact absurd (by rw[this,<-e];exact Sz _) hj
 refine List.pairwise_append.mpr ⟨List.Pairwise.sublist (List.take_sublist ..) h,List.pairwise_cons.mpr ⟨λy hy=>hr y hy,List.Pairwise.sublist (List.drop_sublist ..) h⟩,λa ha b hb=>?_⟩
 rcases Pu.mp hb with rfl |hb
 ·exact hl a ha
 ·exact RP (hl a ha) (hr b hb)
def xl {α:Type}(l:List α)(p:Nat)(x:α)(hp:p<=l.length)(i:Nat):(l.take p ++ x :: l.drop p)[i]? =if i < p then l[i]? else if i=p then some x else l[i - 1]?:=by
 rcases Sy i p with c |c |c
 ·rw[Po c,Qb (by simp;omega),List.getElem?_take_of_lt c]
 ·subst c
  rw[Px (Qe _),Po rfl,Qf (by simp;omega),Qx,Nat.min_eq_left hp,Nat.sub_self]
  rfl
 ·rw[Px (@AT),Px (@AT),Qf (by simp;omega),Qx,Nat.min_eq_left hp]
  obtain⟨k,rfl⟩:∃k,i=p + 1 + k:=⟨i - (p + 1),@AT ⟩
  rw[show p + 1 + k - p=k + 1 by omega,List.getElem?_cons_succ,List.getElem?_drop]
  congr 1
  omega
def Tab.put (T:Tab t hs){j:Nat}{h:Int}(hj:j∉t.place)(hm:j<=t.mask)(r:Reach t.mask (· ∈t.place) h j)(hf:(t.place.size + 1) * 5 < t.mask * 3) :
  Tab (t.put j).1 (hs.take (t.put j).2 ++ h :: hs.drop (t.put j).2)/\(t.put j).2<=hs.length:=by
 obtain⟨e1,e2⟩:=uP t j T.dum
 obtain⟨b1,b2,b3⟩:=fy T.rise j
 have hsz:(insertAt t.place (below t.place j) j).size=t.place.size + 1:=by
  rw[<-RW,cu _ _ _ b1]
  simp;omega
 have hl:below t.place j<=hs.length:=by rw[<-T.size];exact b1
 rw[e1,e2]
 refine⟨⟨T.mask,T.dum,tj T.rise hj,λy hy=>?_,?_,?_,λi y g hy hg=>?_,T.plain⟩,hl⟩
 ·rcases (oK b1).mp hy with z |z
  ·exact T.le y z
  ·rw[z];exact hm
 ·show (insertAt t.place _ j).size=_
  rw[hsz,T.size];simp;omega
 ·show (insertAt t.place _ j).size * 5 < t.mask * 3
  rw[hsz];exact hf
 ·show Reach t.mask (· ∈insertAt t.place (below t.place j) j) g y
  have hy':(t.place.toList.take (below t.place j) ++ j :: t.place.toList.drop (below t.place j))[i]? =some y:=by
   rw[<-cu _ _ _ b1,Rk];exact hy
  rw[xl _ _ _ (by simpa using b1)] at hy'
  rw[xl _ _ _ hl] at hg
  have old:∀{g y},Reach t.mask (· ∈t.place) g y->Reach t.mask (· ∈insertAt t.place (below t.place j) j) g y:=λr=>r.mono λx hx=>(oK b1).mpr (.inl hx)
  split at hy'
  ·rename_i c
   rw[Po c] at hg
   exact old (T.reach i y g (by simpa using hy') hg)
  ·rename_i c
   rw[Px c] at hg
   split at hy'
   ·rename_i c2
    rw[Po c2] at hg
    cases hg;cases hy'
    exact old r
   ·rename_i c2
    rw[Px c2] at hg
    exact old (T.reach (i - 1) y g (by simpa using hy') hg)
end
abbrev own (o:Array (Option Nat))(j:Nat):Option Nat:=o.getD j none
theorem Ce {mask:Nat}{o:Array (Option Nat)}(hsz:o.size=mask + 1):∀(fuel i q:Nat) (j:Nat),i<=mask->layClean.free mask o fuel i q=some j->
  ∃n,n < 10 * fuel/\(gy mask n (BO mask i q)).j=j/\(∀m,m < n->(own o (gy mask m (BO mask i q)).j).isSome=true)/\own o j=none/\j<=mask:=by
 intro fuel
 induction fuel with
 |zero=>intro i q j _ h;unfold layClean.free at h;cases h
 |succ fuel ih=>
  intro i q j hi h
  unfold layClean.free at h
  have hr:=kc hi
  have ind:∀k,k<=runEnd mask i - i->o.getD (i + k) (some 0)=own o (i + k):=λk hk=>by
   have:i + k < o.size:=@AT
   simp[own,Array.getD,this]
  cases hf:(List.range (runEnd mask i + 1 - i)).find? λk=>(o.getD (i + k) (some 0)).isNone with
  |some k=>
   rw[hf] at h
   dsimp only at h
   have hk:=List.find?_eq_some_iff_getElem.mp hf
   obtain⟨hn,ix,hix,eix,hbef⟩:=hk
   have ek:ix=k:=by simpa using eix
   subst ek
   have hix':ix < runEnd mask i + 1 - i:=by simpa using hix
   cases h
   refine⟨ix,@AT,?_,λm hm=>?_,?_,@AT ⟩
   ·rw[kI mask i q ix (@AT)]
   ·rw[kI mask i q m (@AT)]
    have:=hbef m hm
    simp only[List.getElem_range] at this
    rw[ind m (@AT)] at this
    dsimp only
    cases e:own o (i + m) with
    |none=>rw[e] at this;simp at this
    |some _=>rfl
   ·rw[ind ix (@AT)] at hn
    cases e:own o (i + ix) with
    |none=>rfl
    |some _=>rw[e] at hn;simp at hn
  |none=>
   rw[hf] at h
   dsimp only at h
   obtain⟨n,h1,h2,h3,h4,h5⟩:=ih _ _ j (oX mask i q) h
   have hnone:=List.find?_eq_none.mp hf
   refine⟨(runEnd mask i - i + 1) + n,@AT,?_,λm hm=>?_,h4,h5⟩
   ·rw[mF,pW];exact h2
   ·rcases QJ m (runEnd mask i - i + 1) with c |c
    ·rw[kI mask i q m (@AT)]
     have:=hnone m (P4.mpr (@AT))
     rw[ind m (@AT)] at this
     dsimp only
     cases e:own o (i + m) with
     |none=>rw[e] at this;simp at this
     |some _=>rfl
    ·obtain⟨k,rfl⟩:∃k,m=(runEnd mask i - i + 1) + k:=⟨m - (runEnd mask i - i + 1),@AT ⟩
     rw[mF,pW]
     exact h3 k (@AT)
theorem Ca {mask:Nat}{o:Array (Option Nat)}(hsz:o.size=mask + 1):∀(fuel i q k:Nat),i<=mask->k < fuel->own o (iq mask k (i,q)).1=none->∃j,layClean.free mask o fuel i q=some j:=by
 intro fuel
 induction fuel with
 |zero=>intro i q k _ hk;omega
 |succ fuel ih=>
  intro i q k hi hk hn
  unfold layClean.free
  cases hf:(List.range (runEnd mask i + 1 - i)).find? λk=>(o.getD (i + k) (some 0)).isNone with
  |some k=>exact⟨_,rfl⟩
  |none=>
   dsimp only
   cases k with
   |zero=>
    have hr:=kc hi
    have:=List.find?_eq_none.mp hf 0 (P4.mpr (@AT))
    have e:own o i=none:=hn
    have hi2:i < o.size:=@AT
    simp[own,Array.getD,hi2] at e this
    rw[e] at this;simp at this
   |succ k=>exact ih _ _ k (oX mask i q) (@AT) hn
structure Lay (mask:Nat)(o:Array (Option Nat))(hs:@KF):Prop where
 size:o.size=mask + 1
 all:∀k h,hs[k]? =some h->∃j,own o j=some k/\Reach mask (λx=>(own o x).isSome=true) h j
 one:∀j j' k,own o j=some k->own o j'=some k->j=j'
 le:∀j k,own o j=some k->j<=mask/\k < hs.length
def oy {o:Array (Option Nat)}{j x k:Nat}(hj:j < o.size):own (o.setIfInBounds j (some k)) x=if x=j then some k else own o x:=by
 unfold own
 rw[Qo,Qo,Array.getElem?_setIfInBounds]
 by_cases e:x=j
 ·subst e;simp[hj]
 ·rw[Px e,Px (λz=>e z.symm)]
def FL {mask:Nat}(hm:ES mask){o:Array (Option Nat)}{hs:@KF}(L:Lay mask o hs)(h:Int)(hl:hs.length<=mask) :
  ∃j,layClean.free mask o (turns mask) (bits h % (mask + 1)) (bits h)=some j/\Lay mask (o.setIfInBounds j (some hs.length)) (hs ++ [h]):=by
 have hi:bits h % (mask + 1)<=mask:=Nat.lt_succ_iff.mp (Nat.mod_lt _ (Nat.succ_pos _))
 have hfree:∃j,j<=mask/\own o j=none:=by
  refine Classical.byContradiction λhc=>?_
  have hall:∀j,j<=mask->∃k,own o j=some k:=λj hj=>by
   cases e:own o j with
   |none=>exact absurd ⟨j,hj,e⟩ hc
   |some k=>exact⟨k,rfl⟩
  have nd:((List.range (mask + 1)).map λj=>(own o j).getD 0).Nodup:=by
   refine Qv.mpr ?_
   refine QP ?_ Rx
   intro a b ha hb hab e
   obtain⟨ka,ea⟩:=hall a (by have:=P4.mp ha;omega)
   obtain⟨kb,eb⟩:=hall b (by have:=P4.mp hb;omega)
   rw[ea,eb] at e
   simp at e
   subst e
   exact hab (L.one a b ka ea eb)
  have:=bM (m:=List.range hs.length) nd λx hx=>by
   obtain⟨j,hj,rfl⟩:=PD.mp hx
   obtain⟨k,e⟩:=hall j (by have:=P4.mp hj;omega)
   rw[e]
   exact P4.mpr (L.le j k e).2
  simp at this
  omega
 obtain⟨j0,hj0,hn0⟩:=hfree
 obtain⟨k,hk,ek⟩:=rF hm hi (Bg h) hj0
 obtain⟨j,hj⟩:=Ca L.size (turns mask) _ (bits h) k hi (by unfold turns;omega) (by rw[ek];exact hn0)
 refine⟨j,hj,?_⟩
 obtain⟨n,h1,h2,h3,h4,h5⟩:=Ce L.size _ _ _ _ hi hj
 have hjs:j < o.size:=by rw[L.size];omega
 have grow:∀x,(own o x).isSome=true->(own (o.setIfInBounds j (some hs.length)) x).isSome=true:=λx hx=>by
  rw[oy hjs];split
  ·rfl
  ·exact hx
 refine⟨by rw[Array.size_setIfInBounds];exact L.size,λk g hg=>?_,λa b c ea eb=>?_,λa c ea=>?_⟩
 ·rcases QJ k hs.length with c |c
  ·rw[Qb c] at hg
   obtain⟨x,ex,rx⟩:=L.all k g hg
   refine⟨x,?_,rx.mono grow⟩
   rw[oy hjs,Px (λz=>?_)]
   ·exact ex
   ·subst z;rw[ex] at h4;cases h4
  ·rw[Qf c] at hg
   have:k=hs.length:=by
    have:=(PN.mp hg).1
    simp at this;omega
   subst this
   simp at hg
   subst hg
   exact⟨j,by rw[oy hjs,Po rfl],n,h1,h2,λm hm=>grow _ (h3 m hm)⟩
 ·rw[oy hjs] at ea eb
  split at ea
  ·cases ea
   split at eb
   ·omega
   ·have:=(L.le _ _ eb).2;omega
  ·split at eb
   ·cases eb
    have:=(L.le _ _ ea).2;omega
   ·exact L.one _ _ _ ea eb
 ·rw[oy hjs] at ea
  rw[P5]
  split at ea
  ·cases ea;simp;omega
  ·have:=L.le _ _ ea;simp;omega
theorem AB {mask:Nat}(hm:ES mask):∀(rest hs:@KF) (o:Array (Option Nat)),Lay mask o hs->hs.length + rest.length<=mask->
  ∃o',rest.foldl (init:=some (o,hs.length)) (λacc h=>do
   let (owner,k) <-acc
   let j <-layClean.free mask owner (turns mask) (bits h % (mask + 1)) (bits h)
   pure (owner.setIfInBounds j (some k),k + 1))=some (o',hs.length + rest.length)/\Lay mask o' (hs ++ rest)
 | [],hs,o,L,_=>⟨o,rfl,by rw[Rl];exact L⟩
 |h :: rest,hs,o,L,hl=>by
  simp only[P7] at hl
  obtain⟨j,e,L'⟩:=FL hm L h (@AT)
  obtain⟨o',e',L2⟩:=AB hm rest (hs ++ [h]) _ L' (by simp;omega)
  refine⟨o',?_,by rw[QN] at L2;exact L2⟩
  rw[RE]
  simp only[Option.bind_eq_bind,Option.bind_some,e,Option.pure_def]
  have el:(hs ++ [h]).length=hs.length + 1:=by simp
  rw[el] at e'
  simp only[Option.bind_eq_bind,Option.pure_def] at e'
  rw[e']
  simp;omega
def A0 (n j:Nat):own (Array.replicate n none) j=none:=by
 unfold own
 rw[Qo,Array.getElem?_replicate]
 split <;> rfl
def GF (mask:Nat):Lay mask (Array.replicate (mask + 1) none) []:=
 ⟨by simp,λk h e=>by simp at e,λj j' k e _=>by (rw[A0] at e;cases e),λj k e=>by (rw[A0] at e;cases e)⟩
def Cm {mask:Nat}(hm:ES mask)(hs:Array Int)(hl:hs.size * 5 < mask * 3)(finger moves:Nat)(led:Bool) :
  ∃t order,laid mask finger moves led true hs=some (t,order)/\t.led=led/\t.mask=mask/\order.toList.Nodup/\(∀k,k∈order.toList↔k < hs.size)/\
   Tab t (order.toList.map λk=>hs.toList.getD k 0):=by
 obtain⟨o,e,L⟩:=AB hm hs.toList [] _ (GF mask) (by simp;omega)
 simp only[nil_append] at L
 have ec:layClean mask hs=some o:=by
  unfold layClean
  rw[<-Array.foldl_toList]
  simp only[Ss] at e
  rw[e];rfl
 have hlive:∀j k,(j,k)∈((List.range (mask + 1)).filterMap λj=>(o.getD j none).map (j, ·))↔own o j=some k:=λj k=>by
  rw[Rh]
  constructor
  ·rintro⟨x,_,q⟩
   cases ex:o.getD x none with
   |none=>rw[ex] at q;cases q
   |some y=>rw[ex] at q;simp at q;rw[<-q.1,<-q.2];exact ex
  ·intro q
   refine⟨j,P4.mpr (by have:=(L.le j k q).1;omega),?_⟩
   have:o.getD j none=some k:=q
   rw[this];rfl
 have hpw:((List.range (mask + 1)).filterMap λj=>(o.getD j none).map (j, ·)).Pairwise (λa b=>a.1 < b.1):=by
  refine List.pairwise_filterMap.mpr ?_
  refine List.Pairwise.imp ?_ List.pairwise_lt_range
  intro a b hab x hx y hy
  cases ea:o.getD a none with
  |none=>rw[ea] at hx;cases hx
  |some u=>
   cases eb:o.getD b none with
   |none=>rw[eb] at hy;cases hy
   |some v=>
    rw[ea] at hx;rw[eb] at hy
    simp at hx hy
    rw[<-hx,<-hy];exact hab
 generalize hlv:((List.range (mask + 1)).filterMap λj=>(o.getD j none).map (j, ·))=live at hlive hpw
 refine⟨{mask,place:=(live.map (·.1)).toArray,dummies:=#[],finger,led,moves,plain:=true},(live.map (·.2)).toArray,?_,rfl,rfl,?_,λk=>?_,?_⟩
 ·unfold laid
  rw[ec]
  simp only[Option.bind_eq_bind,Option.bind_some,Option.pure_def,hlv]
 ·have:(live.map (·.2)).Nodup:=by
   refine Qv.mpr (QP ?_ hpw)
   intro a b ha hb hab ee
   have h1:=(hlive a.1 a.2).mp ha
   have h2:=(hlive b.1 b.2).mp hb
   rw[ee] at h1
   have:=L.one _ _ _ h1 h2
   omega
  simpa using this
 ·rw[PD]
  constructor
  ·rintro⟨x,hx,rfl⟩
   have:=(L.le x.1 x.2 ((hlive x.1 x.2).mp hx)).2
   simpa using this
  ·intro hk
   have hk':k < hs.toList.length:=by simpa using hk
   obtain⟨j,ej,_⟩:=L.all k _ (Pn hk')
   exact⟨(j,k),(hlive j k).mpr ej,rfl⟩
 ·have hord:live.length=hs.size:=by
   have a1:(live.map (·.2)).Nodup:=by
    refine Qv.mpr (QP ?_ hpw)
    intro a b ha hb hab ee
    have h1:=(hlive a.1 a.2).mp ha
    have h2:=(hlive b.1 b.2).mp hb
    rw[ee] at h1
    have:=L.one _ _ _ h1 h2
    omega
   have b1:=bM (m:=List.range hs.size) a1 λx hx=>by
    obtain⟨y,hy,rfl⟩:=PD.mp hx
    have:=(L.le y.1 y.2 ((hlive y.1 y.2).mp hy)).2
    exact P4.mpr (by simpa using this)
   have b2:=bM (l:=List.range hs.size) (m:=live.map (·.2)) Rx λx hx=>by
    have hk':x < hs.toList.length:=by simpa using P4.mp hx
    obtain⟨j,ej,_⟩:=L.all x _ (Pn hk')
    exact PD.mpr ⟨(j,x),(hlive j x).mpr ej,rfl⟩
   simp at b1 b2
   omega
  refine⟨hm,rfl,?_,λj hj=>?_,?_,?_,λi j h hi hh=>?_,rfl⟩
  ·show (live.map (·.1)).toArray.toList.Pairwise _
   rw[Ra]
   exact Qv.mpr hpw
  ·have:j∈live.map (·.1):=by simpa using hj
   obtain⟨x,hx,rfl⟩:=PD.mp this
   exact (L.le x.1 x.2 ((hlive x.1 x.2).mp hx)).1
  ·simp
  ·show (live.map (·.1)).toArray.size * 5 < mask * 3
   simp[hord];exact hl
  ·have hi':(live.map (·.1))[i]? =some j:=by simpa using hi
   have hh':((live.map (·.2)).map λk=>hs.toList.getD k 0)[i]? =some h:=by simpa using hh
   rw[PK] at hi'
   rw[PK,PK] at hh'
   cases ex:live[i]? with
   |none=>rw[ex] at hi';cases hi'
   |some x=>
    rw[ex] at hi' hh'
    simp at hi' hh'
    have hxl:=(hlive x.1 x.2).mp (PV ex)
    have hk:=(L.le _ _ hxl).2
    have hk2:x.2 < hs.size:=by simpa using hk
    obtain⟨j2,ej2,r⟩:=L.all x.2 h (by
     rw[Pn hk]
     simp[hk2] at hh'
     simpa using hh')
    have:j2=j:=by rw[<-hi'];exact L.one _ _ _ ej2 hxl
    subst this
    refine r.mono λy hy=>?_
    show y∈(live.map (·.1)).toArray
    cases ey:own o y with
    |none=>rw[ey] at hy;cases hy
    |some k=>
     have:y∈live.map (·.1):=PD.mpr ⟨(y,k),(hlive y k).mpr ey,rfl⟩
     simpa using this
abbrev Pr:=Int×Int
def hp (p:Pr):Int:=reduceHash (Builtin.Tuple.tupleHashOf [hashInt p.1,hashInt p.2])
def Sm (p:Pr):Prop:=(0<=p.1/\p.1 < 8)/\(0<=p.2/\p.2 < 8)
def rX:@Do:=(List.range 64).map λk=>(((k / 8:Nat):Int),((k % 8:Nat):Int))
def nE {p:Pr}(h:Sm p):p∈rX:=by
 unfold rX
 obtain⟨⟨a,b⟩,c,d⟩:=h
 refine PD.mpr ⟨p.1.toNat * 8 + p.2.toNat,P4.mpr (@AT),?_⟩
 refine Prod.ext ?_ ?_ <;> dsimp only <;> omega
def EF:(rX.map hp).Nodup:=@B_
theorem oz {α β:Type}{f:α->β}:∀{l:List α},(l.map f).Nodup->∀a b,a∈l->b∈l->f a=f b->a=b
 | [],_,_,_,h,_,_=>by cases h
 |x :: l,hn,a,b,ha,hb,e=>by
  have hn':=Qh.mp hn
  rcases Pu.mp ha with ea |ha
  ·rcases Pu.mp hb with eb |hb
   ·rw[ea,eb]
   ·exact absurd (PD.mpr ⟨b,hb,by rw[<-e,ea]⟩) hn'.1
  ·rcases Pu.mp hb with eb |hb
   ·exact absurd (PD.mpr ⟨a,ha,by rw[e,eb]⟩) hn'.1
   ·exact oz hn'.2 a b ha hb e
def KQ {p q:Pr}(hp1:Sm p)(hq:Sm q)(e:hp p=hp q):p=q:=oz EF p q (nE hp1) (nE hq) e
def y7 {l:@Do}(hn:l.Nodup)(h:∀p,p∈l->Sm p):l.length<=64:=by
 have:=bM (m:=rX) hn λx hx=>nE (h x hx)
 simpa[rX] using this
section
variable {prog:Program}{w:World}{A:Around}{E:@Ch}{s:Shared}
abbrev bY (prog:Program)(w:World)(h:Heap)(p:Pr)(a:Addr):Prop:=IsTupleKey (intKind prog w) h [p.1,p.2] a
def bY.inj {h:Heap}{p q:Pr}{a:Addr}(x:bY prog w h p a)(y:bY prog w h q a):p=q:=by
 have:=IsTupleKey.inj x y
 simp at this
 exact Prod.ext this.1 this.2
structure vg (f:Pr->Int)(prog:Program)(w:World)(led:Bool)(h:Heap)(S:Addr)(ps:List (Addr×Pr)):Prop where
 ex:∃o ep t,h.get? S=some o/\o.ExactSet/\o.data=.set (ps.map λq=>(f q.2,Value.ref q.1)).toArray ep t/\Tab t (ps.map λq=>f q.2)/\t.led=led
 at':∀q,q∈ps->bY prog w h q.2 q.1/\Sm q.2
 nd:(ps.map (·.2)).Nodup
def rY {t:SetTable}{hs:@KF}(T:Tab t hs){n:Nat}(e:n=hs.length):t.fits n=true:=by
 unfold SetTable.fits SetTable.fill
 have:=T.load'
 simp[T.size,T.dum,e]
 rw[T.size] at this;exact this
def DE (a:Addr)(wanted:Nat):setRelay a wanted=(do
  let (es,_,t) <-setState a
  if SetTable.sizeAbove wanted > sizeLine then unsupported "set:memory"
  let (es,t) <-(do
   let some (t,order):=t.relaid (es.map (·.1)) wanted |unsupported "internal:set-table-without-room"
   let es':=order.filterMap (es[·]?)
   if es'.size != es.size then unsupported "internal:set-table-lost-an-element"
   pure (es',t))
  storeSet a es t):=rfl
def B7 (a:Addr)(x:Value)(h:Int)(fuel:Nat):setSearchFrom a x h true (fuel + 1) none=(do
  let (es,_,t) <-setState a
  if t.gaveWay then unsupported "set:on-a-table-that-gave-way"
  let some met:=t.probe (λi=>(es[i]?.map (·.1)).getD 0) h (t.probeStart h) |unsupported "internal:set-table-without-an-empty-slot"
  match met with
  | .empty j dummy=>
   match dummy with
   |none=>return .free j false
   |some d=>
    if true && t.slot d != .dummy then rule "set.search.the-dummy-was-taken";return <-setSearchFrom a x h true fuel none
    return .free d true
  | .candidate j i next=>
   if !t.led then
    if <-searchCouldBeSeen x ((es.filter (·.1 == h)).toList.map (·.2)) then unsupported "set:the-search-would-show-the-table"
   let some (_,y):=es[i]? |unsupported "internal:set-entry"
   let equal <-holding [y] (eqBool y x)
   let (es',_,t') <-setState a
   if true && equal then return .there none
   let some same:=t'.sameMemory t.moves t.mask |unsupported "set.changed-during-lookup:is-the-new-block-at-the-old-address"
   let still <-match (if same then t'.slot j else .empty) with
    | .live i'=>match es'[i']? with
     |some (_,y')=>do pure (if <-isSame y' y then some i' else none)
     |none=>pure none
    |_=>pure none
   match still with
   |none=>rule "set.search.anew";setSearchFrom a x h true fuel none
   |some i'=>if equal then return .there (some i') else setSearchFrom a x h true fuel (some next)):=rfl
theorem yA (n:Nat){v:Value}(h:carriedByValue v=true):ofAClassStatement n v=pure false:=by
 cases v with
 |ref a=>simp[carriedByValue] at h
 |_=>first |rfl | (unfold ofAClassStatement;rfl)
def zD (n:Nat){v:Value}{k:Int}(h:(intKind prog w).is k v=true):hashByValue n v=pure true:=by
 obtain⟨t,rfl⟩:=Ru h
 cases n <;> rfl
def oq {p:Pr}{a:Addr}{Q:Bool->@Rs}(hk:bY prog w s.heap p a)(h:Q false s):wpAny (@NE) A (ofAClassStatement 8 @S2) Q E s:=by
 have hT:=hk.typeIs
 obtain⟨o,items,n,ho,hc,hd,hi⟩:=hk
 unfold ofAClassStatement
 refine Pl (RB hT ?_)
 dsimp only
 rw[Po @A_]
 refine Pl (Pp ?_)
 simp only[RZ,P0,Qq]
 refine Pl (wpAny_seqItems ho hd ?_)
 dsimp only
 refine Pl ?_
 rw[<-Array.forIn_toList]
 refine wpAny_forIn_list _ (λrest r s'=>r.1=none/\s'=s/\∀v∈rest,carriedByValue v=true) _ ?_ ?_ _ _ ⟨rfl,rfl,hi.byValue⟩
 ·rintro v rest r s' ⟨hr,rfl,hall⟩
  rw[yA _ (hall v Pz)]
  refine Pl (Pp ?_)
  simp only[P0,Qq]
  exact Pp ⟨rfl,rfl,λu hu'=>hall u (Pw _ hu')⟩
 ·rintro⟨r1,r2⟩ s' ⟨hr,rfl,_⟩
  simp only at hr
  subst hr
  exact Pp h
def yp {p:Pr}{a:Addr}{Q:Bool->@Rs}(hk:bY prog w s.heap p a)(h:Q true s):wpAny (@NE) A (hashByValue 8 @S2) Q E s:=by
 have hT:=hk.typeIs
 obtain⟨o,items,n,ho,hc,hd,hi⟩:=hk
 unfold hashByValue
 refine Pl (wpAny_specialOf hT F.slot_tuple_hash.lookup ?_)
 dsimp only
 refine Pl (wpAny_seqItems ho hd ?_)
 simp only[Option.getD_some]
 refine Pl ?_
 rw[<-Array.forIn_toList]
 refine wpAny_forIn_list _ (λrest r s'=>r.1=none/\s'=s/\∀v∈rest,∃k,(intKind prog w).is k v=true) _ ?_ ?_ _ _ ⟨rfl,rfl,λv hv=>?_⟩
 ·rintro v rest r s' ⟨hr,rfl,hall⟩
  obtain⟨k,hk⟩:=hall v Pz
  rw[zD _ hk]
  refine Pl (Pp ?_)
  simp only[RZ,P0,Qq]
  exact Pp ⟨rfl,rfl,λu hu'=>hall u (Pw _ hu')⟩
 ·rintro⟨r1,r2⟩ s' ⟨hr,rfl,_⟩
  simp only at hr
  subst hr
  exact Pp h
 ·generalize items.toList=l at *
  cases hi with
  |cons h1 hi=>
   cases hi with
   |cons h2 hi=>
    cases hi
    rcases Pu.mp hv with rfl |hv
    ·exact⟨_,h1⟩
    ·rcases Pu.mp hv with rfl |hv
     ·exact⟨_,h2⟩
     ·cases hv
def Ac {p:Pr}{a:Addr}(hk:bY prog w s.heap p a):∀(l:@GM) {Q:Bool->@Rs},(∀v∈l,∃q b,v=.ref b/\bY prog w s.heap q b)->Q false s->wpAny (@NE) A (searchCouldBeSeen @S2 l) Q E s:=by
 intro l Q hl h
 unfold searchCouldBeSeen
 refine Pl ?_
 refine wpAny_forIn_list _ (λrest r s'=>r.1=none/\s'=s/\∀v∈rest,∃q b,v=.ref b/\bY prog w s.heap q b) _ ?_ ?_ _ _ ⟨rfl,rfl,hl⟩
 ·rintro v rest r s' ⟨hr,rfl,hall⟩
  obtain⟨q,b,rfl,hb⟩:=hall v Pz
  have hrest:=λu hu'=>hall u (Pw _ hu')
  dsimp only
  split
  ·exact Pp ⟨rfl,rfl,hrest⟩
  ·refine Pl (wpAny_eqIsQuiet_tuple hk ?_)
   simp only[RZ,P0,Qq]
   refine Pl (wpAny_eqIsQuiet_tuple hb ?_)
   simp only[RZ,P0,Qq]
   refine Pl (oq hk ?_)
   simp only[P0,Qq]
   refine Pl (oq hb ?_)
   simp only[P0,Qq]
   exact Pp ⟨rfl,rfl,hrest⟩
 ·rintro⟨r1,r2⟩ s' ⟨hr,rfl,_⟩
  simp only at hr
  subst hr
  exact Pp h
end
section
variable {prog:Program}{w:World}{A:Around}{E:@Ch}{s:Shared}
def yc (t:SetTable)(hs:Array Int)(wanted:Nat)(hp:t.plain=true):t.relaid hs wanted=laid (sizeAbove wanted - 1) t.finger (t.movedTo (sizeAbove wanted - 1)) t.led true hs:=by
 unfold relaid;rw[hp]
def IL:sizeAbove (grown 5)=32/\sizeAbove (grown 19)=128:=@B_
theorem filterMap_get {α:Type}(es:Array α):∀(order:@IO),(∀k,k∈order->k < es.size)->∃l:List α,order.filterMap (λi=>es[i]?)=l/\l.length=order.length/\(∀(i k:Nat),order[i]? =some k->l[i]? =es[k]?)/\∀x,x∈l->∃k,k∈order/\es[k]? =some x
 | [],_=>⟨[],rfl,rfl,λi k h=>by simp at h,λx hx=>by cases hx⟩
 |k :: r,h=>by
  obtain⟨l,e1,e2,e3,e4⟩:=filterMap_get es r λx hx=>h x (Pw _ hx)
  have hk:=h k (Pz ..)
  refine⟨es[k] :: l,by rw[Sn,Qd hk,e1],by simp[e2],λi x hi=>?_,λx hx=>?_⟩
  ·cases i with
   |zero=>simp at hi;subst hi;simp[hk]
   |succ i=>simp at hi;simpa using e3 i x hi
  ·rcases Pu.mp hx with rfl |hx
   ·exact⟨k,Pz ..,by simp[hk]⟩
   ·obtain⟨y,hy,q⟩:=e4 x hx
    exact⟨y,Pw _ hy,q⟩
abbrev fK (f:Pr->Int)(q:Addr×Pr):Int×Value:=(f q.2,Value.ref q.1)
def vR (f:Pr->Int){mask:Nat}(hm:ES mask){ps:List (Addr×Pr)}(hl:ps.length * 5 < mask * 3)(finger moves:Nat)(led:Bool) :
  ∃(t:SetTable) (order:Array Nat) (ps':List (Addr×Pr)),laid mask finger moves led true ((ps.map (fK f)).toArray.map (·.1))=some (t,order)/\order.filterMap (λi=>(ps.map (fK f)).toArray[i]?)=(ps'.map (fK f)).toArray/\ps'.length=ps.length/\
   (∀q,q∈ps'↔q∈ps)/\Tab t (ps'.map λq=>f q.2)/\t.led=led:=by
 obtain⟨t,order,e,el,em,nd,mem,T⟩:=Cm hm ((ps.map (fK f)).toArray.map (·.1)) (by simpa using hl) finger moves led
 have hsz:((ps.map (fK f)).toArray.map (·.1)).size=ps.length:=by simp
 obtain⟨ps',f1,f2,f3,f4⟩:=filterMap_get ps.toArray order.toList λk hk=>by
  have:=(mem k).mp hk;rw[hsz] at this;simpa using this
 have hlen:order.toList.length=ps.length:=by
  have a1:=bM (m:=List.range ps.length) nd λx hx=>P4.mpr (by have:=(mem x).mp hx;rwa [hsz] at this)
  have a2:=bM (l:=List.range ps.length) (m:=order.toList) Rx λx hx=>(mem x).mpr (by rw[hsz];exact P4.mp hx)
  simp at a1 a2 ⊢;omega
 refine⟨t,order,ps',e,?_,@AT,λq=>⟨λhq=>?_,λhq=>?_⟩,?_,el⟩
 ·apply Array.toList_inj.mp
  rw[Array.toList_filterMap,<-f1]
  simp only[Ra]
  rw[List.map_filterMap]
  congr 1
  funext i
  simp
 ·obtain⟨k,_,q2⟩:=f4 q hq
  rw[Sb] at q2
  exact PV q2
 ·obtain⟨k,hk,q2⟩:=Ql.mp hq
  have hko:k∈order.toList:=(mem k).mpr (by rw[hsz];exact hk)
  obtain⟨i,hi,e2⟩:=Ql.mp hko
  have:=f3 i k (by rw[Pn hi,e2])
  rw[Sb,Pn hk,q2] at this
  exact PV this
 ·have:(order.toList.map λk=>((ps.map (fK f)).toArray.map (·.1)).toList.getD k 0)=ps'.map λq=>f q.2:=by
   apply SD
   intro i
   rw[PK,PK]
   cases hi:order.toList[i]? with
   |none=>
    have:ps'[i]? =none:=List.getElem?_eq_none_iff.mpr (by rw[f2];exact List.getElem?_eq_none_iff.mp hi)
    rw[this];rfl
   |some k=>
    have hk:k < ps.length:=by have:=(mem k).mp (PV hi);rwa [hsz] at this
    have:=f3 i k hi
    rw[Sb,Pn hk] at this
    rw[this]
    simp[hk]
  rw[<-this];exact T
theorem p8:∀{l m:@KF},m.Nodup->(∀x,x∈m->x∈l)->l.length<=m.length->l.Nodup
 | [],_,_,_,_=>RN
 |a :: l,m,hn,hs,hl=>by
  by_cases ha:a∈m
  ·have hnot:a∉l:=λz=>by
    have:=bM (m:=l) hn λx hx=>by
     rcases Pu.mp (hs x hx) with e |e
     ·rw[e];exact z
     ·exact e
    simp only[P7] at hl;omega
   refine Qh.mpr ⟨hnot,p8 (m:=m.erase a) (hn.erase a) (λx hx=>?_) ?_⟩
   ·have:=(hn.mem_erase_iff).mp hx
    rcases Pu.mp (hs x this.2) with e |e
    ·exact absurd e this.1
    ·exact e
   ·rw[RS ha];simp only[P7] at hl;omega
  ·have:=bM (m:=l) hn λx hx=>by
    rcases Pu.mp (hs x hx) with e |e
    ·exact absurd (e▸hx) ha
    ·exact e
   simp only[P7] at hl;omega
def vt (a:Addr)(es:Array (Int×Value)):byScan @S2 es=false:=by unfold byScan Value.scannable;simp
def zJ {t:SetTable}(h:ES t.mask):t.gaveWay=false:=by
 unfold SetTable.gaveWay
 rcases h with e |e |e <;> rw[e] <;> decide
def vg.add {f:Pr->Int}(hinj:∀p q,Sm p->Sm q->f p=f q->p=q){led:Bool}{S a:Addr}{ps:List (Addr×Pr)}{p:Pr}{Q:Bool->@Rs}(P:vg f prog w led s.heap S ps)(hk:bY prog w s.heap p a)(hs:Sm p)(hu:A.units < cLine)
  (h:∀(b:Bool) (h':Heap) (ps':List (Addr×Pr)),Heap.SameBut S s.heap h'->vg f prog w led h' S ps'->(∀q,q∈ps'->q∈ps\/q=(a,p))->(∀q,q∈ps->q∈ps')->(∃q,q∈ps'/\q.2=p)->Q b {s with heap:=h'}) :
  wpAny (@NE) A (setAddHashed S @S2 (f p)) Q E s:=by
 obtain⟨o,ep,t,ho,hex,hd,T,hled⟩:=P.ex
 have hfit:t.fits (ps.map (fK f)).toArray.size=true:=rY T @Go
 have ha:∀i,i < (ps.map λq=>f q.2).length->some ((((ps.map (fK f)).toArray)[i]?.map (·.1)).getD 0)=(ps.map λq=>f q.2)[i]?:=λi hi=>by
  have hi':i < ps.length:=by simpa using hi
  simp[hi']
 unfold setAddHashed
 refine QI ?_
 unfold setAddHashedIn
 refine Pl (QB ho hd hfit ?_)
 dsimp only
 rw[vt]
 simp only[P0,Qq]
 unfold setSearch
 rw[B7]
 refine Pl (Pl (QB ho hd hfit ?_))
 dsimp only
 rw[zJ T.mask]
 simp only[P0,Qq]
 by_cases hm:f p∈ps.map λq=>f q.2
 ·
  obtain⟨j,i,nx,e1,e2,e3,e4⟩:=T.present ha hm
  rw[e1]
  dsimp only
  have hi:i < ps.length:=by simpa using e3
  have e5:f (ps[i].2)=f p:=by
   rw[PK,Pn hi] at e4
   simpa using e4
  have hq:=P.at' ps[i] (Q0 hi)
  have e6:ps[i].2=p:=hinj _ _ hq.2 hs e5
  have hget:((ps.map (fK f)).toArray)[i]? =some (f ps[i].2,.ref ps[i].1):=by simp[hi]
  have rest:wpAny (@NE) A (do
    let some (_,y):=((ps.map (fK f)).toArray)[i]? |unsupported "internal:set-entry"
    let equal <-holding [y] (eqBool y @S2)
    let (es',_,t') <-setState S
    if true && equal then return SetFound.there none
    let some same:=t'.sameMemory t.moves t.mask |unsupported "set.changed-during-lookup:is-the-new-block-at-the-old-address"
    let still <-match (if same then t'.slot j else .empty) with
     | .live i'=>match es'[i']? with
      |some (_,y')=>do pure (if <-isSame y' y then some i' else none)
      |none=>pure none
     |_=>pure none
    match still with
    |none=>rule "set.search.anew";setSearchFrom S @S2 (f p) true 99999 none
    |some i'=>if equal then return .there (some i') else setSearchFrom S @S2 (f p) true 99999 (some nx))
    (λr s'=>s'=s/\r=.there none) E s:=by
   rw[hget]
   dsimp only
   refine Pl (QI (wpAny_eqBool_tuple hu hq.1 hk ?_))
   rw[PF (by rw[e6])]
   refine Pl (QB ho hd hfit ?_)
   dsimp only
   simp only[R0,QC]
   exact Pp ⟨rfl,rfl⟩
  have fin:∀r s',s'=s/\r=SetFound.there none->wpAny (@NE) A (match r with
    | .free slot wasDummy=>(do
     let (es,_,t) <-setState S
     let (t,p'):=t.put slot
     let byValue <-if t.plain then hashByValue 8 @S2 else pure true
     let t:=if byValue then t else {t with plain:=false}
     storeSet S (SetTable.insertAt es p' (f p,.ref a)) t
     if !wasDummy && t.tooFull then setRelay S (SetTable.grown (es.size + 1))
     return true)
    |_=>pure false) Q E s':=by
   rintro r s' ⟨rfl,rfl⟩
   exact Pp (h false s'.heap ps (Heap.SameBut.refl ..) P (λq hq=>.inl hq) (λq hq=>hq) ⟨ps[i],Q0 hi,e6⟩)
  cases hl:led with
  |true=>
   rw[hled,hl]
   simp only[RZ,P0,Qq]
   exact QS rest (λr s' hr=>fin r s' hr) λ_ _ x=>x
  |false=>
   rw[hled,hl]
   simp only[Bool.not_false,QC]
   refine Pl (Ac hk _ (λv hv=>?_) ?_)
   ·obtain⟨x,hx,rfl⟩:=PD.mp hv
    have hx':x∈(ps.map (fK f)).toArray:=(Array.mem_filter.mp (RJ.mp hx)).1
    have hx2:x∈ps.map (fK f):=by simpa using hx'
    obtain⟨q,hq,rfl⟩:=PD.mp hx2
    exact⟨q.2,q.1,rfl,(P.at' q hq).1⟩
   ·simp only[P0,Qq]
    exact QS rest (λr s' hr=>fin r s' hr) λ_ _ x=>x
 ·
  obtain⟨j,e1,e2,e3,e4⟩:=T.absent ha hm
  rw[e1]
  dsimp only
  refine Pp ?_
  dsimp only
  refine Pl (QB ho hd hfit ?_)
  dsimp only
  obtain⟨q1,q2⟩:=uP t j T.dum
  have hpl:(t.put j).1.plain=true:=by rw[q1];exact T.plain
  rw[hpl]
  simp only[QC]
  refine Pl (yp hk ?_)
  simp only[QC]
  have hb:(t.put j).2<=ps.length:=by
   rw[q2]
   have:=(fy T.rise j).1
   rw[T.size] at this;simpa using this
  have hins:insertAt (ps.map (fK f)).toArray (t.put j).2 (f p,Value.ref a)=((ps.take (t.put j).2 ++ (a,p) :: ps.drop (t.put j).2).map (fK f)).toArray:=by
   apply Array.toList_inj.mp
   rw[cu _ _ _ (by simpa using hb)]
   simp[List.map_take,List.map_drop]
  rw[hins]
  generalize hps':ps.take (t.put j).2 ++ (a,p) :: ps.drop (t.put j).2=ps1
  have mem1:∀q,q∈ps1↔q∈ps\/q=(a,p):=λq=>by
   rw[<-hps',PQ,Pu]
   conv=>rhs;rw[<-List.take_append_drop (t.put j).2 ps,PQ]
   constructor
   ·rintro (z |z |z)
    ·exact .inl (.inl z)
    ·exact .inr z
    ·exact .inl (.inr z)
   ·rintro ((z |z) |z)
    ·exact .inl z
    ·exact .inr (.inr z)
    ·exact .inr (.inl z)
  have len1:ps1.length=ps.length + 1:=by rw[<-hps'];simp;omega
  have nd1:(ps1.map (·.2)).Nodup:=by
   have hnot:p∉ps.map (·.2):=λz=>by
    obtain⟨q,hq,e⟩:=PD.mp z
    exact hm (PD.mpr ⟨q,hq,by rw[e]⟩)
   have perm:(ps1.map (·.2)).Perm (p :: ps.map (·.2)):=by
    rw[<-hps']
    have:(ps.take (t.put j).2 ++ (a,p) :: ps.drop (t.put j).2).Perm ((a,p) :: ps):=by
     refine List.perm_middle.trans ?_
     rw[List.take_append_drop]
    exact this.map (·.2)
   exact perm.nodup_iff.mpr (Qh.mpr ⟨hnot,P.nd⟩)
  have ne:∀b q,bY prog w s.heap q b->b≠S:=λb q ⟨o',_,_,ho',_,hd',_⟩ e=>by
   subst e
   rw[ho] at ho';cases ho'
   rw[hd] at hd';cases hd'
  have at1:∀{h':Heap},Heap.SameBut S s.heap h'->∀q,q∈ps1->bY prog w h' q.2 q.1/\Sm q.2:=λ{h'} hsb q hq=>by
   have key:∀{b:Addr} {q:Pr},bY prog w s.heap q b->bY prog w h' q b:=λ{b q} hb=>by
    have hne:=ne b q hb
    obtain⟨o',i',n',ho',r'⟩:=hb
    exact⟨o',i',n',(hsb.2 b hne).trans ho',r'⟩
   rcases (mem1 q).mp hq with z |z
   ·exact⟨key (P.at' q z).1,(P.at' q z).2⟩
   ·subst z;exact⟨key hk,hs⟩
  have hlen64:ps1.length<=64:=by
   have:=y7 nd1 λx hx=>by
    obtain⟨q,hq,rfl⟩:=PD.mp hx
    exact (at1 (Heap.SameBut.refl ..) q hq).2
   simpa using this
  have hsize:((ps1.map (fK f)).toArray).size<=sizeLine:=by rw[Qc];simp;omega
  refine Pl (wpAny_storeSet_of ho hd ?_ hsize)
  have ho1:(s.heap.update S (Obj.putSet (ps1.map (fK f)).toArray (t.put j).1)).get? S=some {o with data:=.set (ps1.map (fK f)).toArray (ep + 1) (t.put j).1}:=by
   have:=Qw (Obj.putSet (ps1.map (fK f)).toArray (t.put j).1) ho (by rw[putSet_of _ _ hd];rfl)
   rw[putSet_of _ _ hd] at this;exact this
  have sb1:=Heap.SameBut.update s.heap S (Obj.putSet (ps1.map (fK f)).toArray (t.put j).1)
  have hex1:({o with data:=.set (ps1.map (fK f)).toArray (ep + 1) (t.put j).1}:Obj).ExactSet:=hex
  have psz:(t.put j).1.place.size=ps.length + 1:=by
   rw[q1]
   show (insertAt t.place (below t.place j) j).size=_
   rw[<-RW,cu _ _ _ (fy T.rise j).1]
   have:=T.size
   simp at this ⊢
   have:=(fy T.rise j).1
   omega
  have dum1:(t.put j).1.dummies=#[]:=by rw[q1];exact T.dum
  have mask1:(t.put j).1.mask=t.mask:=by rw[q1]
  have tsz:t.place.size=ps.length:=by simpa using T.size
  simp only[Bool.not_false,Bool.true_and]
  cases htf:(t.put j).1.tooFull with
  |false=>
   simp only[P0,Qq]
   have hload:(t.place.size + 1) * 5 < t.mask * 3:=by
    unfold SetTable.tooFull SetTable.fill at htf
    rw[psz,dum1,mask1] at htf
    simp at htf
    rw[tsz];exact htf
   obtain⟨T1,_⟩:=T.put e2 e3 e4 hload
   refine Pl (Pp (Pp (h true _ ps1 sb1 ⟨⟨_,ep + 1,_,ho1,hex1,rfl,?_,?_⟩,at1 sb1,nd1⟩ (λq hq=>(mem1 q).mp hq) (λq hq=>(mem1 q).mpr (.inl hq)) ⟨(a,p),(mem1 _).mpr (.inr rfl),rfl⟩)))
   ·rw[<-hps']
    simpa[List.map_take,List.map_drop] using T1
   ·rw[q1];exact hled
  |true=>
   simp only[QC]
   have hfull:t.mask * 3<=(ps.length + 1) * 5:=by
    unfold SetTable.tooFull SetTable.fill at htf
    rw[psz,dum1,mask1] at htf
    simpa using htf
   have hload:=T.load
   rw[tsz] at hload
   have hcase:∃mask',ES mask'/\sizeAbove (grown (ps.length + 1)) - 1=mask'/\sizeAbove (grown (ps.length + 1))<=sizeLine/\(ps.length + 1) * 5 < mask' * 3:=by
    rcases T.mask with e |e |e
    ·have:ps.length + 1=5:=by rw[e] at hfull hload;omega
     rw[this,IL.1]
     exact⟨31,.inr (.inl rfl),rfl,by rw[Qc];decide,by decide⟩
    ·have:ps.length + 1=19:=by rw[e] at hfull hload;omega
     rw[this,IL.2]
     exact⟨127,.inr (.inr rfl),rfl,by rw[Qc];decide,by decide⟩
    ·rw[e] at hfull;omega
   obtain⟨mask',hm3,em,hline,hl2⟩:=hcase
   have hes:(ps.map (fK f)).toArray.size + 1=ps.length + 1:=by simp
   rw[hes,DE]
   have hfit1:(t.put j).1.fits ((ps1.map (fK f)).toArray).size=true:=by
    unfold SetTable.fits SetTable.fill
    have hpl2:ps.length + 1<=t.mask:=by
     rcases T.mask with e |e |e <;> rw[e] at hload ⊢ <;> omega
    rw[psz,dum1,mask1]
    simp[len1,hpl2]
   refine Pl (Pl (QB ho1 rfl hfit1 ?_))
   dsimp only
   rw[Px (@AT)]
   rw[yc _ _ _ hpl,em]
   obtain⟨t2,order,ps2,g1,g2,g3,g4,g5,g6⟩:=vR f hm3 (ps:=ps1) (by rw[len1];exact hl2) (t.put j).1.finger ((t.put j).1.movedTo mask') (t.put j).1.led
   rw[g1]
   simp only[bind_pure_comp,pure_bind]
   rw[g2]
   have hne:((ps2.map (fK f)).toArray.size != (ps1.map (fK f)).toArray.size)=false:=by simp[g3]
   rw[hne]
   simp only[P0,Qq]
   have hsize2:((ps2.map (fK f)).toArray).size<=sizeLine:=by rw[Qc];simp;omega
   refine Pl (Pp ?_)
   refine wpAny_storeSet_of ho1 rfl ?_ hsize2
   have ho2:((s.heap.update S (Obj.putSet (ps1.map (fK f)).toArray (t.put j).1)).update S (Obj.putSet (ps2.map (fK f)).toArray t2)).get? S=some {o with data:=.set (ps2.map (fK f)).toArray (ep + 1 + 1) t2}:=by
    have:=Qw (Obj.putSet (ps2.map (fK f)).toArray t2) ho1 (by rw[putSet_of (ep:=ep + 1) _ _ rfl];rfl)
    rw[putSet_of (ep:=ep + 1) _ _ rfl] at this;exact this
   have sb2:=sb1.trans (Heap.SameBut.update _ S (Obj.putSet (ps2.map (fK f)).toArray t2))
   have nd2:(ps2.map (·.2)).Nodup:=by
    have hmem:∀q,q∈ps2.map (·.2)↔q∈ps1.map (·.2):=λq=>by
     rw[PD,PD]
     exact⟨λ⟨x,hx,e⟩=>⟨x,(g4 x).mp hx,e⟩,λ⟨x,hx,e⟩=>⟨x,(g4 x).mpr hx,e⟩⟩
    have hnd:(ps2.map λq=>f q.2).Nodup:=by
     refine p8 (m:=ps1.map λq=>f q.2) ?_ (λx hx=>?_) (by simp[g3])
     ·have:(ps1.map λq=>f q.2)=(ps1.map (·.2)).map f:=by simp
      rw[this]
      refine Qv.mpr (QP ?_ nd1)
      intro x y hx hy hxy e
      obtain⟨q,hq,rfl⟩:=PD.mp hx
      obtain⟨r,hr,rfl⟩:=PD.mp hy
      exact hxy (hinj _ _ (at1 sb1 q hq).2 (at1 sb1 r hr).2 e)
     ·obtain⟨q,hq,rfl⟩:=PD.mp hx
      exact PD.mpr ⟨q,(g4 q).mpr hq,rfl⟩
    have:(ps2.map λq=>f q.2)=(ps2.map (·.2)).map f:=by simp
    rw[this] at hnd
    exact (Qv.mp hnd).imp λhxy e=>hxy (by rw[e])
   refine Pp (h true _ ps2 sb2 ⟨⟨_,ep + 1 + 1,t2,ho2,hex,rfl,g5,?_⟩,λq hq=>at1 sb2 q ((g4 q).mp hq),nd2⟩ (λq hq=>(mem1 q).mp ((g4 q).mp hq)) (λq hq=>(g4 q).mpr ((mem1 q).mpr (.inl hq))) ⟨(a,p),(g4 _).mpr ((mem1 _).mpr (.inr rfl)),rfl⟩)
   rw[g6,q1];exact hled
end
def kM (w:World):Bool:= !(w.params.followText "set-order")
def C5 (prog:Program)(w:World)(p:Pr):Int:=tupleKeyHash (intKind prog w) [p.1,p.2]
def GK (prog:Program)(w:World):∀p q,Sm p->Sm q->C5 prog w p=C5 prog w q->p=q:=λp q h1 h2 e=>KQ h1 h2 e
section
variable {prog:Program}{w:World}{A:Around}{E:@Ch}{s:Shared}{R:Result->@Rs}{I:Addr}{fp wr:List Addr}{n:Nat}{P:Nat->Value->Prop}{St:Nat->Heap->Prop}
def dS (prog:Program)(w:World)(h:Heap)(vs:@GM)(ps:@Do):Prop:=vs.length=ps.length/\∀(i:Nat) (v:Value) (p:Pr),vs[i]? =some v->ps[i]? =some p->∃a,v=.ref a/\bY prog w h p a/\Sm p
abbrev qX (prog:Program)(w:World)(h:Heap)(S:Addr)(vs:@GM)(ps:@Do)(k:Nat):Prop:=∃qs:List (Addr×Pr),vg (C5 prog w) prog w (kM w) h S qs/\
 (∀q,q∈qs->Value.ref q.1∈vs.take k/\q.2∈ps.take k)/\∀p,p∈ps.take k->p∈qs.map (·.2)
theorem oP (W:Walks prog w A.in1 I fp wr n P St)(S:Addr)(hSf:S∉fp){vs:@GM}{ps:@Do}(hn:vs.length=n)(hP:∀i v,P i v->vs[i]? =some v)(hu:A.in1.units < cLine)(h₀:Heap)
  (hps:dS prog w h₀ vs ps) (hwr:∀b o,b∈S :: wr->h₀.get? b=some o->False):∀(k i:Nat) (s:Shared),n - i=k->i<=n->St i s.heap->(∀b o,h₀.get? b=some o->s.heap.get? b=some o)->qX prog w s.heap S vs ps i->
   (∀h' tk,(∀b o,b∉S :: wr->s.heap.get? b=some o->h'.get? b=some o)->qX prog w h' S vs ps n->R (.ok (.ret .none)) {s with heap:=h',toks:=tk})->
   codeAny (@NE) A (.builtin "set.update.loop" ⟨[.ref S,.ref I],[]⟩) R s:=by
 have nw:S∉wr:=λh=>hSf (W.sub _ h)
 intro k
 induction k with
 |zero=>
  intro i s hk hi hst hk0 hF hR
  obtain rfl:i=n:=@AT
  refine Rn PyProof.Rows.F.entry_set_update_loop ?_
  rw[Q5 RC _]
  show wpAny _ A.in1 (pyNext (.ref I) >>= λr=>_) _ _ s
  refine Pl (W.done s _ _ hst λh' tk hm=>?_)
  show wpAny _ A.in1 (ret Value.none) _ _ _
  refine Pp (hR h' tk (λb o hb e=>hm b o (λz=>hb (Pw _ z)) e) ?_)
  obtain⟨qs,Q1,Q2,Q3⟩:=hF
  obtain⟨o,ep,t,ho,r⟩:=Q1.ex
  refine⟨qs,⟨⟨o,ep,t,hm S o nw ho,r⟩,λq hq=>⟨?_,(Q1.at' q hq).2⟩,Q1.nd⟩,Q2,Q3⟩
  obtain⟨m,hm1,hm2⟩:=Ql.mp (RL (Q2 q hq).1)
  have hm1':m < ps.length:=by rw[<-hps.1];exact hm1
  obtain⟨a,ea,ha,_⟩:=hps.2 m vs[m] ps[m] (Pn hm1) (Pn hm1')
  rw[hm2] at ea
  cases ea
  obtain⟨o',it',n',ho',r'⟩:=(Q1.at' q hq).1
  obtain⟨o2,it2,n2,ho2,r2⟩:=ha
  have:o'=o2:=Option.some.inj (ho'.symm.trans (hk0 _ _ ho2))
  subst this
  exact⟨o',it',n',hm _ _ (λz=>hwr _ _ (Pw _ z) ho2) ho',r'⟩
 |succ k ih=>
  intro i s hk hi hst hk0 hF hR
  have hlt:i < n:=@AT
  refine Rn PyProof.Rows.F.entry_set_update_loop ?_
  rw[Q5 RC _]
  show wpAny _ A.in1 (pyNext (.ref I) >>= λr=>_) _ _ s
  refine Pl (W.item i s _ _ hlt hst λv h1 tk1 hv hst1 hm=>?_)
  have hvi:=hP i v hv
  have hip:i < ps.length:=by rw[<-hps.1,hn];exact hlt
  obtain⟨a,rfl,ha,hsm⟩:=hps.2 i v ps[i] hvi (Pn hip)
  have k1:∀b o,h₀.get? b=some o->h1.get? b=some o:=λb o e=>hm b o (λz=>hwr b o (Pw _ z) e) (hk0 b o e)
  obtain⟨qs,Q1,Q2,Q3⟩:=hF
  have old:∀{q:Addr×Pr} {h:Heap},q∈qs->(∀b o,h₀.get? b=some o->h.get? b=some o)->bY prog w h q.2 q.1:=λ{q h} hq kk=>by
   obtain⟨m,hm1,hm2⟩:=Ql.mp (RL (Q2 q hq).1)
   have hm1':m < ps.length:=by rw[<-hps.1];exact hm1
   obtain⟨a,ea,ha,_⟩:=hps.2 m vs[m] ps[m] (Pn hm1) (Pn hm1')
   rw[hm2] at ea
   cases ea
   obtain⟨o',it',n',ho',r'⟩:=(Q1.at' q hq).1
   obtain⟨o2,it2,n2,ho2,r2⟩:=ha
   have:o'=o2:=Option.some.inj (ho'.symm.trans (hk0 _ _ ho2))
   subst this
   exact⟨o',it',n',kk _ _ ho2,r'⟩
  have P1:vg (C5 prog w) prog w (kM w) h1 S qs:=by
   obtain⟨o,ep,t,ho,r⟩:=Q1.ex
   exact⟨⟨o,ep,t,hm S o nw ho,r⟩,λq hq=>⟨old hq k1,(Q1.at' q hq).2⟩,Q1.nd⟩
  have ha1:bY prog w h1 ps[i] a:=by
   obtain⟨o',it',n',ho',r'⟩:=ha
   exact⟨o',it',n',k1 _ _ ho',r'⟩
  show wpAny _ A.in1 (holding [Value.ref a] (setAdd S @S2) >>= λ_=>_) _ _ _
  refine Pl (QI ?_)
  unfold setAdd
  refine QI (Pl (wpAny_pyHash_tuple hu ha1 ?_))
  refine vg.add (GK prog w) (s:={s with heap:=h1,toks:=tk1 + ([ps[i].1,ps[i].2].length + 1)}) P1 ha1 hsm hu λb h2 qs' sb P2 m1 m2 m3=>?_
  have sbS:∀b o,h₀.get? b=some o->h2.get? b=some o:=λb o e=>(sb.2 b (λz=>hwr b o (by rw[z];exact Pz) e)).trans (k1 b o e)
  refine Pp ⟨Si RC _,ih (i + 1) _ (@AT) hlt (W.frame _ _ _ hst1 λb hb o e=>?_) sbS ⟨qs',P2,λq hq=>?_,λp hp=>?_⟩ λh' tk hm' F'=>?_⟩
  ·rw[sb.2 b λz=>hSf (by rw[<-z];exact hb)];exact e
  ·have htk:∀{α:Type} {l:List α} {x:α},x∈l.take i->x∈l.take (i + 1):=λ{α l x} hx=>by
    rw[RH];exact QR _ hx
   rcases m1 q hq with z |z
   ·exact⟨htk (Q2 q z).1,htk (Q2 q z).2⟩
   ·subst z
    refine⟨?_,?_⟩
    ·rw[RH,hvi];exact Qi _ @Go
    ·rw[RH,Pn hip];exact Qi _ @Go
  ·rw[RH,Pn hip] at hp
   rcases PQ.mp hp with z |z
   ·obtain⟨q,hq,rfl⟩:=PD.mp (Q3 p z)
    exact PD.mpr ⟨q,m2 q hq,rfl⟩
   ·have:p=ps[i]:=by simpa using z
    obtain⟨q,hq,e⟩:=m3
    exact PD.mpr ⟨q,hq,by rw[e,this]⟩
  ·refine hR h' tk (λb o hb e=>hm' b o hb ?_) F'
   show h2.get? b=some o
   rw[sb.2 b λz=>hb (by rw[z];exact Pz)]
   exact hm b o (λz=>hb (Pw _ z)) e
def yG (a:Value){Q1:@Ch}
  (h:Q1 (@LE) {s with heap:=s.heap.push @SV}) :
  codeAny (@NE) A (.call (.builtin "set.__new__") ⟨[.type "set",a],[]⟩) (wants Q1 E) s:=by
 refine codeAny_of_tree ?_
 show wpAny _ A.in1 (do (checkBuiltinCall "set.__new__" ⟨[.type "set",a],[]⟩);again (.builtin "set.__new__" ⟨[.type "set",a],[]⟩)) _ _ s
 refine Pl (wpAny_of_eq (F.newCall_set_1 a) (Pp ⟨Si F.plain_set_new _,Rn F.entry_set_new ?_⟩))
 rw[Q5 F.plain_set_new _]
 (unfold Builtin.«set.__new__» Builtin.Frozenset.newClass)
 have hsub0:=sub_set_self
 obtain⟨hp0,g0,d0,tk0,os0⟩:=s
 dsimp only
 wp_walk
 (refine Sg (Pp ?_))
 dsimp only
 simp only[newObj]
 (refine Pl (wpAny_alloc (Pp ?_)))
 exact Pp h
def B4 (led:Bool):Tab (.fresh 0 0 led) []:=
 ⟨.inl rfl,rfl,List.Pairwise.nil,λj h=>(by cases (RJ.mpr h)),rfl,(by show (0:Nat) * 5 < 7 * 3;decide),λi j h e=>(by simp[SetTable.fresh] at e),rfl⟩
structure Src (prog:Program)(w:World)(h:Heap)(l:Addr)(vs:@GM)(T:String)(itO:Obj)(St:Addr->Nat->Heap->Prop):Prop where
 ty:∃o,h.get? l=some o/\o.cls=.type T
 ns:isSubtype (.type T) (.type "set")=pure false
 nf:isSubtype (.type T) (.type "frozenset")=pure false
 nd:(Value.type T == Value.type "dict")=false
 it:∀(A:Around) (s1:Shared) (Q:@Ch) (E:@Ch),(∀b o,h.get? b=some o->s1.heap.get? b=some o)->Q (.ref s1.heap.objs.size) {s1 with heap:=s1.heap.push itO}->wpAny (@NE) A (pyIter (.ref l)) Q E s1
 st:∀(h1:Heap),(∀b o,h.get? b=some o->h1.get? b=some o)->St h1.objs.size 0 (h1.push itO)
 wk:∀(A:Around) (I:Addr),A.handled=none->l≠I->Walks prog w A I [I,l] [I] vs.length (λi v=>vs[i]? =some v) (St I)
def Src.list {h:Heap}{l:Addr}{vs:@GM}(hl:h.IsList l vs.toArray):Src prog w h l vs "list" {cls:=.type "list_iterator",data:=.fields #[.ref l,.int 0 0]} (λI i h'=>h'.IsListIter I l i/\h'.IsList l vs.toArray):=by
 obtain⟨o,ho,hc,n,hd⟩:=id hl
 refine⟨⟨o,ho,hc⟩,F.sub_list_set,F.sub_list_frozenset,by decide,λA s1 Q E k hQ=>RG ⟨o,k _ _ ho,hc,n,hd⟩ hQ,λh1 k=>⟨⟨_,PX _ rfl,rfl,rfl⟩,⟨o,Pq _ (k _ _ ho),hc,n,hd⟩⟩,λA I hh hne=>?_⟩
 have:=Walks.list (prog:=prog) (w:=w) hh I l hne vs.toArray
 simpa using this
def sub_tuple_set:isSubtype (.type "tuple") (.type "set")=pure false:=by rw[Ry];kernel_rfl
def sub_tuple_frozenset:isSubtype (.type "tuple") (.type "frozenset")=pure false:=by rw[Ry];kernel_rfl
def Src.tuple {h:Heap}{l:Addr}{vs:@GM}(hl:h.IsTuple l vs.toArray):Src prog w h l vs "tuple" {cls:=.type "tuple_iterator",data:=.fields #[.ref l,.int 0 0]} (λI i h'=>h'.IsTupleIter I l i/\h'.IsTuple l vs.toArray):=by
 obtain⟨o,ho,hc,n,hd⟩:=id hl
 refine⟨⟨o,ho,hc⟩,sub_tuple_set,sub_tuple_frozenset,by decide,λA s1 Q E k hQ=>wpAny_pyIter_tuple ⟨o,k _ _ ho,hc,n,hd⟩ hQ,λh1 k=>⟨⟨_,PX _ rfl,rfl,rfl⟩,⟨o,Pq _ (k _ _ ho),hc,n,hd⟩⟩,λA I hh hne=>?_⟩
 have:=Walks.tuple (prog:=prog) (w:=w) hh I l hne vs.toArray
 simpa using this
set_option maxHeartbeats 3200000 in
theorem sR {l:Addr}{vs:@GM}{ps:@Do}{T:String}{itO:Obj}{St:Addr->Nat->Heap->Prop}{Q:@Ch}(X:Src prog w s.heap l vs T itO St)(hh:A.handled=none)(hu:A.units + 64 < cLine)(hps:dS prog w s.heap vs ps)
  (h:∀(h':Heap) (tk:Nat),qX prog w h' s.heap.objs.size vs ps vs.length->(∀b o,s.heap.get? b=some o->h'.get? b=some o)->Q (@LE) {s with heap:=h',toks:=tk}) :
  wpAny (@NE) A (call (.type "set") [.ref l]) Q E s:=by
 obtain⟨c0,tl0,hmro0⟩:=RT.mro
 have hmade0:=RT.made
 have hsub0:=RT.sub
 refine wpAny_call (codeAny_of_tree ?_)
 show wpAny _ _ (callAny (.type "set") ⟨[.ref l],[]⟩) _ _ _
 refine Pp ⟨Code.quiet_builtin _ (@B_),Rn F.entry_type_call ?_⟩
 (rw[Around.under_plain (weight_type_call_type "set" [.ref l] []) rfl])
 have g1:=RT.notType
 have g2:=RT.canCreate
 have g3:=F.typeCall_set_1 (.ref l)
 repeat (any_goals (first |assumption |wp_step))
 refine Sa (yG (.ref l) (E:=E) (Q1:=λobj s1=>obj=@LE/\s1={s with heap:=s.heap.push @SV}) ⟨rfl,rfl⟩) λr s1 hr=>?_
 cases r with
 |error e=>exact hr
 |ok fl=>
  cases fl with
  |ret obj=>
   obtain⟨rfl,rfl⟩:=hr
   generalize hO:(@SV:Obj)=O
   have hS0:(s.heap.push O).get? s.heap.objs.size=some O:=PX _ (by rw[<-hO];rfl)
   have hT0:Shared.TypeIs {s with heap:=s.heap.push O} (@LE) "set":=⟨_,hS0,by rw[<-hO]⟩
   have g4:=RT.init.lookup
   have g5:=RT.init.bind (@LE)
   repeat (any_goals (first |assumption |wp_step))
   refine Sa (codeAny_call_builtin (R:=wants (λr s2=>r=.none/\∃h' tk,s2={s with heap:=h',toks:=tk}/\qX prog w h' s.heap.objs.size vs ps vs.length/\(∀b o,s.heap.get? b=some o->h'.get? b=some o)) E)
    RT.init.plain F.entry_set_init (check_set_init_1 hT0 ?_)) λr2 s2 hr2=>?_
   ·obtain⟨ol,hol,hcl⟩:=X.ty
    have hol':(s.heap.push O).get? l=some ol:=Pq _ hol
    have e1:=X.ns
    have e2:=X.nf
    have e3:=X.nd
    have hTl:Shared.TypeIs {s with heap:=s.heap.push O} (.ref l) T:=⟨ol,hol',hcl⟩
    have hdat:O.data=.set #[] 0 (.fresh 0 0 (kM w)):=by rw[<-hO]
    (unfold Builtin.«set.__init__» noKeywords Builtin.Frozenset.updateFrom)
    subst hO
    obtain⟨oc,od,odt,osl⟩:=ol
    simp only at hcl
    subst hcl
    (generalize hPI0:pyIter=PI0)
    wp_walk
    subst hPI0
    have kp:∀b o,s.heap.get? b=some o->(s.heap.push @SV).get? b=some o:=λb o e=>Pq _ e
    refine X.it _ _ _ _ kp ?_
    refine Pl (wpAny_runValue ?_)
    have hlS:l < s.heap.objs.size:=PB hol
    have hh3:A.in1.in1.in1.handled=none:=by simp[hh]
    have hneI:l≠(s.heap.push @SV).objs.size:=by
     rw[Q6];exact Qg (Nat.lt_succ_of_lt hlS)
    have hSf:s.heap.objs.size∉ [(s.heap.push @SV).objs.size,l]:=by
     rw[Q6]
     intro z
     rcases Pu.mp z with e |z
     ·exact absurd e (Qg (Nat.lt_succ_self _))
     ·exact absurd (P6.mp z) (Nat.ne_of_gt hlS)
    refine oP (X.wk _ _ hh3 hneI) s.heap.objs.size hSf rfl (λi v e=>e) (by simp;omega) s.heap hps (λb o hb e=>?_) (vs.length - 0) 0 _ (@AT) (Qp _) (X.st _ kp) (λb o e=>Pq _ (kp b o e)) ?_ ?_
    ·have hlt:=PB e
     rw[Q6] at hb
     rcases Pu.mp hb with z |z
     ·exact absurd hlt (by rw[z];exact Qe _)
     ·rw[P6.mp z] at hlt
      exact absurd hlt (Nat.not_lt.mpr (Nat.le_succ _))
    ·refine⟨[],⟨⟨_,0,_,Pq _ hS0,⟨rfl,rfl,rfl⟩,rfl,B4 _,rfl⟩,λq hq=>(by cases hq),RN⟩,λq hq=>(by cases hq),λp hp=>(by simp at hp)⟩
    ·intro h' tk hm F'
     show wpAny _ _ _ _ _ _
     refine Pp ?_
     show wpAny _ _ (ret Value.none) _ _ _
     refine Pp ⟨rfl,h',tk,rfl,F',λb o e=>hm b o (λz=>?_) (Pq _ (kp b o e))⟩
     have hlt:=PB e
     rw[Q6] at z
     rcases Pu.mp z with z |z
     ·exact absurd hlt (by rw[z];exact Qe _)
     ·rw[P6.mp z] at hlt
      exact absurd hlt (Nat.not_lt.mpr (Nat.le_succ _))
   ·cases r2 with
    |error e=>exact hr2
    |ok fl2=>
     cases fl2 with
     |ret r=>
      obtain⟨rfl,h',tk,rfl,hF,hk⟩:=hr2
      repeat (any_goals (first |assumption |wp_step))
      exact h _ _ hF hk
     |_=>exact hr2.elim
  |_=>exact hr.elim
end
end L2.ST
namespace L2.SO
open PySem PySem.W PyProof.Rows
def lL {α:Type}(lt:Nat->Nat->Bool):KasT α->α
 | .ret a=>a
 | .ask i j k=>lL lt (k (lt i j))
theorem gK {α β:Type}(lt:Nat->Nat->Bool)(f:α->KasT β):∀t:KasT α,lL lt (t.bind f)=lL lt (f (lL lt t))
 | .ret _=>rfl
 | .ask i j k=>gK lt f (k (lt i j))
def wL {α:Type}(n:Nat)(lt:Nat->Nat->Bool):KasT α->Prop
 | .ret _=>True
 | .ask i j k=>i < n/\j < n/\wL n lt (k (lt i j))
theorem jg {α β:Type}{n:Nat}{lt:Nat->Nat->Bool}{f:α->KasT β}:∀{t:KasT α},wL n lt t->wL n lt (f (lL lt t))->wL n lt (t.bind f)
 | .ret _,_,h=>h
 | .ask i j k,h,h'=>⟨h.1,h.2.1,jg h.2.2 h'⟩
section
variable {n:Nat}{key:Nat->Int}
abbrev qk (key:Nat->Int)(i j:Nat):Bool:=decide (key i < key j)
abbrev Kp (key:Nat->Int)(p:Array Nat)(k:Nat):Int:=key (p.getD k 0)
structure Pm (n:Nat)(p:Array Nat):Prop where
 sz:p.size=n
 nd:p.toList.Nodup
 lt:∀x,x∈p->x < n
def Pm.at {p:Array Nat}(P:Pm n p){k:Nat}(hk:k < n):p.getD k 0 < n:=by
 have h:k < p.size:=by rw[P.sz];exact hk
 simp only[Array.getD,h,dif_pos]
 exact P.lt _ (Sz h)
def Pm.ne {p:Array Nat}(P:Pm n p){i k:Nat}(hi:i < n)(hk:k < n)(hne:i≠k):p.getD i 0≠p.getD k 0:=by
 have h1:i < p.toList.length:=by simpa using (by rw[P.sz];exact hi:i < p.size)
 have h2:k < p.toList.length:=by simpa using (by rw[P.sz];exact hk:k < p.size)
 have h1':i < p.size:=by rw[P.sz];exact hi
 have h2':k < p.size:=by rw[P.sz];exact hk
 have a1:p.getD i 0=p.toList[i]:=by simp[Array.getD,h1']
 have a2:p.getD k 0=p.toList[k]:=by simp[Array.getD,h2']
 rw[a1,a2]
 have q:=RK.mp P.nd
 rcases QJ i k with c |c
 ·exact q i k h1 h2 c
 ·exact (q k i h2 h1 (@AT)).symm
def Pm.perm {p q:Array Nat}(P:Pm n p)(h:q.Perm p):Pm n q:=by
 have h':=Array.perm_iff_toList_perm.mp h
 exact⟨by rw[h.size_eq];exact P.sz,h'.nodup_iff.mpr P.nd,λx hx=>P.lt x (by simpa using h'.mem_iff.mp (by simpa using hx))⟩
def xK (n:Nat):Pm n (List.toArray (@TR)):=⟨by simp,by simpa using Rx,λx hx=>by simpa using hx⟩
def Inj (n:Nat)(key:Nat->Int):Prop:=∀i j,i < n->j < n->key i=key j->i=j
def Pm.tri {p:Array Nat}(P:Pm n p)(hi:Inj n key){i k:Nat}(h1:i < n)(h2:k < n)(hne:i≠k):Kp key p i < Kp key p k\/Kp key p k < Kp key p i:=by
 have:Kp key p i≠Kp key p k:=λe=>P.ne h1 h2 hne (hi _ _ (P.at h1) (P.at h2) e)
 omega
def Up (key:Nat->Int)(p:Array Nat)(m:Nat):Prop:=∀i j,i < j->j < m->Kp key p i < Kp key p j
def Dn (key:Nat->Int)(p:Array Nat)(m:Nat):Prop:=∀i j,i < j->j < m->Kp key p j < Kp key p i
def Up.snoc {p:Array Nat}{m:Nat}(U:Up key p m)(h1:1<=m)(h:Kp key p (m - 1) < Kp key p m):Up key p (m + 1):=λi j hij hj=>by
 rcases QJ j m with c |c
 ·exact U i j hij c
 ·have:j=m:=@AT
  subst this
  rcases QJ i (j - 1) with d |d
  ·exact Int.lt_trans (U i (j - 1) d (@AT)) h
  ·have:i=j - 1:=@AT
   rw[this];exact h
def Dn.snoc {p:Array Nat}{m:Nat}(U:Dn key p m)(h1:1<=m)(h:Kp key p m < Kp key p (m - 1)):Dn key p (m + 1):=λi j hij hj=>by
 rcases QJ j m with c |c
 ·exact U i j hij c
 ·have:j=m:=@AT
  subst this
  rcases QJ i (j - 1) with d |d
  ·exact Int.lt_trans h (U i (j - 1) d (@AT))
  ·have:i=j - 1:=@AT
   rw[this];exact h
theorem rP {p:Array Nat}(P:Pm n p)(hi:Inj n key):∀(f m:Nat),1<=m->m + f<=n->Up key p m->
  ∃r,(lL (qk key) (kas_asc p f m)=r/\wL n (qk key) (kas_asc p f m))/\m<=r/\r<=m + f/\Up key p r/\(r < m + f->Kp key p r < Kp key p (r - 1))
 | 0,m,_,_,U=>⟨m,⟨rfl,trivial⟩,Pt _,Pt _,U,λh=>absurd h (Qe _)⟩
 |f + 1,m,h1,hn,U=>by
  have b1:p.getD m 0 < n:=P.at (@AT)
  have b2:p.getD (m - 1) 0 < n:=P.at (@AT)
  unfold kas_asc lL wL
  by_cases c:Kp key p m < Kp key p (m - 1)
  ·rw[show qk key (p.getD m 0) (p.getD (m - 1) 0)=true from PF c]
   simp only[QC]
   exact⟨m,⟨rfl,b1,b2,trivial⟩,Pt _,@AT,U,λ_=>c⟩
  ·rw[show qk key (p.getD m 0) (p.getD (m - 1) 0)=false from PU c]
   simp only[P0,Qq]
   have up:Kp key p (m - 1) < Kp key p m:=(P.tri hi (@AT) (@AT) (@AT)).resolve_right c
   obtain⟨r,⟨e,o⟩,a,b,u,d⟩:=rP P hi f (m + 1) (@AT) (@AT) (U.snoc h1 up)
   exact⟨r,⟨e,b1,b2,o⟩,@AT,@AT,u,λh=>d (@AT)⟩
theorem uy {p:Array Nat}(P:Pm n p)(hi:Inj n key):∀(f m:Nat),1<=m->m + f<=n->Dn key p m->
  ∃r,(lL (qk key) (kas_desc f p m 0)=(p,r,0)/\wL n (qk key) (kas_desc f p m 0))/\m<=r/\r<=m + f/\Dn key p r
 | 0,m,_,_,U=>⟨m,⟨rfl,trivial⟩,Pt _,Pt _,U⟩
 |f + 1,m,h1,hn,U=>by
  have b1:p.getD m 0 < n:=P.at (@AT)
  have b2:p.getD (m - 1) 0 < n:=P.at (@AT)
  unfold kas_desc lL wL
  by_cases c:Kp key p m < Kp key p (m - 1)
  ·rw[show qk key (p.getD m 0) (p.getD (m - 1) 0)=true from PF c]
   simp only[QC,Qe,gt_iff_lt,Qq]
   obtain⟨r,⟨e,o⟩,a,b,u⟩:=uy P hi f (m + 1) (@AT) (@AT) (U.snoc h1 c)
   exact⟨r,⟨e,b1,b2,o⟩,@AT,@AT,u⟩
  ·rw[show qk key (p.getD m 0) (p.getD (m - 1) 0)=false from PU c]
   simp only[P0,Qq]
   unfold lL wL
   have up:Kp key p (m - 1) < Kp key p m:=(P.tri hi (@AT) (@AT) (@AT)).resolve_right c
   rw[show qk key (p.getD (m - 1) 0) (p.getD m 0)=true from PF up]
   simp only[QC]
   exact⟨m,⟨rfl,b1,b2,b2,b1,trivial⟩,Pt _,@AT,U⟩
def Fe {p:Array Nat}{j k:Nat}(hj:j<=p.size)(hk:k < j):(kas_rev p 0 j).getD k 0=p.getD (j - 1 - k) 0:=by
 unfold kas_rev
 rw[Qo,getElem?_mirror_all hj k,Po ⟨Qp _,hk⟩,Qo]
 congr 2
 omega
def J5 {p:Array Nat}{m:Nat}(hm:m<=p.size)(D:Dn key p m):Up key (kas_rev p 0 m) m:=λi j hij hj=>by
 unfold Kp
 rw[Fe hm (@AT),Fe hm hj]
 exact D (m - 1 - j) (m - 1 - i) (@AT) (@AT)
def Pm.rev {p:Array Nat}(P:Pm n p)(j:Nat):Pm n (kas_rev p 0 j):=P.perm (mirror_perm ..)
def yV {p:Array Nat}(P:Pm n p)(hi:Inj n key)(h1:1<=n) :
  ∃m q,(lL (qk key) (kas_count n p)=(m,q)/\wL n (qk key) (kas_count n p))/\Pm n q/\1<=m/\m<=n/\Up key q m:=by
 obtain⟨r,⟨e,o⟩,a,b,u,d⟩:=rP P hi (n - 1) 1 (Pt _) (@AT) (λi j hij hj=>@AT)
 have rest:∃m q,(lL (qk key) (if (r == n)=true then KasT.ret (r,p) else if r > 1 then .ask (p.getD 0 0) (p.getD (r - 1) 0) λc=>if c=true then .ret (r,p) else kas_descPart r n (kas_rev p 0 r) else kas_descPart r n p)=(m,q)/\
   wL n (qk key) (if (r == n)=true then KasT.ret (r,p) else if r > 1 then .ask (p.getD 0 0) (p.getD (r - 1) 0) λc=>if c=true then .ret (r,p) else kas_descPart r n (kas_rev p 0 r) else kas_descPart r n p))/\Pm n q/\1<=m/\m<=n/\Up key q m:=by
  by_cases c:(r == n)=true
  ·rw[Po c]
   exact⟨r,p,⟨rfl,trivial⟩,P,a,@AT,u⟩
  ·rw[Px c]
   have hrn:r≠n:=by simpa using c
   have dd:=d (@AT)
   by_cases c2:r > 1
   ·rw[Po c2]
    unfold lL wL
    rw[show qk key (p.getD 0 0) (p.getD (r - 1) 0)=true from PF (u 0 (r - 1) (@AT) (@AT))]
    simp only[QC]
    exact⟨r,p,⟨rfl,P.at (@AT),P.at (@AT),trivial⟩,P,a,@AT,u⟩
   ·rw[Px c2]
    have hr1:r=1:=@AT
    subst hr1
    unfold kas_descPart
    rw[gK]
    have D2:Dn key p 2:=λi j hij hj=>by
     have e1:i=0:=@AT
     have e2:j=1:=@AT
     rw[e1,e2];exact dd
    obtain⟨x,⟨e2,o2⟩,a2,b2,u2⟩:=uy P hi (n - 2) 2 (@AT) (@AT) D2
    obtain⟨y,⟨e3,o3⟩,a3,b3,u3,_⟩:=rP (P.rev x) hi (n - x) x (@AT) (@AT) (J5 (by rw[P.sz];omega) u2)
    rw[show n - (1 + 1)=n - 2 from rfl,show (1 + 1:Nat)=2 from rfl]
    have t3:wL n (qk key) (kas_tail3 x n p):=by
     unfold kas_tail3
     exact jg o3 trivial
    refine⟨y,kas_rev p 0 x,⟨?_,jg o2 ?_⟩,P.rev x,@AT,@AT,u3⟩
    ·rw[e2]
     simp only[Qe,gt_iff_lt,Qq]
     unfold kas_tail3
     rw[gK,e3]
     rfl
    ·rw[e2]
     simp only[Qe,gt_iff_lt,Qq]
     exact t3
 obtain⟨m,q,⟨f1,f2⟩,f3⟩:=rest
 refine⟨m,q,⟨?_,?_⟩,f3⟩
 ·unfold kas_count
  rw[gK,e]
  exact f1
 ·unfold kas_count
  refine jg o ?_
  rw[e]
  exact f2
theorem place_spec {p:Array Nat}{k:Nat}(P:Pm n p)(hi:Inj n key)(hk:k < n)(U:Up key p k):∀(f l r:Nat),l<=r->r<=k->r - l<=f->(∀i,i < l->Kp key p i < Kp key p k)->(∀i,r<=i->i < k->Kp key p k < Kp key p i)->
  ∃x,(lL (qk key) (kas_place p k f l r)=x/\wL n (qk key) (kas_place p k f l r))/\x<=k/\(∀i,i < x->Kp key p i < Kp key p k)/\(∀i,x<=i->i < k->Kp key p k < Kp key p i)
 | 0,l,r,h1,h2,h3,a,b=>⟨l,⟨rfl,trivial⟩,@AT,a,λi hi=>b i (@AT)⟩
 |f + 1,l,r,h1,h2,h3,a,b=>by
  unfold kas_place
  by_cases c:l>=r
  ·rw[Po c]
   exact⟨l,⟨rfl,trivial⟩,@AT,a,λi hi=>b i (@AT)⟩
  ·rw[Px c]
   have b1:p.getD k 0 < n:=P.at hk
   have b2:p.getD ((l + r) / 2) 0 < n:=P.at (@AT)
   unfold lL wL
   by_cases d:Kp key p k < Kp key p ((l + r) / 2)
   ·rw[show qk key (p.getD k 0) (p.getD ((l + r) / 2) 0)=true from PF d]
    simp only[QC]
    have side:∀i,(l + r) / 2<=i->i < k->Kp key p k < Kp key p i:=λi h1 h2=>by
     rcases QJ ((l + r) / 2) i with z |z
     ·exact Int.lt_trans d (U _ _ z h2)
     ·have:i=(l + r) / 2:=@AT
      rw[this];exact d
    obtain⟨x,⟨e1,e2⟩,e3⟩:=place_spec P hi hk U f l ((l + r) / 2) (@AT) (@AT) (@AT) a side
    exact⟨x,⟨e1,b1,b2,e2⟩,e3⟩
   ·rw[show qk key (p.getD k 0) (p.getD ((l + r) / 2) 0)=false from PU d]
    simp only[P0,Qq]
    have d':Kp key p ((l + r) / 2) < Kp key p k:=(P.tri hi (@AT) hk (@AT)).resolve_right d
    have side:∀i,i < (l + r) / 2 + 1->Kp key p i < Kp key p k:=λi h=>by
     rcases QJ i ((l + r) / 2) with z |z
     ·exact Int.lt_trans (U _ _ z (@AT)) d'
     ·have:i=(l + r) / 2:=@AT
      rw[this];exact d'
    obtain⟨x,⟨e1,e2⟩,e3⟩:=place_spec P hi hk U f ((l + r) / 2 + 1) r (@AT) h2 (@AT) side b
    exact⟨x,⟨e1,b1,b2,e2⟩,e3⟩
def Fm {p:Array Nat}{k l j:Nat}(hk:k < p.size)(hl:l<=k):(bubble p k (k - l)).getD j 0=if j=l then p.getD k 0 else if l < j/\j<=k then p.getD (j - 1) 0 else p.getD j 0:=by
 rw[Qo,getElem?_bubble hk (k - l) (@AT) j,show k - (k - l)=l by omega]
 simp only[Qo]
 split
 ·rfl
 ·split <;> rfl
theorem yq (hi:Inj n key):∀(f k:Nat) (p:Array Nat),Pm n p->1<=k->k + f=n->Up key p k->∃q,(lL (qk key) (kas_bin f p k)=q/\wL n (qk key) (kas_bin f p k))/\Pm n q/\Up key q n
 | 0,k,p,P,_,e,U=>⟨p,⟨rfl,trivial⟩,P,by rw[<-e];exact U⟩
 |f + 1,k,p,P,h1,e,U=>by
  have hk:k < n:=@AT
  obtain⟨l,⟨el,ol⟩,hl,a,b⟩:=place_spec P hi hk U k 0 k (Qp _) (Pt _) (@AT) (λi h=>@AT) (λi h h'=>@AT)
  have side:Up key (bubble p k (k - l)) (k + 1):=λi j hij hj=>by
   have hks:k < p.size:=by rw[P.sz];exact hk
   unfold Kp
   rw[Fm hks hl,Fm hks hl]
   by_cases i1:i=l
   ·rw[Po i1,Px (@AT)]
    by_cases j2:l < j/\j<=k
    ·rw[Po j2];exact b _ (@AT) (@AT)
    ·omega
   ·rw[Px i1]
    by_cases i2:l < i/\i<=k
    ·rw[Po i2,Px (@AT),Po (@AT)]
     exact U _ _ (@AT) (@AT)
    ·rw[Px i2]
     by_cases j1:j=l
     ·rw[Po j1];exact a _ (@AT)
     ·rw[Px j1]
      by_cases j2:l < j/\j<=k
      ·rw[Po j2]
       rcases QJ i (j - 1) with z |z
       ·exact U _ _ z (@AT)
       ·omega
      ·rw[Px j2];exact U _ _ hij (@AT)
  obtain⟨q,⟨q1,q2⟩,q3⟩:=yq hi f (k + 1) (bubble p k (k - l)) (P.perm (bubble_perm ..)) (@AT) (@AT) side
  refine⟨q,⟨?_,?_⟩,q3⟩
  ·unfold kas_bin;rw[gK,el];exact q1
  ·unfold kas_bin;refine jg ol ?_;rw[el];exact q2
def Ci (hi:Inj n key)(h2:2<=n):∃q,(lL (qk key) (kas_sort n)=q/\wL n (qk key) (kas_sort n))/\Pm n q/\Up key q n:=by
 obtain⟨m,q,⟨e,o⟩,P,a,b,u⟩:=yV (xK n) hi (@AT)
 by_cases c:m < n
 ·obtain⟨q',⟨e1,o1⟩,r⟩:=yq hi (n - m) m q P a (@AT) u
  refine⟨q',⟨?_,?_⟩,r⟩
  ·unfold kas_sort;rw[gK,e];dsimp only;rw[Po c,Nat.max_eq_left a];exact e1
  ·unfold kas_sort;refine jg o ?_;rw[e];dsimp only;rw[Po c,Nat.max_eq_left a];exact o1
 ·refine⟨q,⟨?_,?_⟩,P,λi j hij hj=>u i j hij (@AT)⟩
  ·unfold kas_sort;rw[gK,e];dsimp only;rw[Px c];rfl
  ·unfold kas_sort;refine jg o ?_;rw[e];dsimp only;rw[Px c];trivial
theorem wp_run {α:Type}{n:Nat}{lt:Nat->Nat->Bool}{cmp:Nat->Nat->(Bool->@Rs)->@Rs}{Q:α->@Rs}{s:Shared} :
  ∀(t:KasT α),(∀i j C,i < n->j < n->C (lt i j) s->cmp i j C s)->wL n lt t->Q (lL lt t) s->t.kasWp cmp Q s
 | .ret a,_,_,h=>h
 | .ask i j k,hc,ho,h=>hc i j _ ho.1 ho.2.1 (wp_run (k (lt i j)) hc ho.2.2 h)
end
end L2.SO
namespace L2.ST
open PySem PySem.SetTable PySem.W PyProof.Rows
def code (p:Pr):Int:=p.1 * 8 + p.2
def AE {p q:Pr}(h1:Sm p)(h2:Sm q):code p < code q↔p.1 < q.1\/(p.1=q.1/\p.2 < q.2):=by
 unfold code Sm at *;omega
def code_inj {p q:Pr}(h1:Sm p)(h2:Sm q)(e:code p=code q):p=q:=by
 unfold code Sm at *
 refine Prod.ext ?_ ?_ <;> omega
section
variable {prog:Program}{w:World}{A:Around}{E:@Ch}{s:Shared}
abbrev sZ (ps:@Do)(i:Nat):Int:=code (ps.getD i (0,0))
def Ds {ps:@Do}(nd:ps.Nodup)(hs:∀p,p∈ps->Sm p):L2.SO.Inj ps.length (sZ ps):=λi j hi hj e=>by
 have a1:ps.getD i (0,0)=ps[i]:=by simp[hi]
 have a2:ps.getD j (0,0)=ps[j]:=by simp[hj]
 unfold sZ at e
 rw[a1,a2] at e
 have e':=code_inj (hs _ (Q0 hi)) (hs _ (Q0 hj)) e
 have q:=RK.mp nd
 rcases Sy i j with c |c |c
 ·exact absurd e' (q i j hi hj c)
 ·exact c
 ·exact absurd e'.symm (q j i hj hi c)
theorem Hl {a b:Addr}{p q:Pr}{Q:Bool->@Rs}(ha:bY prog w s.heap p a)(hb:bY prog w s.heap q b)(hp:Sm p)(hq:Sm q)(h:Q (decide (code p < code q)) s) :
  wpAny (@NE) A (keyLt' (tuples' true) @S2 (.ref b)) Q E s:=by
 obtain⟨oa,ia,na,hoa,hca,hda,hia⟩:=ha
 obtain⟨ob,ib,nb,hob,hcb,hdb,hib⟩:=hb
 obtain⟨l1,rfl⟩:∃l,ia=List.toArray l:=⟨ia.toList,by simp⟩
 obtain⟨l2,rfl⟩:∃l,ib=List.toArray l:=⟨ib.toList,by simp⟩
 simp only[Ra] at hia hib
 cases hia with
 | @cons _ v1 _ _ h1 hia=>
  cases hia with
  | @cons _ v2 _ _ h2 hia=>
   cases hia
   cases hib with
   | @cons _ u1 _ _ g1 hib=>
    cases hib with
    | @cons _ u2 _ _ g2 hib=>
     cases hib
     obtain⟨t1,rfl⟩:=Ru h1
     obtain⟨t2,rfl⟩:=Ru h2
     obtain⟨t3,rfl⟩:=Ru g1
     obtain⟨t4,rfl⟩:=Ru g2
     refine kat_lt hoa hda hob hdb ?_
     have hc:=AE hp hq
     refine kat_cons (wpAny_eqBool_int ?_)
     by_cases e1:p.1=q.1
     ·rw[show (p.1 == q.1)=true by simpa using e1]
      refine kat_yes (kat_cons (wpAny_eqBool_int ?_))
      by_cases e2:p.2=q.2
      ·rw[show (p.2 == q.2)=true by simpa using e2]
       refine kat_yes (kat_nil ?_)
       have:decide (code p < code q)=false:=PU (by rw[hc];omega)
       rw[this] at h
       simpa using h
      ·rw[show (p.2 == q.2)=false by simpa using e2]
       refine kat_no ?_
       show wpAny _ _ (oneLt' false _ _) _ _ _
       refine kat_one _ _ (lt_int ?_)
       have:decide (code p < code q)=decide (p.2 < q.2):=by
        by_cases z:p.2 < q.2
        ·rw[PF z];exact PF (hc.mpr (.inr ⟨e1,z⟩))
        ·rw[PU z];exact PU (by rw[hc];omega)
       rw[this] at h;exact h
     ·rw[show (p.1 == q.1)=false by simpa using e1]
      refine kat_no ?_
      show wpAny _ _ (oneLt' true _ _) _ _ _
      refine oneLt_int ?_
      have:decide (code p < code q)=decide (p.1 < q.1):=by
       by_cases z:p.1 < q.1
       ·rw[PF z];exact PF (hc.mpr (.inl z))
       ·rw[PU z];exact PU (by rw[hc];omega)
      rw[this] at h;exact h
theorem Aw:∀{vs:@GM} {ps:@Do},dS prog w s.heap vs ps->∃fs,KatTups s.heap vs fs/\fs.length=vs.length/\∀v∈fs,∃(i:Int) (t:Tok),v=.int i t
 | [],ps,_=>⟨[],KatTups.nil,rfl,λv hv=>by cases hv⟩
 |v :: vs,[],h=>by have:=h.1;simp at this
 |v :: vs,p :: ps,h=>by
  obtain⟨a,rfl,⟨o,items,n,ho,hc,hd,hi⟩,_⟩:=h.2 0 v p rfl rfl
  obtain⟨fs,k,e,f⟩:=Aw (vs:=vs) (ps:=ps) ⟨by simpa using h.1,λi v p h1 h2=>h.2 (i + 1) v p (by simpa using h1) (by simpa using h2)⟩
  obtain⟨l1,rfl⟩:∃l,items=List.toArray l:=⟨items.toList,by simp⟩
  simp only[Ra] at hi
  cases hi with
  | @cons _ v1 _ _ h1 hi=>
   obtain⟨t1,rfl⟩:=Ru h1
   exact⟨_ :: fs,KatTups.cons ho hc hd rfl k,by simp[e],λv hv=>by
    rcases Pu.mp hv with z |z
    ·exact⟨_,_,z⟩
    ·exact f v z⟩
def xY {a:Addr}{vs:@GM}{ps:@Do}{n:Nat}{P:PySem.Fin->@Rs}(ho:s.heap.get? a=some (seqObj "list" vs.toArray n))(hps:dS prog w s.heap vs ps)(nd:ps.Nodup)(h64:vs.length < 64)
  (h:∀(h':Heap) (c:Nat) (ix:Array Nat),L2.SO.Pm vs.length ix->L2.SO.Up (sZ ps) ix vs.length->(∀b o,b≠a->s.heap.get? b=some o->h'.get? b=some o)->
   h'.get? a=some (seqObj "list" (ix.toList.map λi=>vs.getD i Value.none).toArray c)->P (.done (.ret .none)) {s with heap:=h'}) :
  wpAny (@NE) A (Builtin.«list.sort» ⟨[.ref a],[]⟩) P E s:=by
 have ha:a < s.heap.objs.size:=PB ho
 obtain⟨e1,ho1⟩:∃e1,(s.heap.update a (Obj.mapSeq λ_=>(#[]:Array Value))).get? a=some (seqObj "list" #[] e1):=⟨_,get?_update_seq ho λ_=>#[]⟩
 generalize hH1:(s.heap.update a (Obj.mapSeq λ_=>(#[]:Array Value)))=H1 at ho1
 have sb1:Heap.SameBut a s.heap H1:=by rw[<-hH1];exact Heap.SameBut.update ..
 have kp2:∀b o,H1.get? b=some o->((H1.push (seqObj "tuple" vs.toArray 0)).push (seqObj "list" #[] 0)).get? b=some o:=λb o e=>Pq _ (Pq _ e)
 generalize hH2:((H1.push (seqObj "tuple" vs.toArray 0)).push (seqObj "list" #[] 0))=H2 at kp2
 have kp:∀b o,b≠a->s.heap.get? b=some o->H2.get? b=some o:=λb o hb e=>kp2 b o ((sb1.2 b hb).trans e)
 have ho2:=kp2 _ _ ho1
 have hps2:dS prog w H2 vs ps:=⟨hps.1,λi v p h1 h2=>by
  obtain⟨b,e,⟨o,it,m,hb,hc,hd,r⟩,hs⟩:=hps.2 i v p h1 h2
  refine⟨b,e,⟨o,it,m,kp b o (λz=>?_) hb,hc,hd,r⟩,hs⟩
  subst z
  rw[ho] at hb;cases hb
  exact absurd hc (by simp[seqObj])⟩
 have hz:vs.length<=sizeLine:=by rw[Qc];omega
 rw[list_sort_plain]
 refine Pl (listItems_at ho rfl (Pl (listUpdate_at ho rfl ?_ (by simpa using hz) (Qp _))))
 rw[hH1]
 refine Pl (seqEpoch_at (s:={s with heap:=H1}) ho1 rfl (Pl (wpAny_newTuple ?_ (by simpa using hz))))
 refine Pl (wpAny_newList ?_ (Qp _))
 refine QI ?_
 show wpAny (@NE) A _ P E {s with heap:=(H1.push (seqObj "tuple" vs.toArray 0)).push (seqObj "list" #[] 0)}
 rw[hH2]
 have fin:∀(ix:Array Nat) (st:SortSt),L2.SO.Pm vs.length ix->L2.SO.Up (sZ ps) ix vs.length->(arrOf st).map (·.2)=List.toArray (ix.toList.map λi=>vs.getD i Value.none)->failedOf st=none->
   wpAny (@NE) A (do
    let sorted:=(arrOf st).map (·.2)
    let touched:=(<-seqEpoch a) != e1
    Builtin.List.listUpdate @S2 λ_=>sorted
    if let some e:=failedOf st then rule "list.sort.comparison-raised";throw e
    if touched then rule "list.sort.modified";raiseError "ValueError" "list modified during sort"
    ret .none) P E {s with heap:=H2}:=λix st P1 U1 hout hf=>by
  dsimp only
  rw[hout]
  have hsz:(List.toArray (ix.toList.map λi=>vs.getD i Value.none)).size=vs.length:=by simp[P1.sz]
  refine Pl (seqEpoch_at (s:={s with heap:=H2}) ho2 rfl ?_)
  refine Pl (listUpdate_at (s:={s with heap:=H2}) ho2 rfl ?_ (Qp _) (QA (Nat.le_of_eq hsz) (Nat.le_succ_of_le hz)))
  rw[hf]
  simp only[bne_self_eq_false,P0,Qq]
  obtain⟨c2,hc2⟩:∃c2,(H2.update a (Obj.mapSeq λ_=>List.toArray (ix.toList.map λi=>vs.getD i Value.none))).get? a=some (seqObj "list" (List.toArray (ix.toList.map λi=>vs.getD i Value.none)) c2):=⟨_,get?_update_seq ho2 λ_=>List.toArray (ix.toList.map λi=>vs.getD i Value.none)⟩
  exact Pp (h _ c2 ix P1 U1 (λb o hb e=>((Heap.SameBut.update H2 a _).2 b hb).trans (kp b o hb e)) hc2)
 by_cases h2:vs.length < 2
 ·have h2':vs.toArray.size < 2:=by simpa using h2
  dsimp only
  rw[Po h2',Po h2']
  refine Pl (Pp ?_)
  rw[StateT.run_pure]
  refine Pl (Pp ?_)
  refine fin (List.toArray (List.range vs.length)) (SortSt.mk' general' (vs.toArray.zip vs.toArray) #[] 7 none) (L2.SO.xK _) (λi j hij hj=>@AT) ?_ rfl
  have:∀{l:@GM},l.length < 2->((l.toArray.zip l.toArray).map (·.2))=List.toArray ((List.range l.length).map λi=>l.getD i Value.none):=λ{l} hl=>by
   match l,hl with
   | [],_=>simp
   | [x],_=>simp
  exact (this h2).trans @Go
 ·have h2':¬vs.toArray.size < 2:=by simpa using h2
  dsimp only
  rw[Px h2',Px h2']
  obtain⟨fs,kt,fl,ff⟩:=Aw (s:={s with heap:=H2}) hps2
  refine Pl (kat_kind (s:={s with heap:=H2}) (T:=.type "int") kt (@AT) (λv hv=>?_) @A_ ?_)
  ·obtain⟨i,t,rfl⟩:=ff v hv
   exact .now
  ·rw[show ((Value.type "int" != Value.type "tuple"):Bool)=true by decide]
   have hinj:L2.SO.Inj vs.length (sZ ps):=by
    rw[hps.1]
    refine Ds nd λp hp=>?_
    obtain⟨i,hi,e⟩:=Ql.mp hp
    have hi':i < vs.length:=by rw[hps.1];exact hi
    obtain⟨_,_,_,hs⟩:=hps.2 i vs[i] p (Pn hi') (by rw[Pn hi,e])
    exact hs
   obtain⟨ix,⟨er,ok⟩,P1,U1⟩:=L2.SO.Ci hinj (@AT)
   refine Pl (QS (kat_run (s:={s with heap:=H2}) (κ:=tuples' true) (ks:=vs) (Q:=λst s'=>s'={s with heap:=H2}/\arrOf st=ix.map (kas_item (vs.toArray.zip vs.toArray))/\failedOf st=none)
    (G:=λp s'=>p=ix/\s'={s with heap:=H2}) rfl (@AT) h64 (λp st s' a1 a2 a3 a4=>?_) (L2.SO.wp_run (n:=vs.length) (lt:=L2.SO.qk (sZ ps)) _ (λi j C hi hj hC=>?_) ok ⟨er,rfl⟩)) ?_ λ_ _ x=>x)
   ·obtain⟨rfl,rfl⟩:=a4
    exact⟨rfl,a2,a3⟩
   ·unfold kas_ask
    have hi':i < ps.length:=by rw[<-hps.1];exact hi
    have hj':j < ps.length:=by rw[<-hps.1];exact hj
    obtain⟨b1,eb1,hb1,s1⟩:=hps2.2 i vs[i] ps[i] (Pn hi) (Pn hi')
    obtain⟨b2,eb2,hb2,s2⟩:=hps2.2 j vs[j] ps[j] (Pn hj) (Pn hj')
    have e1:vs.getD i Value.none=.ref b1:=by rw[<-eb1];simp[hi]
    have e2:vs.getD j Value.none=.ref b2:=by rw[<-eb2];simp[hj]
    rw[e1,e2]
    refine Hl (s:={s with heap:=H2}) hb1 hb2 s1 s2 ?_
    have:L2.SO.qk (sZ ps) i j=decide (code ps[i] < code ps[j]):=by
     unfold L2.SO.qk sZ;simp[hi',hj']
    rw[<-this];exact hC
   ·rintro⟨⟨⟩,st⟩ s' ⟨rfl,har,hf⟩
    exact fin ix st P1 U1 (kat_snds rfl har) hf
end
def cq:Slot "set_iterator" "__next__" "set_iterator.__next__":=
 Slot.of (owner:="set_iterator") (n:="__next__") (by rw[typeLookup_type,Sd];kernel_rfl) (@B_) (@B_) (@B_) (by first |exact .inl (@B_) |exact .inr (@B_)) (by rw[Ry];kernel_rfl)
def j9:entryFor table "set_iterator.__next__"=some Builtin.«set_iterator.__next__»:=entryFor_of_tree (@I_)
def lI (a:Value):argsOk "set_iterator.__next__" ⟨[a],[]⟩:=by unfold argsOk;kernel_rfl
def rg:entryFor table "set.__iter__"=some Builtin.«frozenset.__iter__»:=entryFor_alias (id':="frozenset.__iter__") (@I_) rfl (@B_) (@I_)
def lJ:Slot "set_iterator" "__iter__" "set_iterator.__iter__":=
 Slot.of (owner:="set_iterator") (n:="__iter__") (by rw[typeLookup_type,Sd];kernel_rfl) (@B_) (@B_) (@B_) (by first |exact .inl (@B_) |exact .inr (@B_)) (by rw[Ry];kernel_rfl)
def pQ:entryFor table "set_iterator.__iter__"=some Builtin.«dict_keyiterator.__iter__»:=entryFor_alias (id':="dict_keyiterator.__iter__") (@I_) rfl (@B_) (@I_)
def qz (a:Value):argsOk "set_iterator.__iter__" ⟨[a],[]⟩:=by unfold argsOk;kernel_rfl
def HZ (a:Addr)(slot given ep0:Nat):setNext a slot given ep0=(do
  let (es,epoch,t) <-setState a
  if (<-ask).params.followText "set-order" then
   if epoch != ep0 then unsupported "set_iterator.__next__:elements-changed"
   return ((<-setWalk a)[given]?).map λe=>(e.2,slot)
  if !t.plain && es.size > 1 then unsupported "set_iterator.__next__:the-table-is-plain-no-more"
  let u:Unit <-(show Sem Unit from do if !t.led && !es.isEmpty then unsupported "set:maker-not-led")
  let i:=SetTable.below t.place slot
  return match es[i]?,t.place[i]? with
   |some (_,x),some j=>some (x,j + 1)
   |_,_=>none):=by
 unfold setNext setsByText
 simp only[bind_assoc,pure_bind]
 rfl
def GA (a:Addr):setWalk a=(do
  let (es,epoch,t) <-setState a
  if (<-ask).params.followText "set-order" then return pickOrder ((<-ask).params.setOrder a epoch) es
  if !t.plain && es.size > 1 then return (<-drawOrder es.size es.toList).toArray
  let u:Unit <-(show Sem Unit from do if !t.led && es.size > 1 then unsupported "set:maker-not-led")
  return es):=by
 unfold setWalk setsByText
 simp only[bind_assoc,pure_bind]
 rfl
def Dt (a:Addr):setDrawn a=(do
  let (es,_,t) <-setState a
  let byText <-(do return (<-ask).params.followText "set-order")
  return !byText && (!t.plain && es.size > 1)):=rfl
theorem jm {α:Type}:∀(l:List α) (i:Nat) (h:i < l.length),(l[i] :: l.eraseIdx i).Perm l
 |a :: l,0,_=>List.Perm.refl _
 |a :: l,i + 1,h=>by
  have hi:i < l.length:=by simpa using h
  show (l[i] :: a :: l.eraseIdx i).Perm (a :: l)
  exact (List.Perm.swap ..).trans ((jm l i hi).cons a)
theorem uI {α:Type}(next:Nat->Nat):∀(fuel k:Nat) (left:List α) (out:Array α),left.length=fuel->(pickOrder.go next fuel k left out).toList.Perm (out.toList ++ left)
 | 0,k,left,out,h=>by
  have:left= []:=List.length_eq_zero_iff.mp h
  subst this
  unfold pickOrder.go
  simp
 |fuel + 1,k,left,out,h=>by
  unfold pickOrder.go
  have hlt:next k % left.length < left.length:=Nat.mod_lt _ (@AT)
  rw[Pn hlt]
  dsimp only
  refine (uI next fuel (k + 1) _ _ (by rw[List.length_eraseIdx_of_lt hlt];omega)).trans ?_
  rw[Array.toList_push,QN]
  refine List.Perm.append_left _ ?_
  exact jm left _ hlt
def l6 {α:Type}(next:Nat->Nat)(xs:Array α):(pickOrder next xs).toList.Perm xs.toList:=by
 have:=uI next xs.size 0 xs.toList #[] @Go
 simpa[pickOrder] using this
section
variable {prog:Program}{w:World}{A:Around}{E:@Ch}{s:Shared}
def told (w:World)(S:Addr)(ep:Nat)(es:Array (Int×Value)):Array (Int×Value):=if w.params.followText "set-order" then pickOrder (w.params.setOrder S ep) es else es
def uO (w:World)(S:Addr)(ep:Nat)(es:Array (Int×Value)):(told w S ep es).toList.Perm es.toList:=by
 unfold told;split
 ·exact l6 _ _
 ·exact List.Perm.refl _
abbrev xy (S:Addr)(slot k n ep:Nat):Obj:={cls:=.type "set_iterator",data:=.fields #[.int (slot:Int) 0,.int (k:Int) 0,.ref S,.int (n:Int) 0,.int (ep:Int) 0]}
structure oR (w:World)(S:Addr)(o:Obj)(es:Array (Int×Value))(ep:Nat)(t:SetTable)(I:Addr)(k:Nat)(h:Heap):Prop where
 set:h.get? S=some o
 data:o.data=.set es ep t
 cls:o.cls=.type "set"
 tab:Tab t (es.toList.map (·.1))
 led:t.led=kM w
 it:∃slot,h.get? I=some (xy S slot k es.size ep)/\(kM w=true->slot=if k=0 then 0 else t.place.getD (k - 1) 0 + 1)
def oR.fits {S I:Addr}{o:Obj}{es:Array (Int×Value)}{ep k:Nat}{t:SetTable}{h:Heap}(X:oR w S o es ep t I k h):t.fits es.size=true:=rY X.tab @Go
theorem AN {S I:Addr}{o:Obj}{es:Array (Int×Value)}{ep k slot:Nat}{t:SetTable}{Q:Option (Value×Nat)->@Rs}(X:oR w S o es ep t I k s.heap)(hk:k<=es.size)(hs:kM w=true->slot=if k=0 then 0 else t.place.getD (k - 1) 0 + 1)
  (h:∀(r:Option (Value×Nat)),(k < es.size->∃x nx,r=some (x,nx)/\(told w S ep es)[k]?.map (·.2)=some x/\(kM w=true->nx=t.place.getD k 0 + 1))->(k=es.size->r=none)->Q r s) :
  wpAny (@NE) A (setNext S slot k ep) Q E s:=by
 rw[HZ]
 refine Pl (QB X.set X.data X.fits ?_)
 dsimp only
 refine Pl (Sg ?_)
 dsimp only
 cases hb:w.params.followText "set-order" with
 |true=>
  rw[Po (show (@NE).w.params.followText "set-order"=true from hb)]
  simp only[bne_self_eq_false,P0,Qq]
  rw[GA]
  refine Pl (Pl (QB X.set X.data X.fits ?_))
  dsimp only
  refine Pl (Sg ?_)
  dsimp only
  rw[Po (show (@NE).w.params.followText "set-order"=true from hb)]
  refine Pl (Sg (Pp (Pp ?_)))
  have et:told w S ep es=pickOrder (w.params.setOrder S ep) es:=by unfold told;rw[Po hb]
  have hsz:(pickOrder (w.params.setOrder S ep) es).size=es.size:=by
   have:=(l6 (w.params.setOrder S ep) es).length_eq;simpa using this
  refine h _ (λhlt=>?_) (λe=>?_)
  ·have hlt':k < (pickOrder (w.params.setOrder S ep) es).size:=by rw[hsz];exact hlt
   refine⟨(pickOrder (w.params.setOrder S ep) es)[k].2,slot,?_,?_,λz=>?_⟩
   ·show Option.map _ (pickOrder (w.params.setOrder S ep) es)[k]? =_
    rw[Qd hlt'];rfl
   ·rw[et,Qd hlt'];rfl
   ·unfold kM at z;rw[hb] at z;cases z
  ·show Option.map _ (pickOrder (w.params.setOrder S ep) es)[k]? =_
   rw[R5 (by rw[hsz];omega)];rfl
 |false=>
  rw[Px (show ¬(@NE).w.params.followText "set-order"=true by intro z;rw[show (@NE).w.params.followText "set-order"=false from hb] at z;cases z)]
  have hl:kM w=true:=by unfold kM;rw[hb];rfl
  rw[X.tab.plain,X.led,hl]
  simp only[RZ,Bool.false_and,P0,Qq]
  have et:told w S ep es=es:=by unfold told;rw[hb];simp
  have hps:t.place.size=es.size:=by simpa using X.tab.size
  have hbl:below t.place slot=k:=by
   rw[hs hl]
   obtain⟨b1,b2,b3⟩:=fy X.tab.rise (if k=0 then 0 else t.place.getD (k - 1) 0 + 1)
   by_cases k0:k=0
   ·subst k0
    simp only[QC] at b1 b2 b3 ⊢
    rcases Nat.eq_zero_or_pos (below t.place 0) with z |z
    ·exact z
    ·have:=b2 0 z;omega
   ·rw[Px k0] at b1 b2 b3 ⊢
    have hk1:k - 1 < t.place.size:=@AT
    rcases Sy (below t.place (t.place.getD (k - 1) 0 + 1)) k with z |z |z
    ·have q:=b3 (k - 1) (@AT) hk1
     have e:t.place.getD (k - 1) (t.place.getD (k - 1) 0 + 1)=t.place.getD (k - 1) 0:=by simp[Array.getD,hk1]
     omega
    ·exact z
    ·have hks:k < t.place.size:=@AT
     have q:=b2 k z
     have e:t.place.getD k (t.place.getD (k - 1) 0 + 1)=t.place.getD k 0:=by simp[Array.getD,hks]
     have:=jN (d:=0) X.tab.rise (show k - 1 < k by omega) hks
     omega
  refine Pp ?_
  rw[hbl]
  refine h _ (λhlt=>?_) (λe=>?_)
  ·have hlt2:k < t.place.size:=@AT
   refine⟨es[k].2,t.place[k] + 1,?_,?_,λ_=>?_⟩
   ·rw[Qd hlt,Qd hlt2]
   ·rw[et,Qd hlt];rfl
   ·simp[Array.getD,hlt2]
  ·rw[R5 (@AT)]
def BH {S I:Addr}{o:Obj}{es:Array (Int×Value)}{ep:Nat}{t:SetTable}(hh:A.handled=none)(hne:S≠I) :
  Walks prog w A I [I,S] [I] es.size (λi v=>(told w S ep es)[i]?.map (·.2)=some v) (λi h=>oR w S o es ep t I i h) where
 sub:=λb hb=>Pu.mpr (.inl (P6.mp hb))
 frame:=λi h h' X k=>by
  obtain⟨slot,e,r⟩:=X.it
  exact⟨k S @Go _ X.set,X.data,X.cls,X.tab,X.led,slot,k I @Go _ e,r⟩
 item:=λi s Q E hi X hQ=>by
  obtain⟨slot,e,r⟩:=X.it
  have hT:s.TypeIs (.ref I) "set_iterator":=⟨_,e,rfl⟩
  unfold pyNext
  refine Pl (wpAny_attempt (RY (name:=Str.ofString "__next__") hT cq (Rw cq hT j9 ?_ (lI _))))
  unfold Builtin.«set_iterator.__next__»
  refine Pl (m:=slotArgs "__next__" 0 _) (Pp ?_)
  dsimp only
  unfold fieldsOf
  refine Pl (Pl (wpAny_load e (Pp ?_)))
  dsimp only
  unfold setEntries
  refine Pl (Pl (QB X.set X.data X.fits (Pp ?_)))
  dsimp only
  rw[Px @Go]
  refine Pl ?_
  simp only[Qj]
  refine AN X (R9 hi) r λrr h1 _=>?_
  obtain⟨x,nx,rfl,h2,h3⟩:=h1 hi
  dsimp only
  refine Pl (Se e rfl @Go ?_)
  have e2:=Qw (Obj.mapFields λvs=>vs.setIfInBounds 0 (rawInt (nx:Int))) e rfl
  refine Pl (Se e2 rfl @Go ?_)
  refine Pp ⟨x,rfl,Pp ?_⟩
  have sb:=(Heap.SameBut.update s.heap I (Obj.mapFields λvs=>vs.setIfInBounds 0 (rawInt (nx:Int)))).trans (Heap.SameBut.update _ I (Obj.mapFields λvs=>vs.setIfInBounds 1 (rawInt (@S0 + 1))))
  refine hQ x _ _ h2 ⟨(sb.2 S hne).trans X.set,X.data,X.cls,X.tab,X.led,nx,?_,λz=>?_⟩ λb o hb eb=>(sb.2 b (by simpa using hb)).trans eb
  ·exact Qw (Obj.mapFields λvs=>vs.setIfInBounds 1 (rawInt (@S0 + 1))) e2 rfl
  ·rw[Px (@AT)];exact h3 z
 done:=λs Q E X hQ=>by
  obtain⟨slot,e,r⟩:=X.it
  have hT:s.TypeIs (.ref I) "set_iterator":=⟨_,e,rfl⟩
  unfold pyNext
  refine Pl (wpAny_attempt (RY (name:=Str.ofString "__next__") hT cq (Rw cq hT j9 ?_ (lI _))))
  unfold Builtin.«set_iterator.__next__»
  refine Pl (m:=slotArgs "__next__" 0 _) (Pp ?_)
  dsimp only
  unfold fieldsOf
  refine Pl (Pl (wpAny_load e (Pp ?_)))
  dsimp only
  unfold setEntries
  refine Pl (Pl (QB X.set X.data X.fits (Pp ?_)))
  dsimp only
  rw[Px @Go]
  refine Pl ?_
  simp only[Qj]
  refine AN X (Pt _) r λrr _ h1=>?_
  rw[h1 rfl]
  dsimp only
  refine Pl (Se e rfl @Go ?_)
  (show wpAny _ _ (newExc (.type "StopIteration") [] >>= λx=>raiseNew x) _ _ _)
  refine Pl ?_
  simp only[newExc,newTuple]
  (refine Pl (QF ?_ (by size_fits)))
  (refine Pl (m:=firstArgMember _ _) (wpAny_of_eq (a:=Value.none) (by first |rfl | (simp only[firstArgMember];rfl)) ?_))
  (refine QF ?_ (by size_fits))
  simp only[raiseNew]
  refine Pl (wpAny_handled ?_)
  (rw[show A.in1.handled=none from hh])
  refine Pl (Pp (wpAny_throw ?_))
  refine Pl (wpAny_isInstance (T:="StopIteration") (b:=true) ⟨_,PX _ rfl,rfl⟩ isSubtype_stop (Pp (hQ _ _ λb o hb eb=>?_)))
  exact Pq _ (Pq _ (((Heap.SameBut.update ..).2 b (by simpa using hb)).trans eb))
 self:=λi s Q E X hQ=>by
  obtain⟨slot,e,r⟩:=X.it
  have hT:s.TypeIs (.ref I) "set_iterator":=⟨_,e,rfl⟩
  refine wpAny_pyIter_slot hT lJ (Rw lJ hT pQ ?_ (qz _))
  show wpAny _ _ (ret (.ref I)) _ _ s
  exact Pp ⟨_,rfl,"set_iterator",_,hT,cq.lookup,hQ⟩
def FO {S:Addr}{o:Obj}{es:Array (Int×Value)}{ep:Nat}{t:SetTable}{Q:@Ch}(ho:s.heap.get? S=some o)(hd:o.data=.set es ep t)(hc:o.cls=.type "set")(T:Tab t (es.toList.map (·.1)))(hl:t.led=kM w)
  (h:Q (@LE) {s with heap:=s.heap.push (xy S 0 0 es.size ep)}):wpAny (@NE) A (pyIter (.ref S)) Q E s:=by
 have hT:s.TypeIs (.ref S) "set":=⟨o,ho,hc⟩
 have hf:t.fits es.size=true:=rY T @Go
 refine wpAny_pyIter_slot hT F.slot_set_iter (Rw F.slot_set_iter hT rg ?_ (F.args_set_iter_1 _))
 unfold Builtin.«frozenset.__iter__» Builtin.Frozenset.slot0
 refine Pl (Pl (m:=slotArgs "__iter__" 0 _) (Pp (Pp ?_)))
 unfold Builtin.Frozenset.sizeOf setEntries
 refine Pl (Pl (Pl (QB ho hd hf (Pp (Pp ?_)))))
 rw[Dt]
 refine Pl (Pl (QB ho hd hf ?_))
 dsimp only
 refine Pl (Pl (Sg (Pp (Pp ?_))))
 rw[T.plain]
 simp only[RZ,Bool.false_and,Bool.and_false,P0,Qq]
 refine Pl (Pp ?_)
 unfold setEpoch
 refine Pl (Pl (QB ho hd hf (Pp ?_)))
 refine Pl (QF (Pp ⟨_,rfl,"set_iterator",_,⟨_,PX _ rfl,rfl⟩,cq.lookup,h⟩))
def xT {S:Addr}{o:Obj}{es:Array (Int×Value)}{ep:Nat}{t:SetTable}{Q:@GM->@Rs}(hh:A.handled=none)(ho:s.heap.get? S=some o)(hd:o.data=.set es ep t)(hc:o.cls=.type "set")(T:Tab t (es.toList.map (·.1)))(hl:t.led=kM w)
  (hn:es.size<=64) (h:∀h' tk vs,vs=(told w S ep es).toList.map (·.2)->(∀b o,s.heap.get? b=some o->h'.get? b=some o)->Q vs {s with heap:=h',toks:=tk}):wpAny (@NE) A (collect (.ref S)) Q E s:=by
 have hz:es.size<=sizeLine:=by rw[Qc];omega
 unfold collect
 (refine Pl (wpAny_runValue (Rn F.entry_proto_collect ?_)))
 (rw[Q5 F.plain_proto_collect _])
 show wpAny _ A.in1 (newList [] >>= λl=>again (.builtin "list.__iadd__" ⟨[l,.ref S],[]⟩)) _ _ s
 refine Pl (QF ?_)
 (refine Pp ⟨Si F.plain_list_iadd _,Rn F.entry_list_iadd ?_⟩)
 (rw[Q5 F.plain_list_iadd _])
 show wpAny _ A.in1 (Builtin.List.listExtendWith (@LE) (.ref S) (@LE)) _ _ {s with heap:=s.heap.push (seqObj "list" #[] 0)}
 generalize hH:s.heap.push (seqObj "list" #[] 0)=H1
 have kp1:∀b o,s.heap.get? b=some o->H1.get? b=some o:=λb o e=>by rw[<-hH];exact Pq _ e
 have hD:H1.get? s.heap.objs.size=some (seqObj "list" #[] 0):=by rw[<-hH];exact PX _ rfl
 have hHs:H1.objs.size=s.heap.objs.size + 1:=by rw[<-hH];exact Q6 ..
 have hSD:S≠s.heap.objs.size:=Qg (PB ho)
 have hT:Shared.TypeIs {s with heap:=H1} (.ref S) "set":=⟨o,kp1 _ _ ho,hc⟩
 unfold Builtin.List.listExtendWith
 refine Pl (RB hT ?_)
 have h1:Builtin.List.listSameRef (@LE) (.ref S)=false:=by simp[Builtin.List.listSameRef,Ne.symm hSD]
 have h2:(Value.type "set" == Value.type "list")=false:=by decide
 have h3:(Value.type "set" == Value.type "tuple")=false:=by decide
 rw[h1,h2,h3]
 simp only[Bool.or_false,P0,Qq]
 refine Pl (FO (s:={s with heap:=H1}) (kp1 _ _ ho) hd hc T hl ?_)
 refine Pl (QI ?_)
 unfold Builtin.List.listLengthHint
 have hT2:Shared.TypeIs {s with heap:=H1.push (xy S 0 0 es.size ep)} (.ref S) "set":=⟨o,Pq _ (kp1 _ _ ho),hc⟩
 refine Pl (wpAny_specialOf hT2 F.slot_set_len.lookup ?_)
 wp_delta
 refine Pl (wpAny_isInstance hT2 (b:=true) (by rw[Ry];kernel_rfl) ?_)
 show wpAny _ A.in1 (typeOf (Value.ref S) >>= λ_=>_) _ _ _
 refine Pl (RB hT2 ?_)
 refine Pp ?_
 show wpAny _ A.in1 (rule "list.extend.makes-room" >>= λ_=>Builtin.List.listTouch (@LE) >>= λ_=>again (.builtin "list.extend.loop" ⟨[@LE,.ref H1.objs.size,@LE],[]⟩)) _ _ _
 refine Pl (wpAny_rule (Pl ?_))
 generalize hH2:H1.push (xy S 0 0 es.size ep)=H2
 have kp2:∀b o,H1.get? b=some o->H2.get? b=some o:=λb o e=>by rw[<-hH2];exact Pq _ e
 have hI:H2.get? H1.objs.size=some (xy S 0 0 es.size ep):=by rw[<-hH2];exact PX _ rfl
 have hS0:=kp2 _ _ hD
 show wpAny _ A.in1 (updateSeq s.heap.objs.size (·.push .none) >>= λ_=>updateSeq s.heap.objs.size (·.pop)) _ _ _
 refine Pl (wpAny_updateSeq (s:={s with heap:=H2}) hS0 rfl ?_)
 have hS2:=Qw (Obj.mapSeq (·.push Value.none)) hS0 rfl
 refine wpAny_updateSeq (hz:=by seq_fits) hS2 rfl ?_
 have hS3:=Qw (Obj.mapSeq (·.pop)) hS2 rfl
 have oth:∀b o,b≠s.heap.objs.size->H2.get? b=some o->((H2.update s.heap.objs.size (Obj.mapSeq (·.push Value.none))).update s.heap.objs.size (Obj.mapSeq (·.pop))).get? b=some o:=λb o hb e=>
  ((Heap.SameBut.update _ s.heap.objs.size (Obj.mapSeq (·.pop))).2 b hb).trans (((Heap.SameBut.update H2 s.heap.objs.size (Obj.mapSeq (·.push Value.none))).2 b hb).trans e)
 have hIS:S≠H1.objs.size:=by rw[hHs];exact Qg (Nat.lt_succ_of_lt (PB ho))
 have hID:H1.objs.size≠s.heap.objs.size:=by rw[hHs];exact Nat.succ_ne_self _
 have hDf:s.heap.objs.size∉ [H1.objs.size,S]:=λz=>by
  rcases Pu.mp z with e |z
  ·exact hID e.symm
  ·exact hSD (P6.mp z).symm
 have X0:oR w S o es ep t H1.objs.size 0 ((H2.update s.heap.objs.size (Obj.mapSeq (·.push Value.none))).update s.heap.objs.size (Obj.mapSeq (·.pop))):=
  ⟨oth _ _ hSD (kp2 _ _ (kp1 _ _ ho)),hd,hc,T,hl,0,oth _ _ hID hI,λ_=>rfl⟩
 refine Pp ⟨Si F.plain_extend_loop _,codeAny_extend_loopS (BH (A:=A.in1) (o:=o) (t:=t) hh hIS).toS hz _ hDf _ es.size 0 _ _ _ rfl (Qp _) X0 hS3 (ItemsOf.nil _) λs' acc' c' hm hS' hacc=>?_⟩
 show wpAny _ A (load s.heap.objs.size >>= λ_=>_) _ _ s'
 refine Pl (wpAny_load hS' (Pp ?_))
 obtain⟨h',g',d',tk',os'⟩:=s'
 have eg:g'=s.gens:=hm.gens
 have ed:d'=s.drawn:=hm.drawn
 have eo:os'=s.os:=hm.os
 subst eg ed eo
 refine h h' tk' acc'.toList ?_ λb ob e=>hm.heap b ob (λhb=>?_) (oth b ob (Qg (PB e)) (kp2 _ _ (kp1 _ _ e)))
 ·have hts:(told w S ep es).size=es.size:=by have:=(uO w S ep es).length_eq;simpa using this
  apply SD
  intro i
  rw[PK]
  by_cases hi:i < es.size
  ·have hi1:i < acc'.size:=by rw[hacc.1];exact hi
   have q:=hacc.2 i acc'[i] (Qd hi1)
   rw[Rk,Rk,Qd hi1]
   exact q.symm
  ·rw[Rk,Rk,R5 (by rw[hacc.1];omega),R5 (@AT)];rfl
 ·have hlt:=PB e
  rcases Pu.mp hb with z |z
  ·rw[z] at hlt;exact Qe _ hlt
  ·rw[P6.mp z,hHs] at hlt;exact absurd hlt (Nat.not_lt.mpr (Nat.le_succ _))
end
end L2.ST
namespace OM
abbrev Pr:=Int×Int
def FZ (p q:Pr):Prop:=p.1 < q.1\/(p.1=q.1/\p.2 < q.2)
def kG (p:Pr):¬FZ p p:=by unfold FZ;omega
def B6 {p q r:Pr}(a:FZ p q)(b:FZ q r):FZ p r:=by unfold FZ at *;omega
abbrev vS (l:@Do):Prop:=l.Pairwise FZ
theorem fT:∀{l m:@Do},vS l->vS m->(∀x,x∈l↔x∈m)->l=m
 | [],[],_,_,_=>rfl
 | [],b :: m,_,_,h=>absurd ((h b).mpr (Pz ..)) @Go
 |a :: l,[],_,_,h=>absurd ((h a).mp (Pz ..)) @Go
 |a :: l,b :: m,hl,hm,h=>by
  have hl':=List.pairwise_cons.mp hl
  have hm':=List.pairwise_cons.mp hm
  have e:a=b:=by
   rcases Pu.mp ((h a).mp (Pz ..)) with e |e
   ·exact e
   ·rcases Pu.mp ((h b).mpr (Pz ..)) with e' |e'
    ·exact e'.symm
    ·exact absurd (B6 (hm'.1 a e) (hl'.1 b e')) (kG _)
  subst e
  congr 1
  refine fT hl'.2 hm'.2 λx=>⟨λhx=>?_,λhx=>?_⟩
  ·rcases Pu.mp ((h x).mp (Pw _ hx)) with e |e
   ·subst e;exact absurd (hl'.1 x hx) (kG _)
   ·exact e
  ·rcases Pu.mp ((h x).mpr (Pw _ hx)) with e |e
   ·subst e;exact absurd (hm'.1 x hx) (kG _)
   ·exact e
def iX {l:@Do}(h:vS l):l.Nodup:=h.imp λ{a b} hab e=>by subst e;exact kG _ hab
def cS {l:@Do}(p:Pr->Bool)(h:vS l):vS (l.filter p):=h.sublist List.filter_sublist
def cn (n:Nat):@Do:=(List.range (n * n)).map λk=>(((k / n:Nat):Int),((k % n:Nat):Int))
def bo {n:Nat}{p:Pr}:p∈cn n↔@S1:=by
 unfold cn
 rw[PD]
 constructor
 ·rintro⟨k,hk,rfl⟩
  have hk:=P4.mp hk
  have hn:0 < n:=by
   rcases Nat.eq_zero_or_pos n with e |e
   ·subst e;omega
   ·exact e
  have h1:k / n < n:=Nat.div_lt_of_lt_mul hk
  have h2:k % n < n:=Nat.mod_lt _ hn
  generalize k / n=q at h1
  generalize k % n=r at h2
  exact⟨⟨Int.natCast_nonneg _,by dsimp only;omega⟩,⟨Int.natCast_nonneg _,by dsimp only;omega⟩⟩
 ·rintro⟨⟨a0,a1⟩,⟨b0,b1⟩⟩
  have hn:0 < n:=@AT
  refine⟨p.1.toNat * n + p.2.toNat,P4.mpr ?_,?_⟩
  ·have h1:p.1.toNat + 1<=n:=@AT
   have h2:p.2.toNat < n:=@AT
   have:=Nat.mul_le_mul_right n h1
   rw[Nat.add_mul] at this
   omega
  ·have h2:p.2.toNat < n:=@AT
   have e1:(p.1.toNat * n + p.2.toNat) / n=p.1.toNat:=by
    rw[Nat.mul_comm,Nat.mul_add_div hn,Nat.div_eq_of_lt h2];rfl
   have e2:(p.1.toNat * n + p.2.toNat) % n=p.2.toNat:=by
    rw[Nat.mul_comm,Nat.mul_add_mod,Nat.mod_eq_of_lt h2]
   rw[e1,e2]
   refine Prod.ext ?_ ?_ <;> dsimp only <;> omega
def fN (n:Nat):vS (cn n):=by
 unfold cn
 refine Qv.mpr (QP ?_ List.pairwise_lt_range)
 intro a b ha hb hab
 have ha:=P4.mp ha
 have hb:=P4.mp hb
 have hn:0 < n:=by
  rcases Nat.eq_zero_or_pos n with e |e
  ·subst e;omega
  ·exact e
 have h1:a / n<=b / n:=Nat.div_le_div_right (R9 hab)
 have e1:=Nat.div_add_mod a n
 have e2:=Nat.div_add_mod b n
 unfold FZ
 dsimp only
 rcases QJ (a / n) (b / n) with c |c
 ·left;omega
 ·right
  have e:a / n=b / n:=@AT
  rw[e] at e1
  omega
open Classical in
noncomputable def bW (n:Nat)(R:Int->Int->Prop):@Do:=(cn n).filter λp=>decide (R p.1 p.2)
def bc {n:Nat}{R:Int->Int->Prop}{p:Pr}:p∈bW n R↔(@S1)/\R p.1 p.2:=by
 unfold bW
 rw[PH,bo]
 simp
def cK (n:Nat)(R:Int->Int->Prop):vS (bW n R):=cS _ (fN n)
def zX {n:Nat}{R S:Int->Int->Prop}(h:∀a b:Int,0<=a->a < n->0<=b->b < n->(R a b↔S a b)):bW n R=bW n S:=by
 refine fT (cK n R) (cK n S) λx=>?_
 rw[bc,bc]
 constructor
 ·rintro⟨⟨⟨a,b⟩,c,d⟩,r⟩;exact⟨⟨⟨a,b⟩,c,d⟩,(h _ _ a b c d).mp r⟩
 ·rintro⟨⟨⟨a,b⟩,c,d⟩,r⟩;exact⟨⟨⟨a,b⟩,c,d⟩,(h _ _ a b c d).mpr r⟩
def Wn (n:Nat)(l:@Do):Prop:=∀p,p∈l->@S1
abbrev Mem (l:@Do)(a b:Int):Prop:=(a,b)∈l
def CT {n:Nat}{l:@Do}(w:Wn n l)(r:vS l):bW n (Mem l)=l:=by
 refine fT (cK n _) r λx=>?_
 rw[bc]
 exact⟨λh=>h.2,λh=>⟨w x h,h⟩⟩
def qL (n:Nat)(R:Int->Int->Prop):Wn n (bW n R):=λ_ h=>(bc.mp h).1
def Du (n:Nat)(R:Int->Int->Prop):(bW n R).length<=n * n:=by
 unfold bW
 refine QA (Qr ..) ?_
 unfold cn;simp
inductive Tr (R:Int->Int->Prop):Int->Int->Prop
 |one {a b}:R a b->Tr R a b
 |more {a b c}:R a b->Tr R b c->Tr R a c
theorem Tr.trans {R:Int->Int->Prop}{a b c:Int}(h:Tr R a b)(k:Tr R b c):Tr R a c:=by
 induction h with
 |one r=>exact .more r k
 |more r _ ih=>exact .more r (ih k)
theorem Tr.least {R S:Int->Int->Prop}(f:∀a b,R a b->S a b)(t:∀a b c,S a b->S b c->S a c){a b:Int}(h:Tr R a b):S a b:=by
 induction h with
 |one r=>exact f _ _ r
 |more r _ ih=>exact t _ _ _ (f _ _ r) ih
structure Ord (n:Nat)(l:@Do):Prop where
 lo:1<=n
 hi:n<=8
 wn:Wn n l
 ris:vS l
 irr:∀a,(a,a)∉l
 tr:∀a b c,(a,b)∈l->(b,c)∈l->(a,c)∈l
def Ord.tr_mem {n:Nat}{l:@Do}(O:Ord n l){a b:Int}:Tr (Mem l) a b↔(a,b)∈l:=
 ⟨λh=>h.least (λ_ _ r=>r) λa b c=>O.tr a b c,λh=>.one h⟩
def Ord.closed {n:Nat}{l:@Do}(O:Ord n l):bW n (Tr (Mem l))=l:=by
 rw[zX (S:=Mem l) λa b _ _ _ _=>O.tr_mem,CT O.wn O.ris]
def J2 {n:Nat}{l:@Do}(h1:1<=n)(h8:n<=8)(w:Wn n l)(hr:∀a,¬Tr (Mem l) a a):Ord n (bW n (Tr (Mem l))):=
 ⟨h1,h8,qL n _,cK n _,λa h=>hr a (bc.mp h).2,λa b c h k=>bc.mpr ⟨⟨(bc.mp h).1.1,(bc.mp k).1.2⟩,(bc.mp h).2.trans (bc.mp k).2⟩⟩
theorem iB {l m:@Do}(hl:l.Nodup)(h:∀x,x∈l->x∈m):l.length<=m.length:=by
 induction l generalizing m with
 |nil=>exact Qp _
 |cons a l ih=>
  have ha:=h a (Pz ..)
  have hl':=Qh.mp hl
  have:=ih (m:=m.erase a) hl'.2 λx hx=>by
   refine (List.mem_erase_of_ne ?_).mpr (h x (Pw _ hx))
   rintro rfl;exact hl'.1 hx
  rw[RS ha] at this
  have:0 < m.length:=List.length_pos_of_mem ha
  simp only[P7];omega
def sub_eq {l m:@Do}(hl:vS l)(hm:vS m)(h:∀x,x∈l->x∈m)(e:l.length=m.length):l=m:=by
 refine fT hl hm λx=>⟨h x,λhx=>Classical.byContradiction λhn=>?_⟩
 have:=iB (l:=x :: l) (m:=m) (Qh.mpr ⟨hn,iX hl⟩) λy hy=>by
  rcases Pu.mp hy with e |e
  ·subst e;exact hx
  ·exact h y e
 simp only[P7] at this
 omega
def more (l:@Do):@Do:=l.flatMap λp=>(l.filter λq=>decide (q.1=p.2)).map λq=>(p.1,q.2)
def rN {l:@Do}{x:Pr}:x∈more l↔∃b,(x.1,b)∈l/\(b,x.2)∈l:=by
 unfold more
 rw[List.mem_flatMap]
 constructor
 ·rintro⟨p,hp,hx⟩
  obtain⟨q,hq,rfl⟩:=PD.mp hx
  obtain⟨hq,e⟩:=PH.mp hq
  have e:q.1=p.2:=by simpa using e
  exact⟨p.2,hp,by rw[<-e];exact hq⟩
 ·rintro⟨b,h1,h2⟩
  exact⟨(x.1,b),h1,PD.mpr ⟨(b,x.2),PH.mpr ⟨h2,by simp⟩,rfl⟩⟩
noncomputable def mH (n:Nat)(l:@Do):@Do:=bW n (Mem (l ++ more l))
structure Ja (n:Nat)(ps l:@Do):Prop where
 wn:Wn n l
 ris:vS l
 sub:∀x,x∈ps->x∈l
 sup:∀x,x∈l->Tr (Mem ps) x.1 x.2
def Cj {n:Nat}{ps:@Do}(w:Wn n ps):Ja n ps (bW n (Mem ps)):=
 ⟨qL n _,cK n _,λx hx=>bc.mpr ⟨w x hx,hx⟩,λ_ hx=>.one (bc.mp hx).2⟩
def Fu {n:Nat}{ps l:@Do}(B:Ja n ps l):Wn n (l ++ more l):=λx hx=>by
 rcases PQ.mp hx with h |h
 ·exact B.wn x h
 ·obtain⟨b,h1,h2⟩:=rN.mp h
  exact⟨(B.wn _ h1).1,(B.wn _ h2).2⟩
def xh {n:Nat}{ps l:@Do}(B:Ja n ps l):Ja n ps (mH n l)/\∀x,x∈l->x∈mH n l:=by
 have hs:∀x,x∈l->x∈mH n l:=λx hx=>bc.mpr ⟨B.wn x hx,QR _ hx⟩
 refine⟨⟨qL n _,cK n _,λx hx=>hs x (B.sub x hx),λx hx=>?_⟩,hs⟩
 rcases PQ.mp (bc.mp hx).2 with h |h
 ·exact B.sup _ h
 ·obtain⟨b,h1,h2⟩:=rN.mp h
  exact (B.sup _ h1).trans (B.sup _ h2)
def FK {n:Nat}{ps l:@Do}(B:Ja n ps l)(e:(mH n l).length=l.length):mH n l=bW n (Tr (Mem ps)):=by
 obtain⟨B2,hs⟩:=xh B
 have q:l=mH n l:=sub_eq B.ris B2.ris hs e.symm
 refine fT B2.ris (cK n _) λx=>⟨λh=>bc.mpr ⟨B2.wn x h,B2.sup x h⟩,λh=>?_⟩
 rw[<-q]
 have tr:∀a b c:Int,(a,b)∈l->(b,c)∈l->(a,c)∈l:=λa b c h1 h2=>by
  rw[q]
  exact bc.mpr ⟨⟨(B.wn _ h1).1,(B.wn _ h2).2⟩,Qi _ (rN.mpr ⟨b,h1,h2⟩)⟩
 exact (bc.mp h).2.least (S:=Mem l) (λa b r=>B.sub _ r) tr
abbrev Tb:=Nat->Nat->Bool
def Tb.set (M:Tb)(a b:Nat):Tb:=λx y=>if x=a/\y=b then true else M x y
def Gd (M:Tb)(m:Nat):Prop:=∀k a b,k < m->M a k=true->M k b=true->M a b=true
def Phase (M0 M:Tb)(m:Nat)(D:Nat->Nat->Prop):Prop:=∀a b,M a b=true↔M0 a b=true\/(D a b/\M0 a m=true/\M0 m b=true)
def Phase.start (M:Tb)(m:Nat):Phase M M m λ_ _=>False:=λa b=>by simp
def Phase.row {M0 M:Tb}{m:Nat}{D:Nat->Nat->Prop}(P:Phase M0 M m D)(a:Nat):M a m=true↔M0 a m=true:=by
 rw[P]
 exact⟨λh=>h.elim id λh=>h.2.1,.inl⟩
def Phase.col {M0 M:Tb}{m:Nat}{D:Nat->Nat->Prop}(P:Phase M0 M m D)(b:Nat):M m b=true↔M0 m b=true:=by
 rw[P]
 exact⟨λh=>h.elim id λh=>h.2.2,.inl⟩
def Phase.step {M0 M:Tb}{m:Nat}{D:Nat->Nat->Prop}(P:Phase M0 M m D)(x y:Nat) :
  Phase M0 (if M x m=true/\M m y=true then M.set x y else M) m (λa b=>D a b\/(a=x/\b=y)):=λa b=>by
 have r:=P.row x
 have c:=P.col y
 by_cases h:M x m=true/\M m y=true
 ·rw[Po h]
  unfold Tb.set
  by_cases e:a=x/\b=y
  ·rw[Po e]
   obtain⟨rfl,rfl⟩:=e
   simp only[true_iff]
   exact .inr ⟨.inr @Go,r.mp h.1,c.mp h.2⟩
  ·rw[Px e,P]
   constructor
   ·rintro (q | ⟨d,q⟩)
    ·exact .inl q
    ·exact .inr ⟨.inl d,q⟩
   ·rintro (q | ⟨d |d,q⟩)
    ·exact .inl q
    ·exact .inr ⟨d,q⟩
    ·exact absurd d e
 ·rw[Px h,P]
  constructor
  ·rintro (q | ⟨d,q⟩)
   ·exact .inl q
   ·exact .inr ⟨.inl d,q⟩
  ·rintro (q | ⟨d | ⟨rfl,rfl⟩,q1,q2⟩)
   ·exact .inl q
   ·exact .inr ⟨d,q1,q2⟩
   ·exact absurd ⟨r.mpr q1,c.mpr q2⟩ h
def Phase.done {M0 M:Tb}{m n:Nat}{D:Nat->Nat->Prop}(P:Phase M0 M m D)(hD:∀a b,a < n->b < n->D a b)(hM:∀a b,M0 a b=true->a < n/\b < n)(T:Gd M0 m) :
  Gd M (m + 1)/\∀a b,M a b=true->a < n/\b < n:=by
 have hM':∀a b,M a b=true->a < n/\b < n:=λa b h=>by
  rcases (P a b).mp h with q | ⟨_,q1,q2⟩
  ·exact hM a b q
  ·exact⟨(hM _ _ q1).1,(hM _ _ q2).2⟩
 have put:∀a b,M0 a m=true->M0 m b=true->M a b=true:=λa b h1 h2=>(P a b).mpr (.inr ⟨hD a b (hM _ _ h1).1 (hM _ _ h2).2,h1,h2⟩)
 refine⟨λk a b hk h1 h2=>?_,hM'⟩
 rcases QJ k m with c |c
 ·rcases (P a k).mp h1 with q1 | ⟨_,q1,q1'⟩
  ·rcases (P k b).mp h2 with q2 | ⟨_,q2,q2'⟩
   ·exact (P a b).mpr (.inl (T k a b c q1 q2))
   ·exact put a b (T k a m c q1 q2) q2'
  ·rcases (P k b).mp h2 with q2 | ⟨_,q2,q2'⟩
   ·exact put a b q1 (T k m b c q1' q2)
   ·exact put a b q1 q2'
 ·have e:k=m:=@AT
  subst e
  exact put a b ((P.row a).mp h1) ((P.col b).mp h2)
structure Tab (n:Nat)(ps:@Do)(M:Tb):Prop where
 inn:∀a b,M a b=true->a < n/\b < n
 sub:∀a b:Nat,((a:Int),(b:Int))∈ps->M a b=true
 sup:∀a b:Nat,M a b=true->Tr (Mem ps) a b
def Tab.phase {n:Nat}{ps:@Do}{M0 M:Tb}{m:Nat}{D:Nat->Nat->Prop}(T:Tab n ps M0)(P:Phase M0 M m D):Tab n ps M:=
 ⟨λa b h=>by
  rcases (P a b).mp h with q | ⟨_,q1,q2⟩
  ·exact T.inn a b q
  ·exact⟨(T.inn _ _ q1).1,(T.inn _ _ q2).2⟩,
  λa b h=>(P a b).mpr (.inl (T.sub a b h)),
  λa b h=>by
  rcases (P a b).mp h with q | ⟨_,q1,q2⟩
  ·exact T.sup a b q
  ·exact (T.sup _ _ q1).trans (T.sup _ _ q2)⟩
def Tab.all {n:Nat}{ps:@Do}{M:Tb}(w:Wn n ps)(T:Tab n ps M)(H:Gd M n)(a b:Nat):M a b=true↔Tr (Mem ps) a b:=by
 refine⟨T.sup a b,λh=>?_⟩
 have key:∀{x y:Int},Tr (Mem ps) x y->M x.toNat y.toNat=true:=λ{x y} h=>by
  induction h with
  | @one x y r=>
   have:=w _ r
   refine T.sub _ _ ?_
   have e1:((x.toNat:Nat):Int)=x:=by simp only at this;omega
   have e2:((y.toNat:Nat):Int)=y:=by simp only at this;omega
   rw[e1,e2];exact r
  | @more x y z r _ ih=>
   have:=w _ r
   have e1:((x.toNat:Nat):Int)=x:=by simp only at this;omega
   have e2:((y.toNat:Nat):Int)=y:=by simp only at this;omega
   have q:M x.toNat y.toNat=true:=T.sub _ _ (by rw[e1,e2];exact r)
   exact H y.toNat _ _ (T.inn _ _ q).2 q ih
 have:=key h
 simpa using this
end OM
namespace L2.ST
open PySem PySem.SetTable PySem.W PyProof.Rows
section
variable {prog:Program}{w:World}{A:Around}{E:@Ch}{s:Shared}
def J3 {ps:@Do}(hs:∀p,p∈ps->Sm p){ix:Array Nat}(P:L2.SO.Pm ps.length ix)(U:L2.SO.Up (sZ ps) ix ps.length):OM.vS (ix.toList.map λi=>ps.getD i (0,0)):=by
 refine Qv.mpr (RK.mpr λi j hi hj hij=>?_)
 have hi':i < ix.size:=by simpa using hi
 have hj':j < ix.size:=by simpa using hj
 have q:=U i j hij (by rw[<-P.sz];exact hj')
 unfold L2.SO.Kp sZ at q
 have ei:ix.getD i 0=ix.toList[i]:=by simp[Array.getD,hi']
 have ej:ix.getD j 0=ix.toList[j]:=by simp[Array.getD,hj']
 rw[ei,ej] at q
 have ai:ix.toList[i] < ps.length:=P.lt _ @Go
 have aj:ix.toList[j] < ps.length:=P.lt _ @Go
 have bi:Sm (ps.getD ix.toList[i] (0,0)):=by rw[P9,Pn ai];exact hs _ (Q0 ai)
 have bj:Sm (ps.getD ix.toList[j] (0,0)):=by rw[P9,Pn aj];exact hs _ (Q0 aj)
 exact (AE bi bj).mp q
def JG {n:Nat}{ix:Array Nat}(P:L2.SO.Pm n ix){k:Nat}(hk:k < n):k∈ix.toList:=by
 refine Classical.byContradiction λhn=>?_
 have:=bM (l:=k :: ix.toList) (m:=@TR) (Qh.mpr ⟨hn,P.nd⟩) λx hx=>by
  rcases Pu.mp hx with e |e
  ·rw[e];exact P4.mpr hk
  ·exact P4.mpr (P.lt x (by simpa using e))
 simp[P.sz] at this
 omega
theorem Mm {h:Heap}{vs:@GM}{ps:@Do}(hps:dS prog w h vs ps){ix:Array Nat}(P:L2.SO.Pm vs.length ix) :
  dS prog w h (ix.toList.map λi=>vs.getD i Value.none) (ix.toList.map λi=>ps.getD i (0,0)):=by
 refine⟨by simp,λi v p h1 h2=>?_⟩
 rw[PK] at h1 h2
 cases e:ix.toList[i]? with
 |none=>rw[e] at h1;cases h1
 |some k=>
  rw[e] at h1 h2
  have hk:k < vs.length:=P.lt k (by simpa using PV e)
  have hk':k < ps.length:=by rw[<-hps.1];exact hk
  simp[hk,hk'] at h1 h2
  exact hps.2 k v p (by rw[Pn hk,h1]) (by rw[Pn hk',h2])
def uA {v:Value}{vs:@GM}{ps:@Do}{Q:@Ch}(hps:dS prog w s.heap vs ps)(nd:ps.Nodup)(h64:vs.length < 64)
  (hcol:∀(Q':@GM->@Rs),(∀h' tk,(∀b o,s.heap.get? b=some o->h'.get? b=some o)->Q' vs {s with heap:=h',toks:=tk})->wpAny (@NE) A.in1 (collect v) Q' (λe s'=>E e s') s)
  (h:∀(h1 h':Heap) (tk:Nat) (D:Addr) (out:@GM) (qs:@Do) (c:Nat),(∀b o,s.heap.get? b=some o->h1.get? b=some o)->D=h1.objs.size->(∀b o,h1.get? b=some o->h'.get? b=some o)->h'.get? D=some (seqObj "list" out.toArray c)->dS prog w h' out qs->(∀u,u∈out->u∈vs)->OM.vS qs->(∀p,p∈qs↔p∈ps)->
   Q @Tj {s with heap:=h',toks:=tk}):wpAny (@NE) A (call (.builtin "sorted") [v]) Q E s:=by
 have hsm:∀p,p∈ps->Sm p:=λp hp=>by
  obtain⟨i,hi,e⟩:=Ql.mp hp
  have hi':i < vs.length:=by rw[hps.1];exact hi
  obtain⟨_,_,_,hs⟩:=hps.2 i vs[i] p (Pn hi') (by rw[Pn hi,e])
  exact hs
 (refine Calls.call_function_entry kind_sorted plain_sorted entry_sorted (args_sorted1 _) ?_)
 unfold Builtin.«sorted»
 refine Pl (m:=checkCount "sorted" 1 1 ([v]:@GM).length) (Pp ?_)
 refine Pl (hcol _ λh1 tk1 k1=>?_)
 have hz:vs.length<=sizeLine:=by rw[Qc];omega
 refine Pl (wpAny_newList ?_ hz)
 show wpAny _ _ _ _ _ {s with heap:=h1.push (seqObj "list" vs.toArray 0),toks:=tk1}
 have hoL:(h1.push (seqObj "list" vs.toArray 0)).get? h1.objs.size=some (seqObj "list" vs.toArray 0):=PX _ rfl
 have kp:∀b o,s.heap.get? b=some o->(h1.push (seqObj "list" vs.toArray 0)).get? b=some o:=λb o e=>Pq _ (k1 b o e)
 have hp1:dS prog w (h1.push (seqObj "list" vs.toArray 0)) vs ps:=⟨hps.1,λi v p a b=>by
  obtain⟨c,e,⟨o,it,n,ho,r⟩,hs⟩:=hps.2 i v p a b
  exact⟨c,e,⟨o,it,n,kp _ _ ho,r⟩,hs⟩⟩
 have hne:∀b o,s.heap.get? b=some o->b≠h1.objs.size:=λb o e=>Qg (PB (k1 b o e))
 refine Pl (QI (Rw slot_list_sort ⟨_,hoL,rfl⟩ entry_list_sort ?_ (args_list_sort _)))
 refine xY (s:={s with heap:=h1.push (seqObj "list" vs.toArray 0),toks:=tk1}) hoL hp1 nd h64 λh' c ix P U hk ho=>?_
 refine⟨_,rfl,Pp ⟨_,rfl,?_⟩⟩
 have kk:∀b o,s.heap.get? b=some o->h'.get? b=some o:=λb o e=>hk b o (hne b o e) (kp b o e)
 have P':L2.SO.Pm ps.length ix:=by rw[<-hps.1];exact P
 have k2:∀b o,h1.get? b=some o->h'.get? b=some o:=λb o e=>hk b o (Qg (PB e)) (Pq _ e)
 refine h h1 h' tk1 h1.objs.size _ (ix.toList.map λi=>ps.getD i (0,0)) c k1 rfl k2 ho (Mm ⟨hps.1,λi v p a b=>?_⟩ P) (λu hu=>?_) (J3 hsm P' (by rw[<-hps.1];exact U)) λp=>⟨λhp=>?_,λhp=>?_⟩
 ·obtain⟨c,e,⟨o,it,n,ho,r⟩,hs⟩:=hps.2 i v p a b
  exact⟨c,e,⟨o,it,n,kk _ _ ho,r⟩,hs⟩
 ·obtain⟨i,hi,rfl⟩:=PD.mp hu
  have:i < vs.length:=P.lt i (by simpa using hi)
  rw[P9,Pn this]
  exact Q0 this
 ·obtain⟨i,hi,rfl⟩:=PD.mp hp
  have:i < ps.length:=P'.lt i (by simpa using hi)
  rw[P9,Pn this]
  exact Q0 this
 ·obtain⟨i,hi,e⟩:=Ql.mp hp
  refine PD.mpr ⟨i,JG P' hi,?_⟩
  rw[P9,Pn hi,e];rfl
end
end L2.ST
namespace L2
open PySem PySem.Spec PyProof.Rows
abbrev Pr:=Int×Int
abbrev Sm:=L2.ST.Sm
section
variable {X:Cx}{pins:@Db}{σ:St}{H H':Hp}{s:Shared}
def je (H H':Hp):Prop:=(∀b xs,H b=some (.tup xs)->H' b=some (.tup xs))/\∀b o u,H b=some (.a8 o u)->H' b=some (.a8 o u)
def je.trans {H H1 H2:Hp}(a:je H H1)(b:je H1 H2):je H H2:=⟨λc xs h=>b.1 c xs (a.1 c xs h),λc o u h=>b.2 c o u (a.2 c o u h)⟩
def av.grow {H H':Hp}(e:av H H'):je H H':=⟨λb xs h=>e b _ h,λb o u h=>e b _ h⟩
def je.new {H:Hp}{l:Addr}{o:HO}(h:H l=none):je H (upd H l o):=⟨λb xs e=>by rw[aC (aL e h)];exact e,λb o' u e=>by rw[aC (aL e h)];exact e⟩
def av.new {H:Hp}{l:Addr}{o:HO}(h:H l=none):av H (upd H l o):=λb u e=>Kt.of (by rw[aC (aL e h)];exact e)
def gj.grow {K:Frag}{a:Addr}{xs:List V}(h:gj K H a xs)(g:je H H'):gj K H' a xs:=by
 rcases h with (h | ⟨o,h⟩) |h
 ·exact .inl (.inl (g.1 _ _ h))
 ·exact .inl (.inr ⟨o,g.2 _ _ _ h⟩)
 ·exact .inr h
def je.list {a:Addr}{ys:List V}{o:HO}(h:H a=some (.lst ys)):je H (upd H a o):=
 ⟨λb xs e=>by rw[aC (A8 e h (by intro z;cases z))];exact e,λb o' u e=>by rw[aC (A8 e h (by intro z;cases z))];exact e⟩
theorem tM {α β:Type}{f:α->β}:∀{l:List α} {m:List β},m.Perm (l.map f)->∃l':List α,m=l'.map f/\l'.Perm l:=by
 intro l m h
 generalize hk:l.map f=k at h
 induction h generalizing l with
 |nil=>
  have:l= []:=by simpa using hk
  exact⟨[],rfl,by rw[this]⟩
 | @cons x m1 m2 _ ih=>
  cases l with
  |nil=>cases hk
  |cons a l=>
   simp only[P8,List.cons.injEq] at hk
   obtain⟨l',e,p⟩:=ih hk.2
   exact⟨a :: l',by rw[P8,hk.1,e],p.cons a⟩
 |swap x y m1=>
  cases l with
  |nil=>cases hk
  |cons a l=>
   cases l with
   |nil=>simp at hk
   |cons b l=>
    simp only[P8,List.cons.injEq] at hk
    exact⟨b :: a :: l,by rw[P8,P8,hk.1,hk.2.1,hk.2.2],List.Perm.swap ..⟩
 |trans _ _ ih1 ih2=>
  obtain⟨l1,e1,p1⟩:=ih2 hk
  obtain⟨l2,e2,p2⟩:=ih1 e1.symm
  exact⟨l2,e2,p2.trans p1⟩
def aW (K:Frag)(H:Hp):List V->@Do->Prop:=Paired λv p=>∃a,v=.ref a/\gj K H a [.int p.1,.int p.2]
def aW.grow {K:Frag}{vs:List V}{ps:@Do}(h:aW K H vs ps)(g:je H H'):aW K H' vs ps:=Paired.mapP h λv p ⟨a,e,q⟩=>⟨a,e,q.grow g⟩
theorem Paired.getP {α β:Type}{F:α->β->Prop}:∀{l:List α} {m:List β} {i:Nat} {x:α},Paired F l m->l[i]? =some x->∃y,m[i]? =some y/\F x y
 |_,_,_,_,.nil,e=>by simp at e
 |_,_,0,_,.cons r _,e=>by simp at e;subst e;exact⟨_,rfl,r⟩
 |_,_,i + 1,x,.cons _ t,e=>by
  obtain⟨u,h1,h2⟩:=Paired.getP (i:=i) (x:=x) t (by simpa using e)
  exact⟨u,by simpa using h1,h2⟩
theorem Paired.getQ {α β:Type}{F:α->β->Prop}:∀{l:List α} {m:List β} {i:Nat} {y:β},Paired F l m->m[i]? =some y->∃x,l[i]? =some x/\F x y
 |_,_,_,_,.nil,e=>by simp at e
 |_,_,0,_,.cons r _,e=>by simp at e;subst e;exact⟨_,rfl,r⟩
 |_,_,i + 1,x,.cons _ t,e=>by
  obtain⟨u,h1,h2⟩:=Paired.getQ (i:=i) (y:=x) t (by simpa using e)
  exact⟨u,by simpa using h1,h2⟩
theorem vV (I:@At){a:Addr}{p:Pr}(h:gj X.K H a [.int p.1,.int p.2]):L2.ST.bY X.prog X.w s.heap p a:=by
 obtain⟨its,r,⟨o,ho,hc,n,hd⟩,_⟩:=I.tuple h
 cases r with
 |cons r1 r=>
  cases r with
  |cons r2 r=>
   cases r
   obtain⟨t1,rfl⟩:=r1
   obtain⟨t2,rfl⟩:=r2
   exact⟨o,_,n,ho,hc,hd,.cons (intKind_is ..) (.cons (intKind_is ..) .nil)⟩
def pairs_at (I:@At){vs:List V}{us:@GM}{ps:@Do}(hv:Vals vs us)(h:aW X.K H vs ps)(hs:∀p,p∈ps->Sm p):L2.ST.dS X.prog X.w s.heap us ps:=by
 refine⟨by rw[<-hv.length];exact Paired.length h,λi u p e1 e2=>?_⟩
 obtain⟨v,ev,a,rfl,q⟩:=Paired.getQ h e2
 obtain⟨u',eu,ru⟩:=hv.get ev
 rw[e1] at eu;cases eu
 cases ru
 exact⟨a,rfl,vV I q,hs p (PV e2)⟩
theorem sk (I:@At){vs:List V}{us:@GM}{ps:@Do}(hv:Vals vs us)(h:aW X.K H vs ps){h':Heap}(k:∀b o,s.heap.get? b=some o->h'.get? b=some o):∀{out:@GM} {qs:@Do},
  (∀u,u∈out->u∈us)->L2.ST.dS X.prog X.w h' out qs->∃ws,Vals ws out/\aW X.K H ws qs
 | [],[],_,_=>⟨[],.nil,.nil⟩
 | [],_ :: _,_,hp=>by have:=hp.1;simp at this
 |_ :: _,[],_,hp=>by have:=hp.1;simp at this
 |u :: out,q :: qs,hm,hp=>by
  obtain⟨ws,a1,a2⟩:=sk I hv h k (out:=out) (qs:=qs) (λx hx=>hm x (Pw _ hx)) ⟨by have:=hp.1;simpa using this,λi v p e1 e2=>hp.2 (i + 1) v p (by simpa using e1) (by simpa using e2)⟩
  obtain⟨i,hi,e⟩:=Ql.mp (hm u (Pz ..))
  have hi':i < vs.length:=by rw[hv.length];exact hi
  obtain⟨u',eu,ru⟩:=hv.get (Pn hi')
  rw[Pn hi,e] at eu
  cases eu
  obtain⟨p,ep,a,ea,qa⟩:=Paired.getP h (Pn hi')
  rw[ea] at ru
  cases ru
  obtain⟨b,eb,hb,_⟩:=hp.2 0 @S2 q rfl rfl
  cases eb
  have pa:L2.ST.bY X.prog X.w h' p a:=by
   obtain⟨o,it,n,ho,r⟩:=vV I qa
   exact⟨o,it,n,k _ _ ho,r⟩
  have:p=q:=L2.ST.bY.inj pa hb
  subst this
  exact⟨.ref a :: ws,.cons rfl a1,.cons ⟨a,rfl,qa⟩ a2⟩
def AV (K:Frag):@KM:=λxs H Q=>∃a vs ps,xs= [.ref a]/\gk K H a vs/\aW K H vs ps/\(∀p,p∈ps->Sm p)/\ps.Nodup/\ps.length < 64/\
 ∀l ws qs,H l=none->aW K H ws qs->OM.vS qs->(∀p,p∈qs↔p∈ps)->Q (.ref l) (upd H l (.lst ws))
def rO (I:@At){vs:List V}{us:@GM}{ps:@Do}(hv:Vals vs us)(hp:aW X.K H vs ps)(hlen:ps.length < 64){Q:VK}
  (q:∀l ws qs,H l=none->aW X.K H ws qs->OM.vS qs->(∀p,p∈qs↔p∈ps)->Q (.ref l) (upd H l (.lst ws)))
  {h1 h':Heap} {tk:Nat} {D:Addr} {out:@GM} {qs:@Do} {c:Nat} (k1:∀b o,s.heap.get? b=some o->h1.get? b=some o) (eD:D=h1.objs.size) (k2:∀b o,h1.get? b=some o->h'.get? b=some o)
  (ho:h'.get? D=some (seqObj "list" out.toArray c)) (hpq:L2.ST.dS X.prog X.w h' out qs) (hm:∀u,u∈out->u∈us) (hr:OM.vS qs) (hmem:∀p,p∈qs↔p∈ps):EP X pins σ Q @Tj {s with heap:=h',toks:=tk}:=by
 obtain⟨ws,r1,r2⟩:=sk I hv hp (λb o e=>k2 b o (k1 b o e)) hm hpq
 have I1:Inv X pins σ H {s with heap:=h1,toks:=tk}:=I.kept k1
 have hf:H D=none:=by rw[eD];exact I1.hok.fresh (Pt _)
 have hz:ws.length<=sizeLine:=by
  have e1:=r1.length
  have e2:out.length=qs.length:=hpq.1
  have e3:=OM.iB (OM.iX hr) λx hx=>(hmem x).mp hx
  rw[Qc];omega
 have I2:Inv X pins σ (upd H D (.lst ws)) {s with heap:=h',toks:=tk}:=I1.laid (t':=tk) k2 (by rw[eD];exact Pt _) (show bV X.prog X.w _ h' _ (.lst ws) from⟨hz,out,c,r1,ho⟩)
 exact⟨.ref D,_,I2,rfl,q D ws qs hf r2 hr hmem⟩
def p9:dr X (.builtin "sorted") (AV X.K):=by
 intro pins s σ H xs us Q I r h
 obtain⟨a,vs,ps,rfl,hq,hp,hs,nd,hl,q⟩:=h
 obtain⟨u,rfl,rx⟩:=vals1 r
 cases rx
 obtain⟨its,rv,pl,hz⟩:=I.list hq
 have hpa:=pairs_at I rv hp hs
 have h64:its.length < 64:=by rw[hpa.1];exact hl
 refine L2.ST.uA (v:=.ref a) hpa nd h64 (λQ' hQ'=>collect_list pl.isList ?_ (by rw[Qc];omega)) λh1 h' tk D out qs c k1 eD k2 ho hpq hm hr hmem=>?_
 ·exact hQ' _ s.toks λb o e=>by
   rw[Heap.get?_update_ne _ _ _ _ (Qg (PB e)),Heap.get?_push_ne _ _ _ (Qg (PB e))];exact e
 ·exact rO I rv hp hl q k1 eD k2 ho hpq hm hr hmem
abbrev vq (qs:List (Addr×Pr)):List V:=qs.map λq=>V.ref q.1
abbrev pq (qs:List (Addr×Pr)):@Do:=qs.map (·.2)
def IU (prog:Program)(w:World)(S:Addr)(qs:List (Addr×Pr))(h:Heap):Prop:=∃o ep t,h.get? S=some o/\o.ExactSet/\o.data=.set (qs.map λq=>(L2.ST.C5 prog w q.2,Value.ref q.1)).toArray ep t/\L2.ST.Tab t (qs.map λq=>L2.ST.C5 prog w q.2)/\t.led=L2.ST.kM w
def CL (prog:Program)(w:World)(S:Addr)(qs:List (Addr×Pr)):HO:=.ext (IU prog w S qs)
def Lr (P:Program)(w:World)(K:Frag):@KM:=λxs H Q=>∃a vs ps,xs= [.ref a]/\(gk K H a vs\/gj K H a vs)/\aW K H vs ps/\(∀p,p∈ps->Sm p)/\
 ∀S qs,H S=none->aW K H (vq qs) (pq qs)->(pq qs).Nodup->(∀p,p∈pq qs↔p∈ps)->Q (.ref S) (upd H S (CL P w S qs))
def FU (hc:X.calm=true)(hu:X.A.units + 64 < cLine):dr X (.type "set") (Lr X.prog X.w X.K):=by
 intro pins s σ H xs us Q I r h
 obtain⟨a,vs,ps,rfl,hq,hp,hs,q⟩:=h
 obtain⟨u,rfl,rx⟩:=vals1 r
 cases rx
 have hh:=I.ok.hd hc
 have core:∀{its:@GM} {T:String} {itO:Obj} {St:Addr->Nat->Heap->Prop},Vals vs its->L2.ST.Src X.prog X.w s.heap a its T itO St->wpAny @D_ X.A (call (.type "set") [.ref a]) (EP X pins σ Q) X.xe s:=λ{its T itO St} rv src=>by
  refine L2.ST.sR src hh hu (pairs_at I rv hp hs) λh' tk F k=>?_
  obtain⟨qs,P1,P2,P3⟩:=F
  have hlen:its.length=vs.length:=rv.length.symm
  have back:∀qv:Addr×Pr,qv∈qs->∃b,b=qv.1/\gj X.K H b [.int qv.2.1,.int qv.2.2]:=λqv hqv=>by
   obtain⟨i,hi,e⟩:=Ql.mp (RL (P2 qv hqv).1)
   have hi':i < vs.length:=by rw[<-hlen];exact hi
   obtain⟨u',eu,ru⟩:=rv.get (Pn hi')
   rw[Pn hi,e] at eu
   cases eu
   obtain⟨p,ep,b,eb,qb⟩:=Paired.getP hp (Pn hi')
   rw[eb] at ru
   cases ru
   have pa:L2.ST.bY X.prog X.w h' p qv.1:=by
    obtain⟨o,it,n,ho,r⟩:=vV I qb
    exact⟨o,it,n,k _ _ ho,r⟩
   have:p=qv.2:=L2.ST.bY.inj pa (P1.at' qv hqv).1
   subst this
   exact⟨_,rfl,qb⟩
  have hpv:∀{l:List (Addr×Pr)},(∀x,x∈l->x∈qs)->aW X.K H (vq l) (pq l):=λ{l}=>by
   induction l with
   |nil=>intro _;exact .nil
   |cons y l ih=>
    intro hl
    obtain⟨b,eb,qb⟩:=back y (hl y (Pz ..))
    subst eb
    exact .cons ⟨_,rfl,qb⟩ (ih λx hx=>hl x (Pw _ hx))
  have hmem:∀p,p∈pq qs↔p∈ps:=λp=>by
   have hpl:ps.length=its.length:=by rw[hlen];exact (Paired.length hp).symm
   constructor
   ·intro hx
    obtain⟨qv,hqv,rfl⟩:=PD.mp hx
    exact RL (P2 qv hqv).2
   ·intro hx
    exact P3 p (by rw[<-hpl,Rf (Pt _)];exact hx)
  have hf:H s.heap.objs.size=none:=I.hok.fresh (Pt _)
  obtain⟨o,ep,t,ho,r1⟩:=P1.ex
  have new:bV X.prog X.w (upd H s.heap.objs.size (CL X.prog X.w s.heap.objs.size qs)) h' s.heap.objs.size (CL X.prog X.w s.heap.objs.size qs):=
   ⟨⟨o,ep,t,ho,r1⟩,⟨o,ho⟩,λh1 h2 ⟨o1,ep1,t1,g1,g2⟩ kk=>⟨o1,ep1,t1,kk _ g1,g2⟩⟩
  exact⟨.ref _,_,I.laid (t':=tk) k (Pt _) new,rfl,q _ qs hf (hpv λx hx=>hx) P1.nd hmem⟩
 rcases hq with hq |hq
 ·obtain⟨its,rv,pl,hz⟩:=I.list hq
  exact core rv (L2.ST.Src.list pl.isList)
 ·obtain⟨its,rv,pl,hz⟩:=I.tuple hq
  exact core rv (L2.ST.Src.tuple pl)
def yD (P:Program)(w:World)(K:Frag):@KM:=λxs H Q=>∃S qs,xs= [.ref S]/\H S=some (CL P w S qs)/\aW K H (vq qs) (pq qs)/\(∀p,p∈pq qs->Sm p)/\(pq qs).Nodup/\qs.length < 64/\
 ∀l ws rs,H l=none->aW K H ws rs->OM.vS rs->(∀p,p∈rs↔p∈pq qs)->Q (.ref l) (upd H l (.lst ws))
def wG (hc:X.calm=true):dr X (.builtin "sorted") (yD X.prog X.w X.K):=by
 intro pins s σ H xs us Q I r h
 obtain⟨S,qs,rfl,hS,hp,hs,nd,hl,q⟩:=h
 obtain⟨u,rfl,rx⟩:=vals1 r
 cases rx
 have hh:=I.ok.hd hc
 obtain⟨⟨o,ep,t,ho,hex,hd,T,hled⟩,_,_⟩:IU X.prog X.w S qs s.heap/\_:=I.hok S _ hS
 have T':L2.ST.Tab t ((qs.map λq=>(L2.ST.C5 X.prog X.w q.2,Value.ref q.1)).toArray.toList.map (·.1)):=by
  rw[Ra,QE];exact T
 have htp:=L2.ST.uO X.w S ep (qs.map λq=>(L2.ST.C5 X.prog X.w q.2,Value.ref q.1)).toArray
 have hmem:∀x,x∈(L2.ST.told X.w S ep (qs.map λq=>(L2.ST.C5 X.prog X.w q.2,Value.ref q.1)).toArray).toList->∃q,q∈qs/\x=(L2.ST.C5 X.prog X.w q.2,Value.ref q.1):=λx hx=>by
  have:=htp.mem_iff.mp hx
  simp only[Ra] at this
  obtain⟨q,hq,e⟩:=PD.mp this
  exact⟨q,hq,e.symm⟩
 obtain⟨q2,e2,p2⟩:∃q2:List (Addr×Pr),(L2.ST.told X.w S ep (qs.map λq=>(L2.ST.C5 X.prog X.w q.2,Value.ref q.1)).toArray).toList=q2.map (λq=>(L2.ST.C5 X.prog X.w q.2,Value.ref q.1))/\q2.Perm qs:=by
  have:=htp
  simp only[Ra] at this
  exact tM this
 have hp2:aW X.K H (vq q2) (pq q2):=by
  have key:∀{l:List (Addr×Pr)},(∀x,x∈l->x∈qs)->aW X.K H (vq l) (pq l):=λ{l}=>by
   induction l with
   |nil=>intro _;exact .nil
   |cons y l ih=>
    intro hl
    obtain⟨i,hi,e⟩:=Ql.mp (hl y (Pz ..))
    obtain⟨p,ep',a,ea,qa⟩:=Paired.getP (l:=vq qs) (m:=pq qs) (i:=i) (x:=.ref y.1) hp (by simp[hi,e])
    have:p=y.2:=by simp[hi,e] at ep';exact ep'.symm
    subst this
    exact .cons ⟨a,ea,qa⟩ (ih λx hx=>hl x (Pw _ hx))
  exact key λx hx=>p2.mem_iff.mp hx
 have hv2:Vals (vq q2) (q2.map λq=>Value.ref q.1):=by
  induction q2 with
  |nil=>exact .nil
  |cons y l ih=>exact .cons rfl (by
    clear ih e2 p2 hp2
    induction l with
    |nil=>exact .nil
    |cons z l ih2=>exact .cons rfl ih2)
 have hm2:∀p,p∈pq q2↔p∈pq qs:=λp=>(p2.map (·.2)).mem_iff
 have hpa:=pairs_at I hv2 hp2 λp hpp=>hs p ((hm2 p).mp hpp)
 have hl2:q2.length < 64:=by rw[p2.length_eq];exact hl
 refine L2.ST.uA (v:=.ref S) hpa ((p2.map (·.2)).nodup_iff.mpr nd) (by simpa using hl2) (λQ' hQ'=>L2.ST.xT (by simpa using hh) ho hd hex.1 T' hled (by simp;omega) λh' tk vs ev k=>?_) λh1 h' tk D out qs' c k1 eD k2 ho' hpq hm hr hmem'=>?_
 ·rw[ev,e2]
  rw[QE]
  exact hQ' h' tk k
 ·exact rO I hv2 hp2 (by simpa using hl2) (λl ws rs a1 a2 a3 a4=>q l ws rs a1 a2 a3 λp=>(a4 p).trans (hm2 p)) k1 eD k2 ho' hpq hm hr hmem'
end
def pF (cells:List (Str×Addr)):List (Str×NameKind)->List (Str×Addr)->List (Str×Addr)
 | [],cs=>cs
 | (n,k) :: r,cs=>pF cells r (if k == .free then (n,(cells.lookup n).getD 0) :: cs else cs)
def sJ {scope:Scope}{env:Env}(h:∀y∈scope.names,y.2=.free->∃c,env.cells.lookup y.1=some c):closureFor scope env=pure (pF env.cells scope.names []):=by
 unfold closureFor
 have key:∀(l:List (Str×NameKind)) (cs:List (Str×Addr)),(∀y∈l,y.2=.free->∃c,env.cells.lookup y.1=some c)->
   (forIn l cs (λ(x:Str×NameKind) (r:List (Str×Addr))=>if (x.2 == NameKind.free)=true then (do let a <-cellOf env x.1;pure (ForInStep.yield ((x.1,a) :: r)):Sem _) else pure (ForInStep.yield r)):Sem (List (Str×Addr)))=pure (pF env.cells l cs):=by
  intro l
  induction l with
  |nil=>intro cs _;rfl
  |cons y l ih=>
   intro cs hy
   obtain⟨n,k⟩:=y
   rw[List.forIn_cons]
   unfold pF
   by_cases hk:(k == NameKind.free)=true
   ·have hk':k=.free:=by simpa using hk
    obtain⟨c,hc⟩:=hy (n,k) (Pz ..) hk'
    have hce:cellOf env n=pure c:=by unfold cellOf;rw[hc]
    simp only[hk,QC]
    have hc':env.cells.lookup n=some c:=hc
    rw[hce,hc']
    simp only[pure_bind,Option.getD_some]
    exact ih _ λz hz=>hy z (Pw _ hz)
   ·simp only[hk,Qq,P0]
    simp only[pure_bind]
    exact ih _ λz hz=>hy z (Pw _ hz)
 have:=key scope.names [] h
 simp only[bind_pure_comp] at this ⊢
 first
  |exact this
  | (rw[this];rfl)
  | (simpa using this)
theorem ui {cells:List (Str×Addr)}{x:Str}:∀{l:List (Str×NameKind)} {cs:List (Str×Addr)},((x,NameKind.free)∈l\/cs.lookup x=some ((cells.lookup x).getD 0))->(pF cells l cs).lookup x=some ((cells.lookup x).getD 0)
 | [],cs,h=>by
  rcases h with h |h
  ·cases h
  ·exact h
 | (n,k) :: r,cs,h=>by
  unfold pF
  refine ui ?_
  by_cases hk:(k == NameKind.free)=true
  ·rw[Po hk]
   by_cases hx:x=n
   ·subst hx;right;simp
   ·rcases h with h |h
    ·rcases Pu.mp h with e |e
     ·injection e with e1 _;exact absurd e1 hx
     ·exact .inl e
    ·right
     rw[Rz,show (x == n)=false by simpa using hx]
     exact h
  ·rw[Px hk]
   rcases h with h |h
   ·rcases Pu.mp h with e |e
    ·injection e with _ e2;exact absurd (by rw[<-e2];rfl) hk
    ·exact .inl e
   ·exact .inr h
theorem pR {cells:List (Str×Addr)}{x:Str}{c:Addr}:∀{l:List (Str×NameKind)} {cs:List (Str×Addr)},(pF cells l cs).lookup x=some c->((x,NameKind.free)∈l/\c=(cells.lookup x).getD 0)\/cs.lookup x=some c
 | [],cs,h=>.inr h
 | (n,k) :: r,cs,h=>by
  unfold pF at h
  rcases pR h with⟨a,b⟩ |a
  ·exact .inl ⟨Pw _ a,b⟩
  ·by_cases hk:(k == NameKind.free)=true
   ·rw[Po hk,Rz] at a
    by_cases hx:x=n
    ·subst hx
     simp at a
     have:k=.free:=by simpa using hk
     subst this
     exact .inl ⟨Pz ..,a.symm⟩
    ·rw[show (x == n)=false by simpa using hx] at a
     exact .inr a
   ·rw[Px hk] at a
    exact .inr a
theorem qd {f:Str->NameKind->NameKind}{x:Str}:∀(l:List (Str×NameKind)),(l.map λy=>(y.1,f y.1 y.2)).lookup x=(l.lookup x).map (f x)
 | []=>rfl
 | (n,k) :: l=>by
  rw[P8,Rz,Rz]
  by_cases hx:x=n
  ·subst hx;simp
  ·have hb:(x == n)=false:=by simpa using hx
   simp only[hb]
   exact qd l
def sI (scope:Scope)(env:Env)(x:Str):(relabel scope env).names.lookup x=(scope.names.lookup x).map λk=>if (k == .free && env.scope.kind == .function && env.kindOf x == some .cell) then .cell else k:=by
 have e:(relabel scope env).names=scope.names.map λy=>(y.1,if (y.2 == .free && env.scope.kind == .function && env.kindOf y.1 == some .cell) then .cell else y.2):=by
  unfold relabel
  dsimp only
  refine Rb λy _=>?_
  obtain⟨n,k⟩:=y
  dsimp only
  split <;> rfl
 rw[e]
 exact qd (f:=λn k=>if (k == .free && env.scope.kind == .function && env.kindOf n == some .cell) then .cell else k) scope.names
theorem nP:∀(l:List (Str×NameKind)) (n:Nat) (acc:List (Str×Addr)),cellsFrom n l acc=cellsFrom n l [] ++ acc
 | [],_,_=>rfl
 | (x,k) :: r,n,acc=>by
  unfold cellsFrom
  split
  ·rw[nP r (n + 1) ((x,n) :: acc),nP r (n + 1) [(x,n)],QN];rfl
  ·exact nP r n acc
theorem si:∀{l:List (Str×NameKind)} {n:Nat} {x:Str} {c:Addr},(x,c)∈cellsFrom n l []->n<=c/\(x,NameKind.cell)∈l
 | [],_,_,_,h=>by cases h
 | (y,k) :: r,n,x,c,h=>by
  unfold cellsFrom at h
  split at h
  ·rename_i hk
   have hk:k=.cell:=by simpa using hk
   rw[nP] at h
   rcases PQ.mp h with h |h
   ·have:=si h;exact⟨@AT,Pw _ this.2⟩
   ·rw[P6] at h;cases h;subst hk;exact⟨Pt _,Pz ..⟩
  ·have:=si h;exact⟨this.1,Pw _ this.2⟩
abbrev Ih (X:Cx)(scope:Scope)(C:Addr):List (Str×Addr):=cellsFrom (C + 1) scope.names (pF X.env.cells scope.names [])
def GS {M:Model}{A:Around}{E:@Ch}{s:Shared}{scope:Scope}{g:Addr}{cl:List (Str×Addr)}{qual:Str}{env:Env}{Q:Env->@Rs}
  (h:∀h',h'.Ns s.heap.objs.size (λ_=>none)->(∀b o,s.heap.get? b=some o->h'.get? b=some o)->CellsOk h' (s.heap.objs.size + 1) (@Sc)->Q (newEnv scope s.heap.objs.size g (cellsFrom (s.heap.objs.size + 1) scope.names cl) qual none .none (some env) builtinsNs) {s with heap:=h'}) :
  wpAny M A (newFunctionEnv scope g cl [] qual none .none (some env)) Q E s:=by
 simp only[newFunctionEnv,Option.isSome_some,QC]
 refine Pl (wpAny_alloc ?_)
 refine Pl (wpAny_layCells _ (λname kind cells=>by cases hkc:kind == NameKind.cell <;> simp[hkc]) _ _ _ _ ?_)
 have ok:=cellsFrom_ok scope.names (s.heap.push {cls:=.type "dict",data:=.dict #[]}) (s.heap.objs.size + 1) [] ⟨λ_ _ hm=>(nomatch hm),List.Pairwise.nil⟩ (by rw[Q6];exact Pt _)
 rw[Q6] at ok
 rw[show ({s with heap:=s.heap.push {cls:=.type "dict",data:=.dict #[]}}:Shared).heap.objs.size=s.heap.objs.size + 1 from Q6 ..]
 rw[List.forIn_nil]
 exact Pl (Pp (Pp (h _ ((Heap.Ns.new s.heap (.type "dict")).keeps (pushCells_keeps _ _)) (λb o e=>pushCells_keeps _ _ b o (Pq _ e)) ok)))
def jW (X:Cx)(NB:@KK)(scope:Scope)(C:Addr)(ex:List Addr)(s3:Shared)(H3:Hp)(pn:@Db):Cx:=
 {X with N:=NB,s₀:=s3,H₀:=H3,env:=compEnvC scope (Ih X scope C) C X.env,outer:=X.stack,ex:=ex,fn:=λx=>scope.names.lookup x == some .cell,pn:=pn,xe:=λ_ _=>False}
def dD (own:Nat)(ixs:@IO)(σ:St):St:=List.replicate own none ++ ixs.map λi=>(σ[i]?).join
structure dE (X:Cx)(NB:@KK)(own:Nat)(ixs:@IO)(scope:Scope):Prop where
 kind:scope.kind=.function
 names:∀y∈scope.names,scope.names.lookup y.1=some y.2
 frees:∀y∈scope.names,y.2=.free->X.env.kindOf y.1=some .cell\/X.env.kindOf y.1=some .free
 nd:NB.Nodup
 len:NB.length=own + ixs.length
 at':∀k,k < ixs.length->NB[own + k]? =X.N[ixs.getD k 0]?/\∀x,NB[own + k]? =some x->(x,NameKind.free)∈scope.names
section
variable {X:Cx}{NB:@KK}{own:Nat}{ixs:@IO}{scope:Scope}{pins:@Db}{σ:St}{H:Hp}{s:Shared}
def B9 (S:dE X NB own ixs scope)(I:@At){fp:List Addr}(hfp:∀b∈fp,p4 X pins H b)(hob:∀b∈fp,∃o,s.heap.get? b=some o){h1:Heap}{tk:Nat}
  (hn:h1.Ns s.heap.objs.size (λ_=>none)) (hk:∀b o,s.heap.get? b=some o->h1.get? b=some o) (hcl:CellsOk h1 (s.heap.objs.size + 1) (@Sc)) :
  Inv (jW X NB scope s.heap.objs.size fp s H (X.pn ++ pins)) [] (dD own ixs σ) H {s with heap:=h1,toks:=tk}:=by
 have stk:=I.stack
 have frees:∀{x:Str},(x,NameKind.free)∈scope.names->∃c,@M_:=λ{x} hx=>I.ok.has x (S.frees _ hx rfl)
 have clE:∀{x:Str} {c:Addr},(Ih X scope s.heap.objs.size).lookup x=some c->((x,c)∈@Sc/\s.heap.objs.size < c)\/((x,NameKind.free)∈scope.names/\@M_):=λ{x c} h=>by
  unfold Ih at h
  rw[nP,List.lookup_append] at h
  cases q:(@Sc).lookup x with
  |some c'=>
   rw[q] at h
   cases h
   have hm:=QL q
   exact .inl ⟨hm,(si hm).1⟩
  |none=>
   rw[q] at h
   have h:(pF X.env.cells scope.names []).lookup x=some c:=h
   rcases pR h with⟨a,b⟩ |a
   ·obtain⟨c',e⟩:=frees a
    rw[e] at b
    exact .inr ⟨a,by rw[e,b];rfl⟩
   ·simp at a
 have clF:∀{x:Str},(x,NameKind.free)∈scope.names->(Ih X scope s.heap.objs.size).lookup x=some ((X.env.cells.lookup x).getD 0):=λ{x} hm=>by
  unfold Ih
  rw[nP,List.lookup_append]
  cases q:(@Sc).lookup x with
  |some c'=>
   have h1:=S.names _ (si (QL q)).2
   have h2:=S.names _ hm
   dsimp only at h1 h2
   rw[h1] at h2
   cases h2
  |none=>exact ui (.inl hm)
 have kindB:∀x,(jW X NB scope s.heap.objs.size fp s H (X.pn ++ pins)).env.kindOf x=(scope.names.lookup x).map λk=>if (k == .free && X.env.scope.kind == .function && X.env.kindOf x == some .cell) then .cell else k:=λx=>sI scope X.env x
 have isFree:∀{x:Str},((jW X NB scope s.heap.objs.size fp s H (X.pn ++ pins)).env.kindOf x=some .cell\/(jW X NB scope s.heap.objs.size fp s H (X.pn ++ pins)).env.kindOf x=some .free)->(x,NameKind.free)∈scope.names\/scope.names.lookup x=some .cell:=λ{x} h=>by
  rw[kindB] at h
  cases e:scope.names.lookup x with
  |none=>rw[e] at h;simp at h
  |some k=>
   have hm:=QL e
   cases k with
   |free=>exact .inl hm
   |cell=>exact .inr rfl
   |_=>rw[e] at h;simp at h
 have neN:∀b o,s.heap.get? b=some o->b≠s.heap.objs.size:=λb o e=>Qg (PB e)
 have cellN:∀{x:Str} {c:Addr},@M_->c < s.heap.objs.size:=λ{x c} e=>by
  obtain⟨v,o,ho,_⟩:=I.cell x c e
  exact PB ho
 have ok:(jW X NB scope s.heap.objs.size fp s H (X.pn ++ pins)).Ok:=by
  refine⟨I.ok.mod,S.kind,I.ok.glob,I.ok.blt,Pt _,λx y c h1 h2=>?_,λx hx=>?_,λx c h hc=>?_,I.ok.hd,I.ok.frames,.inl rfl,λb hb=>?_,I.bs,QA I.ok.bsz I.sz,λb o e hb=>?_,λb hb hs=>?_,stk,I.stkFree⟩
  ·rcases clE h1 with⟨a,l1⟩ | ⟨a,l1⟩
   ·rcases clE h2 with⟨b,l2⟩ | ⟨b,l2⟩
    ·exact name_of_addr hcl.apart a b
    ·exact absurd (RP l1 (cellN l2)) (Qe _)
   ·rcases clE h2 with⟨b,l2⟩ | ⟨b,l2⟩
    ·exact absurd (RP l2 (cellN l1)) (Qe _)
    ·exact I.ok.inj x y c l1 l2
  ·rcases isFree hx with hm |hm
   ·exact⟨_,clF hm⟩
   ·obtain⟨c,hc⟩:=Rm.mp (R4 scope.names (s.heap.objs.size + 1) (pF X.env.cells scope.names []) (.inl hm))
    exact⟨c,hc⟩
  ·rcases clE hc with⟨a,l1⟩ | ⟨a,l1⟩
   ·exact R9 l1
   ·have h1:=S.names _ a
    dsimp only at h1
    have h:(scope.names.lookup x == some NameKind.cell)=true:=h
    rw[h1] at h
    cases h
  ·obtain⟨_,f1,f2,f3,f4,f5⟩:=hfp b hb
   obtain⟨o,ho⟩:=hob b hb
   refine⟨neN b o ho,λx c h z=>?_⟩
   rcases clE h with⟨a,l1⟩ | ⟨a,l1⟩
   ·rw[z] at l1
    exact Qe _ (RP l1 (PB ho))
   ·exact f4 x c l1 z
  ·obtain⟨_,f1,f2,f3,f4,f5⟩:=hfp b hb
   rcases f3 with f3 |f3
   ·exact I.ok.noex b o e f3
   ·exact absurd (Qa (PB e) (QA I.ok.bsz f3)) (Qe _)
  ·obtain⟨_,f1,f2,f3,f4,f5⟩:=hfp b hb
   rcases Pu.mp (I.stkSub b hs) with z |z
   ·exact f1 z
   ·exact f2 z
 refine⟨ok,rfl,I.bare,Un.kept hk,⟨_,hn,λi x v h1' h2' h3'=>?_⟩,λx c h=>?_,I.hok.fresh (Pt _),λx c h=>?_,λp hp=>?_,I.hok.kept hk,?_⟩
 ·
  have h1':NB[i]? =some x:=h1'
  have hown:own<=i:=by
   refine Classical.byContradiction λhc=>?_
   have hlt:i < own:=Nat.lt_of_not_le hc
   unfold dD at h2'
   rw[Qb (by simpa using hlt),Q7,Po hlt] at h2'
   cases h2'
  obtain⟨k,rfl⟩:∃k,i=own + k:=⟨i - own,@AT ⟩
  have hk':k < ixs.length:=by
   have:=(PN.mp h1').1
   rw[S.len] at this;omega
  obtain⟨e1,e2⟩:=S.at' k hk'
  have hm:=e2 x h1'
  unfold dD at h2'
  rw[Qf @Go,Ri,Nat.add_sub_cancel_left,PK,Pn hk'] at h2'
  simp only[Option.map_some,Option.some.injEq] at h2'
  have hix:ixs.getD k 0=ixs[k]:=by simp[hk']
  have hσ:σ[ixs[k]]? =some (some v):=by
   cases e:σ[ixs[k]]? with
   |none=>rw[e] at h2';cases h2'
   |some o=>rw[e] at h2';simp at h2';rw[h2']
  rw[e1,hix] at h1'
  have hkind:=S.frees _ hm rfl
  have hvis:yM X.env.scope x:=hkind.elim (λz=>.inr (.inl z)) (λz=>.inr (.inr z))
  obtain⟨m,hm',hl⟩:=I.loc
  obtain⟨u,r,look⟩:=hl _ x v h1' hσ hvis
  refine⟨u,r,.inr ⟨?_,?_⟩⟩
  ·rw[kindB]
   have hfr:scope.names.lookup x=some .free:=S.names _ hm
   rw[hfr]
   simp only[Option.map_some]
   split
   ·exact .inl rfl
   ·exact .inr rfl
  ·rcases look with⟨z,_⟩ | ⟨_,c,hc,hcell⟩
   ·rcases hkind with q |q
    ·rw[q] at z;cases z
    ·rw[q] at z;cases z
   ·refine⟨c,?_,?_⟩
    ·have:=clF hm
     rw[hc] at this
     exact this
    ·obtain⟨o,ho,hd⟩:=hcell
     exact⟨o,hk _ _ ho,hd⟩
 ·rcases clE h with⟨a,_⟩ | ⟨_,l1⟩
  ·exact⟨_,(hcl.empty _ _ a).1⟩
  ·obtain⟨v,o,ho,hd⟩:=I.cell x c l1
   exact⟨v,o,hk _ _ ho,hd⟩
 ·rcases clE h with⟨_,l1⟩ | ⟨_,l1⟩
  ·exact I.hok.fresh (R9 l1)
  ·exact I.freeC x c l1
 ·have hp':p∈X.pn ++ pins:=by
   rcases PQ.mp hp with z |z
   ·exact z
   ·cases z
  obtain⟨e,n,ne,nf,d⟩:=I.pin p hp'
  refine⟨hk _ _ e,n,neN _ _ e,λz=>?_,d⟩
  rcases Pu.mp (I.stkSub _ z) with q |q
  ·exact ne q
  ·exact nf q
 ·show (dD own ixs σ).length=NB.length
  unfold dD
  rw[S.len];simp
end
abbrev Aq (ifs:@TH)(env:Env):Sem Bool:=forIn ifs true λc r=>if r=true then do let ok <-isTrue c env (eval c env);pure (ForInStep.yield ok) else pure (ForInStep.yield r)
theorem BI {prog:Program}{w:World}{A:Around}{R:Result->@Rs}{s:Shared}{elt target iter:Expr}{ifs:@TH}{scope:Scope}{pos:Pos}{it acc:Value}{env:Env}(I:Nat->@Rs)
  (turn:∀n s,I n s->wpAny (@NE) A (pyNext it) (λr s1=>match r with
   |none=>R (.ok .next) s1
   |some v=>wpAny (@NE) A (letOwnedTupleGo target it v) (λ_ s1'=>wpAny (@NE) A (assign target env v) (λ_ s2=>
     wpAny (@NE) A (Aq ifs env) (λok s3=>
      if ok=true then wpAny (@NE) A (eval elt env) (λx s4=>wpAny (@NE) A (call (.builtin "list.append") [acc,x]) (λ_ s5=>∃m,m < n/\I m s5) (λ_ _=>False) s4) (λ_ _=>False) s3
      else ∃m,m < n/\I m s3) (λ_ _=>False) s2) (λ_ _=>False) s1') (λ_ _=>False) s1) (λ_ _=>False) s)
  (n:Nat) (h:I n s):codeAny (@NE) A (.compLoop (.ListComp elt [⟨target,iter,ifs,0⟩] scope pos) 0 it acc env) R s:=by
 refine codeAny_loop rfl I (λn s hI=>?_) n h
 (show wpAny _ A ((compTurn (.ListComp elt [⟨target,iter,ifs,0⟩] scope pos) 0 it acc env).onRaise (λx=>do (noteFrame x env);theTreesLotGoes x)) _ _ s)
 refine wpAny_noted ?_
 rw[compTurn_list]
 refine Pl (wpAny_standAt (Pl (QS (turn n s hI) (λr s1 h1=>?_) λ_ _ z=>z.elim)))
 cases r with
 |none=>exact Pp h1
 |some v=>
  refine Pl (QS h1 (λ_ s1' h1'=>?_) λ_ _ z=>z.elim)
  refine Pl (QS h1' (λ_ s2 h2=>Pl (QS h2 (λok s3 h3=>?_) λ_ _ z=>z.elim)) λ_ _ z=>z.elim)
  cases ok with
  |false=>exact Pp ⟨rfl,h3⟩
  |true=>exact Pl (Pl (QS h3 (λx s4 h4=>Pl (QS h4 (λ_ s5 h5=>Pp (Pp ⟨rfl,h5⟩)) λ_ _ z=>z.elim)) λ_ _ z=>z.elim))
def Fh (X:Cx)(ifs:@TH)(t:TT):Prop:=
 ∀(pins:@Db) (s:Shared) (σ:St) (H:Hp) (Q:Bool->Hp->Prop),@At->t σ H Q->wpAny @D_ X.A (Aq ifs X.env) (TP X pins σ Q) X.xe s
def Ky:TT:=λ_ H Q=>Q true H
def wj {X:Cx}:Fh X [] Ky:=λpins s σ H Q I h=>Pp ⟨H,I,h⟩
def Bl {X:Cx}{c:Expr}{t:TT}(h:PT X c t):Fh X [c] t:=λpins s σ H Q I q=>wpAny_tests_one (h pins s σ H Q I q)
def Ak (own:Nat)(ixs:@IO)(wi:TI)(g:TG)(tt:TT)(te:TE)(σ:St)(H:Hp)(Q:VK):Prop:=wi σ H λJ H1=>∀D,H1 D=none->∃W:Nat->Nat->@Q_,(∃m,W 0 m (dD own ixs σ) (upd H1 D (.lst [])))/\∀i m σ' H',W i m σ' H'->
 (J.stop i H'/\(∃acc,H' D=some (.lst acc))/\Q @Tj H')\/
 (J.go i H'/\∃N:@Q_,(∀σ2 H2,N σ2 H2->∃m',m' < m/\W (i + 1) m' σ2 H2)/\∀x H2,J.yld i H' x H2->g x σ' H2 λσ3 H3=>tt σ3 H3 λb H4=>
  @TQ)
section
variable {X:Cx}{NB:@KK}{own:Nat}{ixs:@IO}{scope:Scope}{elt tg iter:Expr}{ifs:@TH}{pos:Pos}{wi:TI}{g:TG}{tt:TT}{te:TE}
def uq (hc:X.calm=true)(S:dE X NB own ixs scope)
  (hg:∀C ex s3 H3 pn,PG @IR tg g) (ht:∀C ex s3 H3 pn,Fh @IR ifs tt) (he:∀C ex s3 H3 pn,PE @IR elt te)
  {pins:@Db} {σ:St} {H1:Hp} {s2:Shared} {it:Addr} {fp:List Addr} {tn:Nat->Heap->Prop} {J:It} {Q:VK} (I2:Inv X pins σ H1 s2) (T:Turn X.prog X.w X.K tg J fp it tn) (st2:tn 0 s2.heap) (f2:∀b∈fp,p4 X pins H1 b)
  (hQ:∀D,H1 D=none->∃W:Nat->Nat->@Q_,(∃m,W 0 m (dD own ixs σ) (upd H1 D (.lst [])))/\∀i m σ' H',W i m σ' H'->
   (J.stop i H'/\(∃acc,H' D=some (.lst acc))/\Q @Tj H')\/
   (J.go i H'/\∃N:@Q_,(∀σ2 H2,N σ2 H2->∃m',m' < m/\W (i + 1) m' σ2 H2)/\∀x H2,J.yld i H' x H2->g x σ' H2 λσ3 H3=>tt σ3 H3 λb H4=>
    @TQ))
  {E:@Ch} {RR:Value->Addr->Result->@Rs}
  (fin:∀D C H' s' m,Inv X pins σ H' s'->Q @Tj H'->s'.heap.Ns C m->H' C=none->C≠X.env.locals->(∀x c,@M_->c≠C)->X.s₀.heap.objs.size<=C->(∀p∈X.pn ++ pins,p.1≠C)->RR @Tj C (.ok .next) s') :
  wpAny @D_ X.A (newList []) (λacc s3=>wpAny @D_ X.A (newFunctionEnv scope X.env.globals (pF X.env.cells scope.names []) [] X.env.qual none .none (some X.env)) (λcenv s4=>
   codeAny @D_ X.A (.compStart @N_ 0 (.ref it) acc {cenv with scope:=relabel scope X.env}) (RR acc cenv.locals) s4) E s3) E s2:=by
 refine wpAny_newList ?_ (Qp _)
 have hD:H1 s2.heap.objs.size=none:=I2.hok.fresh (Pt _)
 obtain⟨W,⟨m0,w0⟩,turn⟩:=hQ s2.heap.objs.size hD
 generalize hs3:({s2 with heap:=s2.heap.push (seqObj "list" ([]:@GM).toArray 0)}:Shared)=s3
 have I3:Inv X pins σ (upd H1 s2.heap.objs.size (.lst [])) s3:=by
  rw[<-hs3]
  exact I2.lnew (ys:=[]) (its:=[]) (t':=s2.toks) .nil (Qp _)
 have k3:∀b o,s2.heap.get? b=some o->s3.heap.get? b=some o:=λb o e=>by rw[<-hs3];exact Pq _ e
 have sz3:s3.heap.objs.size=s2.heap.objs.size + 1:=by rw[<-hs3];exact Q6 ..
 have ob2:∀b∈fp,∃o,s2.heap.get? b=some o:=λb hb=>let ⟨o,e,_⟩:=T.obj 0 _ st2 b hb;⟨o,e⟩
 have neD:∀b∈fp,b≠s2.heap.objs.size:=λb hb=>let ⟨o,e⟩:=ob2 b hb;Qg (PB e)
 have f3:∀b∈fp,p4 X pins (upd H1 s2.heap.objs.size (.lst [])) b:=λb hb=>by
  obtain⟨a1,a2⟩:=f2 b hb
  exact⟨by rw[aC (neD b hb)];exact a1,a2⟩
 have st3:tn 0 s3.heap:=T.keep _ _ _ st2 λb _ o e=>k3 b o e
 refine GS λh4 hn4 k4 ok4=>?_
 have I4:Inv (jW X NB scope s3.heap.objs.size fp s3 (upd H1 s2.heap.objs.size (.lst [])) (X.pn ++ pins)) [] (dD own ixs σ) (upd H1 s2.heap.objs.size (.lst [])) {s3 with heap:=h4}:=
  B9 S I3 f3 (λb hb=>let ⟨o,e⟩:=ob2 b hb;⟨o,k3 _ _ e⟩) hn4 k4 ok4
 have st4:tn 0 h4:=T.keep _ _ _ st3 λb _ o e=>k4 b o e
 generalize hB:jW X NB scope s3.heap.objs.size fp s3 (upd H1 s2.heap.objs.size (.lst [])) (X.pn ++ pins)=B at I4
 have hgB:PG B tg g:=by rw[<-hB];exact hg _ _ _ _ _
 have htB:Fh B ifs tt:=by rw[<-hB];exact ht _ _ _ _ _
 have heB:PE B elt te:=by rw[<-hB];exact he _ _ _ _ _
 have eP:B.prog=X.prog:=by rw[<-hB];rfl
 have eW:B.w=X.w:=by rw[<-hB];rfl
 have eK:B.K=X.K:=by rw[<-hB];rfl
 have eA:B.A=X.A:=by rw[<-hB];rfl
 have eC:B.calm=true:=by rw[<-hB];exact hc
 have eX:B.xe=λ_ _=>False:=by rw[<-hB];rfl
 have eE:B.env=compEnvC scope (Ih X scope s3.heap.objs.size) s3.heap.objs.size X.env:=by rw[<-hB];rfl
 have ex:B.ex=fp:=by rw[<-hB];rfl
 have eL:B.env.locals=s3.heap.objs.size:=by rw[eE];rfl
 have stat:∀{H':Hp},(∀b∈fp,H' b=none)->∀b∈fp,p4 B [] H' b:=λ{H'} hn b hb=>by
  obtain⟨a1,a2,a3,a4,a5,a6⟩:=f3 b hb
  obtain⟨o,eo⟩:=ob2 b hb
  refine⟨hn b hb,?_,λz=>?_,.inl (by rw[ex];exact hb),λx c e z=>?_,λp hp z=>?_⟩
  ·rw[eL];exact Qg (PB (k3 _ _ eo))
  ·have hz:b∈gi X.stack:=by rw[<-hB] at z;exact z
   rcases Pu.mp (I3.stkSub b hz) with q |q
   ·exact a2 q
   ·exact a3 q
  ·rw[eE] at e
   have e:(Ih X scope s3.heap.objs.size).lookup x=some c:=e
   unfold Ih at e
   rw[nP,List.lookup_append] at e
   cases q:(cellsFrom (s3.heap.objs.size + 1) scope.names []).lookup x with
   |some c'=>
    rw[q] at e
    cases e
    have l1:=(si (QL q)).1
    rw[z] at l1
    exact Qe _ (RP l1 (PB (k3 _ _ eo)))
   |none=>
    rw[q] at e
    have e:(pF X.env.cells scope.names []).lookup x=some c:=e
    rcases pR e with⟨m1,m2⟩ |m1
    ·obtain⟨c',e'⟩:=I3.ok.has x (S.frees _ m1 rfl)
     rw[e'] at m2
     exact a5 x c' e' (by rw[<-z,m2];rfl)
    ·simp at m1
  ·have hp':p∈X.pn ++ pins:=by
    rw[<-hB] at hp
    rcases PQ.mp hp with q |q
    ·exact q
    ·cases q
   exact a6 p hp' z
 have back:∀{σ':St} {H':Hp} {s':Shared},Inv B [] σ' H' s'->Inv X pins σ H' s':=λ{σ' H' s'} J'=>by
  have u:=J'.base
  have os:=J'.os
  have bare:=J'.bare
  have hok:=J'.hok
  subst hB
  exact I3.call' (ch:=fp) os u hok bare λb hb=>by
   obtain⟨a1,a2,a3,a4,a5,a6⟩:=f3 b hb
   exact⟨a4,a2,a5,a6⟩
 have loop:∀s5:Shared,s5={s3 with heap:=h4}->
   codeAny @D_ X.A (.compLoop @N_ 0 (.ref it) (.ref s2.heap.objs.size) (compEnvC scope (Ih X scope s3.heap.objs.size) s3.heap.objs.size X.env)) (RR (.ref s2.heap.objs.size) s3.heap.objs.size) s5:=by
  rintro s5 rfl
  refine BI (λn s'=>∃i σ' H',Inv B [] σ' H' s'/\tn i s'.heap/\(∀b∈fp,H' b=none)/\W i n σ' H') ?_ m0 ⟨0,_,_,I4,st4,λb hb=>(f3 b hb).1,w0⟩
  rintro n s6 ⟨i,σ6,H6,I6,st6,fr6,w6⟩
  rcases turn i n σ6 H6 w6 with⟨stop,⟨acc,hacc⟩,qn⟩ | ⟨go,N,hN,step⟩
  ·have:=T.done B eP eW eK eC i [] s6 σ6 H6 (λ_ _=>False) I6 (stat fr6) st6 stop
   rw[eA] at this
   refine cG this λr s7 ⟨hr,I7⟩=>?_
   subst hr
   obtain⟨m7,hn7,_⟩:=I7.loc
   rw[eL] at hn7
   have J7:=back I7
   refine fin _ _ H6 s7 m7 J7 qn hn7 (by rw[<-eL];exact I7.free) (λz=>?_) (λx c e z=>?_) ?_ λp hp z=>?_
   ·have:=I3.lt
    rw[<-z] at this
    exact Qe _ this
   ·obtain⟨v,o,ho,_⟩:=I3.cell x c e
    exact absurd (PB ho) (by rw[z];exact Qe _)
   ·exact I3.sz
   ·have:=PB (I3.pin p hp).1
    rw[z] at this
    exact Qe _ this
  ·have hitem:=T.item B eP eW eK eC i [] s6 σ6 H6 (λ_ _=>False) I6 (stat fr6) st6 go
   rw[eA] at hitem
   refine cG hitem λr s7 ⟨u,hr,h7⟩=>?_
   subst hr
   refine cG h7 λ_ s8 ⟨x,H8,I8,r8,y8,st8,fr8⟩=>?_
   have I8':=I8.pinned (stat fr8) (T.obj _ _ st8)
   have ha:=hgB _ s8 σ6 H8 x u _ I8' r8 (step x H8 y8)
   rw[eP,eW,eA,eE,eX] at ha
   refine cG ha λ_ s9 ⟨σ9,H9,I9,q9⟩=>?_
   have hb:=htB _ s9 σ9 H9 _ I9 q9
   rw[eP,eW,eA,eE,eX] at hb
   refine cG hb λok s10 ⟨H10,I10,q10⟩=>?_
   have again:∀{σ7:St} {H7:Hp} {s7:Shared},Inv B ([] ++ sQ fp s8.heap) σ7 H7 s7->N σ7 H7->∃m,m < n/\∃i σ' H',Inv B [] σ' H' s7/\tn i s7.heap/\(∀b∈fp,H' b=none)/\W i m σ' H':=λ{σ7 H7 s7} I7 n7=>by
    obtain⟨m',hm,w7⟩:=hN σ7 H7 n7
    refine⟨m',hm,i + 1,σ7,H7,I7.unpinned,T.keep _ _ _ st8 λb hb o e=>(I7.pin (b,o) (Qi _ (Qi _ (ky hb e)))).1,λb hb=>?_,w7⟩
    obtain⟨o,e,d⟩:=T.obj _ _ st8 b hb
    exact (I7.pin (b,o) (Qi _ (Qi _ (ky hb e)))).2.1
   cases ok with
   |false=>
    simp only[P0,Qq] at q10 ⊢
    exact again I10 q10
   |true=>
    simp only[QC] at q10 ⊢
    have hv:=heB _ s10 σ9 H10 _ I10 q10
    rw[eP,eW,eA,eE,eX] at hv
    refine cG hv λy s11 ⟨v,H11,I11,r11,acc,hacc,hz,q11⟩=>?_
    have hap:=pZ (X:=B) _ s11 σ9 H11 (.ref s2.heap.objs.size) [v] (.ref s2.heap.objs.size) [y] (λz H'=>z=.non/\N σ9 H') I11 rfl (.cons r11 .nil) ⟨_,acc,v,rfl,rfl,hacc,hz,rfl,q11⟩
    rw[eP,eW,eA,eX] at hap
    exact cG hap λ_ s12 ⟨_,H12,I12,_,_,q12⟩=>again I12 q12
 exact codeAny_compStart_list (loop _ rfl) (T.self X.A 0 _ _ _ st4 (loop _ rfl))
def xQ (hc:X.calm=true)(S:dE X NB own ixs scope)(hi:PI X tg iter wi)
  (hg:∀C ex s3 H3 pn,PG @IR tg g) (ht:∀C ex s3 H3 pn,Fh @IR ifs tt) (he:∀C ex s3 H3 pn,PE @IR elt te)
  (hs:∀x,foldedSetIterable iter X.env x=pure x:=by intro _;rfl) :
  PE X @N_ (Ak own ixs wi g tt te):=by
 intro pins s σ H Q I h
 rw[eval_ListComp]
 refine wpAny_comprehension_free (use:=none) rfl hs (sJ λy hy e=>I.ok.has _ (S.frees y hy e)) S.kind (λy hy e=>by rw[S.names y hy,e]) ?_
 refine cG (hi pins s σ H _ I h) λv s1 h1=>cG h1 λitv s2 h2=>?_
 obtain⟨it,fp,tn,J,H2,e,I2,T,st2,f2,q2⟩:=h2
 subst e
 refine uq hc S hg ht he I2 T st2 f2 q2 (RR:=λacc C=>compPost @D_ X.A X.xe none (EP X pins σ Q) acc C) λD C H' s' m J' q hn hC n1 n2 n3 n4=>?_
 refine⟨m,hn,λh'' sb=>⟨.ref D,H',?_,rfl,q⟩⟩
 exact J'.turned (t':=s'.toks) (it:=C) (λb o hb e=>sb.extBut b o hb e) hC n1 (.inr n3) n2 n4
def Eu {i:Nat}{y:Str}{py spos:Pos}(hc:X.calm=true)(S:dE X NB own ixs scope)(hi:PI X tg iter wi)
  (hg:∀C ex s3 H3 pn,PG @IR tg g) (ht:∀C ex s3 H3 pn,Fh @IR ifs tt) (he:∀C ex s3 H3 pn,PE @IR elt te)
  (hN:X.N.Nodup) (hy:X.N[i]? =some y) (hl:X.env.scope.names.lookup y=some .local)
  (hsw:swapsWith @N_ (some (.Name y py)) spos.line X.env=pure true)
  (hs:∀x,foldedSetIterable iter X.env x=pure x:=by intro _;rfl) :
  PS X (.Assign [.Name y py] @N_ spos) (λD σ H=>Ak own ixs wi g tt te σ H λv H'=>D.nx (σ.set i (some v)) H'):=by
 intro pins s σ H D I h
 rw[exec_Assign_Name_used _ _ _ _ hsw]
 refine Pl (wpAny_standAt (Pl ?_))
 show wpAny _ X.A (comprehension @N_ scope X.env _ (newList []) false (eval iter X.env) (some (assign (.Name y py) X.env)) >>= λ_=>pure ()) _ _ s
 refine Pl (QS (wpAny_comprehension_free (use:=some (assign (.Name y py) X.env)) (Q:=λ_ s'=>SP X pins D .next s') rfl hs (sJ λy hy e=>I.ok.has _ (S.frees y hy e)) S.kind (λy hy e=>by rw[S.names y hy,e]) ?_)
  (λ_ s' hq=>Pp (Pp hq)) λ_ _ e=>e)
 refine cG (hi pins s σ H _ I h) λv s1 h1=>cG h1 λitv s2 h2=>?_
 obtain⟨it,fp,tn,J,H2,e,I2,T,st2,f2,q2⟩:=h2
 subst e
 refine uq hc S hg ht he I2 T st2 f2 q2 (Q:=λv H'=>D.nx (σ.set i (some v)) H') (RR:=λacc C=>compPost @D_ X.A X.xe (some (assign (.Name y py) X.env)) (λ_ s'=>SP X pins D .next s') acc C) λD' C H' s' m J' q hn hC n1 n2 n3 n4=>?_
 show wpAny _ X.A (assign (.Name y py) X.env (.ref D')) _ _ s'
 refine wpAny_assign_Name (uW J' hN hy (.inl hl) (v:=.ref D') rfl (λs'' I'' ⟨a,sb,ha⟩=>?_) (.inr hl))
 have hCa:C≠a:=by
  rcases ha with z |z
  ·rw[z];exact n1
  ·exact (n2 _ _ z).symm
 refine⟨m,hn.sameBut sb hCa,λh3 sb3=>⟨_,H',?_,q⟩⟩
 exact I''.turned (t':=s''.toks) (it:=C) (λb o hb e=>sb3.extBut b o hb e) hC n1 (.inr n3) n2 n4
end
section
variable {own:Nat}{ixs:@IO}{g:TG}{tt:TT}{te:TE}{σ:St}{H:Hp}{Q:VK}{K:Frag}{D a:Addr}{xs:List V}
abbrev fV (g:TG)(tt:TT)(te:TE)(D:Addr)(x:V)(σ:St)(H:Hp)(N:@Q_):Prop:=g x σ H λσ3 H3=>tt σ3 H3 λb H4=>
  @TQ
def Ck (Pv:Nat->@Q_)(h0:Pv 0 (dD own ixs σ) (upd H D (.lst [])))(hl:∀i σ H,i<=xs.length->Pv i σ H->gk K H a xs)
  (hs:∀i x σ H,xs[i]? =some x->Pv i σ H->fV g tt te D x σ H (Pv (i + 1))) (hd:∀σ H,Pv xs.length σ H->(∃acc,H D=some (.lst acc))/\Q @Tj H) :
  ∃W:Nat->Nat->@Q_,(∃m,W 0 m (dD own ixs σ) (upd H D (.lst [])))/\∀i m σ' H',W i m σ' H'->
   ((Cz K a).stop i H'/\(∃acc,H' D=some (.lst acc))/\Q @Tj H')\/
   ((Cz K a).go i H'/\∃N:@Q_,(∀σ2 H2,N σ2 H2->∃m',m' < m/\W (i + 1) m' σ2 H2)/\∀x H2,(Cz K a).yld i H' x H2->fV g tt te D x σ' H2 N):=by
 refine⟨λi m σ H=>m=xs.length - i/\i<=xs.length/\Pv i σ H,⟨xs.length,by simp,Qp _,h0⟩,?_⟩
 rintro i m σ H ⟨rfl,hi,p⟩
 have q:=hl i σ H hi p
 by_cases hlt:i < xs.length
 ·refine .inr ⟨⟨xs,xs[i],q,by simp[hlt]⟩,Pv (i + 1),λσ' H' p'=>⟨xs.length - (i + 1),@AT,rfl,hlt,p'⟩,λx H' y=>?_⟩
  obtain⟨e,y⟩:=y
  subst e
  exact hs i x σ _ (y xs q) p
 ·have e:i=xs.length:=@AT
  subst e
  exact .inl ⟨⟨xs,q,Pt _⟩,hd σ H p⟩
def zT {lo:Int}{n:Nat}(Pv:Nat->@Q_)(h0:Pv 0 (dD own ixs σ) (upd H D (.lst [])))
  (hs:∀i σ H,i < n->Pv i σ H->fV g tt te D (.int (lo + i)) σ H (Pv (i + 1))) (hd:∀σ H,Pv n σ H->(∃acc,H D=some (.lst acc))/\Q @Tj H) :
  ∃W:Nat->Nat->@Q_,(∃m,W 0 m (dD own ixs σ) (upd H D (.lst [])))/\∀i m σ' H',W i m σ' H'->
   ((Co lo n).stop i H'/\(∃acc,H' D=some (.lst acc))/\Q @Tj H')\/
   ((Co lo n).go i H'/\∃N:@Q_,(∀σ2 H2,N σ2 H2->∃m',m' < m/\W (i + 1) m' σ2 H2)/\∀x H2,(Co lo n).yld i H' x H2->fV g tt te D x σ' H2 N):=by
 refine⟨λi m σ H=>m=n - i/\i<=n/\Pv i σ H,⟨n,by simp,Qp _,h0⟩,?_⟩
 rintro i m σ H ⟨rfl,hi,p⟩
 by_cases hlt:i < n
 ·refine .inr ⟨hlt,Pv (i + 1),λσ' H' p'=>⟨n - (i + 1),@AT,rfl,hlt,p'⟩,λx H' y=>?_⟩
  obtain⟨e,y⟩:=y
  subst e y
  exact hs i σ _ hlt p
 ·have e:i=n:=@AT
  subst e
  exact .inl ⟨Pt _,hd σ H p⟩
end
mutual
inductive Rep (K:Frag)(H:Hp):V->PyData->Prop
 |non:Rep K H .non .none
 |bl (b:Bool):Rep K H (.bl b) (.bool b)
 |int (i:Int):Rep K H @S3 @S3
 |str (x:Str):Rep K H (.str x) (.str x)
 |tup {a:Addr} {xs:List V} {ds:List PyData}:gj K H a xs->mq K H xs ds->Rep K H @S2 (.tuple ds)
 |lst {a:Addr} {xs:List V} {ds:List PyData}:gk K H a xs->mq K H xs ds->Rep K H @S2 (.list ds)
inductive mq (K:Frag)(H:Hp):List V->List PyData->Prop
 |nil:mq K H [] []
 |cons {x:V} {xs:List V} {d:PyData} {ds:List PyData}:Rep K H x d->mq K H xs ds->mq K H (x :: xs) (d :: ds)
end
section
variable {X:Cx}{pins:@Db}{σ:St}{H H':Hp}{s:Shared}
mutual
theorem Rep.reads (I:@At):∀{x:V} {d:PyData} {u:Value},Rep X.K H x d->RelV x u->∃as,Reads s.heap u d as
 |_,_,_,.non,r=>by cases r;exact⟨_,.none⟩
 |_,_,_,.bl b,r=>by cases r;exact⟨_,.bool b⟩
 |_,_,_,.int i,r=>by obtain⟨t,rfl⟩:=r;exact⟨_,.int i t⟩
 |_,_,_,.str x,r=>by obtain⟨t,rfl⟩:=r;exact⟨_,.str x t⟩
 |_,_,_,.tup h hs,r=>by
  cases r
  obtain⟨its,rv,⟨o,ho,hc,n,hd⟩,_⟩:=I.tuple h
  obtain⟨as,q⟩:=mq.reads I hs rv
  exact⟨_,.tuple ho hc hd (by simpa using q)⟩
 |_,_,_,.lst h hs,r=>by
  cases r
  obtain⟨its,rv,pl,_⟩:=I.list h
  obtain⟨o,ho,hc,n,hd⟩:=pl.isList
  obtain⟨as,q⟩:=mq.reads I hs rv
  exact⟨_,.list ho hc hd (by simpa using q)⟩
theorem mq.reads (I:@At):∀{xs:List V} {ds:List PyData} {us:@GM},mq X.K H xs ds->Vals xs us->∃as,ReadsAll s.heap us ds as
 |_,_,_,.nil,r=>by cases r;exact⟨_,.nil⟩
 |_,_,_,.cons h hs,r=>by
  cases r with
  |cons r1 r2=>
   obtain⟨as,q⟩:=Rep.reads I h r1
   obtain⟨bs,q'⟩:=mq.reads I hs r2
   exact⟨_,.cons q q'⟩
end
def Jg (K:Frag)(neg:Bool):R2:=λx y H Q=>∃d e,Rep K H x d/\Rep K H y e/\SeqAt.shaped d=true/\SeqAt.shaped e=true/\Q (.bl (if neg then !PyData.eqv d e else PyData.eqv d e)) H
def gN (hu:X.A.units + 64 < cLine):mQ X (compareOp .Eq) (Jg X.K false):=by
 intro pins s σ H x y v u Q I rx ry h
 obtain⟨d,e,h1,h2,s1,s2,q⟩:=h
 obtain⟨as,r1⟩:=h1.reads I rx
 obtain⟨bs,r2⟩:=h2.reads I ry
 exact SeqAt.compareEq_shaped r1 r2 s1 s2 hu ⟨.bl _,H,I,rfl,q⟩
def dg (hu:X.A.units + 64 < cLine):mQ X (compareOp .NotEq) (Jg X.K true):=by
 intro pins s σ H x y v u Q I rx ry h
 obtain⟨d,e,h1,h2,s1,s2,q⟩:=h
 obtain⟨as,r1⟩:=h1.reads I rx
 obtain⟨bs,r2⟩:=h2.reads I ry
 exact SeqAt.compareNe_shaped r1 r2 s1 s2 hu ⟨.bl _,H,I,rfl,q⟩
def JV (K:Frag)(neg:Bool):R2:=λx y H Q=>∃p xs d ds,y=.ref p/\(gk K H p xs\/gj K H p xs)/\mq K H xs ds/\Rep K H x d/\SeqAt.shaped d=true/\(∀e,e∈ds->SeqAt.shaped e=true)/\
 Q (.bl (if neg then !(ds.any λe=>PyData.eqv e d) else ds.any λe=>PyData.eqv e d)) H
theorem mq.at' {K:Frag}:∀{xs:List V} {ds:List PyData} {i:Nat} {x:V},mq K H xs ds->xs[i]? =some x->∃d,ds[i]? =some d/\Rep K H x d
 |_,_,_,_,.nil,e=>by simp at e
 |_,_,0,_,.cons r _,e=>by simp at e;subst e;exact⟨_,rfl,r⟩
 |_,_,i + 1,x,.cons _ t,e=>by
  obtain⟨u,h1,h2⟩:=mq.at' (i:=i) (x:=x) t (by simpa using e)
  exact⟨u,by simpa using h1,h2⟩
open Classical in
theorem oh (I:@At)(d:PyData):∀{xs:List V} {us:@GM} {ds:List PyData},Vals xs us->mq X.K H xs ds->(∀e,e∈ds->SeqAt.shaped e=true)->∃f:Value->Bool,us.any f=(ds.any λe=>PyData.eqv e d)/\∀u,u∈us->∃e as,e∈ds/\Reads s.heap u e as/\f u=PyData.eqv e d:=by
 intro xs us ds hv hr hs
 let f:Value->Bool:=λu=>if h:∃e as,SeqAt.shaped e=true/\Reads s.heap u e as then PyData.eqv (Classical.choose h) d else false
 have hf:∀{u:Value} {e:PyData} {as:List Addr},SeqAt.shaped e=true->Reads s.heap u e as->f u=PyData.eqv e d:=λ{u e as} h1 h2=>by
  have hx:∃e as,SeqAt.shaped e=true/\Reads s.heap u e as:=⟨e,as,h1,h2⟩
  show (if h:∃e as,SeqAt.shaped e=true/\Reads s.heap u e as then PyData.eqv (Classical.choose h) d else false)=_
  rw[dif_pos hx]
  obtain⟨bs,q1,q2⟩:=Classical.choose_spec hx
  rw[SeqAt.Reads.unique _ _ _ _ _ (Rg q1) q2 h2]
 refine⟨f,?_,?_⟩
 ·induction hv generalizing ds with
  |nil=>cases hr;rfl
  | @cons x u xs us r1 r2 ih=>
   cases hr with
   | @cons _ _ e es h1 h2=>
    obtain⟨as,q⟩:=h1.reads I r1
    rw[Q4,Q4,hf (hs e (Pz ..)) q,ih h2 λz hz=>hs z (Pw _ hz)]
 ·intro u hu
  obtain⟨i,hi,e0⟩:=Ql.mp hu
  have hi':i < xs.length:=by rw[hv.length];exact hi
  obtain⟨u',eu,ru⟩:=hv.get (Pn hi')
  rw[Pn hi,e0] at eu
  cases eu
  obtain⟨e,ee,re⟩:=mq.at' hr (Pn hi')
  obtain⟨as,q⟩:=re.reads I ru
  have hm:=PV ee
  exact⟨e,as,hm,q,hf (hs e hm) q⟩
def Ab (hu:X.A.units + 100 < cLine):mQ X (compareOp .In) (JV X.K false):=by
 intro pins s σ H x y v u Q I rx ry h
 obtain⟨p,xs,d,ds,rfl,hq,hs,hx,s1,s2,q⟩:=h
 cases ry
 obtain⟨bs,r2⟩:=hx.reads I rx
 have key:∀{e:PyData} {as:List Addr} {u:Value},SeqAt.shaped e=true->Reads s.heap u e as->SeqAt.EqAt X.A.in1 s u v (PyData.eqv e d):=λ{e as u} h1 h2=>by
  refine SeqAt.eqAt_reads _ _ _ _ _ _ _ _ h2 r2 (Rg h1) (Rg s1) ?_
  have:=SeqAt.depth_of_shaped h1
  show X.A.units + 1 + _ < _
  omega
 rcases hq with hq |hq
 ·obtain⟨its,r,pl,hz⟩:=I.list hq
  obtain⟨f,e1,e2⟩:=oh I d r hs s2
  refine SeqAt.in_listAt f pl.isList (λw hw=>?_) ⟨.bl _,H,I,rfl,?_⟩
  ·obtain⟨e,as,hm,rd,ef⟩:=e2 w (by simpa using hw)
   rw[ef];exact key (s2 e hm) rd
  ·rw[show its.toArray.any f=its.any f by simp,e1];exact q
 ·obtain⟨its,r,pl,hz⟩:=I.tuple hq
  obtain⟨f,e1,e2⟩:=oh I d r hs s2
  refine SeqAt.in_tupleAt f pl (λw hw=>?_) ⟨.bl _,H,I,rfl,?_⟩
  ·obtain⟨e,as,hm,rd,ef⟩:=e2 w (by simpa using hw)
   rw[ef];exact key (s2 e hm) rd
  ·rw[show its.toArray.any f=its.any f by simp,e1];exact q
inductive Hq (K:Frag)(H:Hp):V->String->Prop
 |non:Hq K H .non "NoneType"
 |bl (b:Bool):Hq K H (.bl b) "bool"
 |int (i:Int):Hq K H @S3 "int"
 |str (x:Str):Hq K H (.str x) "str"
 |tup {a:Addr} {xs:List V}:gj K H a xs->Hq K H @S2 "tuple"
 |lst {a:Addr} {xs:List V}:gk K H a xs->Hq K H @S2 "list"
 |dic {a:Addr} {kvs:List (Key×V)}:H a=some (.dK kvs)->Hq K H @S2 "dict"
def NA (K:Frag):@KM:=λxs H Q=>∃x T t b,xs= [x,.ty T]/\Hq K H x t/\PySem.W.kitOne K (.type t) (.type T)=some b/\Q (.bl b) H
theorem Fj:dr X (.builtin "isinstance") (NA X.K):=by
 intro pins s σ H xs us Q I r h
 obtain⟨x,T,t,b,rfl,ty,e,q⟩:=h
 obtain⟨u,c,rfl,rx,rc⟩:=vals2 r
 cases rc
 have fin:∀tk,EP X pins σ Q (.bool b) {s with toks:=tk}:=λtk=>⟨.bl b,H,I.tok tk,rfl,q⟩
 cases ty with
 |non=>exact ko I rx .non e fin
 |bl b=>exact ko I rx (.bl b) e fin
 |int i=>exact ko I rx @S3 e fin
 |str z=>exact ko I rx (.str z) e fin
 |dic hk=>exact ko I rx (.dK hk) e fin
 |tup hq=>
  cases rx
  obtain⟨its,rv,⟨o,h1,h2,_⟩,_⟩:=I.tuple hq
  exact Qu PySem.W.kitx_tuple I.kIn ⟨o,h1,h2⟩ e (λz=>nomatch z) fin
 |lst hq=>
  cases rx
  obtain⟨its,rv,pl,_⟩:=I.list hq
  obtain⟨o,h1,h2,_⟩:=pl.isList
  exact Qu PySem.W.kitx_list I.kIn ⟨o,h1,h2⟩ e (λz=>nomatch z) fin
def wX {A:Around}{its:@GM}{bs:List Bool}(hv:Vals (bs.map V.bl) its):TruthOf X.prog X.w A (λi v=>its[i]? =some v) (λi=>bs.getD i false):=λi v s Q E hi hq=>by
 have hl:=hv.length
 have hi2:i < bs.length:=by
  have:=(PN.mp hi).1
  rw[<-hl] at this;simpa using this
 obtain⟨u,eu,ru⟩:=hv.get (i:=i) (x:=.bl bs[i]) (by simp[hi2])
 rw[hi] at eu;cases eu
 cases ru
 refine QX ?_
 have:bs.getD i false=bs[i]:=by simp[hi2]
 rw[<-this];exact hq
theorem range_all (bs:List Bool):(List.range bs.length).all (λi=>bs.getD i false)=bs.all id:=by
 induction bs with
 |nil=>rfl
 |cons b bs ih=>
  rw[P7,List.range_succ_eq_map,all_cons,List.all_map,all_cons,<-ih]
  rfl
theorem range_any (bs:List Bool):(List.range bs.length).any (λi=>bs.getD i false)=bs.any id:=by
 induction bs with
 |nil=>rfl
 |cons b bs ih=>
  rw[P7,List.range_succ_eq_map,Q4,List.any_map,Q4,<-ih]
  rfl
def Ae (K:Frag)(f:List Bool->Bool):@KM:=λxs H Q=>∃a bs,xs= [.ref a]/\gk K H a (bs.map V.bl)/\Q (.bl (f bs)) H
def rW (hc:X.calm=true){a:Addr}{bs:List Bool}{Q:VK}(I:@At)(hq:gk X.K H a (bs.map V.bl)){f:List Bool->Bool}{g:(Nat->Bool)->Nat->Bool}(hfg:g (λi=>bs.getD i false) bs.length=f bs)(q:Q (.bl (f bs)) H) :
  wpAny @D_ X.A.in1 (pyIter @S2) (λit s2=>∃Ii fp wr n P St tr,it=.ref Ii/\Walks X.prog X.w X.A.in1 Ii fp wr n P St/\St 0 s2.heap/\TruthOf X.prog X.w X.A.in1 P tr/\
   ∀h' tk,(∀b o,b∉wr->s2.heap.get? b=some o->h'.get? b=some o)->EP X pins σ Q (.bool (g tr n)) {s2 with heap:=h',toks:=tk}) X.xe s:=by
 obtain⟨its,rv,pl,hz⟩:=I.list hq
 have hh:X.A.in1.handled=none:=I.ok.hd hc
 have hlen:its.length=bs.length:=by rw[<-rv.length];simp
 obtain⟨o,ho,_⟩:=id pl.isList
 refine RG pl.isList ?_
 have W:=Walks.list (prog:=X.prog) (w:=X.w) hh s.heap.objs.size a (Qg (PB ho)) its.toArray
 refine⟨s.heap.objs.size,_,_,_,_,_,λi=>bs.getD i false,rfl,W,⟨⟨_,PX _ rfl,rfl,rfl⟩,pl.isList.push _⟩,?_,λh' tk k=>?_⟩
 ·have:=wX (X:=X) (A:=X.A.in1) rv
  simpa using this
 ·have e:its.toArray.size=bs.length:=by simpa using hlen
  rw[e,hfg]
  have I1:Inv X pins σ H {s with heap:=s.heap.push {cls:=.type "list_iterator",data:=.fields #[.ref a,.int 0 0]}}:=I.kept (t':=s.toks) λb o e=>Pq _ e
  have hf:H s.heap.objs.size=none:=I.hok.fresh (Pt _)
  have fp:=I.fpOk (H':=H) (b:=s.heap.objs.size) (Pt _) hf
  refine⟨.bl _,H,I1.turned (it:=s.heap.objs.size) (t':=tk) (λb o hb e=>k b o (by simpa using hb) e) hf fp.2.1 fp.2.2.2.1 fp.2.2.2.2.1 fp.2.2.2.2.2,rfl,q⟩
def sh (hc:X.calm=true):dr X (.builtin "all") (Ae X.K λbs=>bs.all id):=by
 intro pins s σ H xs us Q I r h
 obtain⟨a,bs,rfl,hq,q⟩:=h
 obtain⟨u,rfl,rx⟩:=vals1 r
 cases rx
 exact call_all_walk (rW hc I hq (f:=λbs=>bs.all id) (g:=λtr n=>(@TR).all tr) (range_all bs) q)
def EA (hc:X.calm=true):dr X (.builtin "any") (Ae X.K λbs=>bs.any id):=by
 intro pins s σ H xs us Q I r h
 obtain⟨a,bs,rfl,hq,q⟩:=h
 obtain⟨u,rfl,rx⟩:=vals1 r
 cases rx
 exact call_any_walk (rW hc I hq (f:=λbs=>bs.any id) (g:=λtr n=>(@TR).any tr) (range_any bs) q)
def Dq:dr X (.type "range") (λxs H Q=>∃n:Int,xs= [.int n]/\∀p,H p=none->Q (.ref p) (upd H p (.eB 0 n))):=by
 intro pins s σ H xs us Q I r h
 obtain⟨n,rfl,q⟩:=h
 obtain⟨u,rfl,rx⟩:=vals1 r
 obtain⟨t,rfl⟩:=rx
 refine call_range_1 ⟨@LE,upd H s.heap.objs.size (.eB 0 n),?_,rfl,q _ (I.hok.fresh (Pt _))⟩
 exact I.laid (λb o e=>Pq _ e) (Pt _) ⟨_,_,_,PX _ rfl⟩
def tw (hc:X.calm=true):dr X (.type "list") (λxs H Q=>∃p n,xs= [.ref p]/\H p=some (.eB 0 n)/\0<=n/\n<=1000/\∀l,H l=none->Q (.ref l) (upd H l (.lst ((List.range n.toNat).map λ(i:Nat)=>V.int @S0)))):=by
 intro pins s σ H xs us Q I r h
 obtain⟨p,n,rfl,hp,h0,h1,q⟩:=h
 obtain⟨u,rfl,rx⟩:=vals1 r
 cases rx
 obtain⟨t,u,v,hr⟩:∃t u v,s.heap.get? p=some {cls:=.type "range",data:=.fields #[.int 0 t,.int n u,.int 1 v]}:=I.hok p _ hp
 have hsz:Builtin.Range.rangeSize 0 n 1=(n.toNat:Int):=by rw[rangeSize_one];split <;> omega
 refine call_list_range (I.ok.hd hc) hr (small_one (@AT) (@AT) (@AT) (@AT)) hsz (@AT) λh' tk acc c k hS hacc=>?_
 have hv:Vals ((List.range n.toNat).map λ(i:Nat)=>V.int @S0) acc.toList:=by
  have key:∀(m:Nat) (us:@GM) (j:Nat),us.length=m->(∀(i:Nat) (v:Value),us[i]? =some v->∃t,v=Value.int ((j + i:Nat):Int) t)->Vals ((List.range' j m).map λ(i:Nat)=>V.int @S0) us:=by
   intro m
   induction m with
   |zero=>intro us j hl _;cases us with
    |nil=>exact .nil
    |cons a b=>simp at hl
   |succ m ih=>
    intro us j hl hh
    cases us with
    |nil=>simp at hl
    |cons u us=>
     rw[List.range'_succ,P8]
     refine .cons (by have:=hh 0 u rfl;simp at this;exact this) (ih us (j + 1) (by simpa using hl) λi v hi=>?_)
     obtain⟨t,e⟩:=hh (i + 1) v (by simpa using hi)
     exact⟨t,by rw[e];congr 2;omega⟩
  have:=key n.toNat acc.toList 0 (by simpa using hacc.1) λi v hi=>by
   obtain⟨t,e⟩:=hacc.2 i v (by simpa using hi)
   exact⟨t,by rw[e];simp⟩
  rw[List.range_eq_range'];exact this
 refine⟨@LE,_,I.laid (t':=tk) k (Pt _) (show bV X.prog X.w _ h' _ (.lst _) from⟨by simp;rw[Qc];omega,acc.toList,c,hv,by simpa using hS⟩),rfl,q _ (I.hok.fresh (Pt _))⟩
end
def Rc (h:Heap)(e:Addr)(cls:Value)(T:Addr)(fl:Value):Prop:=∃oe vs oT ts,h.get? e=some oe/\oe.cls=cls/\oe.dict=none/\oe.data=.fields vs/\vs[1]? =some (.ref T)/\vs[2]? =some .none/\T≠e/\h.get? T=some oT/\oT.data=.fields ts/\ts[3]? =some fl
abbrev Keeps (F:List Addr)(ch:List Addr)(h h':Heap):Prop:=∀b o,h.get? b=some o->b∉F->b∉ch->h'.get? b=some o
abbrev Slots (F:List Addr)(h h':Heap):Prop:=∀b o,h.get? b=some o->b∈F->∃sl,h'.get? b=some {o with slots:=sl}
section
variable {M:Model}{A:Around}{E:@Ch}{s:Shared}{base:Heap}{env:Env}{outer:List Env}{L e:Addr}{cls:Value}{Q:Unit->@Rs}
def Ei {oe:Obj}{vs:Array Value}{head:Value}{hadNext:Bool}(hfr:A.frames=some @SY)(hl:s.heap.FunFrames base @SY)(hf:env.frame=some L)(he:s.heap.get? e=some oe)(hc:oe.cls=cls)(hdd:oe.dict=none)(hd:oe.data=.fields vs)(hsz:1 < vs.size)(h2:vs[2]? =some .none)
  (h:∀h' T,Keeps (gi @SY) [e] s.heap h'->Slots (gi @SY) s.heap h'->s.heap.get? T=none->Rc h' e cls T (rawInt L)->Q () {s with heap:=h'}) :
  wpAny M A (do let a <-frameOf env;let pl <-entryPlaceOf L hadNext;let b <-EntryCells.newEntry head a .none (rawInt L) .none pl;setField (.ref e) 1 b) Q E s:=by
 have eF:e∉gi @SY:=λz=>by
  obtain⟨_,o,q,n⟩:=hl.mem z
  rw[he] at q;cases q;exact n _ hd
 refine Pl (wpAny_frameOf_fun hfr hl hf λh1 s1=>?_)
 refine Pl (wpAny_entryPlaceOf λpl hpl=>?_)
 unfold EntryCells.newEntry newFields
 refine Pl (QF ?_ (hpl.sizeOk5 _ _ _ _ _))
 have e1:h1.get? e=some oe:=(s1.2.1 e eF).trans he
 have e2:=Pq (h:=h1) {cls:=.type "traceback",dict:=none,data:=.fields ([head,.ref L,.none,rawInt L,.none] ++ (if pl.isEmpty then List.replicate 6 Value.none else pl)).toArray} e1
 have tn:h1.objs.size≠e:=Nat.ne_of_gt (PB e1)
 refine Se e2 hd hsz (h _ h1.objs.size (λb o q hb hn=>?_) (λb o q hb=>?_) ?_ ?_)
 ·have hbe:b≠e:=by simpa using hn
  have q1:h1.get? b=some o:=(s1.2.1 b hb).trans q
  rw[QD _ _ (Ne.symm hbe)]
  exact Pq _ q1
 ·obtain⟨sl,q1⟩:=s1.2.2 b o q
  have hbe:b≠e:=λz=>eF (z▸hb)
  refine⟨sl,?_⟩
  rw[QD _ _ (Ne.symm hbe)]
  exact Pq _ q1
 ·cases q:s.heap.get? h1.objs.size with
  |none=>rfl
  |some o=>obtain⟨sl,q1⟩:=s1.2.2 _ o q;exact absurd (PB q1) (Qe _)
 ·have d3:=Obj.data_mapFields hd (·.setIfInBounds 1 (Value.ref h1.objs.size))
  have e3:=Qw (Obj.mapFields (·.setIfInBounds 1 (Value.ref h1.objs.size))) e2 (Obj.isFreed_of_fields d3)
  refine⟨_,_,_,_,e3,(Obj.cls_mapFields _ _).trans hc,?_,d3,by simp[hsz],by rw[Array.getElem?_setIfInBounds_ne (@AT)];exact h2,tn,(QD _ _ (Ne.symm tn)).trans (PX h1 rfl),rfl,?_⟩
  ·unfold Obj.mapFields
   split <;> exact hdd
  ·rcases hpl with rfl | ⟨_,_,_,_,_,_,_,rfl⟩ <;> simp
def Aa {oe:Obj}{vs:Array Value}(hfr:A.frames=some @SY)(hl:s.heap.FunFrames base @SY)(hf:env.frame=some L)(he:s.heap.get? e=some oe)(hc:oe.cls=cls)(hdd:oe.dict=none)(hd:oe.data=.fields vs)(h1:vs[1]? =some .none)(h2:vs[2]? =some .none)
  (h:∀h' T,Keeps (gi @SY) [e] s.heap h'->Slots (gi @SY) s.heap h'->s.heap.get? T=none->Rc h' e cls T (rawInt L)->Q () {s with heap:=h'}):wpAny M A (noteFrame (.ref e) env) Q E s:=by
 unfold noteFrame
 simp only[hf]
 refine Pl (Sj he hd h1 ?_)
 rw[Px @A_]
 exact Ei hfr hl hf he hc hdd hd (Qy.mp h1).1 h2 h
def uM {T0:Addr}(hfr:A.frames=some @SY)(hl:s.heap.FunFrames base @SY)(hf:env.frame=some L)(r:Rc s.heap e cls T0 .none)
  (h:∀h' T,Keeps (gi @SY) [e,T0] s.heap h'->Slots (gi @SY) s.heap h'->(s.heap.get? T=none\/T=T0)->Rc h' e cls T (rawInt L)->Q () {s with heap:=h'}):wpAny M A (noteFrame (.ref e) env) Q E s:=by
 obtain⟨oe,vs,oT,ts,he,hc,hdd,hd,h1,h2,hTe,hT,hdT,h3⟩:=r
 have tF:T0∉gi @SY:=λz=>by
  obtain⟨_,o,q,n⟩:=hl.mem z
  rw[hT] at q;cases q;exact n _ hdT
 unfold noteFrame
 simp only[hf]
 refine Pl (Sj he hd h1 ?_)
 rw[Po (show (Value.ref T0 != Value.none)=true from by simp)]
 refine Pl (Sj hT hdT h3 ?_)
 rw[Px (show ¬((Value.none == rawInt L)=true) from by simp[rawInt])]
 refine Pl (Se hT hdT (Qy.mp h3).1 ?_)
 have oth:∀b,b≠T0->(s.heap.update T0 (Obj.mapFields (·.setIfInBounds 3 Value.none))).get? b=s.heap.get? b:=λb hb=>QD _ _ (Ne.symm hb)
 have nf:∀b o,s.heap.get? b=some o->(∀ws,o.data≠.fields ws)->b≠T0:=λb o q n z=>by
  rw[z,hT] at q;cases q;exact n _ hdT
 refine Ei (base:=base) hfr (hl.of_keeps λb o q n=>⟨o,(oth b (nf b o q n)).trans q,rfl⟩) hf ((oth e (Ne.symm hTe)).trans he) hc hdd hd (Qy.mp h1).1 h2 λh' T kp sl tn rc=>?_
 refine h h' T (λb o q hb hn=>?_) (λb o q hb=>?_) ?_ rc
 ·simp only[Pu,Qz,RF,not_or] at hn
  exact kp b o ((oth b hn.2).trans q) hb (by simp[hn.1])
 ·exact sl b o ((oth b λz=>tF (z▸hb)).trans q) hb
 ·by_cases z:T=T0
  ·exact .inr z
  ·exact .inl ((oth T z).symm.trans tn)
def qK {T:Addr}{fl:Value}(r:Rc s.heap e cls T fl)(h:∀h',Keeps [] [T] s.heap h'->Rc h' e cls T .none->Q () {s with heap:=h'}):wpAny M A (setFlight (.ref e) none) Q E s:=by
 obtain⟨oe,vs,oT,ts,he,hc,hdd,hd,h1,h2,hTe,hT,hdT,h3⟩:=r
 have sz:3 < ts.size:=(Qy.mp h3).1
 unfold setFlight
 refine Pl (Sj he hd h1 ?_)
 rw[Po (show (Value.ref T != Value.none)=true from by simp)]
 refine Se hT hdT sz (h _ (λb o q _ hn=>?_) ?_)
 ·have hb:b≠T:=by simpa using hn
  exact (QD _ _ (Ne.symm hb)).trans q
 ·have d3:=Obj.data_mapFields hdT (·.setIfInBounds 3 ((none:@J_).elim Value.none λf=>rawInt f))
  exact⟨oe,vs,_,_,(QD _ _ hTe).trans he,hc,hdd,hd,h1,h2,hTe,Qw _ hT (Obj.isFreed_of_fields d3),d3,by simp[sz]⟩
end
section
variable {P:Program}{w:World}
theorem bV.there {H:Hp}{h:Heap}{a:Addr}{o:HO}(x:bV P w H h a o):∃u,h.get? a=some u:=by
 cases o with
 |lst xs=>obtain⟨_,_,_,_,e⟩:=x;exact⟨_,e⟩
 |tup xs=>obtain⟨_,_,_,u,e,_⟩:=x;exact⟨u,e⟩
 |dK kvs=>obtain⟨_,_,_,_,o,_,_,e,_⟩:=x;exact⟨_,e⟩
 |dT kvs=>obtain⟨_,_,_,_,o,_,_,e,_⟩:=x;exact⟨_,e⟩
 |set S n=>obtain⟨o,_,_,_,e,_⟩:=x;exact⟨_,e⟩
 |ins C dx fs=>obtain⟨_,_,_,e,_⟩:=x;exact⟨_,e⟩
 |own y=>obtain⟨_,e⟩:=x;exact⟨_,e⟩
 |xd fs=>obtain⟨_,⟨_,_,_,e,_⟩,_⟩:=x;exact⟨_,e⟩
 |eB lo hi=>obtain⟨_,_,_,e⟩:=x;exact⟨_,e⟩
 |a8 ob u=>obtain⟨e,_⟩:=x;exact⟨_,e⟩
 |tbl ps=>exact⟨_,show h.get? a=some _ from x⟩
 |met f y=>exact⟨_,show h.get? a=some _ from x⟩
 |ext φ=>obtain⟨_,⟨_,e⟩,_⟩:=x;exact⟨_,e⟩
end
structure Lies (h₀:Heap)(H:Hp)(h:Heap)(e:Addr)(cls:Value):Prop where
 free:H e=none
 new:h₀.get? e=none
 ob:∃T,Rc h e cls T .none/\H T=none/\h₀.get? T=none
def o5 (P:Program)(w:World):yv:=λouter H s E e s'=>∃ea cls H',e=.ref ea/\s'.os=s.os/\AllBare s'.gens/\Un (gi outer) [] H H' s.heap s'.heap/\lC P w H' s'.heap/\Lies s.heap H' s'.heap ea cls/\E cls none H'
section
variable {P:Program}{w:World}{M:Model}{A:Around}{E':@Ch}{s:Shared}{env:Env}{outer:List Env}{L e:Addr}{cls:Value}{base h₀:Heap}{H:Hp}{Q:Unit->@Rs}
def oY {h h':Heap}(hok:lC P w H h)(k:∀b o,h.get? b=some o->(∃u,H b=some u)->h'.get? b=some o):lC P w H h':=λa o ha=>
 (hok a o ha).stay (λb u hb q=>k b u q (hb.elim (λz=>⟨o,by rw[z];exact ha⟩) λz=>⟨_,z⟩)) (λ_ q=>q) λ_ _ q=>q
def DH (hfr:A.frames=some @SY)(hf:env.frame=some L)(hfn:s.heap.FunFrames base @SY)(hok:lC P w H s.heap)(hff:∀b∈gi @SY,H b=none)(Ly:Lies h₀ H s.heap e cls)(hex:∀b o,h₀.get? b=some o->∃o',s.heap.get? b=some o')
  (hQ:∀h',(∀b o,s.heap.get? b=some o->b∉gi @SY->((∃o0,h₀.get? b=some o0)\/∃u,H b=some u)->h'.get? b=some o)->(∀b o,s.heap.get? b=some o->b∈gi @SY->∃sl,h'.get? b=some {o with slots:=sl})->Lies h₀ H h' e cls->lC P w H h'->Q () {s with heap:=h'}) :
  wpAny M A (leaving env (.ref e)) Q E' s:=by
 obtain⟨fr,nw,T0,rc,hHT,hnT⟩:=Ly
 obtain⟨oe,vs,oT,ts,he,hc,hdd,hd,h1,h2,hTe,hT,hdT,h3⟩:=id rc
 have tF:T0∉gi @SY:=λz=>by
  obtain⟨_,o,q,n⟩:=hfn.mem z
  rw[hT] at q;cases q;exact n _ hdT
 unfold leaving
 refine Pl (uM hfr hfn hf rc λh4 T kp sl tn rc4=>qK rc4 λh5 kp5 rc5=>?_)
 have nT:∀b o,s.heap.get? b=some o->b≠T0->b≠T:=λb o q n z=>by
  rcases tn with tn |tn
  ·rw[z,tn] at q;cases q
  ·exact n (z.trans tn)
 have kept:∀b o,s.heap.get? b=some o->b∉gi @SY->((∃o0,h₀.get? b=some o0)\/∃u,H b=some u)->h5.get? b=some o:=λb o q hb hor=>by
  have be:b≠e:=λz=>by subst z;rcases hor with⟨_,z⟩ | ⟨_,z⟩ <;> simp_all
  have bT:b≠T0:=λz=>by subst z;rcases hor with⟨_,z⟩ | ⟨_,z⟩ <;> simp_all
  exact kp5 b o (kp b o q hb (by simp[be,bT])) @Go (by simp[nT b o q bT])
 have slot:∀b o,s.heap.get? b=some o->b∈gi @SY->∃sl,h5.get? b=some {o with slots:=sl}:=λb o q hb=>by
  obtain⟨x,q4⟩:=sl b o q hb
  exact⟨x,kp5 b _ q4 @Go (by simp[nT b o q λz=>tF (z▸hb)])⟩
 have fresh:H T=none/\h₀.get? T=none:=by
  rcases tn with tn |tn
  ·refine⟨?_,?_⟩
   ·cases q:H T with
    |none=>rfl
    |some u=>obtain⟨o,qo⟩:=(hok T u q).there;rw[tn] at qo;cases qo
   ·cases q:h₀.get? T with
    |none=>rfl
    |some u=>obtain⟨o,qo⟩:=hex T u q;rw[tn] at qo;cases qo
  ·rw[tn];exact⟨hHT,hnT⟩
 refine hQ h5 kept slot ⟨fr,nw,T,rc5,fresh.1,fresh.2⟩ (oY hok λb o q hu=>kept b o q (λz=>?_) (.inr hu))
 obtain⟨u,hu⟩:=hu
 rw[hff b z] at hu;cases hu
def yR {h:Heap}{args:@GM}(hfr:A.frames=some @SY)(hf:env.frame=some L)(hfn:h.FunFrames base @SY)(hok:lC P w H h)(hff:∀b∈gi @SY,H b=none)(hex:∀b o,h₀.get? b=some o->∃o',h.get? b=some o')(hx:Heap.MadeExcOf h s.heap e cls args)
  (hQ:∀h',(∀b o,h.get? b=some o->b∉gi @SY->h'.get? b=some o)->(∀b o,h.get? b=some o->b∈gi @SY->∃sl,h'.get? b=some {o with slots:=sl})->Lies h₀ H h' e cls->lC P w H h'->Q () {s with heap:=h'}) :
  wpAny M A (leaving env (.ref e)) Q E' s:=by
 obtain⟨t,he,_,_⟩:=hx.there
 unfold leaving
 refine Pl (Aa (cls:=cls) hfr (hfn.of_keeps λb o q _=>⟨o,hx.keeps b o q,rfl⟩) hf he rfl rfl rfl rfl rfl λh4 T kp sl tn rc4=>qK rc4 λh5 kp5 rc5=>?_)
 have ne:∀b o,h.get? b=some o->b≠e:=λb o q z=>by rw[z,hx.new] at q;cases q
 have nT:∀b o,h.get? b=some o->b≠T:=λb o q z=>by
  have:=hx.keeps b o q
  rw[z,tn] at this;cases this
 have kept:∀b o,h.get? b=some o->b∉gi @SY->h5.get? b=some o:=λb o q hb=>kp5 b o (kp b o (hx.keeps b o q) hb (by simp[ne b o q])) @Go (by simp[nT b o q])
 have slot:∀b o,h.get? b=some o->b∈gi @SY->∃sl,h5.get? b=some {o with slots:=sl}:=λb o q hb=>by
  obtain⟨x,q4⟩:=sl b o (hx.keeps b o q) hb
  exact⟨x,kp5 b _ q4 @Go (by simp[nT b o q])⟩
 have fresh:∀{b:Addr},h.get? b=none->H b=none/\h₀.get? b=none:=λ{b} hb=>by
  refine⟨?_,?_⟩
  ·cases q:H b with
   |none=>rfl
   |some u=>obtain⟨o,qo⟩:=(hok b u q).there;rw[hb] at qo;cases qo
  ·cases q:h₀.get? b with
   |none=>rfl
   |some u=>obtain⟨o,qo⟩:=hex b u q;rw[hb] at qo;cases qo
 have no:h.get? T=none:=by
  cases q:h.get? T with
  |none=>rfl
  |some o=>exact absurd rfl (nT T o q)
 obtain⟨f1,f2⟩:=fresh hx.new
 obtain⟨g1,g2⟩:=fresh no
 refine hQ h5 kept slot ⟨f1,f2,T,rc5,g1,g2⟩ (oY hok λb o q hu=>kept b o q λz=>?_)
 obtain⟨u,hu⟩:=hu
 rw[hff b z] at hu;cases hu
end
section
variable {P:Program}{w:World}{K:Frag}{mg:@Fa}{base:Heap}{N:@KK}{qual:Str}{scope:Scope}{f:Addr}{cd:Value}{A:Around}{outer:List Env}{s0:Shared}{H0:Hp}{E:XK}
def aV:Passes (o5 P w) @SB E:=by
 intro pins σ H s e s' I hcx
 obtain⟨ea,cls,H',rfl,os,bare,un,hok,Ly,q⟩:=hcx
 have I':=I.call' os un hok bare (λb hb=>absurd hb @Go)
 have old:∀{b:Addr},s.heap.get? b=none->s0.heap.get? b=none:=λ{b} hb=>by
  cases z:s0.heap.get? b with
  |none=>rfl
  |some o=>obtain⟨o',z'⟩:=I.base.there b o z (show b∉([]:List Addr) by simp);rw[hb] at z';cases z'
 have Ly0:Lies s0.heap H' s'.heap ea cls:=by
  obtain⟨fr,nw,T,rc,hHT,hnT⟩:=Ly
  exact⟨fr,old nw,T,rc,hHT,old hnT⟩
 have above:s0.heap.objs.size<=(@Fr).locals:=I.ok.above
 refine DH (base:=base) (h₀:=s0.heap) I'.ok.frames rfl I'.stack I'.hok I'.stkFree Ly0 (λb o z=>I'.base.there b o z (show b∉([]:List Addr) by simp)) λh' kept slot Ly' hok'=>?_
 have nL:∀{b:Addr} {o:Obj},s0.heap.get? b=some o->b∉gi outer->b∉gi (@Fr :: outer):=λ{b o} z hb hm=>by
  rcases Pu.mp (I'.stkSub b hm) with e |e
  ·have:=PB z
   rw[e] at this
   exact absurd (Qa this above) (Qe _)
  ·exact hb e
 have inn:∀{b:Addr},b∈gi outer->b∈gi (@Fr :: outer):=λ{b} hb=>by
  obtain⟨en,h1,h2⟩:=Rh.mp hb
  exact Rh.mpr ⟨en,Pw _ h1,h2⟩
 refine⟨ea,cls,H',rfl,os.trans I.os,bare,⟨λb o z n hb _=>?_,λb o z n hb _=>?_,λb o z n _=>I'.base.free b o z n (show b∉([]:List Addr) by simp),λb o z _=>?_,I'.base.tups,I'.base.frzs,I'.base.tbls⟩,hok',Ly',q⟩
 ·exact kept b o (I'.base.keep b o z n hb (show b∉([]:List Addr) by simp)) (nL z hb) (.inl ⟨o,z⟩)
 ·obtain⟨sl,z1⟩:=I'.base.slot b o z n hb (show b∉([]:List Addr) by simp)
  obtain⟨sl2,z2⟩:=slot b _ z1 (inn hb)
  exact⟨sl2,z2⟩
 ·obtain⟨o',z1⟩:=I'.base.there b o z (show b∉([]:List Addr) by simp)
  by_cases hb:b∈gi (@Fr :: outer)
  ·obtain⟨sl,z2⟩:=slot b o' z1 hb
   exact⟨_,z2⟩
  ·exact⟨o',kept b o' z1 hb (.inl ⟨o,z⟩)⟩
def Ko (C:Addr)(E:XK)(t:TA):TS:=λ_ σ H=>t σ H λvs H1=>vs.length<=sizeLine/\E (.ref C) none H1
def DV {x:Str}{C:Addr}{np cpos pos:Pos}{e0:Expr}{es:@TH}{t:TA}{Bn newId initId:String}{bmB:@GM}(FB:ExcBaseFacts Bn newId initId bmB)(hbb:bmB.contains (.type "BaseException")=true)(q:PySem.W.excIn K C bmB newId=true)
  (hg:Gl @SB x) (hm:mg x=some (.ref C)) (ha:PA @SB (e0 :: es) t)
  (he:starEach (e0 :: es) (@Fr)=(false,eval e0 (@Fr)) :: starEach es (@Fr):=by rfl)
  (hpl:(backTo cpos (starEach es (@Fr))).any (·.1)=false:=by rfl) (hdb:@FM:=by decide) :
  PS @SB (.Raise (some (.Call @TW (e0 :: es) [] cpos)) none pos) (Ko C E t):=by
 intro pins s σ H D I h
 have own:∀{hh:Heap},K.In hh->∃bm Nn nm qn bs hdct sn sub ab col dd k0 k1 k2 k3 k5 mN,hh.get? C=some (excClassObj nm qn C Nn bs bm hdct sn sub ab col dd k0 k1 k2 k3 k5 newId)/\hh.Ns Nn mN/\mN "__init__"=none/\OwnTail hh bmB bm:=λ{hh} X=>by
  have q:=q
  unfold PySem.W.excIn at q
  split at q
  ·rename_i dd cdd sl ho
   split at q
   ·rename_i C' bm k0 k1 k2 k3 n k5 hm hs
    simp only[PM,beq_iff_eq,QG] at q
    obtain⟨⟨⟨⟨⟨rfl,rfl⟩,hdel⟩,ht⟩,hok⟩,hni⟩:=q
    obtain⟨nm,bs,mro,ns,qn,hd,sn,sub,ab,col,del⟩:=cdd
    dsimp only at hm hdel hok hni
    subst hm hdel
    have hsl:sl=#[k0,k1,k2,k3,some (.builtin n),k5]:=by
     obtain⟨l⟩:=sl
     simp only at hs
     rw[hs]
    subst hsl
    exact⟨bm,ns,nm,qn,bs,hd,sn,sub,ab,col,dd,k0,k1,k2,k3,k5,_,X _ _ ho,.of_isNs (PySem.W.isNs_of_in X hok),PySem.W.nsMap_none_of_in X hok hni,PySem.W.tail_of_in X ht⟩
   ·cases q
  ·cases q
 obtain⟨bm,Nn,nm,qn,bs,hdct,sn,sub,ab,col,dd,k0,k1,k2,k3,k5,mN,hC,hN,hni,TL⟩:=own I.ok.mod.kin
 have hA:=ha cpos pins s σ H _ I h
 refine wpAny_Raise_call_subT (C:=C) (nm:=nm) (q:=qn) (N:=Nn) (bs:=bs) (bm:=bm) (hdct:=hdct) (sn:=sn) (sub:=sub) (ab:=ab) (col:=col) (dd:=dd) (k0:=k0) (k1:=k1) (k2:=k2) (k3:=k3) (k5:=k5) FB (mN:=mN) (TL.hasType hbb) (I.ok.hd rfl) ?_ hni (oO I hg hm ⟨rfl,?_⟩ hdb)
 ·show (backTo cpos (starEach (e0 :: es) (@Fr))).any (·.1)=false
  rw[he]
  show (false || (backTo cpos (starEach es (@Fr))).any (·.1))=false
  rw[hpl];rfl
 have hA:wpAny _ _ (spliced (backTo cpos (starEach (e0 :: es) (@Fr)))) _ _ s:=hA
 show wpAny _ _ (evalArgs (.ref C) true (backTo cpos (starEach (e0 :: es) (@Fr))) []) _ _ s
 rw[he] at hA ⊢
 refine Calls.evalArgs_plain (cG hA λus s2 ⟨vs,H2,I2,r2,hl2,q2⟩=>⟨rfl,by show us.length<=_;rw[<-r2.length];exact hl2,I2.bk _ _ hC,hN.keeps I2.bk,TL.keeps I2.bk,λh' e hx=>?_⟩)
 have above:s0.heap.objs.size<=(@Fr).locals:=I2.ok.above
 have nil:∀b:Addr,b∉([]:List Addr):=λb=>by simp
 refine yR (s:={s2 with heap:=h'}) (h:=s2.heap) (base:=base) (h₀:=s0.heap) I2.ok.frames rfl I2.stack I2.hok I2.stkFree (λb o z=>I2.base.there b o z (nil b)) hx λh2 kept slot Ly hok=>?_
 have nL:∀{b:Addr} {o:Obj},s0.heap.get? b=some o->b∉gi outer->b∉gi (@Fr :: outer):=λ{b o} z hb hm=>by
  rcases Pu.mp (I2.stkSub b hm) with e |e
  ·have:=PB z
   rw[e] at this
   exact absurd (Qa this above) (Qe _)
  ·exact hb e
 have inn:∀{b:Addr},b∈gi outer->b∈gi (@Fr :: outer):=λ{b} hb=>by
  obtain⟨en,h1,h2⟩:=Rh.mp hb
  exact Rh.mpr ⟨en,Pw _ h1,h2⟩
 refine⟨e,.ref C,H2,rfl,I2.os,I2.bare,⟨λb o z n hb _=>?_,λb o z n hb _=>?_,λb o z n _=>I2.base.free b o z n (nil b),λb o z _=>?_,I2.base.tups,I2.base.frzs,I2.base.tbls⟩,hok,Ly,q2⟩
 ·exact kept b o (I2.base.keep b o z n hb (nil b)) (nL z hb)
 ·obtain⟨sl,z1⟩:=I2.base.slot b o z n hb (nil b)
  obtain⟨sl2,z2⟩:=slot b _ z1 (inn hb)
  exact⟨sl2,z2⟩
 ·obtain⟨o',z1⟩:=I2.base.there b o z (nil b)
  by_cases hb:b∈gi (@Fr :: outer)
  ·obtain⟨sl,z2⟩:=slot b o' z1 hb
   exact⟨_,z2⟩
  ·exact⟨o',kept b o' z1 hb⟩
end
section
variable {X:Cx}{pins:@Db}{σ:St}{H:Hp}{s:Shared}{h':Heap}{e T:Addr}{oe oT:Obj}{vs ts:Array Value}
def Inv.exc {tk:Nat}(I:@At)(hex:X.ex= [])(he:s.heap.get? e=some oe)(hd:oe.data=.fields vs)(hT:s.heap.get? T=some oT)(hdT:oT.data=.fields ts)(n1:X.s₀.heap.get? e=none)(n2:X.s₀.heap.get? T=none)(pn:∀p∈X.pn ++ pins,p.1≠e/\p.1≠T)
  (kept:∀b o,s.heap.get? b=some o->b∉gi X.stack->b≠e->b≠T->h'.get? b=some o) (slot:∀b o,s.heap.get? b=some o->b∈gi X.stack->∃sl,h'.get? b=some {o with slots:=sl}) (hok:lC X.prog X.w H h') :
  Inv X pins σ H {s with heap:=h',toks:=tk}:=by
 have nil:∀b:Addr,b∉X.ex:=λb=>by rw[hex];simp
 have any:∀b o,s.heap.get? b=some o->(∀ws,o.data≠.fields ws)->∃sl,h'.get? b=some {o with slots:=sl}:=λb o q n=>by
  by_cases hb:b∈gi X.stack
  ·exact slot b o q hb
  ·refine⟨o.slots,kept b o q hb (λz=>?_) λz=>?_⟩
   ·rw[z,he] at q;cases q;exact n _ hd
   ·rw[z,hT] at q;cases q;exact n _ hdT
 have cellK:∀{c:Addr} {v:Option Value},s.heap.IsCell c v->h'.IsCell c v:=λ{c v} ⟨o,ho,hdc⟩=>by
  obtain⟨sl,q⟩:=any c o ho λws z=>by rw[hdc] at z;cases z
  exact⟨_,q,hdc⟩
 have nsub:∀{b:Addr},b≠X.env.locals->b∉X.fs->b∉gi X.stack:=λ{b} h1 h2 hb=>(Pu.mp (I.stkSub b hb)).elim h1 h2
 have neL:∀b o,X.s₀.heap.get? b=some o->b≠X.env.locals:=λb o q=>Qg (Qa (PB q) I.ok.above)
 have ne2:∀b o,X.s₀.heap.get? b=some o->b≠e/\b≠T:=λb o q=>⟨λz=>by (rw[z,n1] at q;cases q),λz=>by (rw[z,n2] at q;cases q)⟩
 refine⟨I.ok,I.os,I.bare,⟨λb o q n hb hx=>?_,λb o q n hb hx=>?_,I.base.free,λb o q hx=>?_,I.base.tups,I.base.frzs,I.base.tbls⟩,?_,λx c q=>?_,I.free,I.freeC,λp hp=>?_,hok,I.len⟩
 ·exact kept b o (I.base.keep b o q n hb hx) (nsub (neL b o q) hb) (ne2 b o q).1 (ne2 b o q).2
 ·obtain⟨sl,q1⟩:=I.base.slot b o q n hb hx
  by_cases hs:b∈gi X.stack
  ·obtain⟨sl2,q2⟩:=slot b _ q1 hs
   exact⟨sl2,q2⟩
  ·exact⟨sl,kept b _ q1 hs (ne2 b o q).1 (ne2 b o q).2⟩
 ·obtain⟨o',q1⟩:=I.base.there b o q hx
  by_cases hs:b∈gi X.stack
  ·obtain⟨sl2,q2⟩:=slot b _ q1 hs
   exact⟨_,q2⟩
  ·exact⟨o',kept b _ q1 hs (ne2 b o q).1 (ne2 b o q).2⟩
 ·obtain⟨m,⟨o,es,ep,ho,hdd,r⟩,hl⟩:=I.loc
  obtain⟨sl,q⟩:=any _ o ho λws z=>by rw[hdd] at z;cases z
  refine⟨m,⟨_,es,ep,q,hdd,r⟩,λi x v e1 e2 e3=>?_⟩
  obtain⟨u,r',l⟩:=hl i x v e1 e2 e3
  refine⟨u,r',?_⟩
  rcases l with l | ⟨k,c,q,z⟩
  ·exact .inl l
  ·exact .inr ⟨k,c,q,cellK z⟩
 ·obtain⟨v,z⟩:=I.cell x c q
  exact⟨v,cellK z⟩
 ·obtain⟨q,n,ne,nf,d⟩:=I.pin p hp
  exact⟨kept p.1 p.2 q (nsub ne nf) (pn p hp).1 (pn p hp).2,n,ne,nf,d⟩
def km (e:Addr)(cls:Value)(h:Heap):Prop:=∃o vs,h.get? e=some o/\o.cls=cls/\o.dict=none/\o.data=.fields vs/\vs[2]? =some .none
def Rc.isExc {h:Heap}{e T:Addr}{cls fl:Value}(r:Rc h e cls T fl):km e cls h:=let ⟨oe,vs,_,_,a,b,c,d,_,f,_⟩:=r;⟨oe,vs,a,b,c,d,f⟩
def Inv.track {cls:Value}(I:@At)(he:km e cls s.heap)(hn:H e=none)(n1:X.s₀.heap.get? e=none)(hL:e≠X.env.locals)(hc:∀x c,@M_->c≠e)(pn:∀p∈X.pn ++ pins,p.1≠e) :
  Inv X pins σ (upd H e (.ext (km e cls))) s:=by
 have un:∀{b:Addr},b≠e->upd H e (.ext (km e cls)) b=H b:=λ{b} z=>aC z
 have keepT:∀{b:Addr} {o:HO},H b=some o->upd H e (.ext (km e cls)) b=some o:=λ{b o} q=>by rw[un (aL q hn)];exact q
 refine⟨I.ok,I.os,I.bare,⟨I.base.keep,I.base.slot,λb o q n hx=>?_,I.base.there,λb xs q=>keepT (I.base.tups b xs q),λb o u q=>keepT (I.base.frzs b o u q),λb ps q=>?_⟩,I.loc,I.cell,?_,λx c q=>?_,λp hp=>?_,λa o ha=>?_,I.len⟩
 ·rw[un (λz=>by rw[z,n1] at q;cases q)];exact I.base.free b o q n hx
 ·obtain⟨m,q1⟩:=I.base.tbls b ps q
  exact⟨m,keepT q1⟩
 ·rw[un hL.symm];exact I.free
 ·rw[un (hc x c q)];exact I.freeC x c q
 ·obtain⟨q,n,ne,nf,d⟩:=I.pin p hp
  exact⟨q,by rw[un (pn p hp)];exact n,ne,nf,d⟩
 ·by_cases z:a=e
  ·subst z
   rw[aw] at ha
   cases ha
   obtain⟨o,vs,q,c⟩:=he
   exact⟨⟨o,vs,q,c⟩,⟨o,q⟩,λh1 h2 ⟨o1,v1,q1,c1⟩ k=>⟨o1,v1,k o1 q1,c1⟩⟩
  ·rw[un z] at ha
   exact (I.hok a o ha).stay (λb u _ q=>q) (λb q=>keepT q) λb xs q=>q.imp keepT λ⟨o,q⟩=>⟨o,keepT q⟩
def CM {M:Model}{A:Around}{E:@Ch}{i:Nat}{x:Str}{v:V}{Q:Unit->@Rs}(I:@At)(hN:X.N.Nodup)(hi:X.N[i]? =some x)(hk:X.env.scope.names.lookup x=some .local)(hv:σ[i]? =some (some v))
  (h:∀s',Inv X pins (σ.set i none) H s'->Q () s'):wpAny M A (unbindName X.env x) Q E s:=by
 obtain⟨m,hn,hl⟩:=id I.loc
 have hcls:(X.env.scope.kind == .class || (X.env.scope.kind == .module && X.env.locals != X.env.globals))=false:=by rw[I.ok.kind];rfl
 obtain⟨u,_,look⟩:=hl i x v hi hv (.inl hk)
 have hm:m x=some u:=by
  rcases look with⟨_,q⟩ | ⟨k,_⟩
  ·exact q
  ·have hk':X.env.kindOf x=some .local:=hk
   rw[hk'] at k
   rcases k with k |k <;> cases k
 refine wpAny_unbindName_local hk hn hm hcls λh' u' hn' hs=>?_
 obtain⟨oL,_,_,hoL,_⟩:=id hn
 have same:∀{b:Addr} {o:Obj},b≠X.env.locals->s.heap.get? b=some o->h'.get? b=some o:=λ{b o} z q=>(hs.2 b z).trans q
 have neL:∀{b:Addr} {o:Obj},X.s₀.heap.get? b=some o->b≠X.env.locals:=λ{b o} q=>Qg (Qa (PB q) I.ok.above)
 have hok:lC X.prog X.w H h':=oY I.hok λb o q hu=>same (λz=>by obtain⟨w',hw⟩:=hu;rw[z,I.free] at hw;cases hw) q
 refine h _ ⟨I.ok,I.os,I.bare,⟨λb o q n hb hx=>same (neL q) (I.base.keep b o q n hb hx),λb o q n hb hx=>?_,I.base.free,λb o q hx=>?_,I.base.tups,I.base.frzs,I.base.tbls⟩,⟨_,hn',λj y v' e1 e2 e3=>?_⟩,λy c q=>?_,I.free,I.freeC,λp hp=>?_,hok,by simpa using I.len⟩
 ·obtain⟨sl,q1⟩:=I.base.slot b o q n hb hx
  exact⟨sl,same (neL q) q1⟩
 ·obtain⟨o',q1⟩:=I.base.there b o q hx
  exact⟨o',same (neL q) q1⟩
 ·by_cases hj:j=i
  ·subst hj
   rw[PY (by rw[I.len];exact (PN.mp hi).1)] at e2
   cases e2
  ·rw[PZ (Ne.symm hj)] at e2
   obtain⟨u2,r',q⟩:=hl j y v' e1 e2 e3
   refine⟨u2,r',?_⟩
   rcases q with⟨k,q⟩ | ⟨k,c,q,z⟩
   ·have:y≠x:=λz=>hj (sH hN e1 (z▸hi))
    exact .inl ⟨k,by simp[this,q]⟩
   ·exact .inr ⟨k,c,q,z.sameBut hs (I.cne y c q)⟩
 ·obtain⟨w',z⟩:=I.cell y c q
  exact⟨w',z.sameBut hs (I.cne y c q)⟩
 ·obtain⟨q,n,ne,nf,d⟩:=I.pin p hp
  exact⟨same ne q,n,ne,nf,d⟩
end
def yU (bmB:@GM)(newId:String)(C:Addr)(bm:@GM)(h:Heap):Prop:=∃Nn nm qn bs hdct sn sub ab col dd k0 k1 k2 k3 k5,h.get? C=some (excClassObj nm qn C Nn bs bm hdct sn sub ab col dd k0 k1 k2 k3 k5 newId)/\OwnTail h bmB bm
def mroIn (K:Frag)(C:Addr):@GM:=match K.lookup C with
 |some ⟨_,_,.cls cd,_⟩=>cd.mro
 |_=>[]
def AL {K:Frag}{C:Addr}{bmB:@GM}{newId:String}(q:PySem.W.excIn K C bmB newId=true):∃bm,mroIn K C=.ref C :: bm/\∀{h:Heap},K.In h->yU bmB newId C bm h:=by
 have q0:=q
 unfold PySem.W.excIn at q
 split at q
 ·rename_i dd cdd sl ho
  split at q
  ·rename_i C' bm k0 k1 k2 k3 n k5 hm hs
   simp only[PM,beq_iff_eq,QG] at q
   obtain⟨⟨⟨⟨⟨rfl,rfl⟩,hdel⟩,ht⟩,hok⟩,hni⟩:=q
   refine⟨bm,by unfold mroIn;rw[ho];exact hm,λ{h} X=>?_⟩
   obtain⟨nm,bs,mro,ns,qn,hd,sn,sub,ab,col,del⟩:=cdd
   dsimp only at hm hdel hok hni
   subst hm hdel
   have hsl:sl=#[k0,k1,k2,k3,some (.builtin n),k5]:=by
    obtain⟨l⟩:=sl
    simp only at hs
    rw[hs]
   subst hsl
   exact⟨ns,nm,qn,bs,hd,sn,sub,ab,col,dd,k0,k1,k2,k3,k5,X _ _ ho,PySem.W.tail_of_in X ht⟩
  ·cases q
 ·cases q
def E8 {M:Model}{A:Around}{E:@Ch}{s:Shared}{Q:Bool->@Rs}{C D e:Addr}{oe:Obj}{bm bmD bmB bmB2:@GM}{nC nD:String}(oC:yU bmB nC C bm s.heap)(oD:yU bmB2 nD D bmD s.heap)(he:s.heap.get? e=some oe)(hcls:oe.cls=.ref C)
  (hb:bmB2.contains (.type "BaseException")=true) (hup:(Value.ref C :: bm).contains @Tj=true) (hq:Q true s):wpAny M A (excMatches (.ref e) @Tj) Q E s:=by
 obtain⟨N1,nm1,qn1,bs1,hd1,sn1,sub1,ab1,col1,dd1,a0,a1,a2,a3,a5,hC,TC⟩:=oC
 obtain⟨N2,nm2,qn2,bs2,hd2,sn2,sub2,ab2,col2,dd2,b0,b1,b2,b3,b5,hD,TD⟩:=oD
 have hcB:(Value.ref D :: bmD).contains (.type "BaseException")=true:=by rw[List.contains_cons,TD.hasType hb,Bool.or_true]
 have f:=tc_notTuple
 obtain⟨h,g,d,t,os⟩:=s
 unfold excMatches
 repeat (first
  | (with_reducible refine wpAny_loadPart_at he ?_;rw[hcls])
  |with_reducible refine wpAny_loadPart_at hD ?_
  | (with_reducible refine wpAny_isSubtype_exc hD ?_;rw[hcB])
  | (with_reducible refine wpAny_isSubtype_exc hC ?_;rw[hup])
  |wp_step)
 exact hq
def Mt (K:Frag)(cls:Value)(D:Addr):Prop:=∀{M:Model} {A:Around} {E:@Ch} {s:Shared} {Q:Bool->@Rs} {e:Addr} {oe:Obj},K.In s.heap->s.heap.get? e=some oe->oe.cls=cls->Q true s->wpAny M A (excMatches (.ref e) @Tj) Q E s
def Ls {K:Frag}{C D:Addr}{bmB bmB2:@GM}{nC nD:String}(qC:PySem.W.excIn K C bmB nC=true)(qD:PySem.W.excIn K D bmB2 nD=true)(hb:bmB2.contains (.type "BaseException")=true)(hup:(mroIn K C).contains @Tj=true):Mt K (.ref C) D:=by
 intro M A E s Q e oe X he hc hq
 obtain⟨bm,e1,o1⟩:=AL qC
 obtain⟨bmD,e2,o2⟩:=AL qD
 rw[e1] at hup
 exact E8 (o1 X) (o2 X) he hc hb hup hq
abbrev Cx.inTry (X:Cx)(Ex:@Ch)(pn:@Db):Cx:={X with xe:=Ex,pn:=pn}
abbrev Cx.inEx (X:Cx)(e:Addr):Cx:={X with A:=X.A.mark (some (.ref e)),calm:=false,xe:=λ_ _=>False}
section
variable {X:Cx}{pins:@Db}{σ:St}{H:Hp}{s:Shared}
def Inv.toTry (I:@At)(Ex:@Ch):Inv (X.inTry Ex (X.pn ++ pins)) [] σ H s:=
 ⟨⟨I.ok.mod,I.ok.kind,I.ok.glob,I.ok.blt,I.ok.above,I.ok.inj,I.ok.has,I.ok.cab,I.ok.hd,I.ok.frames,I.ok.stk,I.ok.exf,I.ok.bs,I.ok.bsz,I.ok.noex,I.ok.exfs,I.ok.funs,I.ok.frf⟩,I.os,I.bare,I.base,I.loc,I.cell,I.free,I.freeC,λp hp=>I.pin p (by simpa using hp),I.hok,I.len⟩
def Inv.ofTry {Ex:@Ch}{pins2:@Db}(I:Inv (X.inTry Ex (X.pn ++ pins)) pins2 σ H s):@At:=
 ⟨⟨I.ok.mod,I.ok.kind,I.ok.glob,I.ok.blt,I.ok.above,I.ok.inj,I.ok.has,I.ok.cab,I.ok.hd,I.ok.frames,I.ok.stk,I.ok.exf,I.ok.bs,I.ok.bsz,I.ok.noex,I.ok.exfs,I.ok.funs,I.ok.frf⟩,I.os,I.bare,I.base,I.loc,I.cell,I.free,I.freeC,λp hp=>I.pin p (QR _ hp),I.hok,I.len⟩
def Inv.toEx (I:@At)(e:Addr):Inv (X.inEx e) pins σ H s:=
 ⟨⟨I.ok.mod,I.ok.kind,I.ok.glob,I.ok.blt,I.ok.above,I.ok.inj,I.ok.has,I.ok.cab,λz=>absurd z PR,I.ok.frames,I.ok.stk,I.ok.exf,I.ok.bs,I.ok.bsz,I.ok.noex,I.ok.exfs,I.ok.funs,I.ok.frf⟩,I.os,I.bare,I.base,I.loc,I.cell,I.free,I.freeC,I.pin,I.hok,I.len⟩
def Inv.ofEx {e:Addr}(ok:X.Ok)(I:Inv (X.inEx e) pins σ H s):@At:=
 ⟨ok,I.os,I.bare,I.base,I.loc,I.cell,I.free,I.freeC,I.pin,I.hok,I.len⟩
theorem SP.ofTry {Ex:@Ch}{D:Ends}{f:Flow}{s':Shared}(h:SP (X.inTry Ex (X.pn ++ pins)) [] D f s'):SP X pins D f s':=by
 cases f with
 |next=>obtain⟨σ',H',I,q⟩:=h;exact⟨σ',H',I.ofTry,q⟩
 |brk=>obtain⟨σ',H',I,q⟩:=h;exact⟨σ',H',I.ofTry,q⟩
 |cont=>obtain⟨σ',H',I,q⟩:=h;exact⟨σ',H',I.ofTry,q⟩
 |ret u=>obtain⟨v,σ',H',I,r,q⟩:=h;exact⟨v,σ',H',I.ofTry,r,q⟩
end
def Jd (i:Nat)(D:Ends):Ends:={nx:=λσ H=>D.nx ((σ.set i (some .non)).set i none) H,rt:=D.rt,bk:=λσ H=>D.bk ((σ.set i (some .non)).set i none) H,ct:=λσ H=>D.ct ((σ.set i (some .non)).set i none) H}
def ON (K:Frag)(Dc:Addr)(i len:Nat)(tb:XK->TS)(th:Addr->TS):TS:=λD σ H=>∃Eb:XK,tb Eb D σ H/\∀cls d H',Eb cls d H'->Mt K cls Dc/\∀(ea:Addr) (σ':St),H' ea=none->σ'.length=len->th ea (Jd i D) (σ'.set i (some (.ref ea))) (upd H' ea (.ext (km ea cls)))
section
variable {X:Cx}
def JN {n x:Str}{i:Nat}{Dc:Addr}{np hpos pos:Pos}{body suite:List Stmt}{b0:Stmt}{tb:XK->TS}{th:Addr->TS}(hst:X.stack=X.env :: X.outer)(hfr:X.env.frame=some X.env.locals)(hex:X.ex= [])
  (hb:∀Eb Ex pn,Passes (o5 X.prog X.w) (X.inTry Ex pn) Eb->qB (X.inTry Ex pn) body (tb Eb)) (hs:∀e,qB (X.inEx e) (b0 :: suite) (th e)) (hg:Gl X x) (hm:X.mg x=some (.ref Dc)) (hN:X.N.Nodup) (hi:X.N[i]? =some n) (hk:X.env.scope.names.lookup n=some .local)
  (hdb:@FM:=by decide) :
  PS X (.Try body [.ExceptHandler (some @TW) (some n) (b0 :: suite) hpos] [] [] pos) (ON X.K Dc i X.N.length tb th):=by
 intro pins s σ H D I h
 obtain⟨Eb,h1,h2⟩:=h
 refine wpAny_Try_except ?_
 refine QS (hb Eb (λe s₁=>wpAny @D_ X.A (noteFrame e X.env) (λ_ s₂=>wpAny @D_ X.A (setFlight e none) (λ_ s₃=>wpAny @D_ X.A (handleBy e X.env [.ExceptHandler (some @TW) (some n) (b0 :: suite) hpos]) (SP X pins D) X.xe s₃) X.xe s₂) X.xe s₁) (X.pn ++ pins) ?_ [] s σ H D (I.toTry _) h1) (λf s1 q=>?_) λe s1 q=>q
 ·intro pins2 σ2 H2 s2 e s3 I2 hcx
  obtain⟨ea,cls,H',rfl,os,bare,un,hok,Ly,q⟩:=hcx
  have I3:Inv X pins σ2 H' s3:=(I2.call' os un hok bare (λb hb=>absurd hb @Go)).ofTry
  have I2':Inv X pins σ2 H2 s2:=I2.ofTry
  have nil:∀b:Addr,b∉X.ex:=λb=>by rw[hex];simp
  obtain⟨mt,hth⟩:=h2 cls none H' q
  obtain⟨fr,nw,T,rc,hHT,hnT⟩:=Ly
  obtain⟨oe,vs,oT,ts,he,hc,hdd,hd,hv1,hv2,hTe,hT,hdT,hv3⟩:=id rc
  have old:∀{b:Addr},s2.heap.get? b=none->X.s₀.heap.get? b=none:=λ{b} hb=>by
   cases z:X.s₀.heap.get? b with
   |none=>rfl
   |some o=>obtain⟨o',z'⟩:=I2'.base.there b o z (nil b);rw[hb] at z';cases z'
  have hpn:∀p∈X.pn ++ pins,p.1≠ea/\p.1≠T:=λp hp=>by
   have:=(I2'.pin p hp).1
   exact⟨λz=>by (rw[z,nw] at this;cases this),λz=>by (rw[z,hnT] at this;cases this)⟩
  have hfn:=I3.stack
  have mem:∀{b:Addr},b∈gi X.stack->∃o,s3.heap.get? b=some o/\∀ws,o.data≠.fields ws:=λ{b} hb=>(hfn.mem hb).2
  have tF:T∉gi X.stack:=λz=>by
   obtain⟨o,q,n⟩:=mem z
   rw[hT] at q;cases q;exact n _ hdT
  have hfn':s3.heap.FunFrames X.base (X.env :: X.outer):=by rw[<-hst];exact hfn
  have step:∀{h':Heap} {tk:Nat},Keeps (gi X.stack) [ea,T] s3.heap h'->Slots (gi X.stack) s3.heap h'->Inv X pins σ2 H' {s3 with heap:=h',toks:=tk}:=λ{h' tk} kp sl=>by
   have kept:∀b o,s3.heap.get? b=some o->b∉gi X.stack->b≠ea->b≠T->h'.get? b=some o:=λb o q hb n1 n2=>kp b o q hb (by simp[n1,n2])
   refine I3.exc hex he hd hT hdT (old nw) (old hnT) hpn kept sl (oY I3.hok λb o q hu=>?_)
   obtain⟨u,hu⟩:=hu
   refine kept b o q (λz=>?_) (λz=>?_) λz=>?_
   ·rw[I3.stkFree b z] at hu;cases hu
   ·rw[z,fr] at hu;cases hu
   ·rw[z,hHT] at hu;cases hu
  have hfr':X.A.frames=some (X.env :: X.outer):=by rw[<-hst];exact I3.ok.frames
  have more:∀{h4 h5:Heap} {T2:Addr},(s3.heap.get? T2=none\/T2=T)->Keeps [] [T2] h4 h5->Keeps (gi X.stack) [ea,T] s3.heap h4->Slots (gi X.stack) s3.heap h4->Keeps (gi X.stack) [ea,T] s3.heap h5/\Slots (gi X.stack) s3.heap h5:=λ{h4 h5 T2} tn k5 kp sl=>by
   have nT:∀b o,s3.heap.get? b=some o->b≠T->b≠T2:=λb o q n z=>by
    rcases tn with tn |tn
    ·rw[z,tn] at q;cases q
    ·exact n (z.trans tn)
   refine⟨λb o q hb hn=>k5 b o (kp b o q hb hn) @Go ?_,λb o q hb=>?_⟩
   ·simp only[Pu,Qz,RF,not_or] at hn
    simp[nT b o q hn.2]
   ·obtain⟨x,q4⟩:=sl b o q hb
    exact⟨x,k5 b _ q4 @Go (by simp[nT b o q λz=>tF (z▸hb)])⟩
  have key:∀{h5:Heap} {T2:Addr},(s3.heap.get? T2=none\/T2=T)->Rc h5 ea cls T2 .none->Keeps (gi X.stack) [ea,T] s3.heap h5->Slots (gi X.stack) s3.heap h5->wpAny @D_ X.A (handleBy (.ref ea) X.env [.ExceptHandler (some @TW) (some n) (b0 :: suite) hpos]) (SP X pins D) X.xe {s3 with heap:=h5}:=λ{h5 T2} tn rc5 kp5 sl5=>by
   have I5:Inv X pins σ2 H' {s3 with heap:=h5}:=step (tk:=s3.toks) kp5 sl5
   obtain⟨oe5,vs5,he5,hc5,_,_⟩:=rc5.isExc
   refine wpAny_handleBy_cons (codeAny_handlers_test (oO (X:=X.inEx ea) (I5.toEx ea) hg hm ?_ hdb)) (by intro q;cases q)
   refine mt I5.kIn he5 hc5 ?_
   refine codeAny_handlers_suite_as (qK (s:={s3 with heap:=h5}) rc5 λh6 k6 rc6=>?_)
   obtain⟨kp6,sl6⟩:=more tn k6 kp5 sl5
   have I6:Inv X pins σ2 H' {s3 with heap:=h6}:=step (tk:=s3.toks) kp6 sl6
   have eL:ea≠X.env.locals:=λz=>by
    obtain⟨m,⟨o,es,ep,ho,hdd,r⟩,_⟩:=I3.loc
    rw[<-z,he] at ho;cases ho
    rw[hd] at hdd;cases hdd
   have eC:∀y c,X.env.cells.lookup y=some c->c≠ea:=λy c q z=>by
    obtain⟨v,o,ho,hdd⟩:=I3.cell y c q
    rw[z,he] at ho;cases ho
    rw[hd] at hdd;cases hdd
   have I7:=I6.track (cls:=cls) rc6.isExc fr (old nw) eL eC λp hp=>(hpn p hp).1
   refine oW I7 hN hi (.inl hk) (v:=.ref ea) rfl (λs8 I8=>?_) (.inr hk)
   refine QS (hs ea pins s8 _ _ (Jd i D) (I8.toEx ea) (hth ea σ2 fr I3.len)) (λf s9 q9=>?_) λ_ _ z=>z.elim
   have back:∀{σ9:St} {H9:Hp} {Q:Unit->@Rs},Inv (X.inEx ea) pins σ9 H9 s9->(∀s',Inv X pins ((σ9.set i (some .non)).set i none) H9 s'->Q () s')->wpAny @D_ X.A (do bindName X.env n .none;unbindBehindTheSuite X.env n hpos) Q X.xe s9:=λ{σ9 H9 Q} I9 hQ=>by
    refine Pl (wpAny_bindName (oW (I9.ofEx I.ok) hN hi (.inl hk) (v:=.non) rfl (λs10 I10=>?_) (.inr hk)))
    have hl:i < σ9.length:=by rw[I9.len];exact (PN.mp hi).1
    exact wpAny_onRaise (CM (v:=.non) I10 hN hi hk (by rw[PY hl]) hQ)
   cases f with
   |next=>obtain⟨σ9,H9,I9,q⟩:=q9;exact back I9 λs' I'=>⟨_,H9,I',q⟩
   |brk=>obtain⟨σ9,H9,I9,q⟩:=q9;exact back I9 λs' I'=>⟨_,H9,I',q⟩
   |cont=>obtain⟨σ9,H9,I9,q⟩:=q9;exact back I9 λs' I'=>⟨_,H9,I',q⟩
   |ret u=>obtain⟨v,σ9,H9,I9,r,q⟩:=q9;exact back I9 λs' I'=>⟨v,_,H9,I',r,q⟩
  refine uM hfr' hfn' hfr rc λh4 T2 kp4 sl4 tn rc4=>qK (s:={s3 with heap:=h4}) rc4 λh5 k5 rc5=>?_
  rw[<-hst] at kp4 sl4
  obtain⟨kp5,sl5⟩:=more tn k5 kp4 sl4
  exact key tn rc5 kp5 sl5
 ·cases f with
  |next=>exact Sr (SP.ofTry q)
  |brk=>exact SP.ofTry q
  |cont=>exact SP.ofTry q
  |ret u=>exact SP.ofTry q
end
structure oG (k:Nat)(A:Around):Prop where
 dp:A.depth + 3 * k + 5 < recursionLimit
 un:A.units + 16 * k + 200 < cLine
 gd:A.guards=some []
def eM.h {k:Nat}{A:Around}(r:eM k A):oG k A:=⟨r.dp,r.un,r.gd⟩
def eM.mark {k:Nat}{A:Around}(r:eM k A)(v:Option Value):oG k (A.mark v):=⟨r.dp,r.un,r.gd⟩
def oG.deeper {k:Nat}{A:Around}(r:oG (k + 1) A)(env:Env):oG k (A.deeper env):=
 ⟨by have:=r.dp;show A.depth + 1 + 3 * k + 5 < _;omega,by have:=r.un;show A.units + 3 + 16 * k + 200 < _;omega,r.gd⟩
structure uw (P:Program)(w:World)(K:Frag)(mg:@Fa)(base:Heap)(CX:yv)(k:Nat)(f:Addr)(fd:FuncData)(ps:@KK)(sp:Sp):Prop where
 len:∀vs H Q E,sp vs H Q E->vs.length=ps.length
 run:∀(A:Around) (outer:List Env) (s:Shared) (H:Hp) (args:Args) (us:@GM) (vs:List V) (Q:VK) (E:XK),oG k A->yP P w K mg base A outer s H->BindsTo s fd args (ps.zip us)->Vals vs us->sp vs H Q E->
  codeAny (model P w) A (.call (.ref f) args) (CR CX outer P w H s Q E) s
abbrev Bm (CX:yv)(P:Program)(w:World)(K:Frag)(mg:@Fa)(base:Heap)(N:@KK)(qual:Str)(scope:Scope)(f:Addr)(cd:Value)(A:Around)(outer:List Env)(s:Shared)(H:Hp)(E:XK):Cx:=
 {l7 CX P w K mg base N qual scope f cd A outer s H E with calm:=false}
def y6 {CX:yv}{P:Program}{w:World}{K:Frag}{mg:@Fa}{base:Heap}{N ps:@KK}{qual:Str}{scope:Scope}{f:Addr}{cd:Value}{A:Around}{outer:List Env}{s s1:Shared}{H:Hp}{E:XK}{us:@GM}{vs:List V}
  (S:aG N ps scope) (e0:yP P w K mg base A outer s H) (hl:vs.length=ps.length) (r:Vals vs us)
  (x:InCallC s s.heap.objs.size (bindL (@S7).kindOf (ps.zip us) λ_=>none) (@Sc) (bindC (@S7).kindOf (ps.zip us) λ_=>none) s1) :
  Inv (Bm CX P w K mg base N qual scope f cd A outer s H E) [] (start N vs) H s1:=by
 have e1:yP P w K mg base {A with handled:=none} outer s H:=⟨e0.frames,e0.mod,e0.bs,e0.bsz,e0.funs,e0.frf,e0.hok,e0.bare⟩
 have I:=um (CX:=CX) (E:=E) (A:={A with handled:=none}) S rfl e1 hl r x
 exact⟨⟨I.ok.mod,I.ok.kind,I.ok.glob,I.ok.blt,I.ok.above,I.ok.inj,I.ok.has,I.ok.cab,λz=>absurd z PR,Around.frames_deeper e0.frames,I.ok.stk,I.ok.exf,I.ok.bs,I.ok.bsz,I.ok.noex,I.ok.exfs,I.ok.funs,I.ok.frf⟩,I.os,I.bare,I.base,I.loc,I.cell,I.free,I.freeC,I.pin,I.hok,I.len⟩
section
variable {P:Program}{w:World}{K:Frag}{mg:@Fa}{base:Heap}
theorem C7.okH {x qual:Str}{st:Stmt}{f:Addr}{fd:FuncData}{N ps:@KK}{k:Nat}{sp:Sp}(F:C7 K x qual st f fd)(S:aG N ps (aq st))(len:∀vs H Q E,sp vs H Q E->vs.length=ps.length)
  (hbody:∀(cdv:Value) (A:Around) (outer:List Env) (s:Shared) (H:Hp) (vs:List V) (Q:VK) (E:XK),oG k (A.deeper (envOfC qual (aq st) s.heap.objs.size f cdv))->sp vs H Q E->
   ∃t,qB (Bm zy P w K mg base N qual (aq st) f cdv A outer s H E).nox (cj st) t/\t {nx:=λ_ H'=>Q .non H',rt:=Q} (start N vs) H):uw P w K mg base zy (k + 1) f fd ps sp:=by
 obtain⟨oc,od,kV,doc,pm,an,cdv,ct,osl,rfl,lk,hcd⟩:=F.ex
 refine⟨len,λA outer s H args us vs Q E hr e0 hb r hsp=>?_⟩
 have hl:=len _ _ _ _ hsp
 have KX:K.In s.heap:=e0.mod.kin.keeps λb o e=>(e0.bs b o e).1
 have lim:s.heap.NoLimit:=e0.mod.nolimit.keeps λb o e=>(e0.bs b o e).1
 have hkind:∀y∈ps.zip us,(aq st).names.lookup y.1=some .local\/((aq st).names.lookup y.1=some .cell/\((cellsFrom (s.heap.objs.size + 1) (aq st).names []).lookup y.1).isSome=true):=λ⟨n,v⟩ hy=>by
  rcases S.par n (of_mem_zip hy).1 with q |q
  ·exact .inl q
  ·exact .inr ⟨q,R4 _ _ _ (.inl q)⟩
 have hdep:A.depth < recursionLimit:=by have:=hr.dp;omega
 refine codeAny_call_function hdep (KX _ _ lk) rfl S.co S.gen rfl (PySem.W.codeRec_of KX hcd) (hb _ _ _ _ ?_)
 refine wpAny_newFunctionEnv_cells S.kind hkind λenv he s1 x=>?_
 subst he
 refine⟨lim.keeps x.toInCall.keep,codeAny_func ?_⟩
 obtain⟨t,ht,hq⟩:=hbody cdv A outer s H vs Q E (hr.deeper _) hsp
 have I:Inv (Bm zy P w K mg base N qual (aq st) f cdv A outer s H E) [] (start N vs) H s1:=y6 S e0 hl r x
 refine QS (ht.nox [] s1 (start N vs) H _ I hq) (λfl s' hs=>?_) λe s' hs=>hs
 have fin:∀{σ':St} {H':Hp} {v:V} {u:Value},Inv (Bm zy P w K mg base N qual (aq st) f cdv A outer s H E) [] σ' H' s'->RelV v u->Q v H'->CE outer P w H s Q u s':=
  λ{σ' H' v u} J rv q=>⟨v,H',J.os,J.bare,J.base,J.hok,rv,q⟩
 cases fl with
 |ret u=>
  obtain⟨v,σ',H',J,rv,q⟩:=hs
  exact fin J rv q
 |next=>
  obtain⟨σ',H',J,q⟩:=hs
  exact fin (v:=V.non) (u:=Value.none) J rfl q
 |brk=>
  obtain⟨_,_,_,q⟩:=hs
  exact False.elim q
 |cont=>
  obtain⟨_,_,_,q⟩:=hs
  exact False.elim q
def C7.Dd {x qual:Str}{st:Stmt}{f:Addr}{fd:FuncData}{N ps:@KK}{k:Nat}{sp:Sp}(F:C7 K x qual st f fd)(S:aG N ps (aq st))(len:∀vs H Q E,sp vs H Q E->vs.length=ps.length)
  (hbody:∀(cdv:Value) (A:Around) (outer:List Env) (s:Shared) (H:Hp) (vs:List V) (Q:VK) (E:XK),eM k (A.deeper (envOfC qual (aq st) s.heap.objs.size f cdv))->sp vs H Q E->
   ∃t,qB (l7 (o5 P w) P w K mg base N qual (aq st) f cdv A outer s H E) (cj st) t/\t {nx:=λ_ H'=>Q .non H',rt:=Q} (start N vs) H):ie P w K mg base (o5 P w) (k + 1) f fd ps sp:=by
 obtain⟨oc,od,kV,doc,pm,an,cdv,ct,osl,rfl,lk,hcd⟩:=F.ex
 exact IV lk hcd S len λA outer s H vs Q E hr hsp=>hbody cdv A outer s H vs Q E hr hsp
end
section
variable {X:Cx}{CX:yv}{k:Nat}{f:Addr}{fd:FuncData}{ps:@KK}{sp:Sp}{dvs:List V}{ds:@GM}{E:XK}{x:Str}{p pos:Pos}{e:Expr}{es:@TH}{t:TA}
theorem DP (F:uw X.prog X.w X.K X.mg X.base CX k f fd ps sp)(hr:oG k X.A)(hg:Gl X x)(hm:X.mg x=some (.ref f))(hk:PySem.W.keepIn X.K (.ref f)=true)(hb:Binds X.K fd ps ds)(hd:Vals dvs ds)(hx:Passes CX X E)
  (ha:PA X (e :: es) t) (hdb:@FM:=by decide) (he:@O_:=by rfl) (hpl:(backTo pos (starEach es X.env)).any (·.1)=false:=by rfl) :
  PE X (.Call (.Name x p) (e :: es) [] pos) (Iy sp dvs E t):=by
 intro pins s σ H Q I h
 refine Sv (oO I hg hm ?_ hdb)
 refine PySem.W.callWith_K (h₀:=X.base) I.ok.mod.kin hk (cG (ha pos pins s σ H _ I h) λus s1 ⟨vs,H1,I1,r,q⟩=>⟨I1.kIn,?_⟩) he hpl
 have r2:Vals (vs ++ dvs) (us ++ ds):=r.append hd
 have hl:(us ++ ds).length=ps.length:=by rw[<-r2.length];exact F.len _ _ _ _ q
 refine wpAny_call (Sa (F.run X.A X.stack s1 H1 ⟨us,[]⟩ (us ++ ds) (vs ++ dvs) Q E hr I1.env0 (hb s1 us I1.kIn hl) r2 q) λr s' hq=>?_)
 cases r with
 |error e=>exact hx pins σ H1 s1 e s' I1 hq
 |ok fl=>
  cases fl with
  |ret u=>exact I1.after hq
  |next=>exact False.elim hq
  |brk=>exact False.elim hq
  |cont=>exact False.elim hq
end
section
variable {prog:Program}{w:World}{A:Around}{E:@Ch}{s:Shared}{K:Frag}{x D:Addr}{ox:Obj}
structure xu (K:Frag)(D:Addr):Prop where
 cl:(PySem.W.clsIn K D).isSome=true
 ga:PySem.W.findIn K @Tj "__getattribute__"=some (some (.builtin "BaseException.__getattribute__"))
 gn:PySem.W.findIn K @Tj "__getattr__"=some none
 cls:PySem.W.findIn K @Tj "__class__"=some (some (.builtin "object.__class__"))
 get:PySem.W.specialIn K (.builtin "object.__class__") "__get__"=some (some (.builtin "getset_descriptor.__get__"))
 tk:PySem.W.takesIn K (.builtin "object.__class__")=some true
 ob:PySem.W.mroIn K D (.type "object")=some true
 be:PySem.W.mroIn K D (.type "BaseException")=some true
def DJ (e:xu K D):PySem.W.findObj K D none "__class__"=some (.bind (.builtin "getset_descriptor.__get__") (.builtin "object.__class__")):=by
 obtain⟨cd,hc⟩:=Rm.mp e.cl
 unfold PySem.W.findObj
 rw[hc,Option.bind_some,e.cls,Option.bind_some]
 simp[e.get,e.tk]
def BX {M:Model}{nameV:Value}{Q:Unit->@Rs}(e:xu K D)(X:K.In s.heap)(I:PySem.W.InstAt s.heap x ox D none)(hq:Q () s):wpAny M A (checkBuiltinCall "BaseException.__getattribute__" ⟨[.ref x,nameV],[]⟩) Q E s:=by
 have hk:builtinKind "BaseException.__getattribute__"=some .slot:=@B_
 have hsp:splitId "BaseException.__getattribute__"=some ("BaseException","__getattribute__"):=@B_
 have ha:=F.args_bexc_ga (.ref x) nameV
 have L0:=I.type (M:=M)
 have L1:=PySem.W.looks_mroIn (M:=M) X e.be
 simp only[checkBuiltinCall,hk,hsp]
 obtain⟨hh,g,d,t,os⟩:=s
 refine Pl ?_
 unfold isInstance
 repeat (first
  |with_reducible refine L0.at ?_
  |with_reducible refine L1.at ?_
  |wp_step)
 exact hq
def GC {tk:Tok}{Q:Fin->@Rs}(e:xu K D)(X:K.In s.heap)(I:PySem.W.InstAt s.heap x ox D none)(hq:Q (.done (.ret @Tj)) s):wpAny (@NE) A (Builtin.«object.__getattribute__» ⟨[.ref x,.str "__class__" tk],[]⟩) Q E s:=by
 have L0:=I.type (M:=@NE)
 have L1:=PySem.W.looks_find (M:=@NE) X I (DJ e)
 obtain⟨hh,g,d,t,os⟩:=s
 repeat (any_goals (first
  |assumption
  |with_reducible refine L0.at ?_
  |with_reducible refine L1.at ?_
  |wp_step))
 exact PySem.W.class_get X I e.ob (Pp hq)
def Kr {tk:Tok}{Q:@Ch}(FB:ExcAttrFacts "ValueError")(e:xu K D)(X:K.In s.heap)(I:PySem.W.InstAt s.heap x ox D none)(hq:Q @Tj s):wpAny (@NE) A (getAttrBy (.ref x) (.str "__class__" tk) false) Q E s:=by
 have f3:=FB.ga.bind (.ref x)
 have hx2:(Value.builtin "BaseException.__getattribute__" == Value.builtin "object.__getattribute__")=false:=@B_
 have hx1:(onTheHeap (Value.ref D) && Value.builtin "BaseException.__getattribute__" == Value.builtin "object.__getattribute__")=false:=by rw[hx2];rfl
 have L0:=I.type (M:=@NE)
 have L1:=PySem.W.looks_findIn (M:=@NE) X e.ga
 have L2:=PySem.W.looks_findIn (M:=@NE) X e.gn
 obtain⟨hh,g,d,t,os⟩:=s
 repeat (any_goals (first
  |assumption
  |with_reducible refine L0.at ?_
  |with_reducible refine L1.at ?_
  |with_reducible refine L2.at ?_
  |wp_step))
 exact codeAny_call_builtin FB.ga.plain F.entry_bexc_ga (BX e X I (GC e X I (PySem.W.handed_on rfl hq)))
def Em {Q:Option Value->@Rs}(FB:ExcAttrFacts "ValueError")(e:xu K D)(X:K.In s.heap)(I:PySem.W.InstAt s.heap x ox D none)(hq:Q (some @Tj) {s with toks:=s.toks + 1}):wpAny (@NE) A (getAttr? (.ref x) "__class__") Q E s:=by
 unfold getAttr? getAttrBy?
 exact Pl (wpAny_mkText (Pl (wpAny_attempt (Kr FB e X I (Pp hq)))))
def km.inst {h:Heap}(i:km x @Tj h):∃ox,PySem.W.InstAt h x ox D none:=by
 obtain⟨o,vs,a,b,c,d,_⟩:=i
 exact⟨o,a,b,by unfold PySem.W.notCls;rw[d],by rw[c];trivial⟩
def D4 (e:xu K D):PySem.W.KitX K (.ref x) @Tj (km x @Tj) where
 ty:=λ_ _ _ i=>let ⟨_,I⟩:=i.inst;I.type
 it:=λ_ _ X _=>by
  obtain⟨cdD,hcD⟩:=Rm.mp e.cl
  unfold PySem.W.clsIn at hcD
  split at hcD
  ·rename_i c' d' cd' sl' ho
   intro A' Q' E' s' k q
   unfold isType loadHead
   exact Pl (wpAny_loadPart (k _ _ (X _ _ ho)) (Pp q))
  ·cases hcD
 ne:=λh tp dd its n sl X htp=>by
  obtain⟨cdD,hcD⟩:=Rm.mp e.cl
  refine Bool.eq_false_iff.mpr λq=>?_
  have e:D=tp:=Value.ref.inj (beq_iff_eq.mp q)
  subst e
  unfold PySem.W.clsIn at hcD
  split at hcD
  ·rename_i c' d' cd' sl' ho
   have z:=(X _ _ ho).symm.trans htp
   cases z
  ·cases hcD
 ca:=λX i k=>let ⟨_,I⟩:=i.inst;Em F.excAttr_ValueError e X I k
end
end L2
namespace L2
open PySem PySem.SeqAt PySem.Spec PyProof.Rows
section
variable {X:Cx}
def Lx (K:Frag):@KM:=λxs H Q=>∃(x D:Addr) (c:V) (C:Value) (b:Bool),xs= [.ref x,c]/\(∀u,RelV c u->u=C)/\H x=some (.ext (km x @Tj))/\xu K D/\PySem.W.kitOne K @Tj C=some b/\Q (.bl b) H
def bL:dr X (.builtin "isinstance") (Lx X.K):=by
 intro pins s σ H xs us Q I r h
 obtain⟨x,D,c,C,b,rfl,hc,hx,e,k,q⟩:=h
 obtain⟨u,v,rfl,rx,rc⟩:=vals2 r
 cases rx
 rw[hc v rc]
 obtain⟨p,_,_⟩:=(show bV X.prog X.w H s.heap x (.ext (km x @Tj)) from I.hok x _ hx)
 exact Qu (D4 e) I.kIn p k (λz=>nomatch z) λtk=>⟨.bl b,H,I.tok tk,rfl,q⟩
theorem nz:∀{bs:List Bool} {us:@GM},Vals (bs.map V.bl) us->us=bs.map Value.bool
 | [],_,.nil=>rfl
 |b :: bs,_,.cons r rs=>by rw[nz rs];cases r;rfl
def xr {bs:List Bool}(k:Bool)(A:Around)(s:Shared)(y:Value)(hy:y∈bs.map Value.bool):EqAt A s y (.bool k) (isBoolOf k y):=by
 obtain⟨b,_,rfl⟩:=PD.mp hy
 exact EqAt.bool_bool b k
theorem wA (k:Bool)(bs:List Bool):(bs.map Value.bool).countP (isBoolOf k)=bs.count k:=by
 induction bs with
 |nil=>rfl
 |cons b bs ih=>rw[P8,List.countP_cons,List.count_cons,ih];cases b <;> cases k <;> rfl
def Hb (K:Frag):V->@KM:=λx vs H Q=>∃(a:Addr) (bs:List Bool) (k:Bool),x=.ref a/\vs= [.bl k]/\gk K H a (bs.map V.bl)/\Q (.int (bs.count k:Nat)) H
def BK:IG X "list.count" (Hb X.K):=by
 intro pins s σ H x vs v us Q I rx rv h
 obtain⟨a,bs,k,rfl,rfl,hq,q⟩:=h
 cases rx
 obtain⟨u,rfl,ru⟩:=vals1 rv
 cases ru
 obtain⟨its,rs,pl,hz⟩:=I.list hq
 have hits:=nz rs
 subst hits
 obtain⟨⟨cls,dd,data,sl⟩,ho,hc,n,hd⟩:=id pl.isList
 simp only at hc hd
 subst hc hd
 refine R1 PySem.F.slot_list_count ⟨_,ho,rfl⟩ PySem.F.entry_list_count (PySem.F.args_list_count_2 _ _) (list_countAt a (bs.map Value.bool).toArray n dd sl (.bool k) (isBoolOf k)) ⟨ho,λy hy=>xr k _ _ y (by simpa using hy),?_⟩
 rw[show (bs.map Value.bool).toArray.toList=bs.map Value.bool from rfl,wA]
 exact⟨.int (bs.count k:Nat),H,I.tok _,⟨_,rfl⟩,q⟩
def Ij (K:Frag):V->@KM:=λx vs H Q=>∃(a:Addr) (bs:List Bool) (k:Bool),x=.ref a/\vs= [.bl k]/\gk K H a (bs.map V.bl)/\k∈bs/\Q (.int (bs.idxOf k:Nat)) H
def CD:IG X "list.index" (Ij X.K):=by
 intro pins s σ H x vs v us Q I rx rv h
 obtain⟨a,bs,k,rfl,rfl,hq,hk,q⟩:=h
 cases rx
 obtain⟨u,rfl,ru⟩:=vals1 rv
 cases ru
 obtain⟨its,rs,pl,hz⟩:=I.list hq
 have hits:=nz rs
 subst hits
 obtain⟨⟨cls,dd,data,sl⟩,ho,hc,n,hd⟩:=id pl.isList
 simp only at hc hd
 subst hc hd
 have hj:bs.idxOf k < bs.length:=Ro.mpr hk
 have hsz:(sizeLine:Int) < 2 ^ 63 - 1:=@B_
 rw[Py] at hz
 refine R1 PySem.F.slot_list_index ⟨_,ho,rfl⟩ PySem.F.entry_list_index (PySem.F.args_list_index_2 _ _)
  (list_indexAt a (bs.map Value.bool).toArray n dd sl (.bool k) (isBoolOf k) (bs.idxOf k) (by simpa using hj) (@AT) ?_ ?_) ⟨ho,λy hy=>xr k _ _ y (by simpa using hy),?_⟩
 ·simp[isBoolOf,Sw hj]
 ·intro m hm hlt
  have hm':m < bs.length:=by simpa using hm
  have hne:bs[m]≠k:=λz=>by
   have:=List.not_of_lt_findIdx (p:=(· == k)) hlt
   simp[z] at this
  simpa[isBoolOf] using hne
 ·exact⟨.int (bs.idxOf k:Nat),H,I.tok _,⟨_,rfl⟩,q⟩
end
end L2
namespace L2
open PySem PySem.Spec PyProof.Rows
section
variable {X:Cx}
def iY (hu:X.A.units + 100 < cLine):mQ X (compareOp .NotIn) (JV X.K true):=by
 intro pins s σ H x y v u Q I rx ry h
 obtain⟨p,xs,d,ds,rfl,hq,hs,hx,s1,s2,q⟩:=h
 cases ry
 obtain⟨bs,r2⟩:=hx.reads I rx
 have key:∀{e:PyData} {as:List Addr} {u:Value},SeqAt.shaped e=true->Reads s.heap u e as->SeqAt.EqAt X.A.in1 s u v (PyData.eqv e d):=λ{e as u} h1 h2=>by
  refine SeqAt.eqAt_reads _ _ _ _ _ _ _ _ h2 r2 (Rg h1) (Rg s1) ?_
  have:=SeqAt.depth_of_shaped h1
  show X.A.units + 1 + _ < _
  omega
 rcases hq with hq |hq
 ·obtain⟨its,r,pl,hz⟩:=I.list hq
  obtain⟨f,e1,e2⟩:=oh I d r hs s2
  refine SeqAt.notIn_listAt f pl.isList (λw hw=>?_) ⟨.bl _,H,I,rfl,?_⟩
  ·obtain⟨e,as,hm,rd,ef⟩:=e2 w (by simpa using hw)
   rw[ef];exact key (s2 e hm) rd
  ·rw[show its.toArray.any f=its.any f by simp,e1];exact q
 ·obtain⟨its,r,pl,hz⟩:=I.tuple hq
  obtain⟨f,e1,e2⟩:=oh I d r hs s2
  refine SeqAt.notIn_tupleAt f pl (λw hw=>?_) ⟨.bl _,H,I,rfl,?_⟩
  ·obtain⟨e,as,hm,rd,ef⟩:=e2 w (by simpa using hw)
   rw[ef];exact key (s2 e hm) rd
  ·rw[show its.toArray.any f=its.any f by simp,e1];exact q
end
abbrev D:=PyData
def kD:Key->D
 | .inl i=>.int i
 | .inr x=>.str x
mutual
inductive Rp (K:Frag)(G:Hp):V->D->Prop
 |non:Rp K G .non .none
 |bl (b:Bool):Rp K G (.bl b) (.bool b)
 |int (i:Int):Rp K G @S3 @S3
 |str (x:Str):Rp K G (.str x) (.str x)
 |tup {a:Addr} {xs:List V} {ds:List D}:gj K G a xs->@Td->Rp K G @S2 (.tuple ds)
 |lst {a:Addr} {xs:List V} {ds:List D}:G a=some (.lst xs)->@Td->Rp K G @S2 (.list ds)
 |scr {a:Addr} {ns:@KF}:gk K G a (ns.map V.int)->Rp K G @S2 (.dict [(.none,@SQ)])
 |dK {a:Addr} {kvs:List (Key×V)} {ds:List (D×D)}:G a=some (.dK kvs)->Am K G kvs ds->Rp K G @S2 (.dict ds)
 |dT {a:Addr} {kvs:@On} {ds:List (D×D)}:G a=some (.dT kvs)->yX K G kvs ds->Rp K G @S2 (.dict ds)
inductive cI (K:Frag)(G:Hp):List V->List D->Prop
 |nil:cI K G [] []
 |cons {x:V} {xs:List V} {d:D} {ds:List D}:Rp K G x d->@Td->cI K G (x :: xs) (d :: ds)
inductive Am (K:Frag)(G:Hp):List (Key×V)->List (D×D)->Prop
 |nil:Am K G [] []
 |cons {k:Key} {x:V} {xs:List (Key×V)} {d:D} {ds:List (D×D)}:Rp K G x d->Am K G xs ds->Am K G ((k,x) :: xs) ((kD k,d) :: ds)
inductive yX (K:Frag)(G:Hp):@On->List (D×D)->Prop
 |nil:yX K G [] []
 |cons {k:List Key} {x:V} {xs:@On} {d:D} {ds:List (D×D)}:Rp K G x d->yX K G xs ds->yX K G ((k,x) :: xs) ((.tuple (k.map kD),d) :: ds)
end
section
variable {K:Frag}{G G' H H':Hp}
def LS {b:Addr}{o:HO}(h:Kt H b o)(hu:∀ps,o≠.tbl ps):H b=some o:=by
 obtain⟨u,e,k,_⟩:=h.some
 rw[e,k hu]
theorem my {a b:Addr}{o u:HO}(h:Kt H b u)(hb:b≠a)(ha:∀x y,H a≠some (.a8 x y)):Kt (upd H a o) b u:=by
 cases u with
 |tbl ps=>
  obtain⟨m,e,t,k⟩:=h
  refine⟨m,by rw[aC hb];exact e,t,λc hc=>?_⟩
  obtain⟨x,ex,ix⟩:=k c hc
  exact⟨x,by rw[aC (λz=>ha x _ (z▸ex))];exact ex,ix⟩
 |_=>exact (aC hb).trans h
def Rd.mono {a:Addr}{u:HO}(h:Rd G a u)(s:av G G')(hu:∀ps,u≠.tbl ps:=by intro _ z;cases z):Rd G' a u:=h.elim (λe=>.inl (LS (s _ _ e) hu)) λ⟨o,e⟩=>.inr ⟨o,s _ _ e⟩
mutual
theorem Rp.mono (s:av G G'):∀{x:V} {d:D},Rp K G x d->Rp K G' x d
 |_,_,.non=>.non
 |_,_,.bl b=>.bl b
 |_,_,.int i=>.int i
 |_,_,.str x=>.str x
 |_,_,.tup h hs=>.tup (h.grow s.grow) (cI.mono s hs)
 |_,_,.lst h hs=>.lst (s _ _ h) (cI.mono s hs)
 |_,_,.scr h=>.scr (s.seq h)
 |_,_,.dK h hs=>.dK (s _ _ h) (Am.mono s hs)
 |_,_,.dT h hs=>.dT (s _ _ h) (yX.mono s hs)
theorem cI.mono (s:av G G'):∀{xs:List V} {ds:List D},@Td->cI K G' xs ds
 |_,_,.nil=>.nil
 |_,_,.cons h hs=>.cons (Rp.mono s h) (cI.mono s hs)
theorem Am.mono (s:av G G'):∀{xs:List (Key×V)} {ds:List (D×D)},Am K G xs ds->Am K G' xs ds
 |_,_,.nil=>.nil
 |_,_,.cons h hs=>.cons (Rp.mono s h) (Am.mono s hs)
theorem yX.mono (s:av G G'):∀{xs:@On} {ds:List (D×D)},yX K G xs ds->yX K G' xs ds
 |_,_,.nil=>.nil
 |_,_,.cons h hs=>.cons (Rp.mono s h) (yX.mono s hs)
end
theorem cI.len:∀{xs:List V} {ds:List D},@Td->xs.length=ds.length
 |_,_,.nil=>rfl
 |_,_,.cons _ t=>by simp[cI.len t]
theorem cI.at:∀{xs:List V} {ds:List D} {i:Nat} {d:D},@Td->ds[i]? =some d->∃x,xs[i]? =some x/\Rp K G x d
 |_,_,_,_,.nil,e=>by simp at e
 |_,_,0,_,.cons r _,e=>by simp at e;subst e;exact⟨_,rfl,r⟩
 |_,_,i + 1,x,.cons _ t,e=>by
  obtain⟨u,h1,h2⟩:=cI.at (i:=i) (d:=x) t (by simpa using e)
  exact⟨u,by simpa using h1,h2⟩
theorem cI.at':∀{xs:List V} {ds:List D} {i:Nat} {x:V},@Td->xs[i]? =some x->∃d,ds[i]? =some d/\Rp K G x d
 |_,_,_,_,.nil,e=>by simp at e
 |_,_,0,_,.cons r _,e=>by simp at e;subst e;exact⟨_,rfl,r⟩
 |_,_,i + 1,x,.cons _ t,e=>by
  obtain⟨u,h1,h2⟩:=cI.at' (i:=i) (x:=x) t (by simpa using e)
  exact⟨u,by simpa using h1,h2⟩
theorem cI.append:∀{xs ys:List V} {ds es:List D},@Td->cI K G ys es->cI K G (xs ++ ys) (ds ++ es)
 |_,_,_,_,.nil,s=>s
 |_,_,_,_,.cons r t,s=>.cons r (cI.append t s)
def cI.snoc {xs:List V}{ds:List D}{x:V}{d:D}(h:@Td)(q:Rp K G x d):cI K G (xs ++ [x]) (ds ++ [d]):=h.append (.cons q .nil)
theorem cI.take:∀{xs:List V} {ds:List D} (n:Nat),@Td->cI K G (xs.take n) (ds.take n)
 |_,_,0,_=>.nil
 |_,_,_ + 1,.nil=>.nil
 |_,_,n + 1,.cons r t=>.cons r (cI.take n t)
theorem cI.drop:∀{xs:List V} {ds:List D} (n:Nat),@Td->cI K G (xs.drop n) (ds.drop n)
 |_,_,0,r=>r
 |_,_,_ + 1,.nil=>.nil
 |_,_,n + 1,.cons _ t=>cI.drop n t
theorem cI.set {x:V}{d:D}(r:Rp K G x d):∀{xs:List V} {ds:List D} (i:Nat),@Td->cI K G (xs.set i x) (ds.set i d)
 |_,_,_,.nil=>.nil
 |_,_,0,.cons _ t=>.cons r t
 |_,_,i + 1,.cons q t=>.cons q (cI.set r i t)
theorem cI.rep {n:Nat}{xs:List V}{ds:List D}(h:@Td):cI K G (List.replicate n xs).flatten (List.replicate n ds).flatten:=by
 induction n with
 |zero=>exact .nil
 |succ n ih=>rw[QM,QM,Rv,Rv];exact h.append ih
mutual
def DG:D->Bool
 | .dict _=>false
 | .list ds=>tx ds
 | .tuple ds=>tx ds
 |_=>true
def tx:List D->Bool
 | []=>true
 |d :: ds=>DG d && tx ds
end
mutual
theorem Rp.rep:∀{x:V} {d:D},Rp K G x d->DG d=true->Rep K G x d
 |_,_,.non,_=>.non
 |_,_,.bl b,_=>.bl b
 |_,_,.int i,_=>.int i
 |_,_,.str x,_=>.str x
 |_,_,.tup h hs,e=>.tup h (cI.reps hs (by simpa[DG] using e))
 |_,_,.lst h hs,e=>.lst (.inl (.inl h)) (cI.reps hs (by simpa[DG] using e))
 |_,_,.scr _,e=>by simp[DG] at e
 |_,_,.dK _ _,e=>by simp[DG] at e
 |_,_,.dT _ _,e=>by simp[DG] at e
theorem cI.reps:∀{xs:List V} {ds:List D},@Td->tx ds=true->mq K G xs ds
 |_,_,.nil,_=>.nil
 |_,_,.cons h hs,e=>.cons (Rp.rep h (by simp[tx] at e;exact e.1)) (cI.reps hs (by simp[tx] at e;exact e.2))
end
def Own (K:Frag)(G H:Hp)(a:Addr):D->Prop
 | .list ds=>∃xs,H a=some (.lst xs)/\@Td
 | .dict ds=>(∃kvs,H a=some (.dK kvs)/\Am K G kvs ds)\/∃kvs,H a=some (.dT kvs)/\yX K G kvs ds
 |_=>False
def Own.obj {a:Addr}{d:D}(h:Own K G H a d):∃o,H a=some o:=by
 cases d <;> first |exact h.elim |skip
 ·obtain⟨xs,e,_⟩:=h;exact⟨_,e⟩
 ·rcases h with⟨_,e,_⟩ | ⟨_,e,_⟩ <;> exact⟨_,e⟩
def Own.mono {a:Addr}{d:D}(h:Own K G H a d)(s:av G G')(m:∀o,H a=some o->Kt H' a o):Own K G' H' a d:=by
 cases d <;> first |exact h.elim |skip
 ·obtain⟨xs,e,r⟩:=h;exact⟨xs,m _ e,r.mono s⟩
 ·rcases h with⟨k,e,r⟩ | ⟨k,e,r⟩
  ·exact .inl ⟨k,m _ e,r.mono s⟩
  ·exact .inr ⟨k,m _ e,r.mono s⟩
def Own.rp {a:Addr}{d:D}(h:Own K G H a d)(n:G a=none){G':Hp}(s:av G G')(e:∀o,H a=some o->G' a=some o):Rp K G' @S2 d:=by
 cases d <;> first |exact h.elim |skip
 ·obtain⟨xs,q,r⟩:=h;exact .lst (e _ q) (r.mono s)
 ·rcases h with⟨k,q,r⟩ | ⟨k,q,r⟩
  ·exact .dK (e _ q) (r.mono s)
  ·exact .dT (e _ q) (r.mono s)
def nV (K:Frag)(B:@J_)(G H:Hp)(v:V)(d:D):Prop:=Rp K G v d\/∃a,v=.ref a/\B≠some a/\Own K G H a d
def i3 (B:@J_)(H H':Hp):Prop:=(∀b o,H b=some o->B≠some b->Kt H' b o)/\∀b o u,H b=some (.a8 o u)->H' b=some (.a8 o u)
def i3.refl (B:@J_)(H:Hp):i3 B H H:=⟨λ_ _ h _=>Kt.of h,λ_ _ _ h=>h⟩
theorem z6 {B:@J_}{b:Addr}{o:HO}(h1:Kt H b o)(y:i3 B H H')(n:B≠some b):Kt H' b o:=by
 cases o with
 |tbl ps=>
  obtain⟨m,e,t,k⟩:=h1
  obtain⟨m2,e2,t2,k2⟩:=y.1 b _ e n
  refine⟨m ++ m2,by rw[e2,Array.append_assoc],by rw[So];exact t.app t2,λc hc=>?_⟩
  rw[So,PQ] at hc
  rcases hc with hc |hc
  ·obtain⟨o,eo,io⟩:=k c hc;exact⟨o,y.2 c _ _ eo,io⟩
  ·exact k2 c hc
 |_=>exact y.1 b _ h1 n
def i3.trans {B:@J_}{H1:Hp}(x:i3 B H H1)(y:i3 B H1 H'):i3 B H H':=⟨λb o h n=>z6 (x.1 b o h n) y n,λb o u h=>y.2 b o u (x.2 b o u h)⟩
def av.mov (s:av H H')(B:@J_):i3 B H H':=⟨λb o h _=>s b o h,λb o u h=>s b _ h⟩
def nV.mono {B:@J_}{v:V}{d:D}(h:nV K B G H v d)(s:av G G')(m:i3 B H H'):nV K B G' H' v d:=by
 rcases h with h | ⟨a,e,n,h⟩
 ·exact .inl (h.mono s)
 ·exact .inr ⟨a,e,n,h.mono s λo q=>m.1 a o q n⟩
def nV.rpH {B:@J_}{v:V}{d:D}(h:nV K B G H v d)(s:av G H):Rp K H v d:=by
 rcases h with h | ⟨a,rfl,n,h⟩
 ·exact h.mono s
 ·cases d <;> first |exact h.elim |skip
  ·obtain⟨xs,q,r⟩:=h;exact .lst q (r.mono s)
  ·rcases h with⟨k,q,r⟩ | ⟨k,q,r⟩
   ·exact .dK q (r.mono s)
   ·exact .dT q (r.mono s)
def nV.list {B:@J_}{v:V}{ds:List D}(h:nV K B G H v (.list ds))(s:av G H):∃a xs,v=.ref a/\Rd H a (.lst xs)/\@Td:=by
 rcases h with h | ⟨a,rfl,n,xs,q,r⟩
 ·cases h with
  |lst h r=>exact⟨_,_,rfl,.inl (s _ _ h),r⟩
 ·exact⟨a,xs,rfl,.inl q,r⟩
def nV.tuple {B:@J_}{v:V}{ds:List D}(h:nV K B G H v (.tuple ds))(s:av G H):∃a xs,v=.ref a/\gj K H a xs/\@Td:=by
 rcases h with h | ⟨a,rfl,n,h⟩
 ·cases h with
  |tup h r=>exact⟨_,_,rfl,h.grow s.grow,r⟩
 ·exact h.elim
def nV.int {B:@J_}{v:V}{i:Int}(h:nV K B G H v @S3):v=.int i:=by
 rcases h with h | ⟨a,rfl,n,h⟩
 ·cases h;rfl
 ·exact h.elim
def nV.bool {B:@J_}{v:V}{b:Bool}(h:nV K B G H v (.bool b)):v=.bl b:=by
 rcases h with h | ⟨a,rfl,n,h⟩
 ·cases h;rfl
 ·exact h.elim
def nV.str {B:@J_}{v:V}{x:Str}(h:nV K B G H v (.str x)):v=.str x:=by
 rcases h with h | ⟨a,rfl,n,h⟩
 ·cases h;rfl
 ·exact h.elim
def nV.none {B:@J_}{v:V}(h:nV K B G H v .none):v=.non:=by
 rcases h with h | ⟨a,rfl,n,h⟩
 ·cases h;rfl
 ·exact h.elim
end
def Fz:HO->Prop
 | .tup _=>True
 | .a8 _ _=>True
 |_=>False
def Mx (H:Hp)(b:Addr):Prop:=H b≠none/\∀o,H b=some o->¬Fz o
def Mx.lst {H:Hp}{b:Addr}{xs:List V}(h:H b=some (.lst xs)):Mx H b:=⟨by rw[h];simp,λys z=>by rw[h] at z;cases z;exact λy=>y⟩
theorem Mx.same {H H':Hp}{b:Addr}(h:Mx H b)(m:∀o,H b=some o->Kt H' b o):Mx H' b:=by
 obtain⟨h1,h2⟩:=h
 cases e:H b with
 |none=>exact absurd e h1
 |some o=>
  obtain⟨u,eu,k1,k2⟩:=(m o e).some
  refine⟨by rw[eu];simp,λxs z=>?_⟩
  rw[eu] at z
  cases z
  by_cases c:∃ps,o=.tbl ps
  ·obtain⟨ps,e⟩:=k2 c;rw[e];exact λy=>y
  ·rw[k1 λps e=>c ⟨ps,e⟩];exact h2 o e
def Own.mx {K:Frag}{G H:Hp}{a:Addr}{d:D}(h:Own K G H a d):Mx H a:=by
 cases d <;> first |exact h.elim |skip
 ·obtain⟨xs,e,_⟩:=h;exact Mx.lst e
 ·rcases h with⟨k,e,_⟩ | ⟨k,e,_⟩ <;> exact⟨by rw[e];simp,λys z=>by rw[e] at z;cases z;exact λy=>y⟩
open Classical in
noncomputable def oH (G H:Hp):Hp:=λb=>match G b with
 |some o=>some o
 |none=>match H b with
  |some o=>if Fz o then some o else none
  |none=>none
def uS {G H:Hp}:av G (oH G H):=λb o e=>Kt.of (by unfold oH;rw[e])
theorem Ao {G H:Hp}(s:av G H){b:Addr}{o:HO}(e:H b=some o)(f:Fz o):oH G H b=some o:=by
 unfold oH
 cases q:G b with
 |some u=>
  obtain⟨u',eu,k1,k2⟩:=(s b u q).some
  rw[e] at eu
  cases eu
  by_cases c:∃ps,u=.tbl ps
  ·obtain⟨ps,z⟩:=k2 c;subst z;exact f.elim
  ·rw[k1 λps z=>c ⟨ps,z⟩]
 |none=>simp only[e];rw[Po f]
theorem wY {G H:Hp}(s:av G H):av (oH G H) H:=λb o e=>by
 unfold oH at e
 cases q:G b with
 |some u=>rw[q] at e;cases e;exact s b _ q
 |none=>
  rw[q] at e
  cases q2:H b with
  |none=>rw[q2] at e;cases e
  |some u=>
   rw[q2] at e
   dsimp only at e
   split at e
   ·cases e;exact Kt.of q2
   ·cases e
theorem Bh {G H H':Hp}(hh:av H H'){b:Addr}(m:Mx H b):oH G H' b=G b:=by
 unfold oH
 cases q:G b with
 |some u=>rfl
 |none=>
  obtain⟨h1,h2⟩:=m
  cases e:H b with
  |none=>exact absurd e h1
  |some o=>
   have hm:=(show Mx H b from⟨h1,h2⟩).same (hh b)
   cases e2:H' b with
   |none=>rfl
   |some u=>simp only;rw[Px (hm.2 u e2)]
def ou {K:Frag}{G H:Hp}(s:av G H){a:Addr}{xs:List V}(h:gj K H a xs):gj K (oH G H) a xs:=by
 rcases h with (h | ⟨o,h⟩) |h
 ·exact .inl (.inl (Ao s h trivial))
 ·exact .inl (.inr ⟨o,Ao s h trivial⟩)
 ·exact .inr h
structure Fx where
 K:Frag
 H0:Hp
 G0:Hp
 par:List Addr
 ca:Str->Addr
 br:Nat->Bool
 bx:@J_
inductive Sl where
 |no |fz (d:D) |ow (d:D) |bx |br (d:D)
abbrev En:=List Sl
inductive Nv where
 |no |da (d:D) |bx
def Sl.val:Sl->Nv
 | .no=>.no
 | .fz d=>.da d
 | .ow d=>.da d
 | .br d=>.da d
 | .bx=>.bx
def vl (env:En):List Nv:=env.map Sl.val
def OP (Γ:Fx)(B:@J_)(G H:Hp)(i:Nat)(o:Option (Option V)):Sl->Prop
 | .no=>True
 | .fz d=>∃v,o=some (some v)/\Rp Γ.K G v d
 | .ow d=>∃a,o=some (some @S2)/\Γ.H0 a=none/\G a=none/\B≠some a/\Own Γ.K G H a d
 | .bx=>∃a,o=some (some @S2)/\B=some a
 | .br d=>Γ.br i=true/\∃a,o=some (some @S2)/\B≠some a/\a∉Γ.par/\Own Γ.K G H a d
structure SR (Γ:Fx)(B:@J_)(G H:Hp)(σ:St)(env:En)(β:Int):Prop where
 sub:av G H
 old:av Γ.G0 G
 new:∀b,Mx Γ.H0 b->Γ.G0 b=none->G b=none
 keep:∀b o,Γ.H0 b=some o->b∉Γ.par->Kt H b o
 pin:∀b,b∈Γ.par->Mx H b
 fix:∀b,Γ.bx=some b->B=some b
 box:∀b,B=some b->H b=some (.lst [.int β])/\G b=none/\(b∈Γ.par\/Γ.H0 b=none)
 len:σ.length=env.length
 slot:∀(i:Nat) (s:Sl),env[i]? =some s->OP Γ B G H i (σ[i]?) s
 sep:∀(i j:Nat) (a:Addr) (d e:D),env[i]? =some (.ow d)->env[j]? =some (.ow e)->σ[i]? =some (some @S2)->σ[j]? =some (some @S2)->i=j
structure Ext (G H G' H':Hp):Prop where
 hh:av H H'
 gg:av G G'
 gh:av G' H'
 on:∀b,Mx H b->G' b=G b
def Ext.refl {G H:Hp}(s:av G H):Ext G H G H:=⟨av.refl _,av.refl _,s,λ_ _=>rfl⟩
def Ext.tups {G H H':Hp}(s:av G H)(hh:av H H'):Ext G H (oH G H') H':=⟨hh,uS,wY (s.trans hh),λ_ m=>Bh hh m⟩
def Ext.new {G H:Hp}(s:av G H){p:Addr}{o:HO}(h:H p=none):Ext G H (upd G p o) (upd H p o):=by
 refine⟨av.new h,av.new (s.free h),λb u e=>?_,λb hb=>?_⟩
 ·by_cases z:b=p
  ·subst z;rw[aw] at e;exact Kt.of (by rw[aw];exact e)
  ·rw[aC z] at e;exact my (s b u e) z (λx y w=>by rw[h] at w;cases w)
 ·exact aC (λz=>hb.1 (by rw[z];exact h))
def Ext.own {G H:Hp}(s:av G H){p:Addr}{o:HO}(h:H p=none):Ext G H G (upd H p o):=
 ⟨av.new h,av.refl _,s.trans (av.new h),λ_ _=>rfl⟩
def Ext.trans {G H G1 H1 G2 H2:Hp}(x:Ext G H G1 H1)(y:Ext G1 H1 G2 H2):Ext G H G2 H2:=by
 refine⟨x.hh.trans y.hh,x.gg.trans y.gg,y.gh,λb hb=>?_⟩
 rw[y.on b (hb.same λo e=>x.hh b o e),x.on b hb]
section
variable {Γ:Fx}{B:@J_}{G H G' H':Hp}{σ:St}{env:En}{β:Int}
def SR.there (I:@G_){b:Addr}(h:Γ.H0 b≠none):H b≠none:=by
 by_cases hp:b∈Γ.par
 ·exact (I.pin b hp).1
 ·cases e:Γ.H0 b with
  |none=>exact absurd e h
  |some o=>obtain⟨u,eu,_⟩:=(I.keep b o e hp).some;rw[eu];simp
def SR.thereM (I:@G_){b:Addr}(h:Mx Γ.H0 b):Mx H b:=by
 by_cases hp:b∈Γ.par
 ·exact I.pin b hp
 ·exact h.same λo e=>I.keep b o e hp
def SR.ext (I:@G_)(x:Ext G H G' H'):SR Γ B G' H' σ env β:=by
 refine⟨x.gh,I.old.trans x.gg,λb h1 h2=>?_,λb o h1 h2=>(I.keep b o h1 h2).step x.hh,λb hb=>?_,I.fix,λb e=>?_,I.len,λi s e=>?_,I.sep⟩
 ·rw[x.on b (I.thereM h1)];exact I.new b h1 h2
 ·exact (I.pin b hb).same λo e=>x.hh b o e
 ·obtain⟨h1,h2,h3⟩:=I.box b e
  exact⟨x.hh b _ h1,by rw[x.on b (Mx.lst h1)];exact h2,h3⟩
 ·have q:=I.slot i s e
  cases s with
  |no=>trivial
  |fz d=>obtain⟨v,h1,h2⟩:=q;exact⟨v,h1,h2.mono x.gg⟩
  |ow d=>
   obtain⟨a,h1,h2,h3,h4,h5⟩:=q
   exact⟨a,h1,h2,by rw[x.on a h5.mx];exact h3,h4,h5.mono x.gg λo q=>x.hh a o q⟩
  |bx=>exact q
  |br d=>obtain⟨b1,a,h1,h4,hp,h5⟩:=q;exact⟨b1,a,h1,h4,hp,h5.mono x.gg λo q=>x.hh a o q⟩
def ip (env:En)(i:Nat):En:=match env[i]? with
 |some (.ow d)=>env.set i (.fz d)
 |_=>env
def a8 (L:@IO)(env:En):En:=L.foldl ip env
def bO (L M:@IO)(env:En):a8 (L ++ M) env=a8 M @SX:=by unfold a8;rw[List.foldl_append]
def zd (env:En)(i:Nat)(s:Sl)(h:∀t,env[i]? =some t->t.val=s.val):vl (env.set i s)=vl env:=by
 unfold vl
 apply SD
 intro j
 rw[PK,PK,List.getElem?_set]
 by_cases e:i=j
 ·subst e
  by_cases hi:i < env.length
  ·simp only[QC,hi]
   have:=h _ (Pn hi)
   simp[Pn hi,this]
  ·simp only[QC,hi,Qq]
   rw[QZ (@AT)]
 ·simp[e]
def HB (env:En)(i:Nat):vl (ip env i)=vl env:=by
 unfold ip
 split
 ·rename_i d e
  exact zd _ _ _ λt ht=>by rw[e] at ht;cases ht;rfl
 ·rfl
theorem dh (L:@IO)(env:En):vl @SX=vl env:=by
 unfold a8
 induction L generalizing env with
 |nil=>rfl
 |cons i L ih=>rw[RE,ih,HB]
theorem Iz {i:Nat}{d:D}(h:(@Ps)[i]? =some (.da d)):env[i]? =some (.fz d)\/env[i]? =some (.ow d)\/env[i]? =some (.br d):=by
 unfold vl at h
 rw[PK] at h
 cases e:env[i]? with
 |none=>rw[e] at h;simp at h
 |some s=>
  rw[e] at h
  cases s with
  |no=>simp[Sl.val] at h
  |fz d'=>simp[Sl.val] at h;subst h;exact .inl rfl
  |ow d'=>simp[Sl.val] at h;subst h;exact .inr (.inl rfl)
  |bx=>simp[Sl.val] at h
  |br d'=>simp[Sl.val] at h;subst h;exact .inr (.inr rfl)
theorem MG {i:Nat}(h:(@Ps)[i]? =some .bx):env[i]? =some .bx:=by
 unfold vl at h
 rw[PK] at h
 cases e:env[i]? with
 |none=>rw[e] at h;simp at h
 |some s=>
  rw[e] at h
  cases s with
  |bx=>rfl
  |_=>simp[Sl.val] at h
def SR.freeze (I:@G_)(i:Nat)(hb:Γ.br i=false){d:D}(h:(@Ps)[i]? =some (.da d)):∃G' v,SR Γ B G' H σ (ip env i) β/\av G G'/\σ[i]? =some (some v)/\Rp Γ.K G' v d:=by
 rcases Iz h with e |e |e
 ·obtain⟨v,h1,h2⟩:=I.slot i _ e
  exact⟨G,v,by unfold ip;rw[e];exact I,av.refl _,h1,h2⟩
 rotate_left
 ·obtain⟨z,_⟩:=I.slot i _ e
  rw[hb] at z;cases z
 ·obtain⟨a,h1,h2,h3,h4,h5⟩:=I.slot i _ e
  obtain⟨o,ho⟩:=h5.obj
  have sG:av G (upd G a o):=av.new h3
  have hi:i < env.length:=(PN.mp e).1
  have hr:Rp Γ.K (upd G a o) @S2 d:=h5.rp h3 sG λo' q=>by rw[ho] at q;cases q;exact aw
  refine⟨upd G a o,.ref a,?_,sG,h1,hr⟩
  unfold ip
  rw[e]
  refine⟨λb u q=>?_,I.old.trans sG,λb n1 n2=>?_,I.keep,I.pin,I.fix,λb q=>?_,by rw[QQ];exact I.len,λj s q=>?_,λj k c d1 d2 q1 q2 q3 q4=>?_⟩
  ·by_cases z:b=a
   ·subst z;rw[aw] at q;cases q;exact Kt.of ho
   ·rw[aC z] at q;exact I.sub b u q
  ·rw[aC (λz=>n1.1 (by rw[z];exact h2))];exact I.new b n1 n2
  ·obtain⟨k1,k2,k3⟩:=I.box b q
   exact⟨k1,by rw[aC (λz=>h4 (by rw[<-z];exact q))];exact k2,k3⟩
  ·by_cases z:j=i
   ·subst z
    rw[PY hi] at q
    cases q
    exact⟨.ref a,h1,hr⟩
   ·rw[PZ (Ne.symm z)] at q
    have w:=I.slot j s q
    cases s with
    |no=>trivial
    |fz d'=>obtain⟨v,w1,w2⟩:=w;exact⟨v,w1,w2.mono sG⟩
    |ow d'=>
     obtain⟨c,w1,w2,w3,w4,w5⟩:=w
     have ca:c≠a:=λz2=>z (I.sep j i c d' d q e w1 (by rw[z2];exact h1))
     exact⟨c,w1,w2,by rw[aC ca];exact w3,w4,w5.mono sG λo q=>Kt.of q⟩
    |bx=>exact w
    |br d'=>obtain⟨b1,c,w1,w4,wp,w5⟩:=w;exact⟨b1,c,w1,w4,wp,w5.mono sG λo q=>Kt.of q⟩
  ·have ne:∀{j:Nat} {d':D},(env.set i (Sl.fz d))[j]? =some (.ow d')->env[j]? =some (.ow d'):=λ{j d'} q=>by
    by_cases z:j=i
    ·subst z;rw[PY hi] at q;cases q
    ·rw[PZ (Ne.symm z)] at q;exact q
   exact I.sep j k c d1 d2 (ne q1) (ne q2) q3 q4
theorem SR.a8 (I:@G_)(L:@IO)(hb:∀i,i∈L->Γ.br i=false):∃G',SR Γ B G' H σ @SX β/\av G G':=by
 induction L generalizing env G with
 |nil=>exact⟨G,I,av.refl _⟩
 |cons i L ih=>
  show ∃G',SR Γ B G' H σ (L2.a8 L (ip env i)) β/\av G G'
  have key:∃G1,SR Γ B G1 H σ (ip env i) β/\av G G1:=by
   cases e:env[i]? with
   |none=>exact⟨G,by unfold ip;rw[e];exact I,av.refl _⟩
   |some s=>
    cases s with
    |ow d=>
     obtain⟨G1,v,h1,h2,_⟩:=I.freeze i (hb i (Pz ..)) (d:=d) (by unfold vl;rw[PK,e];rfl)
     exact⟨G1,h1,h2⟩
    |_=>exact⟨G,by unfold ip;rw[e];exact I,av.refl _⟩
  obtain⟨G1,I1,s1⟩:=key
  obtain⟨G2,I2,s2⟩:=ih I1 λj hj=>hb j (Pw _ hj)
  exact⟨G2,I2,s1.trans s2⟩
def SR.set (I:@G_){i:Nat}(hi:i < env.length){v:V}{d:D}(h:Rp Γ.K G v d):SR Γ B G H (σ.set i (some v)) (env.set i (.fz d)) β:=by
 have hs:i < σ.length:=by rw[I.len];exact hi
 refine⟨I.sub,I.old,I.new,I.keep,I.pin,I.fix,I.box,by rw[QQ,QQ];exact I.len,λj s q=>?_,λj k c d1 d2 q1 q2 q3 q4=>?_⟩
 ·by_cases z:j=i
  ·subst z
   rw[PY hi] at q
   cases q
   exact⟨v,by rw[PY hs],h⟩
  ·rw[PZ (Ne.symm z)] at q ⊢
   exact I.slot j s q
 ·have ne:∀{j:Nat} {d':D},(env.set i (Sl.fz d))[j]? =some (.ow d')->j≠i/\env[j]? =some (.ow d'):=λ{j d'} q=>by
   by_cases z:j=i
   ·subst z;rw[PY hi] at q;cases q
   ·rw[PZ (Ne.symm z)] at q;exact⟨z,q⟩
  obtain⟨n1,e1⟩:=ne q1
  obtain⟨n2,e2⟩:=ne q2
  rw[PZ (Ne.symm n1)] at q3
  rw[PZ (Ne.symm n2)] at q4
  exact I.sep j k c d1 d2 e1 e2 q3 q4
def SR.setOw (I:@G_){i:Nat}(hi:i < env.length){a:Addr}{d:D}(h0:Γ.H0 a=none)(hg:G a=none)(hb:B≠some a)(h:Own Γ.K G H a d)(hn:∀(j:Nat) (d':D),env[j]? =some (.ow d')->j≠i->σ[j]?≠some (some @S2)):SR Γ B G H (σ.set i (some @S2)) (env.set i (.ow d)) β:=by
 have hs:i < σ.length:=by rw[I.len];exact hi
 refine⟨I.sub,I.old,I.new,I.keep,I.pin,I.fix,I.box,by rw[QQ,QQ];exact I.len,λj s q=>?_,λj k c d1 d2 q1 q2 q3 q4=>?_⟩
 ·by_cases z:j=i
  ·subst z
   rw[PY hi] at q
   cases q
   exact⟨a,by rw[PY hs],h0,hg,hb,h⟩
  ·rw[PZ (Ne.symm z)] at q ⊢
   exact I.slot j s q
 ·by_cases z1:j=i
  ·by_cases z2:k=i
   ·rw[z1,z2]
   ·subst z1
    rw[PZ (Ne.symm z2)] at q2 q4
    rw[PY hs] at q3
    cases q3
    exact absurd q4 (hn k d2 q2 z2)
  ·by_cases z2:k=i
   ·subst z2
    rw[PZ (Ne.symm z1)] at q1 q3
    rw[PY hs] at q4
    cases q4
    exact absurd q3 (hn j d1 q1 z1)
   ·rw[PZ (Ne.symm z1)] at q1 q3
    rw[PZ (Ne.symm z2)] at q2 q4
    exact I.sep j k c d1 d2 q1 q2 q3 q4
def SR.fresh (I:@G_){a:Addr}(h:H a=none):Γ.H0 a=none/\G a=none/\B≠some a/\∀(j:Nat) (d:D),env[j]? =some (.ow d)->σ[j]?≠some (some @S2):=by
 have hB:B≠some a:=λz=>by rw[(I.box a z).1] at h;cases h
 refine⟨?_,I.sub.free h,hB,λj d e z=>?_⟩
 ·cases e:Γ.H0 a with
  |none=>rfl
  |some o=>exact absurd h (I.there (by rw[e];simp))
 ·obtain⟨c,h1,_,_,_,h5⟩:=I.slot j _ e
  rw[z] at h1
  cases h1
  obtain⟨o,ho⟩:=h5.obj
  rw[h] at ho;cases ho
def SR.write (I:@G_)(hb:∀j,Γ.br j=false){i:Nat}{a:Addr}{d d':D}{o:HO}(e:env[i]? =some (.ow d))(ea:σ[i]? =some (some @S2))(h:∀H',H' a=some o->av G H'->Own Γ.K G H' a d'):SR Γ B G (upd H a o) σ (env.set i (.ow d')) β:=by
 obtain⟨a',h1,h2,h3,h4,h5⟩:=I.slot i _ e
 rw[ea] at h1;cases h1
 have hi:i < env.length:=(PN.mp e).1
 have ha:∀x y,H a≠some (.a8 x y):=λx y w=>h5.mx.2 _ w trivial
 have sub:av G (upd H a o):=λb u q=>my (I.sub b u q) (λz=>by rw[z,h3] at q;cases q) ha
 refine⟨sub,I.old,I.new,λb u q n=>?_,λb q=>?_,I.fix,λb q=>?_,by rw[QQ];exact I.len,λj s q=>?_,λj k c d1 d2 q1 q2 q3 q4=>?_⟩
 ·exact my (I.keep b u q n) (λz=>by rw[z,h2] at q;cases q) ha
 ·by_cases z:b=a
  ·subst z;exact (h _ aw sub).mx
  ·exact (I.pin b q).same λo e=>Kt.of (by rw[aC z];exact e)
 ·obtain⟨k1,k2,k3⟩:=I.box b q
  exact⟨by rw[aC (λz=>h4 (by rw[<-z];exact q))];exact k1,k2,k3⟩
 ·by_cases z:j=i
  ·subst z
   rw[PY hi] at q
   cases q
   exact⟨a,ea,h2,h3,h4,h _ aw sub⟩
  ·rw[PZ (Ne.symm z)] at q
   have w:=I.slot j s q
   cases s with
   |no=>trivial
   |fz d1=>exact w
   |ow d1=>
    obtain⟨c,w1,w2,w3,w4,w5⟩:=w
    have ca:c≠a:=λz2=>z (I.sep j i c d1 d q e w1 (by rw[z2];exact ea))
    exact⟨c,w1,w2,w3,w4,w5.mono (av.refl _) λo q=>Kt.of (by rw[aC ca];exact q)⟩
   |bx=>exact w
   |br d1=>obtain⟨b1,_⟩:=w;rw[hb j] at b1;cases b1
 ·have back:∀{j:Nat} {d1:D},(env.set i (Sl.ow d'))[j]? =some (.ow d1)->∃d2,env[j]? =some (.ow d2):=λ{j d1} q=>by
   by_cases z:j=i
   ·subst z;exact⟨d,e⟩
   ·rw[PZ (Ne.symm z)] at q;exact⟨d1,q⟩
  obtain⟨_,b1⟩:=back q1
  obtain⟨_,b2⟩:=back q2
  exact I.sep j k c _ _ b1 b2 q3 q4
end
inductive R (α:Type) where
 |ok (a:α) (β:Int)
 |exc (c:Str)
 |bad
def R.bnd {α γ:Type}(r:R α)(k:α->Int->R γ):R γ:=match r with
 | .ok a β=>k a β
 | .exc c=>.exc c
 | .bad=>.bad
def R.of {α:Type}(o:Option α)(β:Int):R α:=match o with
 |some a=>.ok a β
 |none=>.bad
abbrev VF (α:Type):=List Nv->Int->R α
def Kp (Γ:Fx)(H':Hp):Prop:=∀b o,Γ.H0 b=some o->b∉Γ.par->Kt H' b o
def Out {α:Type}(Γ:Fx)(E:XK)(r:R α)(P:α->Int->Prop):Prop:=match r with
 | .ok a β=>P a β
 | .exc c=>∀H',Kp Γ H'->E (.ref (Γ.ca c)) none H'
 | .bad=>False
section
variable {α γ:Type}{Γ:Fx}{E:XK}
theorem Out.bnd {r:R α}{k:α->Int->R γ}{P:γ->Int->Prop}(h:Out Γ E (r.bnd k) P):Out Γ E r λa β=>Out Γ E (k a β) P:=by
 cases r with
 |ok a β=>exact h
 |exc c=>exact h
 |bad=>exact h
theorem Out.imp {r:R α}{P P':α->Int->Prop}(h:Out Γ E r P)(i:∀a β,P a β->P' a β):Out Γ E r P':=by
 cases r with
 |ok a β=>exact i a β h
 |exc c=>exact h
 |bad=>exact h
theorem Out.of {o:Option α}{β:Int}{P:α->Int->Prop}(h:Out Γ E (R.of o β) P):∃a,o=some a/\P a β:=by
 cases o with
 |none=>exact h.elim
 |some a=>exact⟨a,rfl,h⟩
end
inductive Md where
 |b |v |w
def VO (K:Frag)(B:@J_)(H G' H':Hp):Md->D->V->Prop
 | .b,d,v=>nV K B G' H' v d
 | .v,d,v=>Rp K G' v d
 | .w,d,v=>∃a,v=.ref a/\H a=none/\G' a=none/\Own K G' H' a d
def pT (Γ:Fx)(E:XK)(f:VF D)(L:@IO)(md:Md):TE:=λσ H Q=>∃env G B β,@G_/\
 Out Γ E (f @Ps β) λd β'=>∀v G' H',SR Γ B G' H' σ @SX β'->av G G'->i3 B H H'->VO Γ.K B H G' H' md d v->Q v H'
def SE (X:Cx)(Γ:Fx)(E:XK)(e:Expr)(f:VF D)(L:@IO)(md:Md):Prop:=PE X e (pT Γ E f L md)
def qT (Γ:Fx)(E:XK)(f:VF Bool)(L:@IO):TT:=λσ H Q=>∃env G B β,@G_/\
 Out Γ E (f @Ps β) λc β'=>∀G' H',SR Γ B G' H' σ @SX β'->av G G'->i3 B H H'->Q c H'
def BV (X:Cx)(Γ:Fx)(E:XK)(e:Expr)(f:VF Bool)(L:@IO):Prop:=PT X e (qT Γ E f L)
def uZ (X:Cx)(Γ:Fx)(E:XK)(e:Expr)(f:VF Bool)(L:@IO):Prop:=PW X e (qT Γ E f L)
def aT (Γ:Fx)(E:XK)(f:@Pi)(L:@IO):TA:=λσ H Q=>∃env G B β,@G_/\
 Out Γ E (f @Ps β) λds β'=>∀vs G' H',SR Γ B G' H' σ @SX β'->av G G'->i3 B H H'->cI Γ.K G' vs ds->Q vs H'
def SA (X:Cx)(Γ:Fx)(E:XK)(es:@TH)(f:@Pi)(L:@IO):Prop:=PA X es (aT Γ E f L)
def PE.post' {X:Cx}{e:Expr}{t u:TE}(h:PE X e t)(m:∀σ H Q,u σ H Q->t σ H Q):PE X e u:=λpins s σ H Q I q=>h pins s σ H Q I (m σ H Q q)
def PT.post {X:Cx}{e:Expr}{t u:TT}(h:PT X e t)(m:∀σ H Q,u σ H Q->t σ H Q):PT X e u:=λpins s σ H Q I q=>h pins s σ H Q I (m σ H Q q)
def PW.post {X:Cx}{e:Expr}{t u:TT}(h:PW X e t)(m:∀σ H Q,u σ H Q->t σ H Q):PW X e u:=λwh pins s σ H Q I q=>h wh pins s σ H Q I (m σ H Q q)
def PA.post {X:Cx}{es:@TH}{t u:TA}(h:PA X es t)(m:∀σ H Q,u σ H Q->t σ H Q):PA X es u:=λpos pins s σ H Q I q=>h pos pins s σ H Q I (m σ H Q q)
def PS.post {X:Cx}{st:Stmt}{t u:TS}(h:PS X st t)(m:∀D σ H,u D σ H->t D σ H):PS X st u:=λpins s σ H D I q=>h pins s σ H D I (m D σ H q)
def dat:Option Nv->Option D
 |some (.da d)=>some d
 |_=>none
def gv (i:Nat):VF D:=λvs β=>R.of (dat vs[i]?) β
def cst (d:D):VF D:=λ_ β=>.ok d β
section
variable {X:Cx}{Γ:Fx}{E:XK}{e a b c:Expr}{f fa fb fc:VF D}{L La Lb Lc:@IO}{md ma mb mc:Md}{pos:Pos}
theorem join_some {o:Option Nv}{d:D}(h:dat o=some d):o=some (.da d):=by
 cases o with
 |none=>cases h
 |some o=>cases o with
  |da x=>cases h;rfl
  |_=>cases h
def SR.letIn {B:@J_}{G H:Hp}{σ:St}{env:En}{β:Int}(I:@G_){p:Addr}{d:D}(h0:Γ.H0 p=none)(hg:G p=none)(hb:B≠some p)(hn:∀(j:Nat) (d':D),env[j]? =some (.ow d')->σ[j]?≠some (some (.ref p)))(h:Own Γ.K G H p d) :
  ∃G',SR Γ B G' H σ env β/\av G G'/\Rp Γ.K G' (.ref p) d:=by
 obtain⟨o,ho⟩:=h.obj
 have sG:av G (upd G p o):=av.new hg
 refine⟨upd G p o,⟨λb u q=>?_,I.old.trans sG,λb n1 n2=>?_,I.keep,I.pin,I.fix,λb q=>?_,I.len,λj s q=>?_,I.sep⟩,sG,h.rp hg sG λo' q=>by rw[ho] at q;cases q;exact aw⟩
 ·by_cases z:b=p
  ·subst z;rw[aw] at q;cases q;exact Kt.of ho
  ·rw[aC z] at q;exact I.sub b u q
 ·rw[aC (λz=>n1.1 (by rw[z];exact h0))];exact I.new b n1 n2
 ·obtain⟨k1,k2,k3⟩:=I.box b q
  exact⟨k1,by rw[aC (λz=>hb (by rw[<-z];exact q))];exact k2,k3⟩
 ·have w:=I.slot j s q
  cases s with
  |no=>trivial
  |fz d'=>obtain⟨v,w1,w2⟩:=w;exact⟨v,w1,w2.mono sG⟩
  |ow d'=>
   obtain⟨c,w1,w2,w3,w4,w5⟩:=w
   have ca:c≠p:=λz2=>hn j d' q (by rw[<-z2];exact w1)
   exact⟨c,w1,w2,by rw[aC ca];exact w3,w4,w5.mono sG λo q=>Kt.of q⟩
  |bx=>exact w
  |br d'=>obtain⟨b1,c,w1,w4,wp,w5⟩:=w;exact⟨b1,c,w1,w4,wp,w5.mono sG λo q=>Kt.of q⟩
def vp {env:En}{i j:Nat}{d:D}(h:(ip env i)[j]? =some (.ow d)):env[j]? =some (.ow d):=by
 unfold ip at h
 split at h
 ·rename_i d' e
  by_cases z:i=j
  ·subst z
   rw[PY (PN.mp e).1] at h;cases h
  ·rw[PZ z] at h;exact h
 ·exact h
theorem rq {L:@IO}{env:En}{j:Nat}{d:D}(h:(@SX)[j]? =some (.ow d)):env[j]? =some (.ow d):=by
 unfold a8 at h
 induction L generalizing env with
 |nil=>exact h
 |cons i L ih=>exact vp (ih h)
def SR.letW {B:@J_}{G H G' H':Hp}{σ:St}{env:En}{β β':Int}{L:@IO}{d:D}{v:V}(I:@G_)(I':SR Γ B G' H' σ (L2.a8 L env) β')(h:VO Γ.K B H G' H' .w d v):∃G2,SR Γ B G2 H' σ (L2.a8 L env) β'/\av G' G2/\Rp Γ.K G2 v d:=by
 obtain⟨p,rfl,h1,h2,h3⟩:=h
 obtain⟨q1,q2,q3,q4⟩:=I.fresh h1
 exact I'.letIn q1 h2 q3 (λj d' e=>q4 j d' (rq e)) h3
def SE.wv (h:SE X Γ E e f L .w):SE X Γ E e f L .v:=by
 refine PE.post' h λσ H Q ⟨env,G,B,β,I,o⟩=>⟨env,G,B,β,I,o.imp λd β' k v G' H' I' s m vo=>?_⟩
 obtain⟨G2,I2,s2,r⟩:=I.letW I' vo
 exact k v G2 H' I2 (s.trans s2) m r
theorem VO.brw {B:@J_}{H G' H':Hp}{d:D}{v:V}{K:Frag}(h:VO K B H G' H' md d v)(hB:∀x,B=some x->H x≠none):nV K B G' H' v d:=by
 cases md with
 |b=>exact h
 |v=>exact .inl h
 |w=>
  obtain⟨p,rfl,h1,h2,h3⟩:=h
  exact .inr ⟨p,rfl,λz=>hB p z h1,h3⟩
def SR.boxThere {B:@J_}{G H:Hp}{σ:St}{env:En}{β:Int}(I:@G_):∀x,B=some x->H x≠none:=λx e=>by rw[(I.box x e).1];simp
def ag (i:Nat){x:Str}(hN:X.N[i]? =some x:=by rfl)(hv:yM X.env.scope x:=by first |exact @TM |exact Or.inr (@TM) |exact Or.inr (Or.inr rfl))(hd:@FM:=by decide)
  (hcd:@TF:=by decide):SE X Γ E (.Name x pos) (gv i) [] .b:=by
 refine PE.post' (jn hN hv hd hcd) λσ H Q ⟨env,G,B,β,I,o⟩=>?_
 obtain⟨d,e,k⟩:=o.of
 have e:=join_some e
 rcases Iz e with q |q |q
 ·obtain⟨v,h1,h2⟩:=I.slot i _ q
  exact⟨v,h1,k v G H I (av.refl _) (i3.refl _ _) (.inl h2)⟩
 ·obtain⟨p,h1,h2,h3,h4,h5⟩:=I.slot i _ q
  exact⟨.ref p,h1,k _ G H I (av.refl _) (i3.refl _ _) (.inr ⟨p,rfl,h4,h5⟩)⟩
 ·obtain⟨_,p,h1,h4,_,h5⟩:=I.slot i _ q
  exact⟨.ref p,h1,k _ G H I (av.refl _) (i3.refl _ _) (.inr ⟨p,rfl,h4,h5⟩)⟩
def au (i:Nat)(hb:Γ.br i=false){x:Str}(hN:X.N[i]? =some x:=by rfl)(hv:yM X.env.scope x:=by first |exact @TM |exact Or.inr (@TM) |exact Or.inr (Or.inr rfl))(hd:@FM:=by decide)
  (hcd:@TF:=by decide):SE X Γ E (.Name x pos) (gv i) [i] .v:=by
 refine PE.post' (jn hN hv hd hcd) λσ H Q ⟨env,G,B,β,I,o⟩=>?_
 obtain⟨d,e,k⟩:=o.of
 obtain⟨G',v,I',s,h1,h2⟩:=I.freeze i hb (join_some e)
 exact⟨v,h1,k v G' H I' s (i3.refl _ _) h2⟩
def Ft {v:V}{d:D}(h:PE X e (tC v))(r:∀G,Rp Γ.K G v d):SE X Γ E e (cst d) [] .v:=by
 refine PE.post' h λσ H Q ⟨env,G,B,β,I,o⟩=>?_
 exact o v G H I (av.refl _) (i3.refl _ _) (r G)
def ar {i:Int}{j}:SE X Γ E (.Constant @S3 j pos) (cst @S3) [] .v:=Ft ra λ_=>.int i
def lW {i:Bool}{j}:SE X Γ E (.Constant (.bool i) j pos) (cst (.bool i)) [] .v:=Ft uC λ_=>.bl i
def DL {j}:SE X Γ E (.Constant .none j pos) (cst .none) [] .v:=Ft JL λ_=>.non
def gz {x:Str}{j}:SE X Γ E (.Constant (.str x) j pos) (cst (.str x)) [] .v:=Ft sU λ_=>.str x
def GH {x:Str}{i:Int}{t:Tok}(hg:Gl X x)(hm:X.mg x=some (.int i t))(hd:@FM:=by decide):SE X Γ E (.Name x pos) (cst @S3) [] .v:=Ft (dk hg hm (show RelV @S3 _ from⟨_,rfl⟩) hd) λ_=>.int i
def two {W:V->V->Hp->Prop}{B:@J_}{G H:Hp}{σ:St}{env:En}{β:Int}(I:@G_)
  (h:Out Γ E (fa @Ps β) λd1 β1=>Out Γ E (fb @Ps β1) λd2 β2=>∀x y G2 H2,SR Γ B G2 H2 σ (a8 (La ++ Lb) env) β2->av G G2->i3 B H H2->nV Γ.K B G2 H2 x d1->nV Γ.K B G2 H2 y d2->W x y H2) :
  pT Γ E fa La ma σ H λx H1=>pT Γ E fb Lb mb σ H1 λy H2=>W x y H2:=by
 refine⟨env,G,B,β,I,h.imp λd1 β1 h x G1 H1 I1 s1 m1 vx=>⟨a8 La env,G1,B,β1,I1,?_⟩⟩
 rw[dh]
 refine h.imp λd2 β2 k y G2 H2 I2 s2 m2 vy=>?_
 refine k x y G2 H2 (by rw[bO];exact I2) (s1.trans s2) (m1.trans m2) ((vx.brw I.boxThere).mono s2 m2) (vy.brw I1.boxThere)
def pk (K:Frag)(r:R2)(g:D->@Os)(md:Md):Prop:=∀(B:@J_) (G H:Hp) (x y:V) (dx dy d:D) (Q:VK),av G H->(∀x,B=some x->H x≠none)->nV K B G H x dx->nV K B G H y dy->g dx dy=some d->
 (∀v G' H',Ext G H G' H'->VO K B H G' H' md d v->Q v H')->r x y H Q
def f2 (fa fb:VF D)(g:D->@Os):VF D:=λvs β=>(@TX).bnd λx β1=>(fb vs β1).bnd λy β2=>R.of (g x y) β2
theorem gV {B:@J_}{H H2:Hp}(m:i3 B H H2)(hB:∀x,B=some x->H2 x≠none){p:Addr}(h:H2 p=none):H p=none:=by
 cases e:H p with
 |none=>rfl
 |some o=>obtain⟨u,eu,_⟩:=(m.1 p o e λz=>hB p z h).some;rw[eu] at h;cases h
theorem VO.back {K:Frag}{B:@J_}{H H2 G' H':Hp}{d:D}{v:V}(h:VO K B H2 G' H' md d v)(m:i3 B H H2)(hB:∀x,B=some x->H2 x≠none):VO K B H G' H' md d v:=by
 cases md with
 |b=>exact h
 |v=>exact h
 |w=>obtain⟨p,e,h1,h2,h3⟩:=h;exact⟨p,e,gV m hB h1,h2,h3⟩
def o8 {r:R2}{g:D->@Os}{Q:VK}(pr:pk Γ.K r g md){B:@J_}{G H:Hp}{σ:St}{env:En}{β:Int}(I:@G_)
  (h:Out Γ E (f2 fa fb g @Ps β) λd β'=>∀v G' H',SR Γ B G' H' σ (a8 (La ++ Lb) env) β'->av G G'->i3 B H H'->VO Γ.K B H G' H' md d v->Q v H') :
  pT Γ E fa La ma σ H λx H1=>pT Γ E fb Lb mb σ H1 λy H2=>r x y H2 Q:=by
 refine two I (h.bnd.imp λd1 β1 h=>h.bnd.imp λd2 β2 h x y G2 H2 I2 s2 m2 bx by'=>?_)
 obtain⟨d,e,k⟩:=h.of
 refine pr B G2 H2 x y d1 d2 d Q I2.sub I2.boxThere bx by' e λv G' H' x' vo=>?_
 exact k v G' H' (I2.ext x') (s2.trans x'.gg) (m2.trans (x'.hh.mov B)) (vo.back m2 I2.boxThere)
def bp {op:Operator}{r:R2}{g:D->@Os}(ho:mQ X (binaryOp op) r)(pr:pk Γ.K r g md)(ha:@Re)(hb:SE X Γ E b fb Lb mb):SE X Γ E (.BinOp a op b pos) (f2 fa fb g) (La ++ Lb) md:=
 PE.post' (qi ho ha hb) λσ H Q ⟨env,G,B,β,I,o⟩=>o8 pr I o
def iu {op:CmpOp}{r:R2}{g:D->@Os}(ho:mQ X (compareOp op) r)(pr:pk Γ.K r g md)(ha:@Re)(hb:SE X Γ E b fb Lb mb)(hm:behindInMarks op b=false):SE X Γ E (.Compare a [op] [b] pos) (f2 fa fb g) (La ++ Lb) md:=
 PE.post' (HH ho ha hb hm) λσ H Q ⟨env,G,B,β,I,o⟩=>o8 pr I o
def ba {r:R2}{g:D->@Os}(hr:DN X r)(pr:pk Γ.K r g md)(ha:@Re)(hb:SE X Γ E b fb Lb mb)(hs:Bo b):SE X Γ E (.Subscript a b pos) (f2 fa fb g) (La ++ Lb) md:=
 PE.post' (lV hr ha hb hs) λσ H Q ⟨env,G,B,β,I,o⟩=>o8 pr I o
def C4 (K:Frag)(r:V->Hp->VK->Prop)(g:@Os)(md:Md):Prop:=∀(B:@J_) (G H:Hp) (x:V) (dx d:D) (Q:VK),av G H->(∀x,B=some x->H x≠none)->nV K B G H x dx->g dx=some d->
 (∀v G' H',Ext G H G' H'->VO K B H G' H' md d v->Q v H')->r x H Q
def f1 (fa:VF D)(g:@Os):VF D:=λvs β=>(@TX).bnd λx β1=>R.of (g x) β1
def kX {r:V->Hp->VK->Prop}{g:@Os}{Q:VK}(pr:C4 Γ.K r g md){B:@J_}{G H:Hp}{σ:St}{env:En}{β:Int}(I:@G_)
  (h:Out Γ E (f1 fa g @Ps β) λd β'=>∀v G' H',SR Γ B G' H' σ (a8 La env) β'->av G G'->i3 B H H'->VO Γ.K B H G' H' md d v->Q v H') :
  pT Γ E fa La ma σ H λx H1=>r x H1 Q:=by
 refine⟨env,G,B,β,I,h.bnd.imp λd1 β1 h x G1 H1 I1 s1 m1 vx=>?_⟩
 obtain⟨d,e,k⟩:=h.of
 refine pr B G1 H1 x d1 d Q I1.sub I1.boxThere (vx.brw I.boxThere) e λv G' H' x' vo=>?_
 exact k v G' H' (I1.ext x') (s1.trans x'.gg) (m1.trans (x'.hh.mov B)) (vo.back m1 I1.boxThere)
def xN {op:UnaryOp}{r:V->Hp->VK->Prop}{g:@Os}(ho:Nl X (unaryOp op) r)(pr:C4 Γ.K r g md)(ha:@Re):SE X Γ E (.UnaryOp op a pos) (f1 fa g) La md:=
 PE.post' (MS ho ha) λσ H Q ⟨env,G,B,β,I,o⟩=>kX pr I o
def bF {id:String}{r:@KM}{g:@Os}{x:Str}{p:Pos}(hc:dr X (.builtin id) r)(pr:C4 Γ.K (λx=>r [x]) g md)(hg:Gl X x)(hm:X.mg x=none)(hv:bootBuiltins x=some (.builtin id))(ha:@Re)(hn:x≠"__name__":=by decide)(hdb:@FM:=by decide)
  (he:starEach [a] X.env=@S4 :: starEach [] X.env:=by rfl):SE X Γ E (.Call (.Name x p) [a] [] pos) (f1 fa g) La md:=
 PE.post' (bB hc hg hm hv (ax ha aR he) hn hdb he) λσ H Q ⟨env,G,B,β,I,o⟩=>kX (r:=λx=>r [x]) pr I o
def fU {id:String}{r:@KM}{g:@Os}{x:Str}{p:Pos}(hc:dr X (.type id) r)(pr:C4 Γ.K (λx=>r [x]) g md)(hg:Gl X x)(hm:X.mg x=none)(hv:bootBuiltins x=some (.type id))(ha:@Re)(hn:x≠"__name__":=by decide)(hdb:@FM:=by decide)
  (he:starEach [a] X.env=@S4 :: starEach [] X.env:=by rfl):SE X Γ E (.Call (.Name x p) [a] [] pos) (f1 fa g) La md:=
 PE.post' (ki hc hg hm hv (ax ha aR he) hn hdb he) λσ H Q ⟨env,G,B,β,I,o⟩=>kX (r:=λx=>r [x]) pr I o
def yx {id:String}{r:@KM}{g:D->@Os}{x:Str}{p:Pos}(hc:dr X (.builtin id) r)(pr:pk Γ.K (λx y=>r [x,y]) g md)(hg:Gl X x)(hm:X.mg x=none)(hv:bootBuiltins x=some (.builtin id))(ha:@Re)(hb:SE X Γ E b fb Lb mb)(hn:x≠"__name__":=by decide)(hdb:@FM:=by decide)
  (he:starEach [a,b] X.env=@S4 :: starEach [b] X.env:=by rfl) (he2:starEach [b] X.env=(false,eval b X.env) :: starEach [] X.env:=by rfl) (hpl:(backTo pos (starEach [b] X.env)).any (·.1)=false:=by rfl):SE X Γ E (.Call (.Name x p) [a,b] [] pos) (f2 fa fb g) (La ++ Lb) md:=
 PE.post' (bB hc hg hm hv (ax ha (ax hb aR he2) he) hn hdb he hpl) λσ H Q ⟨env,G,B,β,I,o⟩=>o8 (r:=λx y=>r [x,y]) pr I o
def fA (fa fb:VF D):VF D:=λvs β=>(@TX).bnd λx β1=>match x with
 | .bool true=>fb vs β1
 | .bool false=>.ok (.bool false) β1
 |_=>.bad
def Lg (fa fb:VF D):VF D:=λvs β=>(@TX).bnd λx β1=>match x with
 | .bool false=>fb vs β1
 | .bool true=>.ok (@TU) β1
 |_=>.bad
def ji {op}(h:SE X Γ E a fa La md):SE X Γ E (.BoolOp op [a] pos) fa La md:=JQ h
theorem iy {rest:@TH}(ha:@Re)(hb:SE X Γ E (.BoolOp .And (b :: rest) pos) fb Lb .v)(hbr:∀i,i∈Lb->Γ.br i=false):SE X Γ E (.BoolOp .And (a :: b :: rest) pos) (fA fa fb) (La ++ Lb) .v:=by
 refine PE.post' (Kd ha hb) λσ H Q ⟨env,G,B,β,I,o⟩=>?_
 refine⟨env,G,B,β,I,o.bnd.imp λd1 β1 h x G1 H1 I1 s1 m1 vx=>?_⟩
 have bx:=vx.brw I.boxThere
 cases d1 with
 |bool c=>
  obtain rfl:=bx.bool
  refine⟨c,rfl,?_⟩
  cases c with
  |true=>exact tX ⟨_,G1,B,β1,I1,by rw[dh];exact h.imp λd β' k v G' H' I' s' m' vo=>k v G' H' (by rw[bO];exact I') (s1.trans s') (m1.trans m') vo⟩
  |false=>
   obtain⟨G2,I2,s2⟩:=I1.a8 Lb hbr
   exact p5 (h _ G2 H1 (by rw[bO];exact I2) (s1.trans s2) m1 (.bl false))
 |_=>exact h.elim
theorem Mz {rest:@TH}(ha:@Re)(hb:SE X Γ E (.BoolOp .Or (b :: rest) pos) fb Lb .v)(hbr:∀i,i∈Lb->Γ.br i=false):SE X Γ E (.BoolOp .Or (a :: b :: rest) pos) (Lg fa fb) (La ++ Lb) .v:=by
 refine PE.post' (Lq ha hb) λσ H Q ⟨env,G,B,β,I,o⟩=>?_
 refine⟨env,G,B,β,I,o.bnd.imp λd1 β1 h x G1 H1 I1 s1 m1 vx=>?_⟩
 have bx:=vx.brw I.boxThere
 cases d1 with
 |bool c=>
  obtain rfl:=bx.bool
  refine⟨c,rfl,?_⟩
  cases c with
  |true=>
   obtain⟨G2,I2,s2⟩:=I1.a8 Lb hbr
   exact tX (h _ G2 H1 (by rw[bO];exact I2) (s1.trans s2) m1 (.bl true))
  |false=>exact p5 ⟨_,G1,B,β1,I1,by rw[dh];exact h.imp λd β' k v G' H' I' s' m' vo=>k v G' H' (by rw[bO];exact I') (s1.trans s') (m1.trans m') vo⟩
 |_=>exact h.elim
def Cb:@Os
 | .bool c=>some (.bool (!c))
 |_=>none
theorem yS (ha:@Re):SE X Γ E (.UnaryOp .Not a pos) (f1 fa Cb) La .v:=by
 refine PE.post' (KI ha) λσ H Q ⟨env,G,B,β,I,o⟩=>?_
 refine kX (r:=λx H1 Q=>∃c,x=.bl c/\Q (.bl (!c)) H1) ?_ I o
 intro B G H x dx d Q s hB bx e k
 cases dx with
 |bool c=>
  obtain rfl:=bx.bool
  cases e
  exact⟨c,rfl,k _ G H (Ext.refl s) (.bl _)⟩
 |_=>cases e
def JE:D->Option Bool
 | .none=>some false
 | .bool b=>some b
 | .int i=>some (i != 0)
 | .str y=>if y.length<=sizeLine then some ((y.length:Int) != 0) else none
 | .list ds=>some (!ds.isEmpty)
 | .tuple ds=>some (!ds.isEmpty)
 | .dict _=>none
def lG (fa:VF D):VF Bool:=λvs β=>(@TX).bnd λx β1=>R.of (JE x) β1
def qc {K:Frag}{G:Hp}{xs:List V}{ds:List D}(r:@Td):(!ds.isEmpty)= !xs.isEmpty:=by cases r <;> rfl
theorem dv (hK:X.K=Γ.K)(ha:@Re)(he:∀whole,isTrue a X.env whole=(do let v <-whole;standAt a.pos;holding [v] (truthy v)):=by intro _;rfl):BV X Γ E a (lG fa) La:=by
 refine PT.post (Dm ha he) λσ H Q ⟨env,G,B,β,I,o⟩=>?_
 refine⟨env,G,B,β,I,o.bnd.imp λd1 β1 h x G1 H1 I1 s1 m1 vx=>?_⟩
 obtain⟨c,e,k⟩:=h.of
 have bx:=vx.brw I.boxThere
 refine⟨c,?_,k G1 H1 I1 s1 m1⟩
 rw[hK]
 cases d1 with
 |none=>obtain rfl:=bx.none;cases e;rfl
 |bool b=>obtain rfl:=bx.bool;cases e;rfl
 |int i=>obtain rfl:=bx.int;cases e;rfl
 |str y=>
  obtain rfl:=bx.str
  simp only[JE] at e
  split at e
  ·cases e;exact⟨by assumption,rfl⟩
  ·cases e
 |list ds=>obtain⟨p,xs,rfl,hq,r⟩:=bx.list I1.sub;cases e;exact .inl ⟨xs,.inl hq,qc r⟩
 |tuple ds=>obtain⟨p,xs,rfl,hq,r⟩:=bx.tuple I1.sub;cases e;exact .inr (.inl ⟨xs,hq,qc r⟩)
 |dict ds=>cases e
def cm (fa:VF D):VF Bool:=λvs β=>(@TX).bnd λx β1=>match x with
 | .bool c=>.ok c β1
 |_=>.bad
theorem bq {op:CmpOp}{r:R2}{g:D->@Os}(ho:mQ X (compareOp op) r)(pr:pk Γ.K r g .v)(ha:@Re)(hb:SE X Γ E b fb Lb mb)(hm:behindInMarks op b=false):BV X Γ E (.Compare a [op] [b] pos) (cm (f2 fa fb g)) (La ++ Lb):=by
 refine PT.post (A9 ho ha hb hm) λσ H Q ⟨env,G,B,β,I,o⟩=>?_
 refine o8 pr I (o.bnd.imp λd β' h v G' H' I' s' m' vo=>?_)
 cases d with
 |bool c=>cases vo;exact⟨c,rfl,h G' H' I' s' m'⟩
 |_=>exact h.elim
def uv (t:VF Bool):VF Bool:=λvs β=>(t vs β).bnd λc β1=>.ok (!c) β1
def yN (t u:VF Bool):VF Bool:=λvs β=>(t vs β).bnd λc β1=>if c=true then u vs β1 else .ok false β1
def nu (t u:VF Bool):VF Bool:=λvs β=>(t vs β).bnd λc β1=>if c=true then .ok true β1 else u vs β1
variable {ta tb tc:VF Bool}
def iz (ha:BV X Γ E a ta La):BV X Γ E (.UnaryOp .Not a pos) (uv ta) La:=by
 refine PT.post (Al ha) λσ H Q ⟨env,G,B,β,I,o⟩=>?_
 exact⟨env,G,B,β,I,o.bnd.imp λc β1 h=>h⟩
def uZ.t (h:uZ X Γ E e ta La):BV X Γ E e ta La:=PW.pt h
def oi (ha:BV X Γ E a ta La):uZ X Γ E (.BoolOp .And [a] pos) ta La:=BB ha
def ny (ha:BV X Γ E a ta La):uZ X Γ E (.BoolOp .Or [a] pos) ta La:=EI ha
theorem sq {rest:@TH}(ha:BV X Γ E a ta La)(hb:uZ X Γ E (.BoolOp .And (b :: rest) pos) tb Lb)(hbr:∀i,i∈Lb->Γ.br i=false):uZ X Γ E (.BoolOp .And (a :: b :: rest) pos) (yN ta tb) (La ++ Lb):=by
 refine PW.post (E1 ha hb) λσ H Q ⟨env,G,B,β,I,o⟩=>?_
 refine⟨env,G,B,β,I,o.bnd.imp λc β1 h G1 H1 I1 s1 m1=>?_⟩
 cases c with
 |true=>exact tX ⟨_,G1,B,β1,I1,by rw[dh];exact Out.imp h λd β' k G' H' I' s' m'=>k G' H' (by rw[bO];exact I') (s1.trans s') (m1.trans m')⟩
 |false=>
  obtain⟨G2,I2,s2⟩:=I1.a8 Lb hbr
  exact p5 (h G2 H1 (by rw[bO];exact I2) (s1.trans s2) m1)
theorem ql {rest:@TH}(ha:BV X Γ E a ta La)(hb:uZ X Γ E (.BoolOp .Or (b :: rest) pos) tb Lb)(hbr:∀i,i∈Lb->Γ.br i=false):uZ X Γ E (.BoolOp .Or (a :: b :: rest) pos) (nu ta tb) (La ++ Lb):=by
 refine PW.post (IK ha hb) λσ H Q ⟨env,G,B,β,I,o⟩=>?_
 refine⟨env,G,B,β,I,o.bnd.imp λc β1 h G1 H1 I1 s1 m1=>?_⟩
 cases c with
 |true=>
  obtain⟨G2,I2,s2⟩:=I1.a8 Lb hbr
  exact tX (h G2 H1 (by rw[bO];exact I2) (s1.trans s2) m1)
 |false=>exact p5 ⟨_,G1,B,β1,I1,by rw[dh];exact Out.imp h λd β' k G' H' I' s' m'=>k G' H' (by rw[bO];exact I') (s1.trans s') (m1.trans m')⟩
def M9 (t:VF Bool)(fa fb:VF D):VF D:=λvs β=>(t vs β).bnd λc β1=>if c=true then fa vs β1 else fb vs β1
theorem MW (hc:BV X Γ E c tc Lc)(ha:SE X Γ E a fa La md)(hb:SE X Γ E b fb Lb md)(hbr:∀i,i∈La ++ Lb->Γ.br i=false):SE X Γ E (.IfExp c a b pos) (M9 tc fa fb) (Lc ++ (La ++ Lb)) md:=by
 refine PE.post' (Es hc ha hb) λσ H Q ⟨env,G,B,β,I,o⟩=>?_
 refine⟨env,G,B,β,I,o.bnd.imp λc β1 h G1 H1 I1 s1 m1=>?_⟩
 obtain⟨G2,I2,s2⟩:=I1.a8 (La ++ Lb) hbr
 have idem:∀M:@IO,(∀i,i∈M->i∈La ++ Lb)->a8 M (a8 (La ++ Lb) (a8 Lc env))=a8 (La ++ Lb) (a8 Lc env):=by
  have key:∀(M:@IO) (en:En) (k:Nat),k∈M->∀d',(a8 M en)[k]?≠some (.ow d'):=by
   intro M
   induction M with
   |nil=>intro en k hm;cases hm
   |cons i M ih=>
    intro en k hm d' z
    rcases Pu.mp hm with y |y
    ·subst y
     have z1:(ip en k)[k]? =some (.ow d'):=rq (L:=M) z
     have z2:=vp z1
     unfold ip at z1
     rw[z2] at z1
     dsimp only at z1
     rw[PY (PN.mp z2).1] at z1;cases z1
    ·exact ih (ip en i) k y d' z
  intro M
  induction M with
  |nil=>intro _;rfl
  |cons i M ih=>
   intro hM
   show a8 M (ip _ i)=_
   have:ip (a8 (La ++ Lb) (a8 Lc env)) i=a8 (La ++ Lb) (a8 Lc env):=by
    have hn:=key (La ++ Lb) (a8 Lc env) i (hM i (Pz ..))
    generalize a8 (La ++ Lb) (a8 Lc env)=en at hn ⊢
    unfold ip
    split
    ·rename_i d e;exact absurd e (hn d)
    ·rfl
   rw[this]
   exact ih λj hj=>hM j (Pw _ hj)
 have go:∀{f:VF D} {M:@IO},(∀i,i∈M->i∈La ++ Lb)->Out Γ E (f @Ps β1) (λd β'=>∀v G' H',SR Γ B G' H' σ (a8 (Lc ++ (La ++ Lb)) env) β'->av G G'->i3 B H H'->VO Γ.K B H G' H' md d v->Q v H')->pT Γ E f M md σ H1 Q:=λ{f M} hM h=>by
  refine⟨_,G2,B,β1,I2,?_⟩
  rw[dh,dh]
  refine h.imp λd β' k v G' H' I' s' m' vo=>?_
  rw[idem M hM,<-bO] at I'
  exact k v G' H' I' ((s1.trans s2).trans s') (m1.trans m') (vo.back m1 I1.boxThere)
 cases c with
 |true=>exact tX (go (λi hi=>QR _ hi) h)
 |false=>exact p5 (go (λi hi=>Qi _ hi) h)
def af:@Pi:=λ_ β=>.ok [] β
def aa (fa:VF D)(fr:@Pi):@Pi:=λvs β=>(@TX).bnd λx β1=>(fr vs β1).bnd λxs β2=>.ok (x :: xs) β2
variable {fr:@Pi}{es:@TH}
def ah:SA X Γ E [] af []:=PA.post aR λσ H Q ⟨env,G,B,β,I,o⟩=>o [] G H I (av.refl _) (i3.refl _ _) .nil
def ae (ha:SE X Γ E a fa La .v)(hr:SA X Γ E es fr Lb)(hs:starEach (a :: es) X.env=@S4 :: starEach es X.env:=by rfl):SA X Γ E (a :: es) (aa fa fr) (La ++ Lb):=by
 refine PA.post (ax ha hr hs) λσ H Q ⟨env,G,B,β,I,o⟩=>?_
 refine⟨env,G,B,β,I,o.bnd.imp λd1 β1 h x G1 H1 I1 s1 m1 vx=>⟨a8 La env,G1,B,β1,I1,?_⟩⟩
 rw[dh]
 refine h.bnd.imp λds β2 k xs G2 H2 I2 s2 m2 r=>?_
 exact k (x :: xs) G2 H2 (by rw[bO];exact I2) (s1.trans s2) (m1.trans m2) (.cons (vx.mono s2) r)
def aQ (fr:@Pi):VF D:=λvs β=>(fr vs β).bnd λds β1=>if ds.length<=sizeLine then .ok (.tuple ds) β1 else .bad
def bt (fr:@Pi):VF D:=λvs β=>(fr vs β).bnd λds β1=>if ds.length<=sizeLine then .ok (.list ds) β1 else .bad
def bR {x1}(h:SA X Γ E es fr L):SE X Γ E (.Tuple es x1 pos) (aQ fr) L .v:=by
 refine PE.post' (zL h) λσ H Q ⟨env,G,B,β,I,o⟩=>?_
 refine⟨env,G,B,β,I,o.bnd.imp λds β1 k xs G1 H1 I1 s1 m1 r=>?_⟩
 by_cases hz:ds.length<=sizeLine
 ·rw[Po hz] at k
  refine⟨by rw[r.len];exact hz,λp hp=>?_⟩
  have x:=Ext.new I1.sub (o:=.tup xs) hp
  exact k _ _ _ (I1.ext x) (s1.trans x.gg) (m1.trans (x.hh.mov B)) (.tup (.inl (.inl aw)) (r.mono x.gg))
 ·rw[Px hz] at k;exact k.elim
def bI (h:SA X Γ E es fr L):SE X Γ E (.List es pos) (bt fr) L .w:=by
 refine PE.post' (pU h) λσ H Q ⟨env,G,B,β,I,o⟩=>?_
 refine⟨env,G,B,β,I,o.bnd.imp λds β1 k xs G1 H1 I1 s1 m1 r=>?_⟩
 by_cases hz:ds.length<=sizeLine
 ·rw[Po hz] at k
  refine⟨by rw[r.len];exact hz,λp hp=>?_⟩
  have x:=Ext.own I1.sub (o:=.lst xs) hp
  exact k _ _ _ (I1.ext x) s1 (m1.trans (x.hh.mov B)) ⟨p,rfl,gV m1 I1.boxThere hp,I1.sub.free hp,xs,aw,r⟩
 ·rw[Px hz] at k;exact k.elim
inductive FR where
 |ok (d:D) (fresh:Bool)
 |exc (c:Str)
 |bad
def FV (K:Frag)(H G' H':Hp)(fr:Bool)(d:D)(v:V):Prop:=if fr=true then ∃a,v=.ref a/\H a=none/\G' a=none/\Own K G' H' a d else Rp K G' v d
def FY (K:Frag)(ca:Str->Addr)(n:Nat)(F:@Fk):Sp:=λvs H Q E=>∃G ds,av G H/\ds.length=n/\cI K G vs ds/\match F ds with
 | .ok d fr=>∀v G' H',av H H'->av G G'->av G' H'->(∀b,Mx H b->G b=none->G' b=none)->FV K H G' H' fr d v->Q v H'
 | .exc c=>∀H',av H H'->E (.ref (ca c)) none H'
 | .bad=>False
structure cB (P:Program)(w:World)(K:Frag)(mg:@Fa)(base:Heap)(ca:Str->Addr)(x:Str)(ps:@KK)(k:Nat)(F:@Fk):Prop where
 ex:∃f fd,mg x=some (.ref f)/\PySem.W.keepIn K (.ref f)=true/\Binds K fd ps []/\ie P w K mg base (o5 P w) k f fd ps (FY K ca ps.length F)
 len:∀ds,F ds≠.bad->ds.length=ps.length
def ay (F:@Fk)(fr:@Pi):VF D:=λvs β=>(fr vs β).bnd λds β1=>match F ds with
 | .ok d _=>.ok d β1
 | .exc c=>.exc c
 | .bad=>.bad
def ue (F:@Fk)(fr:@Pi):VF D:=λvs β=>(fr vs β).bnd λds β1=>match F ds with
 | .ok d true=>.ok d β1
 | .ok _ false=>.bad
 | .exc c=>.exc c
 | .bad=>.bad
def SR.called {B:@J_}{G1 H1 G2 H2:Hp}{σ:St}{env:En}{β:Int}(I1:SR Γ B G1 H1 σ env β)(h:av H1 H2)(g:av G1 G2)(s:av G2 H2)(n:∀b,Mx H1 b->G1 b=none->G2 b=none):SR Γ B G2 H2 σ env β/\i3 B H1 H2:=by
 refine⟨⟨s,I1.old.trans g,λb n1 n2=>?_,λb o e np=>(I1.keep b o e np).step h,λb hb=>?_,I1.fix,λb e=>?_,I1.len,λi t e=>?_,I1.sep⟩,h.mov B⟩
 ·exact n b (I1.thereM n1) (I1.new b n1 n2)
 ·exact (I1.pin b hb).same λo e=>h b o e
 ·obtain⟨h1,h2,h3⟩:=I1.box b e
  exact⟨h b _ h1,n b (Mx.lst h1) h2,h3⟩
 ·have q:=I1.slot i t e
  cases t with
  |no=>trivial
  |fz d=>obtain⟨v,h1,h2⟩:=q;exact⟨v,h1,h2.mono g⟩
  |ow d=>
   obtain⟨p,h1,h2,h3,h4,h5⟩:=q
   exact⟨p,h1,h2,n p h5.mx h3,h4,h5.mono g λo q=>h p o q⟩
  |bx=>exact q
  |br d=>obtain⟨b1,p,h1,h4,hp,h5⟩:=q;exact⟨b1,p,h1,h4,hp,h5.mono g λo q=>h p o q⟩
def SR.kp {B:@J_}{G H H':Hp}{σ:St}{env:En}{β:Int}(I:@G_)(h:av H H'):Kp Γ H':=λb o e n=>(I.keep b o e n).step h
theorem uz {F:@Fk}{ps:@KK}{Q:VK}{B:@J_}{G H:Hp}{σ:St}{env:En}{β:Int}(I:@G_)(hK:X.K=Γ.K){wv:Bool}
  (h:Out Γ E (if wv=true then ue F fr @Ps β else ay F fr @Ps β) @Ti) (hl:∀ds,F ds≠.bad->ds.length=ps.length) :
  aT Γ E fr L σ H λvs H1=>FY X.K Γ.ca ps.length F vs H1 Q E:=by
 refine⟨env,G,B,β,I,?_⟩
 have h:Out Γ E (fr @Ps β) λds β1=>Out Γ E (match F ds with
   | .ok d true=>.ok d β1
   | .ok d false=>if wv=true then .bad else .ok d β1
   | .exc c=>.exc c
   | .bad=>.bad) @Ti:=by
  cases wv with
  |true=>
   simp only[QC] at h ⊢
   refine h.bnd.imp λds β1 h=>?_
   cases q:F ds with
   |ok d b=>rw[q] at h;cases b <;> exact h
   |exc c=>rw[q] at h;exact h
   |bad=>rw[q] at h;exact h
  |false=>
   simp only[P0,Qq] at h ⊢
   refine h.bnd.imp λds β1 h=>?_
   cases q:F ds with
   |ok d b=>rw[q] at h;cases b <;> exact h
   |exc c=>rw[q] at h;exact h
   |bad=>rw[q] at h;exact h
 refine h.imp λds β1 k vs G1 H1 I1 s1 m1 r=>?_
 refine⟨G1,ds,I1.sub,?_,by rw[hK];exact r,?_⟩
 ·exact hl ds λz=>by rw[z] at k;exact k
 cases q:F ds with
 |bad=>rw[q] at k;exact k
 |exc c=>rw[q] at k;exact λH' s=>k H' (I1.kp s)
 |ok d b=>
  rw[q] at k
  intro v G' H' hh hg hs hn fv
  obtain⟨I2,m2⟩:=I1.called hh hg hs hn
  cases b with
  |true=>
   obtain⟨p,rfl,p1,p2,p3⟩:∃a,v=.ref a/\H1 a=none/\G' a=none/\Own X.K G' H' a d:=fv
   rw[hK] at p3
   have hp:=gV m1 I1.boxThere p1
   cases wv with
   |true=>exact k _ G' H' I2 (s1.trans hg) (m1.trans m2) ⟨p,rfl,hp,p2,p3⟩
   |false=>
    obtain⟨q1,q2,q3,q4⟩:=I1.fresh p1
    obtain⟨G3,I3,s3,r3⟩:=I2.letIn q1 p2 q3 q4 p3
    exact k _ G3 H' I3 ((s1.trans hg).trans s3) (m1.trans m2) r3
  |false=>
   cases wv with
   |true=>exact k.elim
   |false=>
    have fv:Rp X.K G' v d:=fv
    rw[hK] at fv
    exact k _ G' H' I2 (s1.trans hg) (m1.trans m2) fv
def aJ {x:Str}{ps:@KK}{k:Nat}{F:@Fk}{p:Pos}(hf:cB X.prog X.w X.K X.mg X.base Γ.ca x ps k F)(hr:eM k X.A)(hx:Passes (o5 X.prog X.w) X E)(hK:X.K=Γ.K)(hg:Gl X x)(ha:SA X Γ E (a :: es) fr L)(hdb:@FM:=by decide)
  (he:starEach (a :: es) X.env=@S4 :: starEach es X.env:=by rfl) (hpl:(backTo pos (starEach es X.env)).any (·.1)=false:=by rfl):SE X Γ E (.Call (.Name x p) (a :: es) [] pos) (ay F fr) L .v:=by
 obtain⟨f,fd,hm,hk,hb,hF⟩:=hf.ex
 refine PE.post' (qZ (dvs:=[]) hF hr hg hm hk hb .nil hx ha hdb he hpl) λσ H Q ⟨env,G,B,β,I,o⟩=>?_
 show aT Γ E fr L σ H λvs H1=>FY X.K Γ.ca ps.length F (vs ++ []) H1 Q E
 have:=uz (Q:=Q) (wv:=false) (ps:=ps) I hK o hf.len
 simpa using this
def xZ {x:Str}{ps:@KK}{k:Nat}{F:@Fk}{p:Pos}(hf:cB X.prog X.w X.K X.mg X.base Γ.ca x ps k F)(hr:eM k X.A)(hx:Passes (o5 X.prog X.w) X E)(hK:X.K=Γ.K)(hg:Gl X x)(ha:SA X Γ E (a :: es) fr L)(hdb:@FM:=by decide)
  (he:starEach (a :: es) X.env=@S4 :: starEach es X.env:=by rfl) (hpl:(backTo pos (starEach es X.env)).any (·.1)=false:=by rfl):SE X Γ E (.Call (.Name x p) (a :: es) [] pos) (ue F fr) L .w:=by
 obtain⟨f,fd,hm,hk,hb,hF⟩:=hf.ex
 refine PE.post' (qZ (dvs:=[]) hF hr hg hm hk hb .nil hx ha hdb he hpl) λσ H Q ⟨env,G,B,β,I,o⟩=>?_
 show aT Γ E fr L σ H λvs H1=>FY X.K Γ.ca ps.length F (vs ++ []) H1 Q E
 have:=uz (Q:=Q) (wv:=true) (ps:=ps) I hK o hf.len
 simpa using this
end
inductive SO where
 |nx (env:En) (β:Int)
 |bk (env:En) (β:Int)
 |ct (env:En) (β:Int)
 |rt (d:D) (fr:Bool) (β:Int)
 |exc (c:Str)
 |bad
abbrev SF:=En->Int->SO
def RV (Γ:Fx)(G' H':Hp)(fr:Bool)(d:D)(v:V):Prop:=if fr=true then ∃a,v=.ref a/\Γ.H0 a=none/\G' a=none/\Own Γ.K G' H' a d else Rp Γ.K G' v d
def tf (Γ:Fx)(E:XK)(G:Hp)(N:Ends):SO->Prop
 | .nx env β=>∀B G' H' σ,SR Γ B G' H' σ env β->av G G'->N.nx σ H'
 | .bk env β=>∀B G' H' σ,SR Γ B G' H' σ env β->av G G'->N.bk σ H'
 | .ct env β=>∀B G' H' σ,SR Γ B G' H' σ env β->av G G'->N.ct σ H'
 | .rt d fr β=>∀B G' H' σ env v,SR Γ B G' H' σ env β->av G G'->RV Γ G' H' fr d v->N.rt v H'
 | .exc c=>∀H',Kp Γ H'->E (.ref (Γ.ca c)) none H'
 | .bad=>False
def sT (Γ:Fx)(E:XK)(m:SF):TS:=λN σ H=>∃env G B β,@G_/\tf Γ E G N (m env β)
def SS (X:Cx)(Γ:Fx)(E:XK)(st:Stmt)(m:SF):Prop:=PS X st (sT Γ E m)
def C8 (X:Cx)(Γ:Fx)(E:XK)(st:List Stmt)(m:SF):Prop:=qB X st (sT Γ E m)
def qB.post {X:Cx}{st:List Stmt}{t u:TS}(h:qB X st t)(m:∀D σ H,u D σ H->t D σ H):qB X st u:=λpins s σ H D I q=>h pins s σ H D I (m D σ H q)
def aK (m m':SF):SF:=λenv β=>match m env β with
 | .nx env' β'=>m' env' β'
 |r=>r
def nR:SF:=λenv β=>.nx env β
section
variable {X:Cx}{Γ:Fx}{E:XK}{e a b c:Expr}{f fa fb:VF D}{L La Lb:@IO}{md ma mb:Md}{pos:Pos}{st:Stmt}{sts:List Stmt}{m m':SF}{ta:VF Bool}
theorem tf.weak {G G1:Hp}{N:Ends}{r:SO}(h:tf Γ E G N r)(s:av G G1):tf Γ E G1 N r:=by
 cases r with
 |nx env β=>exact λB G' H' σ I s'=>h B G' H' σ I (s.trans s')
 |bk env β=>exact λB G' H' σ I s'=>h B G' H' σ I (s.trans s')
 |ct env β=>exact λB G' H' σ I s'=>h B G' H' σ I (s.trans s')
 |rt d fr β=>exact λB G' H' σ env v I s'=>h B G' H' σ env v I (s.trans s')
 |exc c=>exact h
 |bad=>exact h
def cN:C8 X Γ E [] nR:=qB.post qO λN σ H ⟨env,G,B,β,I,o⟩=>o B G H σ I (av.refl _)
theorem ak (h:SS X Γ E st m)(h':C8 X Γ E sts m'):C8 X Γ E (st :: sts) (aK m m'):=by
 refine qB.post (cL h h') λN σ H ⟨env,G,B,β,I,o⟩=>?_
 refine⟨env,G,B,β,I,?_⟩
 unfold aK at o
 cases q:m env β with
 |nx env' β'=>rw[q] at o;exact λB' G' H' σ' I' s'=>⟨env',G',B',β',I',o.weak s'⟩
 |bk env' β'=>rw[q] at o;exact o
 |ct env' β'=>rw[q] at o;exact o
 |rt d fr β'=>rw[q] at o;exact o
 |exc c=>rw[q] at o;exact o
 |bad=>rw[q] at o;exact o
def aB (h:SS X Γ E st m):C8 X Γ E [st] m:=fg h
def toS {α:Type}(r:R α)(k:α->Int->SO):SO:=match r with
 | .ok x β=>k x β
 | .exc c=>.exc c
 | .bad=>.bad
theorem cH {α:Type}{G:Hp}{N:Ends}{r:R α}{k:α->Int->SO}{P:α->Int->Prop}(h:tf Γ E G N (toS r k))(i:∀x β,tf Γ E G N (k x β)->P x β):Out Γ E r P:=by
 cases r with
 |ok x β=>exact i x β h
 |exc c=>exact h
 |bad=>exact h
def SR.set' {B:@J_}{G H:Hp}{σ:St}{env:En}{β:Int}(I:@G_)(i:Nat){v:V}{d:D}(h:Rp Γ.K G v d):SR Γ B G H (σ.set i (some v)) (env.set i (.fz d)) β:=by
 by_cases hi:i < env.length
 ·exact I.set hi h
 ·have h1:env.set i (.fz d)=env:=Rq (@AT)
  have h2:σ.set i (some v)=σ:=Rq (by rw[I.len];omega)
  rw[h1,h2];exact I
def SR.setOw' {B:@J_}{G H:Hp}{σ:St}{env:En}{β:Int}(I:@G_)(i:Nat){a:Addr}{d:D}(h0:Γ.H0 a=none)(hg:G a=none)(hb:B≠some a)(h:Own Γ.K G H a d)(hn:∀(j:Nat) (d':D),env[j]? =some (.ow d')->σ[j]?≠some (some @S2)):SR Γ B G H (σ.set i (some @S2)) (env.set i (.ow d)) β:=by
 by_cases hi:i < env.length
 ·exact I.setOw hi h0 hg hb h λj d' e _=>hn j d' e
 ·have h1:env.set i (.ow d)=env:=Rq (@AT)
  have h2:σ.set i (some @S2)=σ:=Rq (by rw[I.len];omega)
  rw[h1,h2];exact I
def a9 (i:Nat)(L:@IO)(f:VF D):SF:=λenv β=>toS (f @Ps β) λd β'=>.nx ((a8 L env).set i (.fz d)) β'
def aU {i:Nat}{x:Str}{pos':Pos}(he:SE X Γ E e f L .v)(hN:X.N.Nodup)(hi:X.N[i]? =some x:=by rfl)(hx:Loc X.env.scope x:=by first |exact @TM |exact Or.inr rfl)(hs:swapsWith e (some (.Name x pos')) pos.line X.env=pure false:=by rfl)(hf:@LT:=by first |exact .inl rfl |exact .inr rfl |assumption) :
  SS X Γ E (.Assign [.Name x pos'] e pos) (a9 i L f):=by
 refine PS.post (kZ hN hi hx he hs hf) λN σ H ⟨env,G,B,β,I,o⟩=>?_
 refine⟨env,G,B,β,I,cH o λd β' k v G' H' I' s' m' vo=>?_⟩
 exact k B G' H' _ (I'.set' i vo) s'
def l4 (i:Nat)(L:@IO)(f:VF D):SF:=λenv β=>toS (f @Ps β) λd β'=>.nx ((a8 L env).set i (.ow d)) β'
def iM {i:Nat}{x:Str}{pos':Pos}(he:SE X Γ E e f L .w)(hN:X.N.Nodup)(hi:X.N[i]? =some x:=by rfl)(hx:Loc X.env.scope x:=by first |exact @TM |exact Or.inr rfl)(hs:swapsWith e (some (.Name x pos')) pos.line X.env=pure false:=by rfl)(hf:@LT:=by first |exact .inl rfl |exact .inr rfl |assumption) :
  SS X Γ E (.Assign [.Name x pos'] e pos) (l4 i L f):=by
 refine PS.post (kZ hN hi hx he hs hf) λN σ H ⟨env,G,B,β,I,o⟩=>?_
 refine⟨env,G,B,β,I,cH o λd β' k v G' H' I' s' m' vo=>?_⟩
 obtain⟨p,rfl,h1,h2,h3⟩:=vo
 obtain⟨q1,q2,q3,q4⟩:=I.fresh h1
 exact k B G' H' _ (I'.setOw' i q1 h2 q3 h3 λj d' z=>q4 j d' (rq z)) s'
def mD (L:@IO)(f:VF D):SF:=λenv β=>toS (f @Ps β) λ_ β'=>.nx @SX β'
def o7 (he:SE X Γ E e f L md)(hs:swapsWith e none pos.line X.env=pure false:=by rfl):SS X Γ E (.Expr e pos) (mD L f):=by
 refine PS.post (qI he hs) λN σ H ⟨env,G,B,β,I,o⟩=>?_
 exact⟨env,G,B,β,I,cH o λd β' k v G' H' I' s' m' vo=>k B G' H' _ I' s'⟩
def bG (f:VF D):SF:=λenv β=>toS (f @Ps β) λd β'=>.rt d false β'
def aY (he:SE X Γ E e f L .v):SS X Γ E (.Return (some e) pos) (bG f):=by
 refine PS.post (jY he) λN σ H ⟨env,G,B,β,I,o⟩=>?_
 exact⟨env,G,B,β,I,cH o λd β' k v G' H' I' s' m' vo=>k B G' H' σ _ v I' s' vo⟩
def ml (f:VF D):SF:=λenv β=>toS (f @Ps β) λd β'=>.rt d true β'
def kK (he:SE X Γ E e f L .w):SS X Γ E (.Return (some e) pos) (ml f):=by
 refine PS.post (jY he) λN σ H ⟨env,G,B,β,I,o⟩=>?_
 refine⟨env,G,B,β,I,cH o λd β' k v G' H' I' s' m' vo=>?_⟩
 obtain⟨p,rfl,h1,h2,h3⟩:=vo
 obtain⟨q1,_⟩:=I.fresh h1
 exact k B G' H' σ _ _ I' s' ⟨p,rfl,q1,h2,h3⟩
def uN (i:Nat):SF:=λenv β=>match env[i]? with
 |some (.fz d)=>.rt d false β
 |some (.ow d)=>.rt d true β
 |_=>.bad
theorem qM (i:Nat){x:Str}{p:Pos}(hN:X.N[i]? =some x:=by rfl)(hv:yM X.env.scope x:=by first |exact @TM |exact Or.inr (@TM) |exact Or.inr (Or.inr rfl))(hd:@FM:=by decide)
  (hcd:@TF:=by decide):SS X Γ E (.Return (some (.Name x p)) pos) (uN i):=by
 refine PS.post (jY (jn hN hv hd hcd)) λN σ H ⟨env,G,B,β,I,o⟩=>?_
 unfold uN at o
 cases q:env[i]? with
 |none=>rw[q] at o;exact o.elim
 |some s=>
  rw[q] at o
  cases s with
  |no=>exact o.elim
  |bx=>exact o.elim
  |br d=>exact o.elim
  |fz d=>
   obtain⟨v,h1,h2⟩:=I.slot i _ q
   exact⟨v,h1,o B G H σ env v I (av.refl _) h2⟩
  |ow d=>
   obtain⟨p,h1,h2,h3,h4,h5⟩:=I.slot i _ q
   exact⟨_,h1,o B G H σ env _ I (av.refl _) ⟨p,rfl,h2,h3,h5⟩⟩
def kr (L:@IO)(t:VF Bool)(m m':SF):SF:=λenv β=>toS (t @Ps β) λc β'=>if c=true then m @SX β' else m' @SX β'
theorem eQ {x y:List Stmt}(hc:BV X Γ E c ta L)(ha:C8 X Γ E x m)(hb:C8 X Γ E y m'):SS X Γ E (.If c x y pos) (kr L ta m m'):=by
 refine PS.post (Bb hc ha hb) λN σ H ⟨env,G,B,β,I,o⟩=>?_
 refine⟨env,G,B,β,I,cH o λd β' k G' H' I' s' m'=>?_⟩
 cases d with
 |true=>exact tX ⟨_,G',B,β',I',tf.weak k s'⟩
 |false=>exact p5 ⟨_,G',B,β',I',tf.weak k s'⟩
def i8 (L:@IO)(t:VF Bool)(m:SF):Nat->SF
 | 0=>λ_ _=>.bad
 |n + 1=>λenv β=>toS (t @Ps β) λc β'=>if c=true then (match m @SX β' with
   | .nx env2 β2=>i8 L t m n env2 β2
   | .ct env2 β2=>i8 L t m n env2 β2
   | .bk env2 β2=>.nx env2 β2
   |r=>r) else .nx @SX β'
theorem oA {x:List Stmt}(n:Nat)(hp:PassesOwn @D_ X.A X.env X.xe)(hc:BV X Γ E c ta L)(hb:C8 X Γ E x m):SS X Γ E (.While c x [] pos) (i8 L ta m n):=by
 refine PS.post (Dy hp hc hb) λN σ H ⟨env,G,B,β,I,o⟩=>?_
 refine⟨λk σ H=>∃env G1 B β,SR Γ B G1 H σ env β/\av G G1/\tf Γ E G1 N (i8 L ta m k env β),⟨n,env,G,B,β,I,av.refl _,o⟩,?_⟩
 rintro k σ H ⟨env,G1,B,β,I,sG,o⟩
 cases k with
 |zero=>exact o.elim
 |succ k=>
  refine⟨env,G1,B,β,I,cH o λd β' q G' H' I' s' m'=>?_⟩
  cases d with
  |false=>exact p5 (q B G' H' σ I' s')
  |true=>
   refine tX ⟨λσ H=>∃env G1 B β,SR Γ B G1 H σ env β/\av G G1/\tf Γ E G1 N (i8 L ta m k env β),λσ' H' h=>⟨k,Nat.lt_succ_self k,h⟩,a8 L env,G',B,β',I',?_⟩
   rw[Po rfl] at q
   cases r:m @SX β' with
   |nx env2 β2=>rw[r] at q;exact λB2 G2 H2 σ2 I2 s2=>⟨env2,G2,B2,β2,I2,(sG.trans s').trans s2,tf.weak q (s'.trans s2)⟩
   |ct env2 β2=>rw[r] at q;exact λB2 G2 H2 σ2 I2 s2=>⟨env2,G2,B2,β2,I2,(sG.trans s').trans s2,tf.weak q (s'.trans s2)⟩
   |bk env2 β2=>rw[r] at q;exact λB2 G2 H2 σ2 I2 s2=>q B2 G2 H2 σ2 I2 (s'.trans s2)
   |rt d fr β2=>rw[r] at q;exact tf.weak q s'
   |exc c=>rw[r] at q;exact q
   |bad=>rw[r] at q;exact q
def Walk (K:Frag)(B:@J_)(G H1:Hp)(ds:List D)(J:It):Prop:=∀Gc H (i:Nat),av G Gc->av Gc H->i3 B H1 H->
 (i < ds.length->J.go i H/\∀x H',J.yld i H x H'->∃G' d,Ext Gc H G' H'/\ds[i]? =some d/\Rp K G' x d)/\(ds.length<=i->J.stop i H)
def Walk.any {K:Frag}{B:@J_}{G H1:Hp}{ds:List D}{J:It}(h:Walk K B G (λ_=>none) ds J):Walk K B G H1 ds J:=λGc H i s1 s2 _=>h Gc H i s1 s2 ⟨(λb o e=>by cases e),λb o u e=>by cases e⟩
def iT (Γ:Fx)(E:XK)(f:@Pi)(L:@IO)(md:Md):TI:=λσ H Rr=>∃env G B β,@G_/\
 Out Γ E (f @Ps β) λds β'=>∀J G' H',SR Γ B G' H' σ @SX β'->av G G'->i3 B H H'->Walk Γ.K B G' (match md with | .b=>H' |_=>λ_=>none) ds J->Rr J H'
def SI (X:Cx)(Γ:Fx)(E:XK)(tg e:Expr)(f:@Pi)(L:@IO)(md:Md):Prop:=PI X tg e (iT Γ E f L md)
def PI.post {X:Cx}{tg e:Expr}{t u:TI}(h:PI X tg e t)(m:∀σ H Q,u σ H Q->t σ H Q):PI X tg e u:=λpins s σ H Q I q=>h pins s σ H Q I (m σ H Q q)
variable {tg:Expr}
def nJ:D->Option (List D)
 | .list ds=>some ds
 | .tuple ds=>some ds
 |_=>none
def bC (fa:VF D):@Pi:=λvs β=>(@TX).bnd λx β1=>R.of (nJ x) β1
end
def O8 (K:Frag)(tl:TE):TI:=λσ H R=>tl σ H λx H1=>∃a xs,x=.ref a/\((gk K H1 a xs/\R (Cz K a) H1)\/(gj K H1 a xs/\R (IH K a) H1))
section
variable {X:Cx}{tg l:Expr}{tl:TE}
def IM (hl:PE X l tl):PI X tg l (O8 X.K tl):=by
 intro pins s σ H R I h
 refine cG (hl pins s σ H _ I h) λv s1 ⟨x,H1,I1,r1,q1⟩=>?_
 obtain⟨a,xs,e,q⟩:=q1
 subst e
 cases r1
 rcases q with⟨hq,q⟩ | ⟨hq,q⟩
 ·obtain⟨its,rv,p,hz⟩:=I1.list hq
  refine RG p.isList ?_
  refine⟨s1.heap.objs.size,[s1.heap.objs.size],_,_,H1,rfl,I1.kept (t':=s1.toks) λb o e=>Pq _ e,pG a _,⟨_,PX _ rfl,rfl,rfl⟩,λb hb=>?_,q⟩
  have e:b=s1.heap.objs.size:=by simpa using hb
  subst e
  exact I1.fpOk (Pt _) (I1.hok.fresh (Pt _))
 ·obtain⟨its,rv,p,hz⟩:=I1.tuple hq
  refine wpAny_pyIter_tuple (show s1.heap.IsTuple a its.toArray from p) ?_
  refine⟨s1.heap.objs.size,[s1.heap.objs.size],_,_,H1,rfl,I1.kept (t':=s1.toks) λb o e=>Pq _ e,sg a _,⟨_,PX _ rfl,rfl,rfl⟩,λb hb=>?_,q⟩
  have e:b=s1.heap.objs.size:=by simpa using hb
  subst e
  exact I1.fpOk (Pt _) (I1.hok.fresh (Pt _))
end
section
variable {X:Cx}{Γ:Fx}{E:XK}{e a b c:Expr}{f fa fb:VF D}{L La Lb:@IO}{md ma mb:Md}{pos:Pos}{st:Stmt}{sts:List Stmt}{m m':SF}{ta:VF Bool}{tg:Expr}
def pS {K:Frag}{B:@J_}{G H1:Hp}{p:Addr}{xs:List V}{ds:List D}(h:∀Gc H,av G Gc->av Gc H->i3 B H1 H->gk K H p xs)(r:@Td):Walk K B G H1 ds (Cz K p):=λGc H i s1 s2 m=>by
 have hq:=h Gc H s1 s2 m
 refine⟨λhi=>⟨?_,λx H' y=>?_⟩,λhi=>⟨xs,hq,by rw[r.len];exact hi⟩⟩
 ·have hi':i < xs.length:=by rw[r.len];exact hi
  exact⟨xs,xs[i],hq,by simp[hi']⟩
 ·obtain⟨rfl,y⟩:=y
  obtain⟨d,e,q⟩:=r.at' (y xs hq)
  exact⟨Gc,d,Ext.refl s2,e,q.mono s1⟩
def x6 {K:Frag}{B:@J_}{G H1:Hp}{p:Addr}{xs:List V}{ds:List D}(h:∀Gc H,av G Gc->av Gc H->i3 B H1 H->gj K H p xs)(r:@Td):Walk K B G H1 ds (IH K p):=λGc H i s1 s2 m=>by
 have hq:=h Gc H s1 s2 m
 refine⟨λhi=>⟨?_,λx H' y=>?_⟩,λhi=>⟨xs,hq,by rw[r.len];exact hi⟩⟩
 ·have hi':i < xs.length:=by rw[r.len];exact hi
  exact⟨xs,xs[i],hq,by simp[hi']⟩
 ·obtain⟨rfl,y⟩:=y
  obtain⟨d,e,q⟩:=r.at' (y xs hq)
  exact⟨Gc,d,Ext.refl s2,e,q.mono s1⟩
theorem EX (hK:X.K=Γ.K)(ha:SE X Γ E a fa La .v):SI X Γ E tg a (bC fa) La .v:=by
 refine PI.post (IM ha) λσ H Q ⟨env,G,B,β,I,o⟩=>?_
 refine⟨env,G,B,β,I,o.bnd.imp λd1 β1 h x G1 H1 I1 s1 m1 vx=>?_⟩
 obtain⟨ds,e,k⟩:=h.of
 rw[hK]
 have vx:Rp Γ.K G1 x d1:=vx
 cases d1 with
 |list l=>
  cases e
  cases vx with
  | @lst p xs _ hq r=>exact⟨p,xs,rfl,.inl ⟨.inl (Rd.mono (.inl hq) I1.sub),k _ G1 H1 I1 s1 m1 (pS (λGc H t1 t2 _=>.inl (Rd.mono (.inl hq) (t1.trans t2))) r)⟩⟩
 |tuple l=>
  cases e
  cases vx with
  | @tup p xs _ hq r=>exact⟨p,xs,rfl,.inr ⟨hq.grow I1.sub.grow,k _ G1 H1 I1 s1 m1 (x6 (λGc H t1 t2 _=>hq.grow (t1.trans t2).grow) r)⟩⟩
 |_=>cases e
theorem mZ (hK:X.K=Γ.K)(ha:@Re):SI X Γ E tg a (bC fa) La .b:=by
 refine PI.post (IM ha) λσ H Q ⟨env,G,B,β,I,o⟩=>?_
 refine⟨env,G,B,β,I,o.bnd.imp λd1 β1 h x G1 H1 I1 s1 m1 vx=>?_⟩
 obtain⟨ds,e,k⟩:=h.of
 rw[hK]
 have vx:=vx.brw I.boxThere
 cases d1 with
 |list l=>
  cases e
  rcases vx with vx | ⟨p,rfl,hb,xs,q,r⟩
  ·cases vx with
   | @lst p xs _ hq r=>exact⟨p,xs,rfl,.inl ⟨.inl (Rd.mono (.inl hq) I1.sub),k _ G1 H1 I1 s1 m1 (pS (λGc H t1 t2 _=>.inl (Rd.mono (.inl hq) (t1.trans t2))) r)⟩⟩
  ·exact⟨p,xs,rfl,.inl ⟨.inl (.inl q),k _ G1 H1 I1 s1 m1 (pS (λGc H t1 t2 mv=>.inl (.inl (mv.1 p _ q hb))) r)⟩⟩
 |tuple l=>
  cases e
  rcases vx with vx | ⟨p,rfl,hb,q⟩
  ·cases vx with
   | @tup p xs _ hq r=>exact⟨p,xs,rfl,.inr ⟨hq.grow I1.sub.grow,k _ G1 H1 I1 s1 m1 (x6 (λGc H t1 t2 _=>hq.grow (t1.trans t2).grow) r)⟩⟩
  ·exact q.elim
 |_=>cases e
def cJ (lo:Int)(n:Nat):List D:=(@TR).map λ(k:Nat)=>int (lo + k)
def gB (lo:Int)(n:Nat):(cJ lo n).length=n:=by unfold cJ;simp
def xo {K:Frag}{B:@J_}{G H1:Hp}(lo:Int)(n:Nat):Walk K B G H1 (cJ lo n) (Co lo n):=λGc H i s1 s2 m=>by
 rw[gB]
 refine⟨λhi=>⟨hi,λx H' y=>?_⟩,λhi=>hi⟩
 obtain⟨rfl,rfl⟩:=y
 refine⟨Gc,.int (lo + i),Ext.refl s2,?_,.int _⟩
 unfold cJ
 rw[PK,RX hi];rfl
def Dd (j:Int):Bool:=Nat.ble j.natAbs 1000000
def pK {j:Int}(h:Dd j=true): -(2 ^ 62)<=j/\j < 2 ^ 62:=by
 have:=Nat.le_of_ble_eq_true h
 omega
def pC {j:Int}(h: -1000<=j)(h2:j<=10000):Dd j=true:=Nat.ble_eq_true_of_le (@AT)
def bS (fa:VF D):@Pi:=λvs β=>(@TX).bnd λx β1=>match x with
 | .int j=>if Dd j=true then .ok (cJ 0 j.toNat) β1 else .bad
 |_=>.bad
def ux (fa fb:VF D):@Pi:=λvs β=>(@TX).bnd λx β1=>(fb vs β1).bnd λy β2=>match x,y with
 | .int i,.int j=>if (Dd i && Dd j)=true then .ok (cJ i (j - i).toNat) β2 else .bad
 |_,_=>.bad
theorem jK {p:Pos}(hg:Gl X "range")(hm:X.mg "range"=none)(ha:@Re)(hs:starEach [a] X.env= [@S4]:=by rfl)(hs':starEach [a] X.env=@S4 :: starEach [] X.env:=by rfl):SI X Γ E tg (.Call (.Name "range" p) [a] [] pos) (bS fa) La md:=by
 refine PI.post (mX hg hm (ax ha aR hs') hs) λσ H Q ⟨env,G,B,β,I,o⟩=>?_
 refine⟨env,G,B,β,I,o.bnd.imp λd1 β1 h x G1 H1 I1 s1 m1 vx=>?_⟩
 have vx:=vx.brw I.boxThere
 cases d1 with
 |int j=>
  obtain rfl:=vx.int
  dsimp only at h
  by_cases hj:Dd j=true
  ·rw[Po hj] at h
   exact⟨j,rfl,(pK hj).1,(pK hj).2,h _ G1 H1 I1 s1 m1 (xo 0 _)⟩
  ·rw[Px hj] at h;exact h.elim
 |_=>exact h.elim
def Mf {p:Pos}(hg:Gl X "range")(hm:X.mg "range"=none)(ha:@Re)(hb:SE X Γ E b fb Lb mb)(hs:starEach [a,b] X.env= [@S4,(false,eval b X.env)]:=by rfl)(hs2:starEach [b] X.env= [(false,eval b X.env)]:=by rfl)(hs':starEach [a,b] X.env=@S4 :: starEach [b] X.env:=by rfl)(hs3:starEach [b] X.env=(false,eval b X.env) :: starEach [] X.env:=by rfl):SI X Γ E tg (.Call (.Name "range" p) [a,b] [] pos) (ux fa fb) (La ++ Lb) md:=by
 refine PI.post (Cg hg hm (ax ha (ax hb aR hs3) hs') hs hs2) λσ H Q ⟨env,G,B,β,I,o⟩=>?_
 refine two (W:=λx y H2=>∃i j:Int,[x,y]= [.int i,.int j]/\(-(2 ^ 62)<=i/\i < 2 ^ 62/\ -(2 ^ 62)<=j/\j < 2 ^ 62)/\Q (Co i (j - i).toNat) H2) I (o.bnd.imp λd1 β1 h=>h.bnd.imp λd2 β2 h x y G2 H2 I2 s2 m2 bx by'=>?_)
 obtain⟨i,j,rfl,rfl⟩:∃i j,d1=.int i/\d2=.int j:=by
  cases d1 <;> cases d2 <;> first |exact h.elim |exact⟨_,_,rfl,rfl⟩
 obtain rfl:=bx.int
 obtain rfl:=by'.int
 dsimp only at h
 by_cases hj:(Dd i && Dd j)=true
 ·rw[Po hj] at h
  rw[PM] at hj
  exact⟨i,j,rfl,⟨(pK hj.1).1,(pK hj.1).2,(pK hj.2).1,(pK hj.2).2⟩,h _ G2 H2 I2 s2 m2 (xo i _)⟩
 ·rw[Px hj] at h;exact h.elim
inductive Tg where
 |nm (i:Nat)
 |two (i j:Nat)
def pairD:D->Option (D×D)
 | .tuple [x,y]=>some (x,y)
 |_=>none
def EB {d x y:D}(h:pairD d=some (x,y)):d=.tuple [x,y]:=by
 unfold pairD at h
 split at h
 ·cases h;rfl
 ·cases h
def hZ:Tg->D->En->Option En
 | .nm i,d,env=>some (env.set i (.fz d))
 | .two i j,d,env=>(pairD d).map λp=>(env.set i (.fz p.1)).set j (.fz p.2)
def nr:Tg->D->List Nv->Option (List Nv)
 | .nm i,d,vs=>some (vs.set i (.da d))
 | .two i j,d,vs=>(pairD d).map λp=>(vs.set i (.da p.1)).set j (.da p.2)
def zK (env:En)(i:Nat)(s:Sl):vl (env.set i s)=(vl env).set i s.val:=by unfold vl;rw[List.map_set]
theorem HY (t:Tg)(d:D)(env:En):(hZ t d env).map vl=nr t d @Ps:=by
 cases t with
 |nm i=>show some (vl _)=some _;rw[zK];rfl
 |two i j=>
  show ((pairD d).map _).map vl=(pairD d).map _
  cases pairD d with
  |none=>rfl
  |some p=>show some (vl _)=some _;rw[zK,zK];rfl
def gT (Γ:Fx)(t:Tg):TG:=λv σ H Q=>∃env G B β d env',@G_/\Rp Γ.K G v d/\hZ t d env=some env'/\∀σ',SR Γ B G H σ' env' β->Q σ' H
def SG (X:Cx)(Γ:Fx)(tg:Expr)(t:Tg):Prop:=PG X tg (gT Γ t)
def PG.post {X:Cx}{tg:Expr}{t u:TG}(h:PG X tg t)(m:∀v σ H Q,u v σ H Q->t v σ H Q):PG X tg u:=λpins s σ H v uu Q I r q=>h pins s σ H v uu Q I r (m v σ H Q q)
def b9 {i:Nat}{x:Str}(hN:X.N.Nodup)(hi:X.N[i]? =some x:=by rfl)(hx:Loc X.env.scope x:=by first |exact @TM |exact Or.inr rfl)(hf:@LT:=by first |exact .inl rfl |exact .inr rfl |assumption):SG X Γ (.Name x pos) (.nm i):=by
 refine PG.post (di hN hi hx hf) λv σ H Q ⟨env,G,B,β,d,env',I,r,e,k⟩=>?_
 cases e
 exact k _ (I.set' i r)
theorem nO {i j:Nat}{x y:Str}{px py:Pos}{n:Nat}(hN:X.N.Nodup)(hc:X.calm=true:=by rfl)(hK:X.K=Γ.K:=by rfl)(hi:X.N[i]? =some x:=by rfl)(hj:X.N[j]? =some y:=by rfl)(hx:Loc X.env.scope x:=by first |exact @TM |exact Or.inr rfl)(hy:Loc X.env.scope y:=by first |exact @TM |exact Or.inr rfl)
  (hf:@LT:=by first |exact .inl rfl |exact .inr rfl |assumption) (hf':X.fn y=true\/X.env.scope.names.lookup y=some .local:=by first |exact .inl rfl |exact .inr rfl |assumption):SG X Γ (.Tuple [.Name x px,.Name y py] n pos) (.two i j):=by
 refine PG.post (sv (n:=2) hc (eO (di hN hi hx hf) (eO (di hN hj hy hf') oU))) λv σ H Q ⟨env,G,B,β,d,env',I,r,e,k⟩=>?_
 rw[hK]
 have e:(pairD d).map (λp=>(env.set i (.fz p.1)).set j (.fz p.2))=some env':=e
 cases q:pairD d with
 |none=>rw[q] at e;cases e
 |some p=>
  obtain⟨dx,dy⟩:=p
  rw[q] at e
  cases e
  obtain rfl:=EB q
  cases r with
  | @tup p xs _ hq r=>
   cases r with
   |cons r1 r=>
    cases r with
    |cons r2 r=>
     cases r
     exact⟨p,_,rfl,hq.grow I.sub.grow,rfl,_,_,rfl,_,_,rfl,rfl,k _ ((I.set' i r1).set' j r2)⟩
def lK (t:Tg)(m:SF):List D->SF
 | []=>λenv β=>.nx env β
 |d :: ds=>λenv β=>match hZ t d env with
  |none=>.bad
  |some env1=>match m env1 β with
   | .nx env2 β2=>lK t m ds env2 β2
   | .ct env2 β2=>lK t m ds env2 β2
   | .bk env2 β2=>.nx env2 β2
   |r=>r
def dY (t:Tg)(L:@IO)(fi:@Pi)(m:SF):SF:=λenv β=>toS (fi @Ps β) λds β'=>lK t m ds @SX β'
def fM {t:Tg}{fi:@Pi}{x:List Stmt}(hp:PassesOwn @D_ X.A X.env X.xe)(hc:X.calm=true)(hi:SI X Γ E tg e fi L .v)(hg:SG X Γ tg t)(hb:C8 X Γ E x m)(hs:∀x,foldedSetIterable e X.env x=pure x:=by intro _;rfl):SS X Γ E (.For tg e x [] pos) (dY t L fi m):=by
 refine PS.post (vB hp hc hi hg hb hs) λN σ H ⟨env,G,B,β,I,o⟩=>?_
 refine⟨env,G,B,β,I,cH o λds β' q J G' H' I' s' m' w=>?_⟩
 have w:Walk Γ.K B G' (λ_=>none) ds J:=w
 refine⟨λi n σ H=>n=ds.length - i/\i<=ds.length/\∃env G1 B β,SR Γ B G1 H σ env β/\av G' G1/\tf Γ E G1 N (lK t m (ds.drop i) env β),⟨ds.length,by simp,Qp _,a8 L env,G',B,β',I',av.refl _,by rw[List.drop_zero];exact tf.weak q s'⟩,?_⟩
 rintro i n σ H ⟨rfl,hi,env,G1,B1,β1,I1,s1,q⟩
 obtain⟨w1,w2⟩:=w G1 H i s1 I1.sub ⟨(λb o e=>by cases e),λb o u e=>by cases e⟩
 by_cases hlt:i < ds.length
 ·obtain⟨go,yl⟩:=w1 hlt
  refine .inr ⟨go,λσ H=>∃env G2 B β,SR Γ B G2 H σ env β/\av G' G2/\tf Γ E G2 N (lK t m (ds.drop (i + 1)) env β),λσ2 H2 h=>⟨ds.length - (i + 1),@AT,rfl,hlt,h⟩,λx H2 y=>?_⟩
  obtain⟨G2,d,x2,ed,rd⟩:=yl x H2 y
  have I2:=I1.ext x2
  have q:=tf.weak q x2.gg
  rw[List.drop_eq_getElem_cons hlt] at q
  have ed':ds[i]=d:=by rw[Pn hlt] at ed;exact Option.some.inj ed
  rw[ed'] at q
  unfold lK at q
  cases eb:hZ t d env with
  |none=>rw[eb] at q;exact q.elim
  |some env1=>
   rw[eb] at q
   refine⟨env,G2,B1,β1,d,env1,I2,rd,eb,λσ3 I3=>⟨env1,G2,B1,β1,I3,?_⟩⟩
   have s2:=s1.trans x2.gg
   dsimp only at q
   cases r:m env1 β1 with
   |nx env2 β2=>rw[r] at q;exact λB2 G3 H3 σ2 I2 s3=>⟨env2,G3,B2,β2,I2,s2.trans s3,tf.weak q s3⟩
   |ct env2 β2=>rw[r] at q;exact λB2 G3 H3 σ2 I2 s3=>⟨env2,G3,B2,β2,I2,s2.trans s3,tf.weak q s3⟩
   |bk env2 β2=>rw[r] at q;exact λB2 G3 H3 σ2 I2 s3=>q B2 G3 H3 σ2 I2 s3
   |rt d fr β2=>rw[r] at q;exact q
   |exc c=>rw[r] at q;exact q
   |bad=>rw[r] at q;exact q
 ·have e:i=ds.length:=@AT
  subst e
  rw[List.drop_length] at q
  exact .inl ⟨w2 (Pt _),q B1 G1 H σ I1 (av.refl _)⟩
end
abbrev Fx.jW (Γ:Fx)(H0 G0:Hp)(par:List Addr)(br:Nat->Bool)(bx:@J_):Fx:=⟨Γ.K,H0,G0,par,Γ.ca,br,bx⟩
def gp (own:Nat)(ixs:@IO)(vs:List Nv):List Nv:=List.replicate own .no ++ ixs.map λi=>(vs[i]?).getD .no
def MF:Option Sl->Sl
 |some (.ow d)=>.br d
 |some s=>s
 |none=>.no
def benv (own:Nat)(ixs:@IO)(env:En):En:=List.replicate own .no ++ ixs.map λi=>MF env[i]?
theorem Ik (o:Option Sl):(MF o).val=(o.map Sl.val).getD .no:=by
 cases o with
 |none=>rfl
 |some s=>cases s <;> rfl
def Ig (own:Nat)(ixs:@IO)(env:En):vl (benv own ixs env)=gp own ixs @Ps:=by
 unfold vl benv gp
 rw[Qk,List.map_replicate,QE]
 congr 1
 refine Rb λi _=>?_
 show (MF env[i]?).val=_
 rw[Ik,PK]
def zk (env:En):Prop:=∀(i:Nat) (d:D),env[i]?≠some (.ow d)
theorem xt {env:En}(h:zk env)(L:@IO):a8 L env=env:=by
 unfold a8
 induction L with
 |nil=>rfl
 |cons i L ih=>
  rw[RE]
  have:ip env i=env:=by
   unfold ip
   split
   ·rename_i d e;exact absurd e (h i d)
   ·rfl
  rw[this];exact ih
def uD (own:Nat)(ixs:@IO)(env:En):zk (benv own ixs env):=λi d e=>by
 unfold benv at e
 have hm:=PV e
 rcases PQ.mp hm with h |h
 ·have:=Rt h;cases this
 ·obtain⟨k,_,hk⟩:=PD.mp h
  cases q:env[k]? with
  |none=>rw[q] at hk;cases hk
  |some s=>rw[q] at hk;cases s <;> cases hk
def rC {env:En}(h:zk env)(i:Nat)(d:D):zk (env.set i (.fz d)):=λj d' e=>by
 by_cases z:i=j
 ·subst z
  by_cases hi:i < env.length
  ·rw[PY hi] at e;cases e
  ·rw[Rq (@AT)] at e;exact h _ _ e
 ·rw[PZ z] at e;exact h _ _ e
theorem BJ {env env1:En}{t:Tg}{d:D}(h:zk env)(e:hZ t d env=some env1):zk env1:=by
 cases t with
 |nm i=>cases e;exact rC h i d
 |two i j=>
  have e:(pairD d).map _=some env1:=e
  cases q:pairD d with
  |none=>rw[q] at e;cases e
  |some p=>rw[q] at e;cases e;exact rC (rC h _ _) _ _
theorem Cu {env env1:En}{t:Tg}{d:D}(e:hZ t d env=some env1)(d':D):hZ t d' env1=hZ t d' env:=by
 cases t with
 |nm i=>cases e;show some _=some _;rw[set_set]
 |two i j=>
  have e:(pairD d).map _=some env1:=e
  cases q:pairD d with
  |none=>rw[q] at e;cases e
  |some p=>
   rw[q] at e;cases e
   show (pairD d').map _=(pairD d').map _
   cases pairD d' with
   |none=>rfl
   |some p'=>
    show some _=some _
    congr 1
    dsimp only
    by_cases z:i=j
    ·subst z;simp[set_set]
    ·rw[List.set_comm _ _ (Ne.symm z),set_set,set_set]
def Ext.mov {G H G' H':Hp}(x:Ext G H G' H')(B:@J_):i3 B H H':=x.hh.mov B
section
variable {Γ:Fx}{B:@J_}{G H G1 H1 Gc Hc:Hp}{σ σ':St}{env envb:En}{β β':Int}{own:Nat}{ixs:@IO}{Da:Addr}{acc:List V}
def zr (envb:En):Nat->Bool:=λj=>match envb[j]? with
 |some (.br _)=>true
 |_=>false
def SR.block (I:@G_)(own:Nat)(ixs:@IO)(hD:H Da=none):SR (Γ.jW (upd H Da (.lst [])) G (Da :: B.toList) (zr (benv own ixs env)) B) B G (upd H Da (.lst [])) (dD own ixs σ) (benv own ixs env) β:=by
 obtain⟨q1,q2,q3,q4⟩:=I.fresh hD
 have nB:∀b,B=some b->b≠Da:=λb e z=>q3 (by rw[<-z];exact e)
 refine⟨I.sub.trans (av.new hD),av.refl _,λb _ h=>h,λb o h _=>Kt.of h,λb hb=>?_,λb e=>e,λb e=>?_,?_,λi s e=>?_,λi j c d d' e=>absurd e (uD own ixs env i d)⟩
 ·rcases Pu.mp hb with z |z
  ·subst z;exact Mx.lst aw
  ·have z':B=some b:=by simpa using z
   exact Mx.lst (by rw[aC (nB b z')];exact (I.box b z').1)
 ·obtain⟨h1,h2,_⟩:=I.box b e
  exact⟨by rw[aC (nB b e)];exact h1,h2,.inl (Pw _ (by simpa using e))⟩
 ·unfold dD benv;simp
 ·by_cases hi:i < own
  ·unfold benv at e
   rw[Qb (by simpa using hi),Q7,Po hi] at e
   cases e;trivial
  ·have e0:=e
   unfold benv at e
   rw[Qf (by simpa using hi),Ri,PK] at e
   cases ek:ixs[i - own]? with
   |none=>rw[ek] at e;cases e
   |some k=>
    rw[ek] at e
    have e:MF env[k]? =s:=Option.some.inj e
    have es:(dD own ixs σ)[i]? =some ((σ[k]?).join):=by
     unfold dD
     rw[Qf (by simpa using hi),Ri,PK,ek];rfl
    rw[es]
    cases q:env[k]? with
    |none=>rw[q] at e;subst e;trivial
    |some t=>
     rw[q] at e
     have w:=I.slot k t q
     cases t with
     |no=>subst e;trivial
     |fz d=>subst e;obtain⟨v,h1,h2⟩:=w;exact⟨v,by rw[h1];rfl,h2⟩
     |bx=>subst e;obtain⟨a,h1,h2⟩:=w;exact⟨a,by rw[h1];rfl,h2⟩
     |ow d=>
      subst e
      obtain⟨a,h1,h2,h3,h4,h5⟩:=w
      obtain⟨o,ho⟩:=h5.obj
      have aD:a≠Da:=aL ho hD
      refine⟨by show zr _ i=true;unfold zr;rw[e0];rfl,a,by rw[h1];rfl,h4,?_,h5.mono (av.refl _) λo q=>Kt.of (by rw[aC aD];exact q)⟩
      intro hm
      rcases Pu.mp hm with z |z
      ·exact aD z
      ·exact h4 (by simpa using z)
     |br d=>
      subst e
      obtain⟨b1,a,h1,h4,hp,h5⟩:=w
      obtain⟨o,ho⟩:=h5.obj
      have aD:a≠Da:=aL ho hD
      refine⟨by show zr _ i=true;unfold zr;rw[e0];rfl,a,by rw[h1];rfl,h4,?_,h5.mono (av.refl _) λo q=>Kt.of (by rw[aC aD];exact q)⟩
      intro hm
      rcases Pu.mp hm with z |z
      ·exact aD z
      ·exact h4 (by simpa using z)
def SR.unblock (I:@G_){br:Nat->Bool}(hD:H Da=none)(J:SR (Γ.jW (upd H Da (.lst [])) G (Da :: B.toList) br B) B Gc Hc σ' envb β'):SR Γ B Gc Hc σ env β'/\i3 B H Hc/\Gc Da=none:=by
 obtain⟨q1,q2,q3,q4⟩:=I.fresh hD
 have up:∀{b:Addr},Mx H b->Mx (upd H Da (.lst [])) b:=λ{b} h=>h.same λo e=>Kt.of (by rw[aC (aL e hD)];exact e)
 have mv0:∀b o,H b=some o->B≠some b->Kt Hc b o:=λb o e n=>J.keep b o (show upd H Da (.lst []) b=some o by rw[aC (aL e hD)];exact e) λhm=>by
  rcases Pu.mp hm with z |z
  ·rw[z,hD] at e;cases e
  ·exact n (by simpa using z)
 have mv:i3 B H Hc:=⟨mv0,λb o u e=>mv0 b _ e λz=>by rw[(I.box b z).1] at e;cases e⟩
 refine⟨⟨J.sub,I.old.trans J.old,λb h1 h2=>J.new b (up (I.thereM h1)) (I.new b h1 h2),λb o h1 h2=>z6 (I.keep b o h1 h2) mv λz=>?_,λb hb=>J.thereM (up (I.pin b hb)),I.fix,λb e=>?_,I.len,λi s e=>?_,I.sep⟩,mv,J.new Da (Mx.lst (show upd H Da (.lst []) Da=some (.lst []) from aw)) q2⟩
 ·obtain⟨_,_,h3⟩:=I.box b z
  rcases h3 with h3 |h3
  ·exact h2 h3
  ·rw[h1] at h3;cases h3
 ·obtain⟨j1,j2,_⟩:=J.box b e
  exact⟨j1,j2,(I.box b e).2.2⟩
 ·have w:=I.slot i s e
  cases s with
  |no=>trivial
  |fz d=>obtain⟨v,h1,h2⟩:=w;exact⟨v,h1,h2.mono J.old⟩
  |bx=>exact w
  |ow d=>
   obtain⟨a,h1,h2,h3,h4,h5⟩:=w
   exact⟨a,h1,h2,J.new a (up h5.mx) h3,h4,h5.mono J.old λo q=>mv.1 a o q h4⟩
  |br d=>
   obtain⟨b1,a,h1,h4,hp,h5⟩:=w
   exact⟨b1,a,h1,h4,hp,h5.mono J.old λo q=>mv.1 a o q h4⟩
def SR.updD {ys:List V}(J:@G_)(hp:Da∈Γ.par)(h0:Mx Γ.H0 Da)(g0:Γ.G0 Da=none)(hB:B≠some Da):SR Γ B G (upd H Da (.lst ys)) σ env β:=by
 have gD:=J.new Da h0 g0
 have ha:∀x y,H Da≠some (.a8 x y):=λx y w=>(J.pin Da hp).2 _ w trivial
 refine⟨λb u q=>my (J.sub b u q) (λz=>by rw[z,gD] at q;cases q) ha,J.old,J.new,λb u q n=>my (J.keep b u q n) (λz=>n (by rw[z];exact hp)) ha,λb hb=>?_,J.fix,λb e=>?_,J.len,λi s e=>?_,J.sep⟩
 ·by_cases z:b=Da
  ·subst z;exact Mx.lst aw
  ·exact (J.pin b hb).same λo e=>Kt.of (by rw[aC z];exact e)
 ·obtain⟨h1,h2⟩:=J.box b e
  exact⟨by rw[aC (λz=>hB (by rw[<-z];exact e))];exact h1,h2⟩
 ·have w:=J.slot i s e
  cases s with
  |no=>trivial
  |fz d=>exact w
  |bx=>exact w
  |ow d=>
   obtain⟨a,h1,h2,h3,h4,h5⟩:=w
   have aD:a≠Da:=λz=>h0.1 (by rw[<-z];exact h2)
   exact⟨a,h1,h2,h3,h4,h5.mono (av.refl _) λo q=>Kt.of (by rw[aC aD];exact q)⟩
  |br d=>
   obtain⟨b1,a,h1,h4,hpa,h5⟩:=w
   have aD:a≠Da:=λz=>hpa (by rw[z];exact hp)
   exact⟨b1,a,h1,h4,hpa,h5.mono (av.refl _) λo q=>Kt.of (by rw[aC aD];exact q)⟩
end
def R.okb {α γ:Type}(r:R α)(k:α->Int->R γ):R γ:=match r with
 | .ok a β=>k a β
 |_=>.bad
def fQ (t:Tg)(ft:VF Bool)(fe:VF D)(vs:List Nv):List D->Int->R (List D)
 | [],β=>.ok [] β
 |d :: ds,β=>match nr t d vs with
  |none=>.bad
  |some vs1=>(ft vs1 β).okb λc β1=>if c=true then (fe vs1 β1).okb λx β2=>(fQ t ft fe vs ds β2).okb λxs β3=>.ok (x :: xs) β3 else fQ t ft fe vs ds β1
def aM (own:Nat)(ixs:@IO)(t:Tg)(fi:@Pi)(ft:VF Bool)(fe:VF D):VF D:=λvs β=>(fi vs β).bnd λds β1=>if ds.length<=sizeLine then (fQ t ft fe (gp own ixs vs) ds β1).okb λxs β2=>.ok (.list xs) β2 else .bad
def lN:VF Bool:=λ_ β=>.ok true β
def Iu (own:Nat)(ixs Lc:@IO)(j:Nat):Bool:=decide (j < own) || (match ixs[j - own]? with
 |some i=>Lc.contains i
 |none=>false)
theorem Gx {α γ:Type}{Γ:Fx}{E:XK}{r:R α}{k:α->Int->R γ}{P:γ->Int->Prop}(h:Out Γ E (r.okb k) P):∃a β,r=.ok a β/\Out Γ E (k a β) P:=by
 cases r with
 |ok a β=>exact⟨a,β,rfl,h⟩
 |exc c=>exact h.elim
 |bad=>exact h.elim
section
variable {X:Cx}{Γ:Fx}{E:XK}{tg iter elt:Expr}{ifs:@TH}{scope:Scope}{NB:@KK}{own:Nat}{ixs Li Lc Lt Le:@IO}{t:Tg}{fi:@Pi}{ft:VF Bool}{fe:VF D}{pos:Pos}
def eZ {X:Cx}{Γ:Fx}{E:XK}:Fh X [] (qT Γ E lN []):=λpins s σ H Q I ⟨env,G,B,β,J,o⟩=>wj pins s σ H Q I (o G H J (av.refl _) (i3.refl _ _))
def fj {X:Cx}{Γ:Fx}{E:XK}{c:Expr}{ta:VF Bool}{L:@IO}(h:BV X Γ E c ta L):Fh X [c] (qT Γ E ta L):=Bl h
def qh {NB:@KK}{scope:Scope}{C:Addr}{ex:List Addr}{s3:Shared}{H3:Hp}{pn:@Db}{P:Program}{w:World}:Passes (o5 P w) @IR E0:=λpins σ H s e s' I h=>by
 obtain⟨_,_,_,_,_,_,_,_,_,q⟩:=h
 exact q.elim
abbrev gU (Γ:Fx)(t:Tg):TG:=λv σ H Q=>∃H0 G0 par br bx,gT (Γ.jW H0 G0 par br bx) t v σ H Q
abbrev tU (Γ:Fx)(own:Nat)(ixs Lc:@IO)(ft:VF Bool)(Lt:@IO):TT:=λσ H Q=>∃H0 G0 par br bx,(∀j,Iu own ixs Lc j=true->br j=false)/\qT (Γ.jW H0 G0 par br bx) E0 ft Lt σ H Q
abbrev eU (Γ:Fx)(own:Nat)(ixs Lc:@IO)(fe:VF D)(Le:@IO):TE:=λσ H Q=>∃H0 G0 par br bx,(∀j,Iu own ixs Lc j=true->br j=false)/\pT (Γ.jW H0 G0 par br bx) E0 fe Le .v σ H Q
def IJ {σ:St}{H:Hp}{Q:VK}(hLc:∀i,i∈Lc->Γ.br i=false)(h:pT Γ E (aM own ixs t fi ft fe) (Li ++ Lc) .w σ H Q):Ak own ixs (iT Γ E fi Li .b) (gU Γ t) (tU Γ own ixs Lc ft Lt) (eU Γ own ixs Lc fe Le) σ H Q:=by
 obtain⟨env,G,B,β,I,o⟩:=h
 refine⟨env,G,B,β,I,o.bnd.imp λds β1 h J G1 H1 I1 s1 m1 wk Da hD=>?_⟩
 have wk:Walk Γ.K B G1 H1 ds J:=wk
 by_cases hz:ds.length<=sizeLine
 case neg=>rw[Px hz] at h;exact h.elim
 rw[Po hz] at h
 obtain⟨xs0,β0,e0,h⟩:=Gx h
 have h:∀v G' H',SR Γ B G' H' σ (a8 (Li ++ Lc) env) β0->av G G'->i3 B H H'->VO Γ.K B H G' H' .w (.list xs0) v->Q v H':=h
 obtain⟨G2,I2,s2⟩:=I1.a8 Lc hLc
 rw[<-bO] at I2
 obtain⟨q1,q2,q3,q4⟩:=I2.fresh hD
 have Ib0:=I2.block own ixs hD
 generalize hbr:zr (benv own ixs (a8 (Li ++ Lc) env))=br at Ib0
 have hbo:∀j,Iu own ixs Lc j=true->br j=false:=by
  intro j hj
  rw[<-hbr]
  unfold zr
  split
  ·rename_i d e
   exfalso
   unfold benv at e
   by_cases hjo:j < own
   ·rw[Qb (by simpa using hjo),Q7,Po hjo] at e;cases e
   ·rw[Qf (by simpa using hjo),Ri,PK] at e
    unfold Iu at hj
    rw[PU hjo,Bool.false_or] at hj
    cases ek:ixs[j - own]? with
    |none=>rw[ek] at hj;cases hj
    |some k=>
     rw[ek] at hj e
     have hk:k∈Lc:=by simpa using hj
     have e:MF (a8 (Li ++ Lc) env)[k]? =.br d:=Option.some.inj e
     cases q:(a8 (Li ++ Lc) env)[k]? with
     |none=>rw[q] at e;cases e
     |some s=>
      rw[q] at e
      cases s with
      |no=>cases e
      |fz _=>cases e
      |bx=>cases e
      |br d'=>
       obtain⟨b1,_⟩:=I2.slot k _ q
       rw[hLc k hk] at b1;cases b1
      |ow d'=>
       rw[bO] at q
       have key:∀(M:@IO) (en:En),k∈M->∀d',(a8 M en)[k]?≠some (.ow d'):=by
        intro M
        induction M with
        |nil=>intro en hm;cases hm
        |cons i M ih=>
         intro en hm d' z
         rcases Pu.mp hm with y |y
         ·subst y
          have z1:(ip en k)[k]? =some (.ow d'):=rq (L:=M) z
          have z2:=vp z1
          unfold ip at z1
          rw[z2] at z1
          dsimp only at z1
          rw[PY (PN.mp z2).1] at z1;cases z1
         ·exact ih (ip en i) y d' z
       exact key Lc _ hk d' q
  ·rfl
 have evb:vl (benv own ixs (a8 (Li ++ Lc) env))=gp own ixs @Ps:=by rw[Ig,dh]
 refine⟨λi n σ' H'=>n=ds.length - i/\i<=ds.length/\∃envb Gc β' acc accd,SR (Γ.jW (upd H1 Da (.lst [])) G2 (Da :: B.toList) br B) B Gc H' σ' envb β'/\(envb=benv own ixs (a8 (Li ++ Lc) env)\/∃d,hZ t d (benv own ixs (a8 (Li ++ Lc) env))=some envb)/\
   H' Da=some (.lst acc)/\cI Γ.K Gc acc accd/\accd.length<=i/\∃xs,fQ t ft fe (gp own ixs @Ps) (ds.drop i) β'=.ok xs β0/\accd ++ xs=xs0,
  ⟨ds.length,by simp,Qp _,_,G2,β1,[],[],Ib0,.inl rfl,aw,.nil,Qp _,xs0,by rw[List.drop_zero];exact e0,rfl⟩,?_⟩
 rintro i n σ' H' ⟨rfl,hi',envb,Gc,β',acc,accd,Ib,eb,hacc,racc,lacc,xs,ec,exs⟩
 obtain⟨Io,mv,gD⟩:=I2.unblock hD Ib
 obtain⟨w1,w2⟩:=wk Gc H' i (s2.trans Ib.old) Ib.sub mv
 by_cases hlt:i < ds.length
 ·obtain⟨go,yl⟩:=w1 hlt
  refine .inr ⟨go,λσ' H'=>∃envb Gc β' acc accd,SR (Γ.jW (upd H1 Da (.lst [])) G2 (Da :: B.toList) br B) B Gc H' σ' envb β'/\(envb=benv own ixs (a8 (Li ++ Lc) env)\/∃d,hZ t d (benv own ixs (a8 (Li ++ Lc) env))=some envb)/\
   H' Da=some (.lst acc)/\cI Γ.K Gc acc accd/\accd.length<=i + 1/\∃xs,fQ t ft fe (gp own ixs @Ps) (ds.drop (i + 1)) β'=.ok xs β0/\accd ++ xs=xs0,λσ2 H2 hh=>⟨ds.length - (i + 1),@AT,rfl,hlt,hh⟩,λx H2 y=>?_⟩
  obtain⟨G3,d,x3,ed,rd⟩:=yl x H2 y
  have I3:=Ib.ext x3
  have ed':ds[i]=d:=by rw[Pn hlt] at ed;exact Option.some.inj ed
  rw[List.drop_eq_getElem_cons hlt,ed'] at ec
  unfold fQ at ec
  cases ebv:nr t d (gp own ixs @Ps) with
  |none=>rw[ebv] at ec;cases ec
  |some vs1=>
   rw[ebv] at ec
   dsimp only at ec
   obtain⟨env1,eb1,ev1⟩:∃env1,hZ t d (benv own ixs (a8 (Li ++ Lc) env))=some env1/\vl env1=vs1:=by
    have:=HY t d (benv own ixs (a8 (Li ++ Lc) env))
    rw[evb,ebv] at this
    cases q:hZ t d (benv own ixs (a8 (Li ++ Lc) env)) with
    |none=>rw[q] at this;cases this
    |some env1=>rw[q] at this;exact⟨env1,rfl,Option.some.inj this⟩
   have eb2:hZ t d envb=some env1:=by
    rcases eb with rfl | ⟨d0,eb⟩
    ·exact eb1
    ·rw[Cu eb];exact eb1
   have no1:zk env1:=BJ (uD _ _ _) eb1
   have a2:H2 Da=some (.lst acc):=x3.hh _ _ hacc
   refine⟨_,_,_,_,_,envb,G3,B,β',d,env1,I3,rd,eb2,λσ3 I4=>?_⟩
   refine⟨_,_,_,_,_,hbo,env1,G3,B,β',I4,?_⟩
   rw[ev1]
   cases et:ft vs1 β' with
   |exc c=>rw[et] at ec;cases ec
   |bad=>rw[et] at ec;cases ec
   |ok c β2=>
    rw[et] at ec
    intro G4 H4 I5 s4 m4
    rw[xt no1] at I5
    have a4:H4 Da=some (.lst acc):=m4.1 _ _ a2 q3
    cases c with
    |false=>
     refine p5 ⟨env1,G4,β2,acc,accd,I5,.inr ⟨d,eb1⟩,a4,racc.mono (x3.gg.trans s4),@AT,xs,?_,exs⟩
     exact ec
    |true=>
     refine tX ⟨_,_,_,_,_,hbo,env1,G4,B,β2,I5,?_⟩
     rw[ev1]
     have ec:((fe vs1 β2).okb λx β3=>(fQ t ft fe (gp own ixs @Ps) (ds.drop (i + 1)) β3).okb λxs β4=>R.ok (x :: xs) β4)=R.ok xs β0:=ec
     cases ee:fe vs1 β2 with
     |exc c=>rw[ee] at ec;cases ec
     |bad=>rw[ee] at ec;cases ec
     |ok dx β3=>
      rw[ee] at ec
      intro v G5 H5 I6 s5 m5 vo
      rw[xt no1] at I6
      have a5:H5 Da=some (.lst acc):=m5.1 _ _ a4 q3
      have ec:((fQ t ft fe (gp own ixs @Ps) (ds.drop (i + 1)) β3).okb λxs β4=>R.ok (dx :: xs) β4)=R.ok xs β0:=ec
      cases er:fQ t ft fe (gp own ixs @Ps) (ds.drop (i + 1)) β3 with
      |exc c=>rw[er] at ec;cases ec
      |bad=>rw[er] at ec;cases ec
      |ok ys β4=>
       rw[er] at ec
       cases ec
       refine⟨acc,a5,by rw[racc.len];omega,env1,G5,β3,acc ++ [v],accd ++ [dx],?_,.inr ⟨d,eb1⟩,aw,(racc.mono ((x3.gg.trans s4).trans s5)).snoc vo,by rw[P5];simp;omega,ys,er,by rw[<-exs,QN];rfl⟩
       refine I6.updD (Pz ..) (Mx.lst (show upd H1 Da (.lst []) Da=some (.lst []) from aw)) (I2.sub.free hD) q3
 ·have e:i=ds.length:=@AT
  subst e
  rw[List.drop_length] at ec
  cases ec
  rw[Rl] at exs
  subst exs
  refine .inl ⟨w2 (Pt _),⟨acc,hacc⟩,h _ Gc H' Io ((s1.trans s2).trans Ib.old) (m1.trans mv) ⟨Da,rfl,gV m1 I1.boxThere hD,gD,acc,hacc,racc⟩⟩
def bU (hg:∀H0 G0 par br bx C ex s3 H3 pn,SG @IR (Γ.jW H0 G0 par br bx) tg t)(C:Addr)(ex:List Addr)(s3:Shared)(H3:Hp)(pn:@Db):PG @IR tg (gU Γ t):=by
 rintro pins s σ H v u Q I r ⟨H0,G0,par,br,bx,q⟩
 exact hg H0 G0 par br bx C ex s3 H3 pn pins s σ H v u Q I r q
def cy (Lc:@IO)(hc:X.calm=true)(S:dE X NB own ixs scope)(hLc:∀i,i∈Lc->Γ.br i=false)(hi:SI X Γ E tg iter fi Li .b)
  (hg:∀H0 G0 par br bx C ex s3 H3 pn,SG @IR (Γ.jW H0 G0 par br bx) tg t)
  (ht:∀H0 G0 par br bx C ex s3 H3 pn,(∀j,Iu own ixs Lc j=true->br j=false)->Fh @IR ifs (qT (Γ.jW H0 G0 par br bx) E0 ft Lt))
  (he:∀H0 G0 par br bx C ex s3 H3 pn,(∀j,Iu own ixs Lc j=true->br j=false)->SE @IR (Γ.jW H0 G0 par br bx) E0 elt fe Le .v)
  (hs:∀x,foldedSetIterable iter X.env x=pure x:=by intro _;rfl) :
  SE X Γ E @N_ (aM own ixs t fi ft fe) (Li ++ Lc) .w:=by
 refine PE.post' (xQ (g:=gU Γ t) (tt:=tU Γ own ixs Lc ft Lt) (te:=eU Γ own ixs Lc fe Le) hc S hi (bU hg) (λC ex s3 H3 pn=>?_) (λC ex s3 H3 pn=>?_) hs) λσ H Q h=>IJ hLc h
 ·rintro pins s σ H Q I ⟨H0,G0,par,br,bx,b,q⟩
  exact ht H0 G0 par br bx C ex s3 H3 pn b pins s σ H Q I q
 ·rintro pins s σ H Q I ⟨H0,G0,par,br,bx,b,q⟩
  exact he H0 G0 par br bx C ex s3 H3 pn b pins s σ H Q I q
def lj {i:Nat}{y:Str}{py spos:Pos}(Lc:@IO)(hc:X.calm=true)(S:dE X NB own ixs scope)(hLc:∀i,i∈Lc->Γ.br i=false)(hi:SI X Γ E tg iter fi Li .b)
  (hg:∀H0 G0 par br bx C ex s3 H3 pn,SG @IR (Γ.jW H0 G0 par br bx) tg t)
  (ht:∀H0 G0 par br bx C ex s3 H3 pn,(∀j,Iu own ixs Lc j=true->br j=false)->Fh @IR ifs (qT (Γ.jW H0 G0 par br bx) E0 ft Lt))
  (he:∀H0 G0 par br bx C ex s3 H3 pn,(∀j,Iu own ixs Lc j=true->br j=false)->SE @IR (Γ.jW H0 G0 par br bx) E0 elt fe Le .v)
  (hN:X.N.Nodup) (hy:X.N[i]? =some y:=by rfl) (hl:X.env.scope.names.lookup y=some .local:=by rfl)
  (hsw:swapsWith @N_ (some (.Name y py)) spos.line X.env=pure true:=by rfl)
  (hs:∀x,foldedSetIterable iter X.env x=pure x:=by intro _;rfl) :
  SS X Γ E (.Assign [.Name y py] @N_ spos) (a9 i (Li ++ Lc) (aM own ixs t fi ft fe)):=by
 refine PS.post (Eu (g:=gU Γ t) (tt:=tU Γ own ixs Lc ft Lt) (te:=eU Γ own ixs Lc fe Le) hc S hi (bU hg) (λC ex s3 H3 pn=>?_) (λC ex s3 H3 pn=>?_) hN hy hl hsw hs) λN σ H ⟨env,G,B,β,I,o⟩=>?_
 ·rintro pins s σ H Q I ⟨H0,G0,par,br,bx,b,q⟩
  exact ht H0 G0 par br bx C ex s3 H3 pn b pins s σ H Q I q
 ·rintro pins s σ H Q I ⟨H0,G0,par,br,bx,b,q⟩
  exact he H0 G0 par br bx C ex s3 H3 pn b pins s σ H Q I q
 refine IJ hLc ⟨env,G,B,β,I,cH o λd β' k v G' H' I' s' m' vo=>?_⟩
 obtain⟨G2,I2,s2,r⟩:=I.letW I' vo
 exact k B G2 H' _ (I2.set' i r) (s'.trans s2)
end
def fin:SO->FR
 | .nx _ _=>.ok .none false
 | .rt d fr _=>.ok d fr
 | .exc c=>.exc c
 |_=>.bad
def C3 (n:Nat)(ds:List D):En:=ds.map Sl.fz ++ List.replicate (n - ds.length) .no
def bg (n p:Nat)(m:SF):@Fk:=λds=>if ds.length=p then fin (m (C3 n ds) 0) else .bad
abbrev Fx.fn (K:Frag)(H G:Hp)(ca:Str->Addr):Fx:=⟨K,H,G,[],ca,λ_=>false,none⟩
def SR.start {K:Frag}{H G:Hp}{ca:Str->Addr}{N:@KK}{vs:List V}{ds:List D}(s:av G H)(r:cI K G vs ds)(hn:ds.length<=N.length):SR (Fx.fn K H G ca) none G H (start N vs) (C3 N.length ds) 0:=by
 have hl:=r.len
 refine⟨s,av.refl _,λb _ h=>h,λb o h _=>Kt.of h,λb h=>(by cases h),λb h=>(by cases h),λb h=>(by cases h),?_,λi t e=>?_,λi j a d e h=>?_⟩
 ·unfold L2.start C3;simp;omega
 ·unfold C3 at e
  by_cases hi:i < ds.length
  ·rw[Qb (by simpa using hi),PK,Pn hi] at e
   cases e
   obtain⟨x,hx,rx⟩:=r.at (Pn hi)
   refine⟨x,?_,rx⟩
   unfold L2.start
   rw[Qb (by simpa[hl] using hi),PK,hx];rfl
  ·rw[Qf (by simpa using hi),Q7] at e
   split at e
   ·cases e;trivial
   ·cases e
 ·unfold C3 at h
  have hm:=PV h
  rcases PQ.mp hm with z |z
  ·obtain⟨_,_,z⟩:=PD.mp z;cases z
  ·have:=Rt z;cases this
section
variable {P:Program}{w:World}{K:Frag}{mg:@Fa}{base:Heap}{ca:Str->Addr}
def aS {x qual:Str}{st:Stmt}{f:Addr}{fd:FuncData}{N ps:@KK}{k:Nat}{m:SF}(F:C7 K x qual st f fd)(S:aG N ps (aq st))
  (hbody:∀(cdv:Value) (A:Around) (outer:List Env) (s:Shared) (H G:Hp) (E:XK),eM k (A.deeper (envOfC qual (aq st) s.heap.objs.size f cdv))->C8 (l7 (o5 P w) P w K mg base N qual (aq st) f cdv A outer s H E) (Fx.fn K H G ca) E (cj st) m) :
  ie P w K mg base (o5 P w) (k + 1) f fd ps (FY K ca ps.length (bg N.length ps.length m)):=by
 have hpn:ps.length<=N.length:=by have:=congrArg List.length S.pre;rw[Qx] at this;omega
 refine F.Dd S (λvs H Q E h=>?_) (λcdv A outer s H vs Q E hr h=>?_)
 ·obtain⟨G,ds,sG,hl,r,_⟩:=h
  rw[r.len];exact hl
 ·obtain⟨G,ds,sG,hl,r,h⟩:=h
  refine⟨_,hbody cdv A outer s H G E hr,?_⟩
  have I:=SR.start (ca:=ca) (N:=N) sG r (@AT)
  refine⟨_,G,none,0,I,?_⟩
  unfold bg at h
  rw[Po hl] at h
  have fin':∀{B G' H' σ env β},SR (Fx.fn K H G ca) B G' H' σ env β->av H H':=λJ b o e=>J.keep b o e (λz=>by cases z)
  cases q:m (C3 N.length ds) 0 with
  |nx env β=>rw[q] at h;exact λB G' H' σ J s'=>h .non G' H' (fin' J) s' J.sub (λb h1 h2=>J.new b h1 h2) Rp.non
  |bk env β=>rw[q] at h;exact h.elim
  |ct env β=>rw[q] at h;exact h.elim
  |rt d fr β=>
   rw[q] at h
   refine λB G' H' σ env v J s' rv=>h v G' H' (fin' J) s' J.sub (λb h1 h2=>J.new b h1 h2) ?_
   cases fr with
   |true=>exact rv
   |false=>exact rv
  |exc c=>rw[q] at h;exact λH' kp=>h H' λb o e=>kp b o e (λz=>by cases z)
  |bad=>rw[q] at h;exact h.elim
def HR {n:Nat}{F F':@Fk}(h:∀ds,ds.length=n->F' ds≠.bad->F ds=F' ds){vs:List V}{H:Hp}{Q:VK}{E:XK}(q:FY K ca n F' vs H Q E):FY K ca n F vs H Q E:=by
 obtain⟨G,ds,s,hl,r,q⟩:=q
 refine⟨G,ds,s,hl,r,?_⟩
 by_cases hb:F' ds=.bad
 ·rw[hb] at q;exact q.elim
 ·rw[h ds hl hb];exact q
def cB.imp {x:Str}{ps:@KK}{k:Nat}{F F':@Fk}(h:cB P w K mg base ca x ps k F)(i:∀ds,F' ds≠.bad->F ds=F' ds):cB P w K mg base ca x ps k F':=by
 obtain⟨f,fd,a,b,c,d⟩:=h.ex
 exact⟨⟨f,fd,a,b,c,d.imp λvs H Q E q=>HR (λds _=>i ds) q⟩,λds hn=>h.len ds (by rw[i ds hn];exact hn)⟩
def aP {n p:Nat}{m:SF}(ds:List D)(h:bg n p m ds≠.bad):ds.length=p:=by
 unfold bg at h
 by_cases hl:ds.length=p
 ·exact hl
 ·rw[Px hl] at h;exact absurd rfl h
def rj {N:@KK}{qual:Str}{scope:Scope}{f:Addr}{cd:Value}{A:Around}{outer:List Env}{s0:Shared}{H0:Hp}{E:XK}{Γ:Fx}{x:Str}{C:Addr}{np cpos pos:Pos}{e0:Expr}{es:@TH}{fr:@Pi}{L:@IO}(q:PySem.W.excIn K C @S6 "ValueError.__new__"=true)(hca:Γ.ca x=C)
  (hg:Gl @SB x) (hm:mg x=some (.ref C)) (ha:SA @SB Γ E (e0 :: es) fr L)
  (he:starEach (e0 :: es) (@Fr)=(false,eval e0 (@Fr)) :: starEach es (@Fr):=by rfl)
  (hpl:(backTo cpos (starEach es (@Fr))).any (·.1)=false:=by rfl) (hdb:@FM:=by decide) :
  SS @SB Γ E (.Raise (some (.Call @TW (e0 :: es) [] cpos)) none pos) (λenv β=>toS (fr @Ps β) λds _=>if ds.length<=sizeLine then .exc x else .bad):=by
 refine PS.post (DV PySem.F.excBase_ValueError (@B_) q hg hm ha he hpl hdb) λD σ H ⟨env,G,B,β,I,o⟩=>?_
 refine⟨env,G,B,β,I,cH o λds β' k vs G' H' I' s' m' r=>?_⟩
 by_cases hz:ds.length<=sizeLine
 ·rw[Po hz] at k
  refine⟨by rw[r.len];exact hz,?_⟩
  have:=k H' (I'.kp (av.refl _))
  rw[hca] at this
  exact this
 ·rw[Px hz] at k;exact k.elim
end
section
variable {X:Cx}{Γ:Fx}{E:XK}{e a b c:Expr}{f fa fb:VF D}{L La Lb:@IO}{md ma mb:Md}{pos apos cpos np:Pos}
def sO:Option Sl->Bool
 |some (.ow (.list _))=>true
 |_=>false
theorem o6 {o:Option Sl}(h:sO o=true):∃ds,o=some (.ow (.list ds)):=by
 cases o with
 |none=>cases h
 |some s=>
  cases s with
  |ow d=>cases d with
   |list ds=>exact⟨ds,rfl⟩
   |_=>cases h
  |_=>cases h
def IX (i:Nat)(env:En)(β:Int)(g:List D->Option (List D)):SO:=match env[i]? with
 |some (.ow (.list ds))=>(match g ds with
  |some es=>.nx (env.set i (.ow (.list es))) β
  |none=>.bad)
 |_=>.bad
def l0 (i:Nat)(L:@IO)(f:VF D):SF:=λenv β=>if sO env[i]? =true then toS (f @Ps β) λd β'=>IX i @SX β' λds=>if ds.length < sizeLine then some (ds ++ [d]) else none else .bad
def qJ {Γ:Fx}{E:XK}{G:Hp}{N:Ends}{i:Nat}{env:En}{β:Int}{g:List D->Option (List D)}(h:tf Γ E G N (IX i env β g)):∃ds es,env[i]? =some (.ow (.list ds))/\g ds=some es/\tf Γ E G N (.nx (env.set i (.ow (.list es))) β):=by
 unfold IX at h
 split at h
 ·rename_i ds q
  cases e:g ds with
  |none=>rw[e] at h;exact h.elim
  |some es=>rw[e] at h;exact⟨ds,es,q,e,h⟩
 ·exact h.elim
def j5 (i:Nat){x:Str}(hb:∀j,Γ.br j=false)(he:SE X Γ E e f L .v)(hN:X.N[i]? =some x:=by rfl)(hv:yM X.env.scope x:=by first |exact @TM |exact Or.inr (@TM) |exact Or.inr (Or.inr rfl))(hd:@FM:=by decide)
  (hcd:@TF:=by decide)
  (hbase:attributeBase @TW "append" X.env (eval @TW X.env)=eval @TW X.env:=by rfl)
  (hfew:((backTo cpos (starEach [e] X.env)).all (λx=> !x.1) && @S_
   && decide ([e].length + ([]:List Keyword).length + @Ta < 30))=true:=by rfl)
  (hline:(apos.endLine == cpos.line)=true:=by rfl) (hs:starEach [e] X.env=(false,eval e X.env) :: starEach [] X.env:=by rfl)
  (hsw:swapsWith (.Call (.Attribute @TW "append" apos) [e] [] cpos) none pos.line X.env=pure false:=by rfl) :
  SS X Γ E (.Expr (.Call (.Attribute @TW "append" apos) [e] [] cpos) pos) (l0 i L f):=by
 refine PS.post (qI (t9 Q8 PySem.F.slot_list_append PySem.F.type_list_append pZ (jn hN hv hd hcd) (ax he aR hs) hbase hfew hline hs rfl) hsw) λN σ H ⟨env,G,B,β,I,o⟩=>?_
 unfold l0 at o
 by_cases hO:sO env[i]? =true
 case neg=>rw[Px hO] at o;exact o.elim
 rw[Po hO] at o
 obtain⟨ds0,q0⟩:=o6 hO
 obtain⟨p,h1,_,_,_,xs,h5,_⟩:=I.slot i _ q0
 refine⟨_,h1,.inl ⟨rfl,xs,.inl (.inl h5)⟩,?_⟩
 refine⟨env,G,B,β,I,cH o λd β' k v G' H' I' s' m' vo=>?_⟩
 obtain⟨ds,es,q,eg,k⟩:=qJ k
 by_cases hz:ds.length < sizeLine
 case neg=>rw[Px hz] at eg;cases eg
 rw[Po hz] at eg
 cases eg
 obtain⟨p',g1,_,_,_,ys,g5,g6⟩:=I'.slot i _ q
 rw[h1] at g1;cases g1
 refine⟨p,ys,v,rfl,rfl,g5,by rw[g6.len];exact hz,?_⟩
 exact k B G' _ σ (I'.write hb q h1 λH2 e2 s2=>⟨_,e2,g6.snoc vo⟩) s'
def Mo:V->@KM:=λx vs H Q=>∃l b xs zs,x=.ref l/\vs= [.ref b]/\H l=some (.lst xs)/\Rd H b (.lst zs)/\xs.length + zs.length<=sizeLine/\Q .non (upd H l (.lst (xs ++ zs)))
def Inv.lstR {pins:@Db}{σ:St}{H:Hp}{s:Shared}{l:Addr}{xs:List V}(I:@At)(hH:Rd H l (.lst xs)):xs.length<=sizeLine/\∃(its:@GM) (n:Nat),Vals xs its/\xs.length=its.length/\s.heap.get? l=some @S9:=by
 obtain⟨z,its,n,r,e⟩:=hH.ok I.hok
 exact⟨z,its,n,r,r.length,e⟩
def GL:IG X "list.extend" Mo:=by
 intro pins s σ H x vs v us Q I rx rv h
 obtain⟨l,b,xs,zs,rfl,rfl,hH,hB,hz,q⟩:=h
 cases rx
 obtain⟨u,rfl,ru⟩:=rv.one
 cases ru
 obtain⟨z,its,n,r,hl,e⟩:=I.lstM hH
 obtain⟨z2,its2,n2,r2,hl2,e2⟩:=I.lstR hB
 have hsz:its.toArray.size + its2.toArray.size<=sizeLine:=by rw[PJ,PJ];omega
 have hlong:¬(!its.toArray.isEmpty && Builtin.List.listTooLong (its.toArray.size + its2.toArray.size))=true:=by
  rw[sV hsz,Bool.and_false]
  exact PR
 refine R1 F.slot_list_extend ⟨_,e,rfl⟩ F.entry_list_extend (F.args_list_extend_2 _ _)
  (AutoSeq1.list_extend_list_list_0 l its.toArray n b its2.toArray n2 hlong (by rw[PJ];omega) (@AT)) ⟨e,e2,?_⟩
 refine⟨.non,_,I.lset (its':=its ++ its2) hH e @Go (r.append r2) ?_,rfl,q⟩
 rw[P5]
 omega
def Cc (i:Nat)(L:@IO)(f:VF D):SF:=λenv β=>if sO env[i]? =true then toS (f @Ps β) λd β'=>IX i @SX β' λds=>match d with
 | .list es=>if ds.length + es.length<=sizeLine then some (ds ++ es) else none
 |_=>none else .bad
theorem BW (i:Nat){x:Str}(hb:∀j,Γ.br j=false)(he:SE X Γ E e f L md)(hN:X.N[i]? =some x:=by rfl)(hv:yM X.env.scope x:=by first |exact @TM |exact Or.inr (@TM) |exact Or.inr (Or.inr rfl))(hd:@FM:=by decide)
  (hcd:@TF:=by decide)
  (hbase:attributeBase @TW "extend" X.env (eval @TW X.env)=eval @TW X.env:=by rfl)
  (hfew:((backTo cpos (starEach [e] X.env)).all (λx=> !x.1) && @S_
   && decide ([e].length + ([]:List Keyword).length + @Ta < 30))=true:=by rfl)
  (hline:(apos.endLine == cpos.line)=true:=by rfl) (hs:starEach [e] X.env=(false,eval e X.env) :: starEach [] X.env:=by rfl)
  (hsw:swapsWith (.Call (.Attribute @TW "extend" apos) [e] [] cpos) none pos.line X.env=pure false:=by rfl) :
  SS X Γ E (.Expr (.Call (.Attribute @TW "extend" apos) [e] [] cpos) pos) (Cc i L f):=by
 refine PS.post (qI (t9 Q8 PySem.F.slot_list_extend PySem.F.type_list_extend GL (jn hN hv hd hcd) (ax he aR hs) hbase hfew hline hs rfl) hsw) λN σ H ⟨env,G,B,β,I,o⟩=>?_
 unfold Cc at o
 by_cases hO:sO env[i]? =true
 case neg=>rw[Px hO] at o;exact o.elim
 rw[Po hO] at o
 obtain⟨ds0,q0⟩:=o6 hO
 obtain⟨p,h1,_,_,_,xs,h5,_⟩:=I.slot i _ q0
 refine⟨_,h1,.inl ⟨rfl,xs,.inl (.inl h5)⟩,?_⟩
 refine⟨env,G,B,β,I,cH o λd β' k v G' H' I' s' m' vo=>?_⟩
 obtain⟨ds,es,q,eg,k⟩:=qJ k
 cases d with
 |list fs=>
  dsimp only at eg
  by_cases hz:ds.length + fs.length<=sizeLine
  case neg=>rw[Px hz] at eg;cases eg
  rw[Po hz] at eg
  cases eg
  obtain⟨p',g1,_,_,_,ys,g5,g6⟩:=I'.slot i _ q
  rw[h1] at g1;cases g1
  obtain⟨pb,zs,rfl,hq,rz⟩:=(vo.brw I.boxThere).list I'.sub
  refine⟨p,pb,ys,zs,rfl,rfl,g5,hq,by rw[g6.len,rz.len];exact hz,?_⟩
  exact k B G' _ σ (I'.write hb q h1 λH2 e2 s2=>⟨_,e2,g6.append rz⟩) s'
 |_=>cases eg
def yb (i:Nat)(Le Li:@IO)(fe fi:VF D):SF:=λenv β=>toS (fe @Ps β) λd β1=>if sO (a8 Le env)[i]? =true then toS (fi @Ps β1) λk β2=>IX i (a8 (Le ++ Li) env) β2 λds=>match k with
 | .int j=>(wM ds.length j).map λn=>ds.set n d
 |_=>none else .bad
theorem HM (i:Nat){x:Str}{spos:Pos}(hb:∀j,Γ.br j=false)(he:SE X Γ E e f La .v)(hi:SE X Γ E a fa Lb mb)(hN:X.N[i]? =some x:=by rfl)(hv:yM X.env.scope x:=by first |exact @TM |exact Or.inr (@TM) |exact Or.inr (Or.inr rfl))(hd:@FM:=by decide)
  (hcd:@TF:=by decide)
  (hA:∀v,assign (.Subscript @TW a spos) X.env v=(do
   let ov <-holding [v] (eval @TW X.env)
   let iv <-holding [v,ov] (eval a X.env)
   standAt spos
   holding [v,ov,iv] (setItem ov iv v)
   release [v,ov,iv] []):=by intro _;rfl)
  (hs:swapsWithSole [.Subscript @TW a spos] e pos.line X.env=pure false:=by rfl) (hw:swappedStores [.Subscript @TW a spos] e X.env=pure none:=by rfl)
  (h1:(assignEach [.Subscript @TW a spos] X.env).map (·.2)= [assign (.Subscript @TW a spos) X.env]:=by rfl) :
  SS X Γ E (.Assign [.Subscript @TW a spos] e pos) (yb i La Lb f fa):=by
 refine PS.post (rT he (wm (jn hN hv hd hcd) hi set_list hA) hs hw h1) λN σ H ⟨env,G,B,β,I,o⟩=>?_
 refine⟨env,G,B,β,I,cH o λd β1 o v G1 H1 I1 s1 m1 vo=>?_⟩
 by_cases hO:sO (a8 La env)[i]? =true
 case neg=>rw[Px hO] at o;exact o.elim
 rw[Po hO] at o
 obtain⟨ds0,q0⟩:=o6 hO
 obtain⟨p,h1,_,_,_,xs,h5,_⟩:=I1.slot i _ q0
 refine⟨_,h1,a8 La env,G1,B,β1,I1,?_⟩
 rw[dh]
 refine cH o λk β2 o w G2 H2 I2 s2 m2 vi=>?_
 rw[<-bO] at I2
 obtain⟨ds,es,q,eg,o⟩:=qJ o
 cases k with
 |int j=>
  dsimp only at eg
  obtain rfl:=(vi.brw I1.boxThere).int
  obtain⟨p',g1,_,_,_,ys,g5,g6⟩:=I2.slot i _ q
  rw[h1] at g1;cases g1
  cases en:wM ds.length j with
  |none=>rw[en] at eg;cases eg
  |some n=>
   rw[en] at eg
   cases eg
   have vo:Rp Γ.K G1 v d:=vo
   refine⟨p,ys,j,n,rfl,rfl,g5,by rw[g6.len];exact en,?_⟩
   exact o B G2 _ σ (I2.write hb q h1 λH3 e3 s3=>⟨_,e3,g6.set (vo.mono s2) n⟩) (s1.trans s2)
 |_=>cases eg
end
section
variable {K:Frag}{X:Cx}
def uX {g:Int->Int->V}{gd:D->@Os}(h:∀dx dy d,gd dx dy=some d->∃i j,dx=.int i/\dy=.int j/\∀G,Rp K G (g i j) d):pk K (zI g) gd .v:=by
 intro B G H x y dx dy d Q s hB bx by' e k
 obtain⟨i,j,rfl,rfl,r⟩:=h _ _ _ e
 obtain rfl:=bx.int
 obtain rfl:=by'.int
 exact⟨i,j,rfl,rfl,k _ G H (Ext.refl s) (r G)⟩
def xR {C:Int->Int->Prop}{g:Int->Int->V}{gd:D->@Os}(h:∀dx dy d,gd dx dy=some d->∃i j,dx=.int i/\dy=.int j/\C i j/\∀G,Rp K G (g i j) d):pk K (rI C g) gd .v:=by
 intro B G H x y dx dy d Q s hB bx by' e k
 obtain⟨i,j,rfl,rfl,c,r⟩:=h _ _ _ e
 obtain rfl:=bx.int
 obtain rfl:=by'.int
 exact⟨i,j,rfl,rfl,c,k _ G H (Ext.refl s) (r G)⟩
def gI (c:Int->Int->Bool)(g:Int->Int->D):D->@Os
 | .int i,.int j=>if c i j=true then some (g i j) else none
 |_,_=>none
def yL (g:Int->Int->D):D->@Os
 | .int i,.int j=>some (g i j)
 |_,_=>none
def xA {c:Int->Int->Bool}{g:Int->Int->D}{dx dy d:D}(h:gI c g dx dy=some d):∃i j,dx=.int i/\dy=.int j/\c i j=true/\d=g i j:=by
 unfold gI at h
 split at h
 ·split at h
  ·cases h;exact⟨_,_,rfl,rfl,by assumption,rfl⟩
  ·cases h
 ·cases h
def mh {g:Int->Int->D}{dx dy d:D}(h:yL g dx dy=some d):∃i j,dx=.int i/\dy=.int j/\d=g i j:=by
 unfold yL at h
 split at h
 ·cases h;exact⟨_,_,rfl,rfl,rfl⟩
 ·cases h
def C9:D->@Os:=gI (λ_ j=>decide (0 < j) && decide (j < 1073741824)) λi j=>.int (i / j)
def Hx:pk K (rI He λi j=>.int (i / j)) C9 .v:=xR λdx dy d h=>by obtain⟨i,j,rfl,rfl,c,rfl⟩:=xA h;exact⟨i,j,rfl,rfl,by simpa[He] using c,λ_=>.int _⟩
def nU:D->@Os:=gI (λ_ j=>decide (0 < j)) λi j=>.int (i % j)
def uT:pk K (rI (λ_ j=>0 < j) λi j=>.int (i % j)) nU .v:=xR λdx dy d h=>by obtain⟨i,j,rfl,rfl,c,rfl⟩:=xA h;exact⟨i,j,rfl,rfl,by simpa using c,λ_=>.int _⟩
def GP (i j:Int):Bool:=decide (0<=j) && decide (j<=1000000) && decide (i.natAbs < 2 ^ 64)
def Dp:D->@Os:=gI GP λi j=>.int (i ^ j.toNat)
def A5 {i j:Int}(h:GP i j=true):DD i j:=by
 unfold GP at h
 simp only[PM,PL] at h
 exact⟨h.1.1,h.1.2,h.2⟩
def LM:pk K (rI DD λi j=>.int (i ^ j.toNat)) Dp .v:=xR λdx dy d h=>by obtain⟨i,j,rfl,rfl,c,rfl⟩:=xA h;exact⟨i,j,rfl,rfl,A5 c,λ_=>.int _⟩
def J4:D->@Os:=gI GP λi j=>.int (i * 2 ^ j.toNat)
def Lv:pk K (rI DD λi j=>.int (i * 2 ^ j.toNat)) J4 .v:=xR λdx dy d h=>by obtain⟨i,j,rfl,rfl,c,rfl⟩:=xA h;exact⟨i,j,rfl,rfl,A5 c,λ_=>.int _⟩
def DO:D->@Os:=yL λi j=>.int (Builtin.bitAnd i j)
def L3:pk K (zI λi j=>.int (Builtin.bitAnd i j)) DO .v:=uX λdx dy d h=>by obtain⟨i,j,rfl,rfl,rfl⟩:=mh h;exact⟨i,j,rfl,rfl,λ_=>.int _⟩
def MX:D->@Os:=yL λi j=>.int (Builtin.bitOr i j)
def LX:pk K (zI λi j=>.int (Builtin.bitOr i j)) MX .v:=uX λdx dy d h=>by obtain⟨i,j,rfl,rfl,rfl⟩:=mh h;exact⟨i,j,rfl,rfl,λ_=>.int _⟩
def FX:D->@Os:=yL λi j=>.bool (decide (i < j))
def EO:D->@Os:=yL λi j=>.bool (decide (i<=j))
def Lj:D->@Os:=yL λi j=>.bool (decide (j < i))
def KW:pk K (zI λi j=>.bl (decide (i < j))) FX .v:=uX λdx dy d h=>by obtain⟨i,j,rfl,rfl,rfl⟩:=mh h;exact⟨i,j,rfl,rfl,λ_=>.bl _⟩
def K0:pk K (zI λi j=>.bl (decide (i<=j))) EO .v:=uX λdx dy d h=>by obtain⟨i,j,rfl,rfl,rfl⟩:=mh h;exact⟨i,j,rfl,rfl,λ_=>.bl _⟩
def OO:pk K (zI λi j=>.bl (decide (j < i))) Lj .v:=uX λdx dy d h=>by obtain⟨i,j,rfl,rfl,rfl⟩:=mh h;exact⟨i,j,rfl,rfl,λ_=>.bl _⟩
mutual
theorem AA:∀d:D,d.canLay0=true->DG d=true
 | .none,_=>rfl
 | .bool _,_=>rfl
 | .int _,_=>rfl
 | .str _,_=>rfl
 | .list ds,h=>by simp only[PyData.canLay0] at h;simp only[DG];exact rQ ds h
 | .tuple ds,h=>by simp only[PyData.canLay0] at h;simp only[DG];exact rQ ds h
 | .dict _,h=>by simp[PyData.canLay0] at h
theorem rQ:∀ds:List D,PyData.canLayAll0 ds=true->tx ds=true
 | [],_=>rfl
 |d :: ds,h=>by
  simp only[PyData.canLayAll0,PM] at h
  simp only[tx,PM]
  exact⟨AA d h.1,rQ ds h.2⟩
end
def ve {d:D}(h:SeqAt.shaped d=true):DG d=true:=AA d (Rg h)
theorem Az:∀{ds:List D},(ds.all SeqAt.shaped)=true->tx ds=true
 | [],_=>rfl
 |d :: ds,h=>by
  rw[all_cons,PM] at h
  simp only[tx,PM]
  exact⟨ve h.1,Az h.2⟩
def cv (neg:Bool)(x y:D):Option D:=if (SeqAt.shaped x && SeqAt.shaped y)=true then some (.bool (if neg then !PyData.eqv x y else PyData.eqv x y)) else none
def fu {neg:Bool}:pk K (Jg K neg) (cv neg) .v:=by
 intro B G H x y dx dy d Q s hB bx by' e k
 unfold cv at e
 split at e
 ·rename_i h
  rw[PM] at h
  cases e
  exact⟨dx,dy,(bx.rpH s).rep (ve h.1),(by'.rpH s).rep (ve h.2),h.1,h.2,k _ G H (Ext.refl s) (.bl _)⟩
 ·cases e
def pB (neg:Bool)(x y:D):Option D:=match nJ y with
 |some ds=>if (SeqAt.shaped x && ds.all SeqAt.shaped)=true then some (.bool (if neg then !(ds.any λe=>PyData.eqv e x) else ds.any λe=>PyData.eqv e x)) else none
 |none=>none
theorem nV.seq {B:@J_}{G H:Hp}{v:V}{d:D}{ds:List D}(h:nV K B G H v d)(e:nJ d=some ds)(s:av G H):∃a xs,v=.ref a/\(gk K H a xs\/gj K H a xs)/\@Td:=by
 cases d with
 |list l=>cases e;obtain⟨a,xs,e,q,r⟩:=h.list s;exact⟨a,xs,e,.inl (.inl q),r⟩
 |tuple l=>cases e;obtain⟨a,xs,e,q,r⟩:=h.tuple s;exact⟨a,xs,e,.inr q,r⟩
 |_=>cases e
theorem vm {neg:Bool}:pk K (JV K neg) (pB neg) .v:=by
 intro B G H x y dx dy d Q s hB bx by' e k
 unfold pB at e
 cases q:nJ dy with
 |none=>rw[q] at e;cases e
 |some ds=>
  rw[q] at e
  dsimp only at e
  split at e
  ·rename_i h
   rw[PM] at h
   cases e
   obtain⟨a,xs,rfl,hq,r⟩:=by'.seq q s
   refine⟨a,xs,dx,ds,rfl,hq,(r.mono s).reps (Az h.2),(bx.rpH s).rep (ve h.1),h.1,λe he=>Qm.mp h.2 e he,k _ G H (Ext.refl s) (.bl _)⟩
  ·cases e
def Ia:D->Bool
 | .none=>true
 |_=>false
theorem cI.ints {G:Hp}:∀ns:@KF,cI K G (ns.map V.int) (ns.map int)
 | []=>.nil
 |n :: ns=>.cons @Ix (cI.ints ns)
theorem Am.noNone {G:Hp}{kvs:List (Key×V)}{d:D}{r:List (D×D)}(h:Am K G kvs ((.none,d) :: r)):False:=by
 generalize e:(PyData.none,d) :: r=l at h
 cases h with
 |nil=>cases e
 | @cons k x xs d' ds _ _=>
  injection e with e1 _
  injection e1 with e2 _
  cases k <;> cases e2
theorem yX.noNone {G:Hp}{kvs:@On}{d:D}{r:List (D×D)}(h:yX K G kvs ((.none,d) :: r)):False:=by
 generalize e:(PyData.none,d) :: r=l at h
 cases h with
 |nil=>cases e
 | @cons k x xs d' ds _ _=>
  injection e with e1 _
  injection e1 with e2 _
  cases e2
def nV.scr {B:@J_}{G H:Hp}{v:V}{ds:List D}(h:nV K B G H v (.dict [(.none,.list ds)]))(s:av G H):∃a xs,v=.ref a/\gk K H a xs/\@Td:=by
 rcases h with h | ⟨a,rfl,n,h⟩
 ·cases h with
  | @scr a ns q=>exact⟨a,_,rfl,s.seq q,cI.ints ns⟩
  |dK _ r=>exact r.noNone.elim
  |dT _ r=>exact r.noNone.elim
 ·rcases h with⟨_,_,r⟩ | ⟨_,_,r⟩
  ·exact r.noNone.elim
  ·exact r.noNone.elim
def bu:D->@Os
 | .list ds,.int i=>kq ds i
 | .tuple ds,.int i=>kq ds i
 | .str z,.int i=>if z.length<=sizeLine then (kq z.cps.toList i).map λc=>.str ⟨#[c]⟩ else none
 | .dict [(.none,.list ds)],.int i=>kq ds i
 |_,_=>none
theorem u9 {G:Hp}{xs:List V}{ds:List D}{i:Int}{d:D}(r:@Td)(h:kq ds i=some d):∃x,kq xs i=some x/\Rp K G x d:=by
 unfold kq at h ⊢
 rw[r.len]
 cases e:wM ds.length i with
 |none=>rw[e] at h;cases h
 |some j=>rw[e] at h;exact r.at h
theorem bK:pk K (OX K) bu .v:=by
 intro B G H x y dx dy d Q s hB bx by' e k
 cases dx with
 |list ds=>
  cases dy with
  |int i=>
   obtain rfl:=by'.int
   obtain⟨a,xs,rfl,q,r⟩:=bx.list s
   obtain⟨v,ev,rv⟩:=u9 r e
   exact .inl ⟨a,xs,i,v,rfl,rfl,.inl q,ev,k _ G H (Ext.refl s) rv⟩
  |_=>cases e
 |tuple ds=>
  cases dy with
  |int i=>
   obtain rfl:=by'.int
   obtain⟨a,xs,rfl,q,r⟩:=bx.tuple s
   obtain⟨v,ev,rv⟩:=u9 r e
   exact .inr (.inl ⟨a,xs,i,v,rfl,rfl,q,ev,k _ G H (Ext.refl s) rv⟩)
  |_=>cases e
 |str z=>
  cases dy with
  |int i=>
   obtain rfl:=by'.int
   obtain rfl:=bx.str
   simp only[bu] at e
   split at e
   ·rename_i hz
    cases q:kq z.cps.toList i with
    |none=>rw[q] at e;cases e
    |some c=>rw[q] at e;cases e;exact .inr (.inr ⟨z,i,c,rfl,rfl,hz,q,k _ G H (Ext.refl s) (.str _)⟩)
   ·cases e
  |_=>cases e
 |none=>cases dy <;> cases e
 |bool b=>cases dy <;> cases e
 |int b=>cases dy <;> cases e
 |dict b=>
  obtain⟨ds,i,rfl,rfl,e⟩:∃ds i,b= [(.none,.list ds)]/\dy=.int i/\kq ds i=some d:=by
   unfold bu at e
   split at e
   ·contradiction
   ·contradiction
   ·contradiction
   ·rename_i h;cases h;exact⟨_,_,rfl,rfl,e⟩
   ·cases e
  obtain rfl:=by'.int
  obtain⟨a,xs,rfl,q,r⟩:=bx.scr s
  obtain⟨v,ev,rv⟩:=u9 r e
  exact .inl ⟨a,xs,i,v,rfl,rfl,q,ev,k _ G H (Ext.refl s) rv⟩
def eS:@Os
 | .list ds=>some (.int ds.length)
 | .tuple ds=>some (.int ds.length)
 | .str z=>if z.length<=sizeLine then some (.int z.length) else none
 | .dict [(.none,.list ds)]=>some (.int ds.length)
 |_=>none
def N8 (K:Frag):@KM:=λxs H Q=>∃x n,xs= [x]/\Mq K x H n/\Q @Ix H
def lX:C4 K (λx=>N8 K [x]) eS .v:=by
 intro B G H x dx d Q s hB bx e k
 unfold eS at e
 split at e
 ·cases e;obtain⟨a,xs,rfl,q,r⟩:=bx.list s;exact⟨_,_,rfl,.inl ⟨xs,.inl q,r.len.symm⟩,k _ G H (Ext.refl s) (.int _)⟩
 ·cases e;obtain⟨a,xs,rfl,q,r⟩:=bx.tuple s;exact⟨_,_,rfl,.inr ⟨xs,q,r.len.symm⟩,k _ G H (Ext.refl s) (.int _)⟩
 ·obtain rfl:=bx.str
  split at e
  ·rename_i hz;cases e;exact⟨_,_,rfl,⟨hz,rfl⟩,k _ G H (Ext.refl s) (.int _)⟩
  ·cases e
 ·cases e;obtain⟨a,xs,rfl,q,r⟩:=bx.scr s;exact⟨_,_,rfl,.inl ⟨xs,q,r.len.symm⟩,k _ G H (Ext.refl s) (.int _)⟩
 ·cases e
def gL:@Os
 | .list ds=>some (.tuple ds)
 | .tuple ds=>some (.tuple ds)
 |_=>none
theorem mW:C4 K (λx H Q=>∃p ys,[x]= [.ref p]/\((gk K H p ys/\∀l,H l=none->Q (.ref l) (upd H l (.tup ys)))\/(gj K H p ys/\Q (.ref p) H))) gL .v:=by
 intro B G H x dx d Q s hB bx e k
 cases dx with
 |list ds=>
  cases e
  obtain⟨a,xs,rfl,q,r⟩:=bx.list s
  refine⟨a,xs,rfl,.inl ⟨.inl q,λl hl=>?_⟩⟩
  have x:=Ext.new s (o:=.tup xs) hl
  exact k _ _ _ x (.tup (.inl (.inl aw)) (r.mono x.gg))
 |tuple ds=>
  cases e
  rcases bx with bx | ⟨_,_,_,z⟩
  ·cases bx with
   | @tup a xs _ hq r=>exact⟨a,xs,rfl,.inr ⟨hq.grow s.grow,k _ G H (Ext.refl s) (.tup hq r)⟩⟩
  ·exact z.elim
 |_=>cases e
def AG:@Os
 | .list ds=>some (.list ds)
 | .tuple ds=>some (.list ds)
 |_=>none
def D7:C4 K (λx H Q=>∃p ys,[x]= [.ref p]/\(gk K H p ys\/gj K H p ys)/\∀l,H l=none->Q (.ref l) (upd H l (.lst ys))) AG .w:=by
 intro B G H x dx d Q s hB bx e k
 obtain⟨ds,e1,rfl⟩:∃ds,nJ dx=some ds/\d=.list ds:=by
  cases dx <;> cases e <;> exact⟨_,rfl,rfl⟩
 obtain⟨a,xs,rfl,hq,r⟩:=bx.seq e1 s
 refine⟨a,xs,rfl,hq,λl hl=>?_⟩
 exact k _ _ _ (Ext.own s (o:=.lst xs) hl) ⟨l,rfl,hl,s.free hl,xs,aw,r⟩
def lZ:List D->Option (List Bool)
 | []=>some []
 | .bool b :: ds=>(lZ ds).map (b :: ·)
 |_=>none
theorem ub {G:Hp}:∀{ds:List D} {bs:List Bool} {xs:List V},lZ ds=some bs->@Td->xs=bs.map V.bl
 | [],bs,xs,e,r=>by cases e;cases r;rfl
 | .bool b :: ds,bs,xs,e,r=>by
  cases r with
  |cons r1 r2=>
   cases r1
   simp only[lZ] at e
   cases q:lZ ds with
   |none=>rw[q] at e;cases e
   |some cs=>rw[q] at e;cases e;rw[ub q r2];rfl
 | .none :: _,_,_,e,_=>by cases e
 | .int _ :: _,_,_,e,_=>by cases e
 | .str _ :: _,_,_,e,_=>by cases e
 | .list _ :: _,_,_,e,_=>by cases e
 | .tuple _ :: _,_,_,e,_=>by cases e
 | .dict _ :: _,_,_,e,_=>by cases e
def iC (f:List Bool->Bool):@Os
 | .list ds=>(lZ ds).map λbs=>.bool (f bs)
 |_=>none
theorem qQ {f:List Bool->Bool}:C4 K (λx=>Ae K f [x]) (iC f) .v:=by
 intro B G H x dx d Q s hB bx e k
 cases dx with
 |list ds=>
  simp only[iC] at e
  cases q:lZ ds with
  |none=>rw[q] at e;cases e
  |some bs=>
   rw[q] at e
   cases e
   obtain⟨a,xs,rfl,hq,r⟩:=bx.list s
   obtain rfl:=ub q r
   exact⟨a,bs,rfl,.inl hq,k _ G H (Ext.refl s) (.bl _)⟩
 |_=>cases e
def IS:R2:=λx y H Q=>∃l b xs zs,x=.ref l/\y=.ref b/\Rd H l (.lst xs)/\Rd H b (.lst zs)/\xs.length + zs.length<=sizeLine/\∀p,H p=none->Q (.ref p) (upd H p (.lst (xs ++ zs)))
def gc:mQ X (binaryOp .Add) IS:=by
 intro pins s σ H x y v u Q I rx ry h
 obtain⟨l,b,xs,zs,rfl,rfl,hH,hB,hz,q⟩:=h
 cases rx
 cases ry
 obtain⟨z,its,n,r,hl,e⟩:=I.lstR hH
 obtain⟨z2,its2,n2,r2,hl2,e2⟩:=I.lstR hB
 refine PySem.P.add_list e e2 ?_ (by rw[PJ,PJ];omega)
 have ea:its.toArray ++ its2.toArray=(its ++ its2).toArray:=by simp
 rw[ea]
 exact⟨.ref _,_,I.lnew (t':=s.toks) (r.append r2) (by rw[P5];omega),rfl,q _ I.fresh⟩
def dt:D->@Os
 | .list a,.list b=>if a.length + b.length<=sizeLine then some (.list (a ++ b)) else none
 |_,_=>none
def mz:pk K IS dt .w:=by
 intro B G H x y dx dy d Q s hB bx by' e k
 cases dx <;> cases dy <;> first | (cases e;done) |skip
 rename_i a b
 simp only[dt] at e
 split at e
 ·rename_i hz
  cases e
  obtain⟨p,xs,rfl,q1,r1⟩:=bx.list s
  obtain⟨p2,ys,rfl,q2,r2⟩:=by'.list s
  refine⟨p,p2,xs,ys,rfl,rfl,q1,q2,by rw[r1.len,r2.len];exact hz,λl hl=>?_⟩
  exact k _ _ _ (Ext.own s (o:=.lst (xs ++ ys)) hl) ⟨l,rfl,hl,s.free hl,_,aw,r1.append r2⟩
 ·cases e
def b8:D->@Os:=yL λi j=>.int (i + j)
def jd:pk K (zI λi j=>.int (i + j)) b8 .v:=uX λdx dy d h=>by obtain⟨i,j,rfl,rfl,rfl⟩:=mh h;exact⟨i,j,rfl,rfl,λ_=>.int _⟩
def cR:D->@Os:=gI (λi j=>(decide (-(2 ^ 64) < i) && decide (i < 2 ^ 64)) || (decide (-(2 ^ 64) < j) && decide (j < 2 ^ 64))) λi j=>.int (i * j)
def kR:pk K (rI Dk λi j=>.int (i * j)) cR .v:=xR λdx dy d h=>by obtain⟨i,j,rfl,rfl,c,rfl⟩:=xA h;exact⟨i,j,rfl,rfl,by simpa[Dk] using c,λ_=>.int _⟩
def FA:D->@Os
 | .list a,.int k=>if -(2 ^ 63)<=k/\k < 2 ^ 63/\a.length * k.toNat<=sizeLine then some (.list (List.replicate k.toNat a).flatten) else none
 |_,_=>none
def Ks {a b:Expr}{fa fb:VF D}{La Lb:@IO}{mb:Md}{Γ:Fx}{E:XK}{pos:Pos}(ha:SE X Γ E a fa La .w)(hb:SE X Γ E b fb Lb mb):SE X Γ E (.BinOp a .Mult b pos) (f2 fa fb FA) (La ++ Lb) .w:=by
 refine PE.post' (qi E6 ha hb) λσ H Q ⟨env,G,B,β,I,o⟩=>?_
 refine⟨env,G,B,β,I,o.bnd.imp λd1 β1 h x G1 H1 I1 s1 m1 vx=>⟨a8 La env,G1,B,β1,I1,?_⟩⟩
 rw[dh]
 refine h.bnd.imp λd2 β2 h y G2 H2 I2 s2 m2 vy=>?_
 obtain⟨d,e,k⟩:=h.of
 rw[<-bO] at I2
 obtain⟨p,rfl,p1,p2,p3⟩:=vx
 have by':=vy.brw I1.boxThere
 cases d1 <;> cases d2 <;> first | (cases e;done) |skip
 rename_i l j
 obtain rfl:=by'.int
 simp only[FA] at e
 split at e
 ·rename_i hz
  cases e
  obtain⟨xs,q,r⟩:=p3
  obtain⟨q1,q2,q3,q4⟩:=I.fresh p1
  have r2:=r.mono s2
  refine⟨p,j,xs,rfl,rfl,m2.1 _ _ q q3,hz.1,hz.2.1,by rw[r.len];exact hz.2.2,λl hl=>?_⟩
  have x:=Ext.own I2.sub (o:=.lst (List.replicate j.toNat xs).flatten) hl
  exact k _ _ _ (I2.ext x) ((s1.trans s2).trans x.gg) ((m1.trans m2).trans (x.hh.mov B)) ⟨l,rfl,gV (m1.trans m2) I2.boxThere hl,I2.sub.free hl,_,aw,r2.rep⟩
 ·cases e
def pz:@Os
 | .int i=>some (.int (-i))
 |_=>none
theorem yI:C4 K (rU λi=>.int (-i)) pz .v:=by
 intro B G H x dx d Q s hB bx e k
 cases dx with
 |int i=>cases e;obtain rfl:=bx.int;exact⟨i,rfl,k _ G H (Ext.refl s) (.int _)⟩
 |_=>cases e
def Mj:D->String
 | .none=>"NoneType"
 | .bool _=>"bool"
 | .int _=>"int"
 | .str _=>"str"
 | .list _=>"list"
 | .tuple _=>"tuple"
 | .dict _=>"dict"
def D6 (d:D)(T:String):Bool:=Mj d == T || (T == "int" && Mj d == "bool")
def cX:D->Bool
 | .dict ((.none,_) :: _)=>true
 |_=>false
def jk (T:String)(d:D):Option D:=if cX d=true then none else some (.bool (D6 d T))
def OW (K:Frag)(H:Hp)(x:V)(t:String):Prop:=Hq K H x t\/(t="dict"/\∃a kvs,x=.ref a/\H a=some (.dT kvs))
def Mc (K:Frag):@KM:=λxs H Q=>∃x T t b,xs= [x,.ty T]/\OW K H x t/\PySem.W.kitOne K (.type t) (.type T)=some b/\Q (.bl b) H
def Ey:dr X (.builtin "isinstance") (Mc X.K):=by
 intro pins s σ H xs us Q I r h
 obtain⟨x,T,t,b,rfl,ty,e,q⟩:=h
 rcases ty with ty | ⟨rfl,a,kvs,rfl,hk⟩
 ·exact Fj pins s σ H _ us Q I r ⟨x,T,t,b,rfl,ty,e,q⟩
 ·obtain⟨u,c,rfl,rx,rc⟩:=vals2 r
  cases rc
  cases rx
  obtain⟨_,_,_,_,o,_,_,e2,ex,_⟩:=I.hok a _ hk
  exact Qu PySem.W.kitx_dict I.kIn ⟨o,e2,ex.1⟩ e (λz=>nomatch z) λtk=>⟨.bl b,H,I.tok tk,rfl,q⟩
theorem nV.ty {B:@J_}{G H:Hp}{v:V}{d:D}(h:nV K B G H v d)(s:av G H)(n:cX d=false):OW K H v (Mj d):=by
 cases d with
 |none=>obtain rfl:=h.none;exact .inl .non
 |bool b=>obtain rfl:=h.bool;exact .inl (.bl b)
 |int b=>obtain rfl:=h.int;exact .inl (.int b)
 |str b=>obtain rfl:=h.str;exact .inl (.str b)
 |list b=>obtain⟨a,xs,rfl,q,_⟩:=h.list s;exact .inl (.lst (.inl q))
 |tuple b=>obtain⟨a,xs,rfl,q,_⟩:=h.tuple s;exact .inl (.tup q)
 |dict b=>
  rcases h with h | ⟨a,rfl,_,h⟩
  ·cases h with
   |scr _=>cases n
   |dK q _=>exact .inl (.dic (s _ _ q))
   |dT q _=>exact .inr ⟨rfl,_,_,rfl,s _ _ q⟩
  ·rcases h with⟨_,q,_⟩ | ⟨_,q,_⟩
   ·exact .inl (.dic q)
   ·exact .inr ⟨rfl,_,_,rfl,q⟩
theorem Mi {d:D}{T:String}(hT:T∈ ["int","bool","str","list","tuple","dict"]):PySem.W.kitOne K (.type (Mj d)) (.type T)=some (D6 d T):=by
 simp only[Pu,Qz,RF] at hT
 cases d with
 |dict l=>rcases hT with rfl |rfl |rfl |rfl |rfl |rfl <;> rfl
 |none=>rcases hT with rfl |rfl |rfl |rfl |rfl |rfl <;> rfl
 |bool _=>rcases hT with rfl |rfl |rfl |rfl |rfl |rfl <;> rfl
 |int _=>rcases hT with rfl |rfl |rfl |rfl |rfl |rfl <;> rfl
 |str _=>rcases hT with rfl |rfl |rfl |rfl |rfl |rfl <;> rfl
 |list _=>rcases hT with rfl |rfl |rfl |rfl |rfl |rfl <;> rfl
 |tuple _=>rcases hT with rfl |rfl |rfl |rfl |rfl |rfl <;> rfl
def lD {a:Expr}{fa:VF D}{La:@IO}{ma:Md}{Γ:Fx}{E:XK}{pos p p2:Pos}(T:String){y:Str}(hT:T∈ ["int","bool","str","list","tuple","dict"])(hK:X.K=Γ.K)(hg:Gl X "isinstance")(hm:X.mg "isinstance"=none)(hgT:Gl X y)(hmT:X.mg y=none)(hvT:bootBuiltins y=some (.type T))(ha:@Re)
  (hnT:y≠"__name__":=by decide) (hdT:(y == ("__debug__":Str))=false:=by decide)
  (he:starEach [a,.Name y p2] X.env=@S4 :: starEach [.Name y p2] X.env:=by rfl) (he2:starEach [.Name y p2] X.env=(false,eval (.Name y p2) X.env) :: starEach [] X.env:=by rfl) (hpl:(backTo pos (starEach [.Name y p2] X.env)).any (·.1)=false:=by rfl) :
  SE X Γ E (.Call (.Name "isinstance" p) [a,.Name y p2] [] pos) (f1 fa (jk T)) La .v:=by
 refine PE.post' (bB Ey hg hm (@B_) (ax ha (ax (BC hgT hmT hvT (show RelV (.ty T) _ from rfl) hnT hdT) aR he2) he) @A_ @A_ he hpl) λσ H Q ⟨env,G,B,β,I,o⟩=>?_
 refine kX (r:=λx H1 Q=>Mc X.K [x,.ty T] H1 Q) ?_ I o
 intro B G H x dx d Q s hB bx e k
 unfold jk at e
 split at e
 ·cases e
 ·rename_i hn
  cases e
  rw[hK]
  exact⟨x,T,Mj dx,D6 dx T,rfl,bx.ty s (by simpa using hn),Mi hT,k _ G H (Ext.refl s) (.bl _)⟩
def ku (fa fb fc:VF D)(g g':D->@Os):VF D:=λvs β=>(@TX).bnd λx β1=>(fb vs β1).bnd λy β2=>match g x y with
 |some (.bool true)=>(fc vs β2).bnd λz β3=>R.of (g' y z) β3
 |some (.bool false)=>.ok (.bool false) β2
 |_=>.bad
theorem xG {a b c:Expr}{fa fb fc:VF D}{ma mb mc:Md}{Γ:Fx}{E:XK}{pos:Pos}{op op':CmpOp}{r r':R2}{g g':D->@Os}(ho:mQ X (compareOp op) r)(ho':mQ X (compareOp op') r')(pr:pk Γ.K r g .v)(pr':pk Γ.K r' g' .v)(ha:SE X Γ E a fa [] ma)(hb:SE X Γ E b fb [] mb)(hc:SE X Γ E c fc [] mc)
  (hm:lastMarks [op,op'] [b,c]=false:=by with_unfolding_all rfl):SE X Γ E (.Compare a [op,op'] [b,c] pos) (ku fa fb fc g g') [] .v:=by
 refine PE.post' (Fs ho ho' ha hb hc hm) λσ H Q ⟨env,G,B,β,I,o⟩=>?_
 refine two (W:=λx y H2=>r x y H2 λz H3=>∃k,z=.bl k/\(if k=true then pT Γ E fc [] mc σ H3 λw' H4=>r' y w' H4 Q else Q (.bl false) H3)) I (o.bnd.imp λd1 β1 h=>h.bnd.imp λd2 β2 h x y G2 H2 I2 s2 m2 bx by'=>?_)
 obtain⟨cb,ec,h⟩:∃cb,g d1 d2=some (.bool cb)/\Out Γ E (if cb=true then (fc @Ps β2).bnd λz β3=>R.of (g' d2 z) β3 else .ok (.bool false) β2) λd β'=>∀v G' H',SR Γ B G' H' σ (a8 [] env) β'->av G G'->i3 B H H'->VO Γ.K B H G' H' .v d v->Q v H':=by
  split at h
  ·rename_i q;exact⟨true,q,by rw[Po rfl];exact h⟩
  ·rename_i q;exact⟨false,q,by rw[Px PR];exact h⟩
  ·exact h.elim
 refine pr B G2 H2 x y d1 d2 _ _ I2.sub I2.boxThere bx by' ec λv G' H' x' vo=>?_
 cases vo
 refine⟨cb,rfl,?_⟩
 have I3:=I2.ext x'
 cases cb with
 |false=>rw[Px PR] at h;exact p5 (h _ G' H' I3 (s2.trans x'.gg) (m2.trans (x'.mov B)) (.bl false))
 |true=>
  rw[Po rfl] at h
  refine tX ⟨env,G',B,β2,I3,h.bnd.imp λd3 β3 h z G4 H4 I4 s4 m4 vz=>?_⟩
  obtain⟨d,e,k⟩:=h.of
  refine pr' B G4 H4 y z d2 d3 d Q I4.sub I4.boxThere (by'.mono (x'.gg.trans s4) ((x'.mov B).trans m4)) (vz.brw I3.boxThere) e λv G5 H5 x5 vo=>?_
  exact k v G5 H5 (I4.ext x5) (((s2.trans x'.gg).trans s4).trans x5.gg) (((m2.trans (x'.mov B)).trans m4).trans (x5.mov B)) vo
end
def eM.u1 {k:Nat}{A:Around}(r:eM k A):A.units + 100 < cLine:=by have:=r.un;omega
def O3 (N:@KK)(sc:Scope)(NB:@KK)(own:Nat)(ixs:@IO)(scope:Scope):Bool:=
 decide (scope.kind=.function) && (scope.names.all λy=>decide (scope.names.lookup y.1=some y.2)) &&
 (scope.names.all λy=>decide (y.2=.free->(sc.names.lookup y.1=some .cell\/sc.names.lookup y.1=some .free))) && decide NB.Nodup && decide (NB.length=own + ixs.length) &&
 ((List.range ixs.length).all λk=>decide (NB[own + k]? =N[ixs.getD k 0]?) && (match NB[own + k]? with |some x=>decide ((x,NameKind.free)∈scope.names) |none=>true))
def bZ {X:Cx}{NB:@KK}{own:Nat}{ixs:@IO}{scope:Scope}(h:O3 X.N X.env.scope NB own ixs scope=true):dE X NB own ixs scope:=by
 unfold O3 at h
 simp only[PM,Qm,PL,P4] at h
 obtain⟨⟨⟨⟨⟨h1,h3⟩,h4⟩,h5⟩,h6⟩,h7⟩:=h
 refine⟨h1,h3,h4,h5,h6,λk hk=>⟨(h7 k hk).1,λx hx=>?_⟩⟩
 have:=(h7 k hk).2
 rw[hx] at this
 simpa using this
section
variable {X:Cx}{Γ:Fx}{E:XK}{e a b c:Expr}{f fa fb fc:VF D}{L La Lb:@IO}{md ma mb mc:Md}{pos:Pos}{K:Frag}
def tN (fa:VF D)(neg:Bool):VF Bool:=λvs β=>(@TX).bnd λx β1=>.ok (if neg then !Ia x else Ia x) β1
def oT (Γ:Fx)(E:XK)(f:VF (@TK))(L:@IO):TO:=λσ H Q=>∃env G B β,@G_/\
 Out Γ E (f @Ps β) λd β'=>∀G' H',SR Γ B G' H' σ @SX β'->av G G'->i3 B H H'->Q d H'
def Lm (X:Cx)(Γ:Fx)(E:XK)(e:Option Expr)(f:VF (@TK))(L:@IO):Prop:=PO X e (oT Γ E f L)
def AO:Lm X Γ E none (λ_ β=>.ok none β) []:=λpins s σ H Q I ⟨env,G,B,β,J,o⟩=>Il pins s σ H Q I (o G H J (av.refl _) (i3.refl _ _))
def G6 (fa:VF D):VF (@TK):=λvs β=>(@TX).bnd λx β1=>match x with
 | .int i=>.ok (some i) β1
 |_=>.bad
theorem Bz (ha:@Re):Lm X Γ E (some a) (G6 fa) La:=λpins s σ H Q I ⟨env,G,B,β,J,o⟩=>by
 refine HA ha pins s σ H Q I ⟨env,G,B,β,J,o.bnd.imp λd1 β1 h x G1 H1 I1 s1 m1 vx=>?_⟩
 cases d1 with
 |int i=>exact⟨i,(vx.brw J.boxThere).int,h G1 H1 I1 s1 m1⟩
 |_=>exact h.elim
def cutD (xs:List D)(lo hi:@TK):List D:=(xs.drop (HT.eJ xs.length 0 lo)).take (HT.eJ xs.length xs.length hi - HT.eJ xs.length 0 lo)
def Bu {G:Hp}{xs:List V}{ds:List D}(r:@Td)(lo hi:@TK):cI K G (sS xs lo hi) (cutD ds lo hi):=by
 unfold sS cutD
 rw[r.len]
 exact (r.drop _).take _
def Nc (fa:VF D)(fl fh:VF (@TK)):VF D:=λvs β=>(@TX).bnd λx β1=>(fl vs β1).bnd λl β2=>(fh vs β2).bnd λh β3=>match x with
 | .list ds=>.ok (.list (cutD ds l h)) β3
 |_=>.bad
theorem DY {lo hi:Option Expr}{fl fh:VF (@TK)}{Ll Lh:@IO}{p2:Pos}(hK:X.K=Γ.K)(ha:@Re)(hl:Lm X Γ E lo fl Ll)(hh:Lm X Γ E hi fh Lh):SE X Γ E (.Subscript a (.Slice lo hi none p2) pos) (Nc fa fl fh) (La ++ Ll ++ Lh) .w:=by
 refine PE.post' (xq Ie ha hl hh) λσ H Q ⟨env,G,B,β,I,o⟩=>?_
 refine⟨env,G,B,β,I,o.bnd.imp λd1 β1 h x G1 H1 I1 s1 m1 vx=>⟨a8 La env,G1,B,β1,I1,?_⟩⟩
 rw[dh]
 refine h.bnd.imp λl β2 h G2 H2 I2 s2 m2=>⟨a8 Ll (a8 La env),G2,B,β2,I2,?_⟩
 rw[dh,dh]
 refine h.bnd.imp λu β3 h G3 H3 I3 s3 m3=>?_
 rw[<-bO,<-bO,<-QN] at I3
 have bx:=((vx.brw I.boxThere).mono s2 m2).mono s3 m3
 cases d1 with
 |list ds=>
  obtain⟨p,xs,rfl,hq,r⟩:=bx.list I3.sub
  rw[hK]
  refine⟨p,xs,rfl,.inl hq,λq hn=>?_⟩
  have x:=Ext.own I3.sub (o:=.lst (sS xs l u)) hn
  exact h _ _ _ (I3.ext x) ((s1.trans s2).trans s3) (((m1.trans m2).trans m3).trans (x.mov B)) ⟨q,rfl,gV ((m1.trans m2).trans m3) I3.boxThere hn,I3.sub.free hn,_,aw,Bu r l u⟩
 |_=>exact h.elim
def Jm:pk K (λx y H Q=>∃i j,[x,y]= [.int i,.int j]/\Q (.int (if j > i then j else i)) H) (yL λi j=>.int (if j > i then j else i)) .v:=by
 intro B G H x y dx dy d Q s hB bx by' e k
 obtain⟨i,j,rfl,rfl,rfl⟩:=mh e
 obtain rfl:=bx.int
 obtain rfl:=by'.int
 exact⟨i,j,rfl,k _ G H (Ext.refl s) (.int _)⟩
def Jt:pk K (λx y H Q=>∃i j,[x,y]= [.int i,.int j]/\Q (.int (if j < i then j else i)) H) (yL λi j=>.int (if j < i then j else i)) .v:=by
 intro B G H x y dx dy d Q s hB bx by' e k
 obtain⟨i,j,rfl,rfl,rfl⟩:=mh e
 obtain rfl:=bx.int
 obtain rfl:=by'.int
 exact⟨i,j,rfl,k _ G H (Ext.refl s) (.int _)⟩
end
structure i4 (K:Frag)(mg:@Fa)(x:Str)(st:Stmt)(ps:@KK)(f:Addr)(fd:FuncData):Prop where
 mg:mg x=some (.ref f)
 F:C7 K x x st f fd
 b:Binds K fd ps []
structure Exc (K:Frag)(mg:@Fa)(ca:Str->Addr)(x:Str):Prop where
 mg:mg x=some (.ref (ca x))
 ex:PySem.W.excIn K (ca x) @S6 "ValueError.__new__"=true
def Exc.ca {K:Frag}{mg:@Fa}{ca:Str->Addr}{x:Str}(h:Exc K mg ca x):ca x=ca x:=rfl
structure jh (mg:@Fa):Prop where
 len:mg "len"=none
 range:mg "range"=none
 enumerate:mg "enumerate"=none
 zip:mg "zip"=none
 min:mg "min"=none
 max:mg "max"=none
 sum:mg "sum"=none
 abs:mg "abs"=none
 sorted:mg "sorted"=none
 reversed:mg "reversed"=none
 int:mg "int"=none
 str:mg "str"=none
 bool:mg "bool"=none
 list:mg "list"=none
 tuple:mg "tuple"=none
 dict:mg "dict"=none
 set:mg "set"=none
 isinstance:mg "isinstance"=none
 repr:mg "repr"=none
 any:mg "any"=none
 all:mg "all"=none
 divmod:mg "divmod"=none
inductive FB where
 |ok (d:D) (fresh:Bool) (β:Int)
 |bad
def MI (K:Frag)(n:Nat)(F:@SN):Sp:=λvs H Q _=>∃b rest G ds β,vs=.ref b :: rest/\H b=some (.lst [.int β])/\G b=none/\av G H/\ds.length=n/\cI K G rest ds/\match F ds β with
 | .ok d fr β'=>∀v G' H',i3 (some b) H H'->H' b=some (.lst [.int β'])->av G G'->av G' H'->(∀c,Mx H c->G c=none->G' c=none)->FV K H G' H' fr d v->Q v H'
 | .bad=>False
structure kL (P:Program)(w:World)(K:Frag)(mg:@Fa)(base:Heap)(x:Str)(ps:@KK)(k:Nat)(F:@SN):Prop where
 ex:∃f fd,mg x=some (.ref f)/\PySem.W.keepIn K (.ref f)=true/\Binds K fd ps []/\ie P w K mg base (o5 P w) k f fd ps (MI K (ps.length - 1) F)
 len:∀ds β,F ds β≠.bad->ds.length=ps.length - 1
def z5 (vs:List Nv)(i:Nat):Bool:=match vs[i]? with
 |some .bx=>true
 |_=>false
def i5 (i:Nat)(F:@SN)(fr:@Pi):VF D:=λvs β=>if z5 vs i=true then (fr vs β).bnd λds β1=>match F ds β1 with
 | .ok d _ β2=>.ok d β2
 | .bad=>.bad else .bad
def NK (i:Nat)(F:@SN)(fr:@Pi):VF D:=λvs β=>if z5 vs i=true then (fr vs β).bnd λds β1=>match F ds β1 with
 | .ok d true β2=>.ok d β2
 |_=>.bad else .bad
section
variable {X:Cx}{Γ:Fx}{E:XK}{e a b c:Expr}{f fa fb fc:VF D}{L La Lb:@IO}{md ma mb mc:Md}{pos:Pos}{K:Frag}{es:@TH}{fr:@Pi}
def Ht {env:En}{i:Nat}(h:z5 @Ps i=true):env[i]? =some .bx:=by
 unfold z5 at h
 split at h
 ·exact MG (by assumption)
 ·cases h
def HF {env:En}{i j:Nat}{d:D}(h:(ip env i)[j]? =some (.br d)):env[j]? =some (.br d):=by
 unfold ip at h
 split at h
 ·rename_i d' e
  by_cases z:i=j
  ·subst z
   rw[PY (PN.mp e).1] at h;cases h
  ·rw[PZ z] at h;exact h
 ·exact h
theorem Ku {L:@IO}{env:En}{j:Nat}{d:D}(h:(@SX)[j]? =some (.br d)):env[j]? =some (.br d):=by
 unfold a8 at h
 induction L generalizing env with
 |nil=>exact h
 |cons i L ih=>exact HF (ih h)
def SR.calledB {p:Addr}{β β':Int}{G1 H1 G2 H2:Hp}{σ:St}{env:En}(I1:SR Γ (some p) G1 H1 σ env β)(h:i3 (some p) H1 H2)(hp:H2 p=some (.lst [.int β']))(g:av G1 G2)(s:av G2 H2)(n:∀b,Mx H1 b->G1 b=none->G2 b=none):SR Γ (some p) G2 H2 σ env β':=by
 obtain⟨b1,b2,b3⟩:=I1.box p rfl
 refine⟨s,I1.old.trans g,λb n1 n2=>n b (I1.thereM n1) (I1.new b n1 n2),λb o e np=>z6 (I1.keep b o e np) h λz=>?_,λb hb=>?_,I1.fix,λb e=>?_,I1.len,λi t e=>?_,I1.sep⟩
 ·cases z
  rcases b3 with b3 |b3
  ·exact np b3
  ·rw[e] at b3;cases b3
 ·by_cases z:p=b
  ·subst z;exact Mx.lst hp
  ·exact (I1.pin b hb).same λo q=>h.1 b o q λy=>z (Option.some.inj y)
 ·cases e
  exact⟨hp,n p (Mx.lst b1) b2,b3⟩
 ·have q:=I1.slot i t e
  cases t with
  |no=>trivial
  |fz d=>obtain⟨v,h1,h2⟩:=q;exact⟨v,h1,h2.mono g⟩
  |ow d=>
   obtain⟨c,h1,h2,h3,h4,h5⟩:=q
   exact⟨c,h1,h2,n c h5.mx h3,h4,h5.mono g λo q=>h.1 c o q h4⟩
  |bx=>exact q
  |br d=>obtain⟨b1,c,h1,h4,hpp,h5⟩:=q;exact⟨b1,c,h1,h4,hpp,h5.mono g λo q=>h.1 c o q h4⟩
theorem GI {F:@SN}{ps:@KK}{Q:VK}{B:@J_}{G H:Hp}{σ:St}{env:En}{β:Int}{i:Nat}{p:Addr}(I:@G_)(hK:X.K=Γ.K)(hp:B=some p){wv:Bool}
  (h:Out Γ E (fr @Ps β) λds β1=>Out Γ E (match F ds β1 with
   | .ok d true β2=>.ok d β2
   | .ok d false β2=>if wv=true then .bad else .ok d β2
   | .bad=>.bad) @Ti) (hl:∀ds β,F ds β≠.bad->ds.length=ps.length - 1) :
  aT Γ E fr L σ H λvs H1=>MI X.K (ps.length - 1) F (.ref p :: vs) H1 Q E:=by
 subst hp
 refine⟨env,G,_,β,I,h.imp λds β1 k vs G1 H1 I1 s1 m1 r=>?_⟩
 obtain⟨b1,b2,b3⟩:=I1.box p rfl
 refine⟨p,vs,G1,ds,β1,rfl,b1,b2,I1.sub,hl ds β1 λz=>by rw[z] at k;exact k,by rw[hK];exact r,?_⟩
 cases q:F ds β1 with
 |bad=>rw[q] at k;exact k
 |ok d fr' β2=>
  rw[q] at k
  intro v G' H' hh hb hg hs hn fv
  have I2:=I1.calledB hh hb hg hs hn
  cases fr' with
  |true=>
   obtain⟨c,rfl,p1,p2,p3⟩:∃a,v=.ref a/\H1 a=none/\G' a=none/\Own X.K G' H' a d:=fv
   rw[hK] at p3
   have hp:=gV m1 I1.boxThere p1
   cases wv with
   |true=>exact k _ G' H' I2 (s1.trans hg) (m1.trans hh) ⟨c,rfl,hp,p2,p3⟩
   |false=>
    obtain⟨q1,q2,q3,q4⟩:=I1.fresh p1
    obtain⟨G3,I3,s3,r3⟩:=I2.letIn q1 p2 q3 q4 p3
    exact k _ G3 H' I3 ((s1.trans hg).trans s3) (m1.trans hh) r3
  |false=>
   cases wv with
   |true=>exact k.elim
   |false=>
    have fv:Rp X.K G' v d:=fv
    rw[hK] at fv
    exact k _ G' H' I2 (s1.trans hg) (m1.trans hh) fv
theorem Jv {F:@SN}{ps:@KK}{Q:VK}{i:Nat}{σ:St}{H:Hp}(hK:X.K=Γ.K){wv:Bool}(hl:∀ds β,F ds β≠.bad->ds.length=ps.length - 1)(h:pT Γ E (if wv=true then NK i F fr else i5 i F fr) L (if wv=true then .w else .v) σ H Q) :
  HP i σ H λx H1=>aT Γ E fr L σ H1 λvs H2=>MI X.K (ps.length - 1) F (x :: vs) H2 Q E:=by
 obtain⟨env,G,B,β,I,o⟩:=h
 have hi:z5 @Ps i=true:=by
  by_cases hi:z5 @Ps i=true
  ·exact hi
  ·exfalso
   cases wv with
   |true=>simp only[QC] at o;unfold NK at o;rw[Px hi] at o;exact o
   |false=>simp only[P0,Qq] at o;unfold i5 at o;rw[Px hi] at o;exact o
 obtain⟨p,e1,e2⟩:=I.slot i _ (Ht hi)
 refine⟨.ref p,e1,GI (i:=i) (ps:=ps) I hK e2 (wv:=wv) ?_ hl⟩
 cases wv with
 |true=>
  simp only[QC] at o ⊢
  unfold NK at o
  rw[Po hi] at o
  refine o.bnd.imp λds β1 h=>?_
  cases q:F ds β1 with
  |bad=>rw[q] at h;exact h
  |ok d b β2=>rw[q] at h;cases b <;> exact h
 |false=>
  simp only[P0,Qq] at o ⊢
  unfold i5 at o
  rw[Po hi] at o
  refine o.bnd.imp λds β1 h=>?_
  cases q:F ds β1 with
  |bad=>rw[q] at h;exact h
  |ok d b β2=>rw[q] at h;cases b <;> exact h
def jc {x y:Str}{ps:@KK}{k:Nat}{F:@SN}{p np:Pos}(i:Nat)(hf:kL X.prog X.w X.K X.mg X.base x ps k F)(hr:eM k X.A)(hx:Passes (o5 X.prog X.w) X E)(hK:X.K=Γ.K)(hg:Gl X x)(ha:SA X Γ E es fr L)(hN:X.N[i]? =some y:=by rfl)(hv:yM X.env.scope y:=by first |exact @TM |exact Or.inr (@TM) |exact Or.inr (Or.inr rfl))(hd:(y == ("__debug__":Str))=false:=by decide)
  (hcd:(y == ("__classdict__":Str))=false:=by decide) (hdb:@FM:=by decide)
  (he:starEach (.Name y np :: es) X.env=(false,eval (.Name y np) X.env) :: starEach es X.env:=by rfl) (hpl:(backTo pos (starEach es X.env)).any (·.1)=false:=by rfl):SE X Γ E (.Call (.Name x p) (.Name y np :: es) [] pos) (i5 i F fr) L .v:=by
 obtain⟨f,fd,hm,hk,hb,hF⟩:=hf.ex
 refine PE.post' (qZ (dvs:=[]) hF hr hg hm hk hb .nil hx (ax (jn hN hv hd hcd) ha he) hdb he hpl) λσ H Q h=>?_
 have:=Jv (Q:=Q) (wv:=false) (ps:=ps) hK hf.len (by simpa using h)
 show HP i σ H λx H1=>aT Γ E fr L σ H1 λvs H2=>MI X.K (ps.length - 1) F ((x :: vs) ++ []) H2 Q E
 simpa using this
def DX:D->@TK
 | .list [.int z]=>some z
 |_=>none
def HW {d:D}{z:Int}(h:DX d=some z):d=.list [.int z]:=by
 unfold DX at h
 split at h
 ·cases h;rfl
 ·cases h
def Pk (f0:VF D)(F:@SN)(n:Int):VF D:=λvs β=>(f0 vs β).bnd λd0 β1=>match DX d0 with
 |some z=>(match F [.int n] z with
  | .ok d _ _=>.ok d β1
  | .bad=>.bad)
 |none=>.bad
def t8 (env:En):En:=env.map λs=>match s with
 | .bx=>.no
 |s=>s
theorem Dx {env:En}{i:Nat}{s:Sl}(h:(t8 env)[i]? =some s)(n:s≠.no):env[i]? =some s/\s≠.bx:=by
 unfold t8 at h
 rw[PK] at h
 cases e:env[i]? with
 |none=>rw[e] at h;cases h
 |some t=>
  rw[e] at h
  have h:=Option.some.inj h
  cases t with
  |bx=>exact absurd h.symm n
  |no=>exact absurd h.symm n
  |fz d=>subst h;exact⟨rfl,λz=>by cases z⟩
  |ow d=>subst h;exact⟨rfl,λz=>by cases z⟩
  |br d=>subst h;exact⟨rfl,λz=>by cases z⟩
def BE (i:Nat)(L:@IO)(f:VF D):SF:=λenv β=>toS (f @Ps β) λd _=>match DX d with
 |some z=>.nx ((t8 @SX).set i .bx) z
 |none=>.bad
theorem Hj {i:Nat}{x:Str}{pos':Pos}(hbx:Γ.bx=none)(he:SE X Γ E e f L .w)(hN:X.N.Nodup)(hi:X.N[i]? =some x:=by rfl)(hx:Loc X.env.scope x:=by first |exact @TM |exact Or.inr rfl)(hs:swapsWith e (some (.Name x pos')) pos.line X.env=pure false:=by rfl)(hf:@LT:=by first |exact .inl rfl |exact .inr rfl |assumption) :
  SS X Γ E (.Assign [.Name x pos'] e pos) (BE i L f):=by
 refine PS.post (kZ hN hi hx he hs hf) λN σ H ⟨env,G,B,β,I,o⟩=>?_
 refine⟨env,G,B,β,I,cH o λd β' k v G' H' I' s' m' vo=>?_⟩
 cases q:DX d with
 |none=>rw[q] at k;exact k.elim
 |some z=>
  rw[q] at k
  obtain rfl:=HW q
  obtain⟨p,rfl,h1,h2,xs,h3,r⟩:=vo
  have hx2:H' p=some (.lst [.int z]):=by
   cases r with
   |cons r1 r2=>
    cases r1
    cases r2
    exact h3
  obtain⟨q1,q2,q3,q4⟩:=I.fresh h1
  refine k (some p) G' H' _ ⟨I'.sub,I'.old,I'.new,I'.keep,I'.pin,λb e=>(by rw[hbx] at e;cases e),λb e=>?_,?_,λj t e=>?_,λj j' c d1 d2 e1 e2 e3 e4=>?_⟩ s'
  ·cases e;exact⟨hx2,h2,.inr q1⟩
  ·rw[QQ,QQ];unfold t8;rw[Py];exact I'.len
  ·by_cases hj:j=i
   ·subst hj
    by_cases hl:j < (t8 @SX).length
    ·rw[PY hl] at e
     cases e
     refine⟨p,?_,rfl⟩
     rw[PY]
     rw[I'.len];unfold t8 at hl;simpa using hl
    ·rw[QZ (by rw[QQ];omega)] at e;cases e
   ·rw[PZ (Ne.symm hj)] at e ⊢
    by_cases hn:t=.no
    ·subst hn;trivial
    ·obtain⟨e1,nb⟩:=Dx e hn
     have w:=I'.slot j t e1
     cases t with
     |no=>trivial
     |fz d=>exact w
     |bx=>exact absurd rfl nb
     |ow d=>
      obtain⟨a',g1,g2,g3,g4,g5⟩:=w
      exact⟨a',g1,g2,g3,λy=>q4 j d (rq e1) (by cases y;exact g1),g5⟩
     |br d=>
      obtain⟨b1,a',g1,g4,hpp,g5⟩:=w
      have e0:env[j]? =some (.br d):=Ku e1
      obtain⟨_,a2,f1,_,_,f5⟩:=I.slot j _ e0
      rw[g1] at f1;cases f1
      obtain⟨o,ho⟩:=f5.obj
      exact⟨b1,a',g1,λy=>(by cases y;rw[h1] at ho;cases ho),hpp,g5⟩
  ·have back:∀{j:Nat} {d1:D},((t8 @SX).set i Sl.bx)[j]? =some (.ow d1)->j≠i/\(@SX)[j]? =some (.ow d1):=λ{j d1} e=>by
    by_cases hj:j=i
    ·subst hj
     by_cases hl:j < (t8 @SX).length
     ·rw[PY hl] at e;cases e
     ·rw[QZ (by rw[QQ];omega)] at e;cases e
    ·rw[PZ (Ne.symm hj)] at e
     exact⟨hj,(Dx e (λy=>by cases y)).1⟩
   obtain⟨n1,w1⟩:=back e1
   obtain⟨n2,w2⟩:=back e2
   rw[PZ (Ne.symm n1)] at e3
   rw[PZ (Ne.symm n2)] at e4
   exact I'.sep j j' c d1 d2 w1 w2 e3 e4
end
section
variable {P:Program}{w:World}{K:Frag}{mg:@Fa}{base:Heap}{ca:Str->Addr}
def wz:SO->FB
 | .nx _ β=>.ok .none false β
 | .rt d fr β=>.ok d fr β
 |_=>.bad
def zt (n:Nat)(ds:List D):En:=.bx :: ds.map Sl.fz ++ List.replicate (n - 1 - ds.length) .no
def o9 (n p:Nat)(m:SF):@SN:=λds β=>if ds.length=p then wz (m (zt n ds) β) else .bad
abbrev Fx.fb (K:Frag)(H G:Hp)(ca:Str->Addr)(b:Addr):Fx:=⟨K,H,G,[b],ca,λ_=>false,some b⟩
def SR.startB {H G:Hp}{N:@KK}{b:Addr}{vs:List V}{ds:List D}{β:Int}(s:av G H)(hb:H b=some (.lst [.int β]))(gb:G b=none)(r:cI K G vs ds)(hn:ds.length + 1<=N.length):SR (Fx.fb K H G ca b) (some b) G H (L2.start N (.ref b :: vs)) (zt N.length ds) β:=by
 have hl:=r.len
 refine⟨s,av.refl _,λc _ h=>h,λc o h _=>Kt.of h,λc h=>?_,λc h=>h,λc h=>?_,?_,λi t e=>?_,λi j a d e h=>?_⟩
 ·have:c=b:=by simpa using h
  subst this;exact Mx.lst hb
 ·cases h;exact⟨hb,gb,.inl @Go ⟩
 ·unfold L2.start zt;simp;omega
 ·cases i with
  |zero=>
   unfold zt at e
   cases e
   exact⟨b,rfl,rfl⟩
  |succ i=>
   unfold zt at e
   have e:(ds.map Sl.fz ++ List.replicate (N.length - 1 - ds.length) Sl.no)[i]? =some t:=by simpa using e
   by_cases hi:i < ds.length
   ·rw[Qb (by simpa using hi),PK,Pn hi] at e
    cases e
    obtain⟨x,hx,rx⟩:=r.at (Pn hi)
    refine⟨x,?_,rx⟩
    unfold L2.start
    have hi':i < vs.length:=by rw[hl];exact hi
    rw[Qb (by simp;exact hi'),PK,List.getElem?_cons_succ,hx];rfl
   ·rw[Qf (by simpa using hi),Q7] at e
    split at e
    ·cases e;trivial
    ·cases e
 ·unfold zt at h
  have hm:=PV h
  rcases Pu.mp hm with z |hm
  ·cases z
  rcases PQ.mp hm with z |z
  ·obtain⟨_,_,z⟩:=PD.mp z;cases z
  ·have:=Rt z;cases this
def mj {x qual:Str}{st:Stmt}{f:Addr}{fd:FuncData}{N:@KK}{ps:@KK}{k:Nat}{m:SF}(F:C7 K x qual st f fd)(S:aG N ps (aq st))(hp:1<=ps.length)
  (hbody:∀(cdv:Value) (A:Around) (outer:List Env) (s:Shared) (H G:Hp) (b:Addr) (E:XK),eM k (A.deeper (envOfC qual (aq st) s.heap.objs.size f cdv))->C8 (l7 (o5 P w) P w K mg base N qual (aq st) f cdv A outer s H E) (Fx.fb K H G ca b) E (cj st) m) :
  ie P w K mg base (o5 P w) (k + 1) f fd ps (MI K (ps.length - 1) (o9 N.length (ps.length - 1) m)):=by
 have hpn:ps.length<=N.length:=by have:=congrArg List.length S.pre;rw[Qx] at this;omega
 refine F.Dd S (λvs H Q E h=>?_) (λcdv A outer s H vs Q E hr h=>?_)
 ·obtain⟨b,rest,G,ds,β,rfl,hb,gb,sG,hl,r,_⟩:=h
  rw[P7,r.len];omega
 ·obtain⟨b,rest,G,ds,β,rfl,hb,gb,sG,hl,r,h⟩:=h
  refine⟨_,hbody cdv A outer s H G b E hr,?_⟩
  have I:=SR.startB (ca:=ca) (N:=N) sG hb gb r (@AT)
  refine⟨_,G,some b,β,I,?_⟩
  unfold o9 at h
  rw[Po hl] at h
  have fin':∀{B G' H' σ env β},SR (Fx.fb K H G ca b) B G' H' σ env β->i3 (some b) H H'/\H' b=some (.lst [.int β]):=λJ=>by
   have e:=J.fix b rfl
   have k:∀c o,H c=some o->some b≠some c->Kt _ c o:=λc o ec n=>J.keep c o ec λz=>n (show some b=some c by rw[show c=b by simpa using z])
   exact⟨⟨k,λc o u ec=>k c _ ec λz=>by cases z;rw[hb] at ec;cases ec⟩,(J.box b e).1⟩
  cases q:m (zt N.length ds) β with
  |nx env β'=>rw[q] at h;exact λB G' H' σ J s'=>h .non G' H' (fin' J).1 (fin' J).2 s' J.sub (λc h1 h2=>J.new c h1 h2) Rp.non
  |bk env β'=>rw[q] at h;exact h.elim
  |ct env β'=>rw[q] at h;exact h.elim
  |rt d fr β'=>
   rw[q] at h
   refine λB G' H' σ env v J s' rv=>h v G' H' (fin' J).1 (fin' J).2 s' J.sub (λc h1 h2=>J.new c h1 h2) ?_
   cases fr with
   |true=>exact rv
   |false=>exact rv
  |exc c=>rw[q] at h;exact h.elim
  |bad=>rw[q] at h;exact h.elim
def mi {n p:Nat}{m:SF}(ds:List D)(β:Int)(h:o9 n p m ds β≠.bad):ds.length=p:=by
 unfold o9 at h
 by_cases hl:ds.length=p
 ·exact hl
 ·rw[Px hl] at h;exact absurd rfl h
end
def ao (p:Pr):D:=.tuple [.int p.1,.int p.2]
def sD:D->Option Pr
 | .tuple [.int a,.int b]=>some (a,b)
 |_=>none
def wR {d:D}{p:Pr}(h:sD d=some p):d=ao p:=by
 unfold sD at h
 split at h
 ·cases h;rfl
 ·cases h
def C0 (p:Pr):sD (ao p)=some p:=rfl
def gQ:List D->Option (@Do)
 | []=>some []
 |d :: ds=>match sD d,gQ ds with
  |some p,some ps=>some (p :: ps)
  |_,_=>none
theorem j7:∀{ds:List D} {ps:@Do},gQ ds=some ps->ds=ps.map ao
 | [],ps,h=>by cases h;rfl
 |d :: ds,ps,h=>by
  unfold gQ at h
  split at h
  ·rename_i p qs h1 h2;cases h;rw[wR h1,j7 h2];rfl
  ·cases h
theorem fm:∀ps:@Do,gQ (ps.map ao)=some ps
 | []=>rfl
 |p :: ps=>by
  show (match sD (ao p),gQ (ps.map ao) with
   |some p,some ps=>some (p :: ps)
   |_,_=>none)=_
  rw[C0,fm ps]
section
variable {K:Frag}{X:Cx}{G H:Hp}
theorem cI.pairs:∀{ps:@Do} {xs:List V},cI K G xs (ps.map ao)->aW K G xs ps
 | [],_,.nil=>.nil
 |p :: ps,_,.cons r t=>by
  cases r with
  |tup hq r=>
   cases r with
   |cons r1 r=>
    cases r with
    |cons r2 r=>cases r;cases r1;cases r2;exact .cons ⟨_,rfl,hq⟩ (cI.pairs t)
theorem aW.rps:∀{ps:@Do} {xs:List V},aW K G xs ps->cI K G xs (ps.map ao)
 | [],_,.nil=>.nil
 |p :: ps,_,.cons r t=>by
  obtain⟨a,rfl,q⟩:=r
  exact .cons (.tup q (.cons (.int _) (.cons (.int _) .nil))) (aW.rps t)
def Kl (p:Pr):Bool:=decide (0<=p.1) && decide (p.1 < 8) && decide (0<=p.2) && decide (p.2 < 8)
def Dv {p:Pr}(h:Kl p=true):Sm p:=by
 unfold Kl at h
 simp only[PM,PL] at h
 exact⟨⟨h.1.1.1,h.1.1.2⟩,h.1.2,h.2⟩
noncomputable def cY (d:D):Option D:=match nJ d with
 |some ds=>(match gQ ds with
  |some ps=>if ps.all Kl=true/\(OM.bW 8 @TV).length < 64 then some (.list ((OM.bW 8 @TV).map ao)) else none
  |none=>none)
 |none=>none
variable {Γ:Fx}{E:XK}{e a b c:Expr}{f fa fb fc:VF D}{L La Lb:@IO}{md ma mb mc:Md}{pos:Pos}
theorem sM {p1 p2 pos2:Pos}(hc:X.calm=true)(hu:X.A.units + 64 < cLine)(hK:X.K=Γ.K)(hg:Gl X "sorted")(hm:X.mg "sorted"=none)(hg2:Gl X "set")(hm2:X.mg "set"=none)(ha:@Re)
  (he:starEach [a] X.env=@S4 :: starEach [] X.env:=by rfl)
  (he2:starEach [.Call (.Name "set" p2) [a] [] pos2] X.env=(false,eval (.Call (.Name "set" p2) [a] [] pos2) X.env) :: starEach [] X.env:=by rfl) :
  SE X Γ E (.Call (.Name "sorted" p1) [.Call (.Name "set" p2) [a] [] pos2] [] pos) (f1 fa cY) La .w:=by
 refine PE.post' (bB (wG hc) hg hm (@B_) (ax (ki (FU hc hu) hg2 hm2 (@B_) (ax ha aR he) @A_ @A_ he) aR he2) @A_ @A_ he2) λσ H Q ⟨env,G,B,β,I,o⟩=>?_
 refine kX (r:=λx H1 Q=>Lr X.prog X.w X.K [x] H1 λy H2=>yD X.prog X.w X.K [y] H2 Q) ?_ I o
 intro B G H x dx d Q s hB bx e k
 rw[hK]
 unfold cY at e
 cases q:nJ dx with
 |none=>rw[q] at e;cases e
 |some ds=>
  rw[q] at e
  dsimp only at e
  cases q2:gQ ds with
  |none=>rw[q2] at e;cases e
  |some ps=>
   rw[q2] at e
   dsimp only at e
   split at e
   ·rename_i hh
    obtain⟨h1,h2⟩:=hh
    cases e
    obtain⟨p,xs,rfl,hq,r⟩:=bx.seq q s
    rw[j7 q2] at r
    have pv:=(r.mono s).pairs
    have sm:∀p,p∈ps->Sm p:=λp hp=>Dv (Qm.mp h1 p hp)
    refine⟨p,xs,ps,rfl,hq,pv,sm,λS qs hS hpv nd hm=>?_⟩
    have qsl:qs.length < 64:=by
     have:(pq qs).length<=(OM.bW 8 @TV).length:=OM.iB nd λx hx=>by
      have hx':=(hm x).mp hx
      have hs:=sm x hx'
      exact OM.bc.mpr ⟨⟨⟨hs.1.1,hs.1.2⟩,hs.2.1,hs.2.2⟩,hx'⟩
     simp only[Py] at this
     omega
    have xS:=Ext.own s (o:=CL X.prog X.w S qs) hS
    refine⟨S,qs,rfl,aw,hpv.grow (je.new hS),λp hp=>sm p ((hm p).mp hp),nd,qsl,λl ws rs hl hpw hr hmem=>?_⟩
    have ers:rs=OM.bW 8 @TV:=OM.fT hr (OM.cK _ _) λx=>by
     rw[hmem x,hm x,OM.bc]
     constructor
     ·intro hx;have hs:=sm x hx;exact⟨⟨⟨hs.1.1,hs.1.2⟩,hs.2.1,hs.2.2⟩,hx⟩
     ·intro hx;exact hx.2
    subst ers
    have hlH:H l=none:=by
     by_cases z:l=S
     ·subst z;exact hS
     ·rw[aC z] at hl;exact hl
    have lS:l≠S:=λz=>by subst z;rw[aw] at hl;cases hl
    have hh:av H (upd (upd H S (CL X.prog X.w S qs)) l (.lst ws)):=(av.new hS).trans (av.new hl)
    have xx:=Ext.tups s hh
    refine k _ _ _ xx ⟨l,rfl,hlH,?_,ws,aw,?_⟩
    ·unfold oH
     rw[s.free hlH,aw]
     exact Px λy=>y
    ·refine aW.rps (Paired.mapP hpw λv p ⟨a,ea,qa⟩=>⟨a,ea,ou (s.trans hh) ?_⟩)
     exact qa.grow (je.new hl)
   ·cases e
end
section
variable {K:Frag}{X:Cx}{G H:Hp}{Γ:Fx}{E:XK}{e a b c:Expr}{f fa fb fc:VF D}{L La Lb:@IO}{md ma mb mc:Md}{pos apos cpos np:Pos}
def cC:@Os
 | .int n=>if 0<=n/\n<=1000 then some (.list (cJ 0 n.toNat)) else none
 |_=>none
def BY (n:Nat):cI K G ((@TR).map λ(i:Nat)=>V.int @S0) (cJ 0 n):=by
 have key:∀l:@IO,cI K G (l.map λ(i:Nat)=>V.int @S0) (l.map λ(k:Nat)=>int (0 + k)):=by
  intro l
  induction l with
  |nil=>exact .nil
  |cons x l ih=>exact .cons (by show Rp K G (.int (x:Int)) (.int (0 + (x:Int)));rw[QT];exact .int _) ih
 exact key _
theorem nF {p1 p2 pos2:Pos}(hc:X.calm=true)(hg:Gl X "list")(hm:X.mg "list"=none)(hg2:Gl X "range")(hm2:X.mg "range"=none)(ha:@Re)
  (he:starEach [a] X.env=@S4 :: starEach [] X.env:=by rfl)
  (he2:starEach [.Call (.Name "range" p2) [a] [] pos2] X.env=(false,eval (.Call (.Name "range" p2) [a] [] pos2) X.env) :: starEach [] X.env:=by rfl) :
  SE X Γ E (.Call (.Name "list" p1) [.Call (.Name "range" p2) [a] [] pos2] [] pos) (f1 fa cC) La .w:=by
 refine PE.post' (ki (tw hc) hg hm (@B_) (ax (ki Dq hg2 hm2 (@B_) (ax ha aR he) @A_ @A_ he) aR he2) @A_ @A_ he2) λσ H Q ⟨env,G,B,β,I,o⟩=>?_
 refine kX (r:=λx H1 Q=>∃n:Int,[x]= [.int n]/\∀p,H1 p=none->(λ(y:V) (H2:Hp)=>∃(p:Addr) (n:Int),[y]= [V.ref p]/\H2 p=some (.eB 0 n)/\0<=n/\n<=1000/\∀l,H2 l=none->Q (.ref l) (upd H2 l (.lst ((List.range n.toNat).map λ(i:Nat)=>V.int @S0)))) (V.ref p) (upd H1 p (.eB 0 n))) ?_ I o
 intro B G H x dx d Q s hB bx e k
 cases dx with
 |int n=>
  obtain rfl:=bx.int
  simp only[cC] at e
  split at e
  ·rename_i hh
   cases e
   refine⟨n,rfl,λp hp=>⟨p,n,rfl,aw,hh.1,hh.2,λl hl=>?_⟩⟩
   have hlp:l≠p:=λz=>by subst z;rw[aw] at hl;cases hl
   have hlH:H l=none:=by rw[aC hlp] at hl;exact hl
   have x1:=Ext.own s (o:=.eB 0 n) hp
   have x2:=Ext.own x1.gh (o:=.lst ((List.range n.toNat).map λ(i:Nat)=>V.int @S0)) hl
   exact k _ _ _ (x1.trans x2) ⟨l,rfl,hlH,s.free hlH,_,aw,BY _⟩
  ·cases e
 |_=>cases e
def GJ:@Os
 | .int i=>some (.int (if i < 0 then -i else i))
 |_=>none
theorem LG:C4 K (λx H Q=>∃i,[x]= [.int i]/\Q (.int (if i < 0 then -i else i)) H) GJ .v:=by
 intro B G H x dx d Q s hB bx e k
 cases dx with
 |int i=>cases e;obtain rfl:=bx.int;exact⟨i,rfl,k _ G H (Ext.refl s) (.int _)⟩
 |_=>cases e
noncomputable def i6 (d:D):Option D:=match d with
 | .list ds=>(match gQ ds with
  |some ps=>if ps.all Kl=true/\ps.Nodup/\ps.length < 64 then some (.list ((OM.bW 8 @TV).map ao)) else none
  |none=>none)
 |_=>none
theorem As:C4 K (λx=>AV K [x]) i6 .w:=by
 intro B G H x dx d Q s hB bx e k
 cases dx with
 |list ds=>
  simp only[i6] at e
  cases q2:gQ ds with
  |none=>rw[q2] at e;cases e
  |some ps=>
   rw[q2] at e
   dsimp only at e
   split at e
   ·rename_i hh
    obtain⟨h1,h2,h3⟩:=hh
    cases e
    obtain⟨p,xs,rfl,hq,r⟩:=bx.list s
    rw[j7 q2] at r
    have pv:=(r.mono s).pairs
    have sm:∀p,p∈ps->Sm p:=λp hp=>Dv (Qm.mp h1 p hp)
    refine⟨p,xs,ps,rfl,.inl hq,pv,sm,h2,h3,λl ws rs hl hpw hr hmem=>?_⟩
    have ers:rs=OM.bW 8 @TV:=OM.fT hr (OM.cK _ _) λx=>by
     rw[hmem x,OM.bc]
     constructor
     ·intro hx;have hs:=sm x hx;exact⟨⟨⟨hs.1.1,hs.1.2⟩,hs.2.1,hs.2.2⟩,hx⟩
     ·intro hx;exact hx.2
    subst ers
    have hh:av H (upd H l (.lst ws)):=av.new hl
    refine k _ _ _ (Ext.tups s hh) ⟨l,rfl,hl,?_,ws,aw,?_⟩
    ·unfold oH
     rw[s.free hl,aw]
     exact Px λy=>y
    ·refine aW.rps (Paired.mapP hpw λv p ⟨a,ea,qa⟩=>⟨a,ea,ou (s.trans hh) ?_⟩)
     exact qa.grow (je.new hl)
   ·cases e
 |_=>cases e
def CQ (ds:List D)(k:D):Option (D×List D):=match k with
 | .int i=>if -(2 ^ 63)<=i/\i < 2 ^ 63 then (match seqIndex? i ds.length with
  |some n=>(match ds[n]? with
   |some d=>some (d,ds.eraseIdx n)
   |none=>none)
  |none=>none) else none
 |_=>none
def ll (i j:Nat)(L:@IO)(f:VF D):SF:=λenv β=>if sO env[i]? =true/\sO env[j]? =true/\i≠j then toS (f @Ps β) λk β'=>match (@SX)[j]? with
 |some (.ow (.list es))=>(match CQ es k with
  |some (d,es')=>IX i ((a8 L env).set j (.ow (.list es'))) β' λds=>if ds.length < sizeLine then some (ds ++ [d]) else none
  |none=>.bad)
 |_=>.bad else .bad
theorem cI.eraseIdx:∀{xs:List V} {ds:List D} (i:Nat),@Td->cI K G (xs.eraseIdx i) (ds.eraseIdx i)
 |_,_,_,.nil=>.nil
 |_,_,0,.cons _ t=>t
 |_,_,i + 1,.cons r t=>.cons r (cI.eraseIdx i t)
theorem CG (i j:Nat){x y:Str}{np2 apos2 cpos2:Pos}(hb:∀j,Γ.br j=false)(he:SE X Γ E e f L md)(hN:X.N[i]? =some x:=by rfl)(hv:yM X.env.scope x:=by first |exact @TM |exact Or.inr (@TM) |exact Or.inr (Or.inr rfl))(hd:@FM:=by decide)
  (hcd:@TF:=by decide)
  (hN2:X.N[j]? =some y:=by rfl) (hv2:yM X.env.scope y:=by first |exact @TM |exact Or.inr (@TM) |exact Or.inr (Or.inr rfl)) (hd2:(y == ("__debug__":Str))=false:=by decide)
  (hcd2:(y == ("__classdict__":Str))=false:=by decide)
  (hbase:attributeBase @TW "append" X.env (eval @TW X.env)=eval @TW X.env:=by rfl)
  (hfew:((backTo cpos (starEach [.Call (.Attribute (.Name y np2) "pop" apos2) [e] [] cpos2] X.env)).all (λx=> !x.1) && @S_
   && decide ([Expr.Call (.Attribute (.Name y np2) "pop" apos2) [e] [] cpos2].length + ([]:List Keyword).length + @Ta < 30))=true:=by rfl)
  (hline:(apos.endLine == cpos.line)=true:=by rfl) (hs:starEach [.Call (.Attribute (.Name y np2) "pop" apos2) [e] [] cpos2] X.env=(false,eval (.Call (.Attribute (.Name y np2) "pop" apos2) [e] [] cpos2) X.env) :: starEach [] X.env:=by rfl)
  (hbase2:attributeBase (.Name y np2) "pop" X.env (eval (.Name y np2) X.env)=eval (.Name y np2) X.env:=by rfl)
  (hfew2:((backTo cpos2 (starEach [e] X.env)).all (λx=> !x.1) && (backToKw cpos2 (keywordEach [] X.env)).all (λx=>x.1.isSome)
   && decide ([e].length + ([]:List Keyword).length + @Ta < 30))=true:=by rfl)
  (hline2:(apos2.endLine == cpos2.line)=true:=by rfl) (hs2:starEach [e] X.env=(false,eval e X.env) :: starEach [] X.env:=by rfl)
  (hsw:swapsWith (.Call (.Attribute @TW "append" apos) [.Call (.Attribute (.Name y np2) "pop" apos2) [e] [] cpos2] [] cpos) none pos.line X.env=pure false:=by rfl) :
  SS X Γ E (.Expr (.Call (.Attribute @TW "append" apos) [.Call (.Attribute (.Name y np2) "pop" apos2) [e] [] cpos2] [] cpos) pos) (ll i j L f):=by
 refine PS.post (qI (t9 Q8 PySem.F.slot_list_append PySem.F.type_list_append pZ (jn hN hv hd hcd)
  (ax (t9 Q8 PySem.F.slot_list_pop PySem.F.type_list_pop EN (jn hN2 hv2 hd2 hcd2) (ax he aR hs2) hbase2 hfew2 hline2 hs2 rfl) aR hs) hbase hfew hline hs rfl) hsw) λN σ H ⟨env,G,B,β,I,o⟩=>?_
 unfold ll at o
 by_cases hO:sO env[i]? =true/\sO env[j]? =true/\i≠j
 case neg=>rw[Px hO] at o;exact o.elim
 rw[Po hO] at o
 obtain⟨hO1,hO2,hij⟩:=hO
 obtain⟨ds0,q0⟩:=o6 hO1
 obtain⟨es0,w0⟩:=o6 hO2
 obtain⟨p,h1,_,_,_,xs,h5,_⟩:=I.slot i _ q0
 obtain⟨q,k1,_,_,_,ys,k5,_⟩:=I.slot j _ w0
 refine⟨_,h1,.inl ⟨rfl,xs,.inl (.inl h5)⟩,?_⟩
 refine⟨_,k1,.inl ⟨rfl,ys,.inl (.inl k5)⟩,?_⟩
 refine⟨env,G,B,β,I,cH o λkd β' k v G' H' I' s' m' vo=>?_⟩
 cases ej:(@SX)[j]? with
 |none=>rw[ej] at k;exact k.elim
 |some sj=>
  rw[ej] at k
  cases sj with
  |ow dj=>
   cases dj with
   |list es=>
    dsimp only at k
    cases ep:CQ es kd with
    |none=>rw[ep] at k;exact k.elim
    |some pr=>
     obtain⟨d,es'⟩:=pr
     rw[ep] at k
     dsimp only at k
     unfold CQ at ep
     cases kd <;> first | (cases ep;done) |skip
     rename_i ii
     dsimp only at ep
     split at ep
     ·rename_i hr
      cases eI:seqIndex? ii es.length with
      |none=>rw[eI] at ep;cases ep
      |some n=>
       rw[eI] at ep
       dsimp only at ep
       cases eD:es[n]? with
       |none=>rw[eD] at ep;cases ep
       |some d0=>
        rw[eD] at ep
        cases ep
        obtain rfl:=(vo.brw I.boxThere).int
        obtain⟨q',g1,_,_,_,zs,g5,g6⟩:=I'.slot j _ ej
        rw[k1] at g1;cases g1
        obtain⟨xv,ex,rx⟩:=g6.at eD
        refine⟨q,zs,ii,n,xv,rfl,rfl,g5,hr.1,hr.2,by rw[g6.len];exact eI,ex,?_⟩
        have I2:=I'.write hb ej k1 (o:=.lst (zs.eraseIdx n)) (d':=.list (es.eraseIdx n)) λH2 e2 s2=>⟨_,e2,g6.eraseIdx n⟩
        obtain⟨ds,fs,eq,eg,k⟩:=qJ k
        by_cases hz:ds.length < sizeLine
        case neg=>rw[Px hz] at eg;cases eg
        rw[Po hz] at eg
        cases eg
        obtain⟨p',f1,_,_,_,us,f5,f6⟩:=I2.slot i _ eq
        rw[h1] at f1;cases f1
        refine⟨p,us,xv,rfl,rfl,f5,by rw[f6.len];exact hz,?_⟩
        exact k B G' _ σ (I2.write hb eq h1 λH2 e2 s2=>⟨_,e2,f6.snoc rx⟩) s'
     ·cases ep
   |_=>exact k.elim
  |_=>exact k.elim
end
def b4:@SN
 | [.int m],β=>if 0 < m/\m < 1073741824 then .ok (.int (β % m)) false (β / m) else .bad
 |_,_=>.bad
def An {ds:List D}{β:Int}(h:b4 ds β≠.bad):∃m,ds= [.int m]/\0 < m/\m < 1073741824:=by
 unfold b4 at h
 split at h
 ·rename_i m
  by_cases hh:0 < m/\m < 1073741824
  ·exact⟨m,rfl,hh.1,hh.2⟩
  ·rw[Px hh] at h;exact absurd rfl h
 ·exact absurd rfl h
def wg {m β:Int}(h0:0 < m)(h1:m < 1073741824):b4 [.int m] β=.ok (.int (β % m)) false (β / m):=Po ⟨h0,h1⟩
def constsOf:@TH->Option (@KF)
 | []=>some []
 | .Constant (.int i) _ _ :: es=>(constsOf es).map λr=>i :: r
 |_=>none
def O5 (ns:@KF):@Pi:=λ_ β=>.ok (ns.map int) β
theorem uV {X:Cx}{Γ:Fx}{E:XK}:∀{es:@TH} {ns:@KF},constsOf es=some ns->SA X Γ E es (O5 ns) []
 | [],ns,h=>by
  have e:ns= []:=by unfold constsOf at h;exact (Option.some.inj h).symm
  subst e
  exact ah
 |e :: es,ns,h=>by
  unfold constsOf at h
  split at h
  ·cases ‹_ :: _= []›
  ·next i a b es' heq=>
   cases heq
   cases q:constsOf es with
   |none=>rw[q] at h;cases h
   |some r=>
    rw[q] at h
    have e2:i :: r=ns:=Option.some.inj h
    subst e2
    exact ae ar (uV q) rfl
  ·cases h
section
variable {P:Program}{w:World}{K:Frag}{mg:@Fa}{base:Heap}
def Hf {X:Cx}{i j:Nat}{x y:Str}{px py pos:Pos}{k:Nat}(hN:X.N.Nodup)(hi:X.N[i]? =some x)(hj:X.N[j]? =some y)(hx:X.env.scope.names.lookup x=some .local)(hy:X.env.scope.names.lookup y=some .local)(hc:X.calm=true) :
  PG X (.Tuple [.Name x px,.Name y py] k pos) (GW X.K 2 (se (nq i) (se (nq j) Hy))):=
 sv hc (eO (di hN hi (Or.inl hx) (Or.inr hx)) (eO (di hN hj (Or.inl hy) (Or.inr hy)) oU))
def Fi {b:Addr}{β m:Int}{H:Hp}{Q:VK}{G:Hp}(hb:H b=some (.lst [.int β]))(s:av G H){p:Addr}(hp:H p=none)
  (kk:∀v G' H',i3 (some b) H H'->H' b=some (.lst [.int (β / m)])->av G G'->av G' H'->(∀c,Mx H c->G c=none->G' c=none)->FV K H G' H' false (.int (β % m)) v->Q v H') (gb:G b=none) :
  Q (.int (β % m)) (upd (upd H p (.tup [.int (β / m),.int (β % m)])) b (.lst [.int (β / m)])):=by
 have hbp:b≠p:=aL hb hp
 refine kk _ G _ ⟨λc o e n=>Kt.of (by rw[aC (λz=>n (by rw[z])),aC (aL e hp)];exact e),λc o u e=>by rw[aC (λz=>by rw[z,hb] at e;cases e),aC (aL e hp)];exact e⟩ aw (av.refl _) (λc o e=>?_) (λc _ h=>h) (.int _)
 obtain⟨u,eu,_⟩:=(s c o e).some
 exact my (my (s c o e) (aL eu hp) λx y w=>by rw[hp] at w;cases w) (λz=>by rw[z,gb] at e;cases e) λx y w=>by rw[aC hbp,hb] at w;cases w
end
end L2
namespace L2
open PySem PySem.SeqAt PySem.Spec PyProof.Rows
def wo {M:Model}{A:Around}{E:@Ch}{s:Shared}{β:Type}{b:Nat}(f:Nat->β->Sem (ForInStep β))(I:@IO->β->@Rs)(Q:β->@Rs)
  (turn:∀x rest b s,I (x :: rest) b s->wpAny M A (f x b) (λr s'=>match r with | .yield b'=>I rest b' s' | .done b'=>Q b' s') E s)
  (fin:∀b s,I [] b s->Q b s) (c:β) (h:I (List.range' 0 b) c s):wpAny M A (forIn [0:b] c f) Q E s:=by
 rw[Std.Legacy.Range.forIn_eq_forIn_range']
 simp only[Std.Legacy.Range.size,Nat.sub_zero,Nat.add_sub_cancel,Nat.div_one]
 exact wpAny_forIn_list f I Q turn fin _ c h
def tT (l:Addr)(items:Array Value)(n:Nat)(dd:@J_)(sl:Array (Option Value))(x:Value)(e:Value->Bool)(j:Nat)(hj:j < items.size)
  (hit:e items[j]=true) (hno:∀m (hm:m < items.size),m < j->e items[m]=false) :
  Meets (Builtin.«tuple.index» ⟨[.ref l,x],[]⟩)
   (λA R s=>s.heap.get? l=some {cls:=.type "tuple",dict:=dd,data:=.seq items n,slots:=sl}/\(∀y,y∈items->EqAt A.in1 s y x (e y))/\R (.ok (.ret (.int j s.toks))) {s with toks:=s.toks + 1}):=
 .of_wp λprog w A R s h=>by
  obtain⟨hp,g,d,tk,os⟩:=s;obtain⟨hl,he,h⟩:=h
  wp_walk using wpAny_loadPart' hl,wo _ (λrest b s'=>b.1=none/\s'=⟨hp,g,d,tk,os⟩/\∃i,i<=j/\rest=List.range' i (items.size - i)) _
  case turn=>
   rintro y rest b s' ⟨hb,rfl,i,hi,hr⟩
   obtain⟨m,hm⟩:∃m,items.size - i=m + 1:=⟨items.size - i - 1,@AT ⟩
   rw[hm,List.range'_succ] at hr
   obtain⟨rfl,rfl⟩:=List.cons.inj hr
   have hlt:y < items.size:=@AT
   have e1:items[y]? =some items[y]:=by simp[hlt]
   simp only[e1]
   refine Pl (he _ (Sz hlt) prog w _ _ ?_)
   by_cases z:y=j
   ·subst z
    rw[hit]
    wp_walk
    exact⟨_,rfl,h⟩
   ·rw[hno y hlt (@AT)]
    wp_walk
    exact⟨rfl,rfl,y + 1,@AT,by congr 1;omega⟩
  case fin=>
   rintro b s' ⟨hb,rfl,i,hi,hr⟩
   obtain⟨m,hm⟩:∃m,items.size - i=m + 1:=⟨items.size - i - 1,@AT ⟩
   rw[hm,List.range'_succ] at hr
   cases hr
  case h=>
   exact⟨rfl,rfl,0,Qp _,by rw[Nat.min_self];rfl⟩
section
variable {K:Frag}{X:Cx}{G H:Hp}{Γ:Fx}{E:XK}{e a b c:Expr}{f fa fb fc:VF D}{L La Lb:@IO}{md ma mb mc:Md}{pos apos cpos np:Pos}
def zW (k:Int):Value->Bool
 | .int i _=>i == k
 |_=>false
theorem nA {k:Int}:∀{ns:@KF} {us:@GM} (i:Nat) (h:i < us.length) (h2:i < ns.length),Vals (ns.map V.int) us->zW k us[i]=(ns[i] == k)
 | [],_,_,_,h2,_=>absurd h2 (Nat.not_lt_zero _)
 |n :: ns,_,0,_,_,.cons r _=>by obtain⟨t,rfl⟩:=r;rfl
 |n :: ns,_,i + 1,h,h2,.cons _ rs=>nA i (Nat.lt_of_succ_lt_succ h) (Nat.lt_of_succ_lt_succ h2) rs
theorem xM {k:Int}{t:Tok}(A:Around)(s:Shared):∀{ns:@KF} {us:@GM},Vals (ns.map V.int) us->∀y∈us,EqAt A s y (.int k t) (zW k y)
 | [],_,.nil,y,hy=>by cases hy
 |n :: ns,_,.cons r rs,y,hy=>by
  rcases Pu.mp hy with z |z
  ·subst z;obtain⟨t',rfl⟩:=r;exact EqAt.int_int n t' k t
  ·exact xM A s rs y z
def HV (K:Frag):V->@KM:=λx vs H Q=>∃(a:Addr) (ns:@KF) (k:Int),x=.ref a/\vs= [.int k]/\gj K H a (ns.map V.int)/\k∈ns/\Q (.int (ns.idxOf k:Nat)) H
def CO:IG X "tuple.index" (HV X.K):=by
 intro pins s σ H x vs v us Q I rx rv h
 obtain⟨a,ns,k,rfl,rfl,hq,hk,q⟩:=h
 cases rx
 obtain⟨u,rfl,ru⟩:=vals1 rv
 obtain⟨t,rfl⟩:=ru
 obtain⟨its,rs,pl,hz⟩:=I.tuple hq
 obtain⟨⟨cls,dd,data,sl⟩,ho,hc,n,hd⟩:=id pl
 simp only at hc hd
 subst hc hd
 have hj:ns.idxOf k < ns.length:=Ro.mpr hk
 have hlen:its.length=ns.length:=by rw[<-rs.length,Py]
 refine R1 PySem.F.slot_tuple_index ⟨_,ho,rfl⟩ PySem.F.entry_tuple_index (PySem.F.args_tuple_index_2 _ _)
  (tT a its.toArray n dd sl (.int k t) (zW k) (ns.idxOf k) (by simpa[hlen] using hj) ?_ ?_) ⟨ho,λy hy=>xM _ _ rs y (by simpa using hy),?_⟩
 ·have:=nA (k:=k) (ns.idxOf k) (@AT) hj rs
  simpa[Sw hj] using this
 ·intro m hm hlt
  have hm':m < ns.length:=by simpa[hlen] using hm
  have hne:ns[m]≠k:=λz=>by
   have:=List.not_of_lt_findIdx (p:=(· == k)) hlt
   simp[z] at this
  have:=nA (k:=k) m (@AT) hm' rs
  rw[Sk.mpr hne] at this;simpa using this
 ·exact⟨.int (ns.idxOf k:Nat),H,I.tok _,⟨_,rfl⟩,q⟩
def Inv.tupleP {pins:@Db}{σ:St}{s:Shared}{p:Addr}{xs:List V}(I:@At)(h:gj X.K H p xs):s.TypeIs (.ref p) "tuple"/\∀a,Value.ref p=.ref a->∃ob,s.heap.get? a=some ob/\ob.dict=none:=by
 rcases h with h | ⟨o,its,n,hk,hc,hs,hz,r,hd⟩
 ·obtain⟨_,_,_,o,e,c,n,d,hd⟩:=h.ok I.hok
  exact⟨⟨o,e,c⟩,λa z=>by cases z;exact⟨o,e,hd⟩⟩
 ·exact⟨⟨o,I.kIn p o hk,hc⟩,λa z=>by cases z;exact⟨o,I.kIn p o hk,hd⟩⟩
def NI (K:Frag)(r:V->@KM)(to:TE)(t:TA):TE:=λσ H Q=>to σ H λx H1=>(∃p xs,x=.ref p/\gj K H1 p xs)/\t σ H1 λxs H2=>r x xs H2 Q
def Jj {o e:Expr}{es:@TH}{to:TE}{t:TA}{name:Str}{apos cpos:Pos}{id:String}{r:V->@KM}(slot:Slot "tuple" name id)(hty:typeOf (.builtin id)=pure (.type "method_descriptor"))(hm:IG X id r)(ho:PE X o to)(ha:PA X (e :: es) t)
  (hbase:attributeBase o name X.env (eval o X.env)=eval o X.env:=by rfl)
  (hfew:((backTo cpos (starEach (e :: es) X.env)).all (λx=> !x.1) && @S_
   && decide ((e :: es).length + ([]:List Keyword).length + @Ta < 30))=true:=by rfl)
  (hline:(apos.endLine == cpos.line)=true:=by rfl) (hs:@O_:=by rfl) (hplain:(backTo cpos (starEach es X.env)).any (·.1)=false:=by rfl) :
  PE X (.Call (.Attribute o name apos) (e :: es) [] cpos) (NI X.K r to t):=by
 intro pins s σ H Q I h
 refine wpAny_Call_method_late hbase hfew hline rfl (cG (ho pins s σ H _ I h) λv s1 ⟨x,H1,I1,r1,⟨p,ys,ex,hr⟩,q1⟩=>?_)
 subst ex
 cases r1
 obtain⟨h1,h2⟩:=I1.tupleP hr
 refine⟨"tuple",id,PySem.F.plainAttrs_tuple,slot,hty,h1,h2,?_⟩
 have hA:=ha cpos pins s1 σ H1 _ I1 q1
 rw[hs] at hA ⊢
 refine Calls.callWith_builtin (by show (false || (backTo cpos (starEach es X.env)).any (·.1))=false;rw[hplain] <;> rfl) (Calls.evalArgs_plain ?_)
 exact cG hA λus s2 ⟨vs,H2,I2,r2,q2⟩=>hm pins s2 σ H2 (.ref p) vs (.ref p) us Q I2 rfl r2 q2
def nh:List D->Option (@KF)
 | []=>some []
 | .int i :: ds=>(nh ds).map (i :: ·)
 |_=>none
theorem xO:∀{ds:List D} {ns:@KF},nh ds=some ns->ds=ns.map int
 | [],ns,h=>by cases h;rfl
 | .int i :: ds,ns,h=>by
  unfold nh at h
  cases q:nh ds with
  |none=>rw[q] at h;cases h
  |some ms=>rw[q] at h;cases h;rw[xO q];rfl
 | .none :: _,_,h=>by cases h
 | .bool _ :: _,_,h=>by cases h
 | .str _ :: _,_,h=>by cases h
 | .list _ :: _,_,h=>by cases h
 | .tuple _ :: _,_,h=>by cases h
 | .dict _ :: _,_,h=>by cases h
theorem mU:∀ns:@KF,nh (ns.map int)=some ns
 | []=>rfl
 |n :: ns=>by show (nh (ns.map int)).map (n :: ·)=_;rw[mU ns];rfl
theorem sX:∀{ns:@KF} {xs:List V},cI K G xs (ns.map int)->xs=ns.map V.int
 | [],_,.nil=>rfl
 |n :: ns,_,.cons r t=>by cases r;rw[sX t];rfl
def GD (d y:D):Option D:=match d,y with
 | .tuple ds,.int k=>(match nh ds with
  |some ns=>if k∈ns then some (.int (ns.idxOf k:Nat)) else none
  |none=>none)
 |_,_=>none
def A3:D->Bool
 | .tuple _=>true
 |_=>false
def pA (fa fb:VF D):VF D:=λvs β=>(@TX).bnd λx β1=>if A3 x=true then (fb vs β1).bnd λy β2=>R.of (GD x y) β2 else .bad
theorem xm (hK:X.K=Γ.K)(ha:@Re)(hb:SE X Γ E b fb Lb mb)
  (hbase:attributeBase a "index" X.env (eval a X.env)=eval a X.env:=by rfl)
  (hfew:((backTo cpos (starEach [b] X.env)).all (λx=> !x.1) && @S_
   && decide ([b].length + ([]:List Keyword).length + @Ta < 30))=true:=by rfl)
  (hline:(apos.endLine == cpos.line)=true:=by rfl) (hs:starEach [b] X.env=(false,eval b X.env) :: starEach [] X.env:=by rfl) :
  SE X Γ E (.Call (.Attribute a "index" apos) [b] [] cpos) (pA fa fb) (La ++ Lb) .v:=by
 refine PE.post' (Jj PySem.F.slot_tuple_index PySem.F.type_tuple_index CO ha (ax hb aR hs) hbase hfew hline hs rfl) λσ H Q ⟨env,G,B,β,I,o⟩=>?_
 refine⟨env,G,B,β,I,o.bnd.imp λd1 β1 h x G1 H1 I1 s1 m1 vx=>?_⟩
 have vx:=vx.brw I.boxThere
 cases d1 with
 |tuple ds=>
  rw[Po (show A3 (.tuple ds)=true from rfl)] at h
  obtain⟨p,xs,rfl,hq,r⟩:=vx.tuple I1.sub
  refine⟨⟨p,xs,rfl,by rw[hK];exact hq⟩,?_⟩
  refine⟨a8 La env,G1,B,β1,I1,?_⟩
  rw[dh]
  refine h.bnd.imp λd2 β2 h y G2 H2 I2 s2 m2 vy=>?_
  obtain⟨d,e,k⟩:=h.of
  have vy:=vy.brw I1.boxThere
  cases d2 with
  |int kk=>
   obtain rfl:=vy.int
   simp only[GD] at e
   cases q:nh ds with
   |none=>rw[q] at e;cases e
   |some ns=>
    rw[q] at e
    dsimp only at e
    split at e
    ·rename_i hk
     cases e
     have eds:=xO q
     subst eds
     have exs:=sX r
     subst exs
     have hq2:gj X.K H2 p (ns.map V.int):=by
      rw[hK]
      rcases hq with hq |hq
      ·rcases vx with vx | ⟨_,_,_,vx⟩
       ·cases vx with
        |tup g1 r9=>have z9:=sX r9;subst z9;exact (g1.grow (s2.trans I2.sub).grow)
       ·exact vx.elim
      ·exact .inr hq
     exact⟨p,ns,kk,rfl,rfl,hq2,hk,k _ G2 H2 (by rw[bO];exact I2) (s1.trans s2) (m1.trans m2) (.int _)⟩
    ·cases e
  |_=>simp only[GD] at e;cases e
 |_=>exact h.elim
abbrev Fx.at (Γ:Fx)(H0:Hp):Fx:=⟨Γ.K,H0,Γ.G0,Γ.par,Γ.ca,Γ.br,Γ.bx⟩
end
end L2
namespace L2
open PySem PySem.Spec PyProof.Rows
def MC (W:Addr->Str->Prop):Sp:=λvs H Q _=>∃(ea D:Addr) (x:Str),vs= [.ref ea]/\H ea=some (.ext (km ea @Tj))/\W D x/\∀H',av H H'->Q (.str x) H'
def jR:En->Bool
 | []=>true
 | .no :: env=>jR env
 | .fz _ :: env=>jR env
 |_=>false
theorem iZ:∀{env:En} {i:Nat} {s:Sl},jR env=true->env[i]? =some s->s=.no\/∃d,s=.fz d
 | [],_,_,_,e=>by simp at e
 | .no :: env,0,_,_,e=>by simp at e;exact .inl e.symm
 | .fz d :: env,0,_,_,e=>by simp at e;exact .inr ⟨d,e.symm⟩
 | .no :: env,i + 1,s,h,e=>iZ (env:=env) h (by simpa using e)
 | .fz d :: env,i + 1,s,h,e=>iZ (env:=env) h (by simpa using e)
 | .ow _ :: _,_,_,h,_=>by cases h
 | .br _ :: _,_,_,h,_=>by cases h
 | .bx :: _,_,_,h,_=>by cases h
section
variable {X:Cx}{Γ:Fx}{E:XK}{m:SF}
def SR.drop {B:@J_}{G H:Hp}{σ:St}{env:En}{β:Int}(I:@G_)(hf:jR env=true):SR (Fx.fn Γ.K H G Γ.ca) none G H σ env 0:=by
 refine⟨I.sub,av.refl _,λb _ h=>h,λb o h _=>Kt.of h,λb h=>(by cases h),λb h=>(by cases h),λb h=>(by cases h),I.len,λi s e=>?_,λi j a d e h=>?_⟩
 ·rcases iZ hf e with rfl | ⟨d,rfl⟩
  ·trivial
  ·exact I.slot i _ e
 ·rcases iZ hf h with z | ⟨_,z⟩ <;> cases z
def SR.undrop {B B':@J_}{G H G' H':Hp}{σ σ':St}{env env':En}{β β':Int}(I:@G_)(J:SR (Fx.fn Γ.K H G Γ.ca) B' G' H' σ' env' β'):SR Γ B G' H' σ (List.replicate env.length .no) β:=by
 have kp:∀b o,H b=some o->Kt H' b o:=λb o e=>J.keep b o e @Go
 have ks:av H H':=kp
 refine⟨J.sub,I.old.trans J.old,λb h1 h2=>J.new b (I.thereM h1) (I.new b h1 h2),λb o h1 h2=>(I.keep b o h1 h2).step ks,λb hb=>(I.pin b hb).same (kp b),I.fix,λb e=>?_,by rw[Ri];exact I.len,λi s e=>?_,λi j a d e h=>?_⟩
 ·obtain⟨h1,h2,h3⟩:=I.box b e
  exact⟨kp b _ h1,J.new b (Mx.lst h1) h2,h3⟩
 ·rw[Rt (PV e)];trivial
 ·have:=Rt (PV h);cases this
def SR.forget {B:@J_}{G H H':Hp}{σ:St}{env:En}{β:Int}(I:@G_)(hh:av H H'):SR Γ B G H' σ env β:=I.ext ⟨hh,av.refl _,I.sub.trans hh,λ_ _=>rfl⟩
end
structure G7 (P:Program)(w:World)(K:Frag)(mg:@Fa)(base:Heap)(ca:Str->Addr)(x y:Str)(marks:Str->Option Str):Prop where
 ex:∃(gm Dc:Addr) (dm:FuncData) (W:Addr->Str->Prop),uw P w K mg base zy 1 gm dm ["e"] (MC W)/\mg y=some (.ref gm)/\PySem.W.keepIn K (.ref gm)=true/\Binds K dm ["e"] []/\mg x=some (.ref Dc)/\∀c z,marks c=some z->Mt K (.ref (ca c)) Dc/\W (ca c) z
end L2
namespace L2
open PySem
section
variable {α γ:Type}
@[simp] theorem nG (a:α)(β:Int)(k:α->Int->R γ):(R.ok a β).bnd k=k a β:=rfl
@[simp] theorem Nd (c:Str)(k:α->Int->R γ):(R.exc c:R α).bnd k=.exc c:=rfl
@[simp] theorem Na (k:α->Int->R γ):(R.bad:R α).bnd k=.bad:=rfl
@[simp] theorem NP (a:α)(β:Int)(k:α->Int->R γ):(R.ok a β).okb k=k a β:=rfl
@[simp] theorem vC (a:α)(β:Int):R.of (some a) β=.ok a β:=rfl
@[simp] theorem of_none (β:Int):(R.of none β:R α)=.bad:=rfl
@[simp] theorem OH (a:α)(β:Int)(k:α->Int->SO):toS (.ok a β) k=k a β:=rfl
@[simp] theorem Nk (c:Str)(k:α->Int->SO):toS (.exc c:R α) k=.exc c:=rfl
@[simp] theorem M6 (k:α->Int->SO):toS (.bad:R α) k=.bad:=rfl
end
section
variable (f fa fb fc:VF D)(t u:VF Bool)(m m':SF)(vs:List Nv)(β:Int)(env:En)(i j:Nat)(L:@IO)
@[simp] theorem Jc:gv i vs β=R.of (dat vs[i]?) β:=rfl
@[simp] theorem zq (d:D):dat (some (.da d))=some d:=rfl
@[simp] theorem Oz (d:D):cst d vs β=.ok d β:=rfl
@[simp] theorem O1 (g:@Os):f1 fa g vs β=(@TX).bnd λx β1=>R.of (g x) β1:=rfl
@[simp] theorem OV (g:D->@Os):f2 fa fb g vs β=(@TX).bnd λx β1=>(fb vs β1).bnd λy β2=>R.of (g x y) β2:=rfl
@[simp] theorem AW:af vs β=.ok [] β:=rfl
@[simp] theorem bE (fr:@Pi):aa fa fr vs β=(@TX).bnd λx β1=>(fr vs β1).bnd λxs β2=>.ok (x :: xs) β2:=rfl
@[simp] theorem vT:lG fa vs β=(@TX).bnd λx β1=>R.of (JE x) β1:=rfl
@[simp] theorem wt:uv t vs β=(t vs β).bnd λc β1=>.ok (!c) β1:=rfl
@[simp] theorem DZ:yN t u vs β=(t vs β).bnd λc β1=>if c=true then u vs β1 else .ok false β1:=rfl
@[simp] theorem qS:nu t u vs β=(t vs β).bnd λc β1=>if c=true then .ok true β1 else u vs β1:=rfl
@[simp] theorem O4 (n:Bool):tN fa n vs β=(@TX).bnd λx β1=>.ok (if n then !Ia x else Ia x) β1:=rfl
@[simp] theorem K7:M9 t fa fb vs β=(t vs β).bnd λc β1=>if c=true then fa vs β1 else fb vs β1:=rfl
@[simp] theorem fB (c:Bool){β1:Int}(h:@TX=.ok (.bool c) β1):cm fa vs β=.ok c β1:=by unfold cm;rw[h];rfl
@[simp] theorem zb:vl []= []:=rfl
@[simp] theorem u7 (s:Sl):vl (s :: env)=s.val :: vl env:=rfl
@[simp] theorem zP (d:D):(Sl.fz d).val=.da d:=rfl
@[simp] theorem Oo (d:D):(Sl.ow d).val=.da d:=rfl
@[simp] theorem N3:Sl.no.val=.no:=rfl
@[simp] theorem NG:Sl.bx.val=.bx:=rfl
@[simp] theorem Nq:a8 [] env=env:=rfl
@[simp] theorem MJ:a8 (i :: L) env=a8 L (ip env i):=rfl
@[simp] theorem M7:aK m m' env β=(match m env β with
 | .nx env' β'=>m' env' β'
 |r=>r):=rfl
@[simp] theorem Ov:kr L t m m' env β=toS (t @Ps β) λc β'=>if c=true then m @SX β' else m' @SX β':=rfl
@[simp] theorem cA:bG f env β=toS (f @Ps β) λd β'=>.rt d false β':=rfl
@[simp] theorem xE:ml f env β=toS (f @Ps β) λd β'=>.rt d true β':=rfl
@[simp] theorem N7:nR env β=.nx env β:=rfl
@[simp] theorem bP:a9 i L f env β=toS (f @Ps β) λd β'=>.nx ((a8 L env).set i (.fz d)) β':=rfl
@[simp] theorem j8:l4 i L f env β=toS (f @Ps β) λd β'=>.nx ((a8 L env).set i (.ow d)) β':=rfl
@[simp] theorem mE:mD L f env β=toS (f @Ps β) λ_ β'=>.nx @SX β':=rfl
end
def az {m m':SF}{env env':En}{β β':Int}(h:m env β=.nx env' β'):aK m m' env β=m' env' β':=by unfold aK;rw[h]
def eT {m m':SF}{env:En}{β β':Int}{d:D}{b:Bool}(h:m env β=.rt d b β'):aK m m' env β=.rt d b β':=by unfold aK;rw[h]
def ij {L:@IO}{t:VF Bool}{m m':SF}{env:En}{β β':Int}(h:t @Ps β=.ok true β'):kr L t m m' env β=m @SX β':=by unfold kr;rw[h];rfl
def gr {L:@IO}{t:VF Bool}{m m':SF}{env:En}{β β':Int}(h:t @Ps β=.ok false β'):kr L t m m' env β=m' @SX β':=by unfold kr;rw[h];rfl
def aE {F:@Fk}{fr:@Pi}{vs:List Nv}{β β1:Int}{ds:List D}{d:D}{b:Bool}(h:fr vs β=.ok ds β1)(e:F ds=.ok d b):ay F fr vs β=.ok d β1:=by unfold ay;rw[h];dsimp only[R.bnd];rw[e]
def uY {F:@Fk}{fr:@Pi}{vs:List Nv}{β β1:Int}{ds:List D}{c:Str}(h:fr vs β=.ok ds β1)(e:F ds=.exc c):ay F fr vs β=.exc c:=by unfold ay;rw[h];dsimp only[R.bnd];rw[e]
def yz {F:@Fk}{fr:@Pi}{vs:List Nv}{β β1:Int}{ds:List D}{d:D}(h:fr vs β=.ok ds β1)(e:F ds=.ok d true):ue F fr vs β=.ok d β1:=by unfold ue;rw[h];dsimp only[R.bnd];rw[e]
def eN {fa:VF D}{g:@Os}{vs:List Nv}{β β1:Int}{x d:D}(h:@TX=.ok x β1)(e:g x=some d):f1 fa g vs β=.ok d β1:=by unfold f1;rw[h];dsimp only[R.bnd];rw[e];rfl
def aF {fa fb:VF D}{g:D->@Os}{vs:List Nv}{β β1 β2:Int}{x y d:D}(h:@TX=.ok x β1)(h':fb vs β1=.ok y β2)(e:g x y=some d):f2 fa fb g vs β=.ok d β2:=by unfold f2;rw[h];dsimp only[R.bnd];rw[h'];dsimp only[R.bnd];rw[e];rfl
def fx {i:Nat}{F:@SN}{fr:@Pi}{vs:List Nv}{β β1 β2:Int}{ds:List D}{d:D}{b:Bool}(hi:z5 vs i=true)(h:fr vs β=.ok ds β1)(e:F ds β1=.ok d b β2):i5 i F fr vs β=.ok d β2:=by unfold i5;rw[Po hi,h];dsimp only[R.bnd];rw[e]
def sz (n:Nat)(h:n<=1000):n<=sizeLine:=by rw[Qc];omega
def MN (n:Nat)(h:n<=1000):n < sizeLine:=by rw[Qc];omega
def iE {fr:@Pi}{vs:List Nv}{β β1:Int}{ds:List D}(h:fr vs β=.ok ds β1)(hz:ds.length<=1000):aQ fr vs β=.ok (.tuple ds) β1:=by unfold aQ;rw[h];exact Po (sz _ hz)
def dU {fr:@Pi}{vs:List Nv}{β β1:Int}{ds:List D}(h:fr vs β=.ok ds β1)(hz:ds.length<=1000):bt fr vs β=.ok (.list ds) β1:=by unfold bt;rw[h];exact Po (sz _ hz)
def vU {i:Nat}{env:En}{β:Int}{g:List D->Option (List D)}{ds es:List D}(h:env[i]? =some (.ow (.list ds)))(e:g ds=some es):IX i env β g=.nx (env.set i (.ow (.list es))) β:=by unfold IX;rw[h];dsimp only;rw[e]
def ot {i:Nat}{L:@IO}{f:VF D}{env:En}{β β':Int}{ds:List D}{d:D}(hi:env[i]? =some (.ow (.list ds)))(hf:f @Ps β=.ok d β')(hL:(@SX)[i]? =some (.ow (.list ds)))(hz:ds.length<=1000):l0 i L f env β=.nx ((a8 L env).set i (.ow (.list (ds ++ [d])))) β':=by
 unfold l0
 rw[Po (by rw[hi];rfl),hf]
 exact vU hL (Po (MN _ hz))
def y0 {i j:Nat}{L:@IO}{f:VF D}{env:En}{β β':Int}{ds es es':List D}{k d:D}(hi:env[i]? =some (.ow (.list ds)))(hj:env[j]? =some (.ow (.list es)))(hij:i≠j)(hf:f @Ps β=.ok k β')(hL:a8 L env=env)(hp:CQ es k=some (d,es'))(hz:ds.length<=1000):ll i j L f env β=.nx ((env.set j (.ow (.list es'))).set i (.ow (.list (ds ++ [d])))) β':=by
 unfold ll
 rw[Po ⟨by rw[hi];rfl,by rw[hj];rfl,hij⟩,hf,hL]
 dsimp only[toS]
 rw[hj]
 dsimp only
 rw[hp]
 exact vU (by rw[PZ (Ne.symm hij)];exact hi) (Po (MN _ hz))
def Ee {i:Nat}{Le Li:@IO}{fe fi:VF D}{env:En}{β β1 β2:Int}{ds:List D}{d:D}{k:Int}{n:Nat}(he:fe @Ps β=.ok d β1)(h1:(a8 Le env)[i]? =some (.ow (.list ds)))(hi:fi @Ps β1=.ok (.int k) β2)(h2:(a8 (Le ++ Li) env)[i]? =some (.ow (.list ds)))(hk:wM ds.length k=some n):yb i Le Li fe fi env β=.nx ((a8 (Le ++ Li) env).set i (.ow (.list (ds.set n d)))) β2:=by
 unfold yb
 rw[he]
 dsimp only[toS]
 rw[Po (by rw[h1];rfl),hi]
 exact vU h2 (by dsimp only;rw[hk];rfl)
theorem rE {t:Tg}{ft:VF Bool}{fe:VF D}{vs:List Nv}(g:D->Bool)(h:D->D):∀{ds:List D} {β:Int},(∀d,d∈ds->∃vs1,nr t d vs=some vs1/\ft vs1 β=.ok (g d) β/\(g d=true->fe vs1 β=.ok (h d) β))->fQ t ft fe vs ds β=.ok ((ds.filter g).map h) β
 | [],β,_=>rfl
 |d :: ds,β,hh=>by
  obtain⟨vs1,e1,e2,e3⟩:=hh d (Pz ..)
  have ih:=rE (t:=t) (ft:=ft) (fe:=fe) (vs:=vs) g h (ds:=ds) (β:=β) λd' hd=>hh d' (Pw _ hd)
  unfold fQ
  rw[e1]
  dsimp only
  rw[e2]
  dsimp only[R.okb]
  cases q:g d with
  |true=>
   rw[Po rfl,e3 q]
   dsimp only
   rw[ih,List.filter_cons_of_pos q];rfl
  |false=>
   rw[Px PR,ih,List.filter_cons_of_neg (by rw[q];exact PR)]
def y9 {own:Nat}{ixs:@IO}{t:Tg}{fi:@Pi}{ft:VF Bool}{fe:VF D}{vs:List Nv}{β β1:Int}{ds:List D}(g:D->Bool)(h:D->D)(hi:fi vs β=.ok ds β1)(hz:ds.length<=1000)
  (hh:∀d,d∈ds->∃vs1,nr t d (gp own ixs vs)=some vs1/\ft vs1 β1=.ok (g d) β1/\(g d=true->fe vs1 β1=.ok (h d) β1)):aM own ixs t fi ft fe vs β=.ok (.list ((ds.filter g).map h)) β1:=by
 unfold aM
 rw[hi]
 dsimp only[R.bnd]
 rw[Po (sz _ hz),rE g h hh];rfl
def uF {own:Nat}{ixs:@IO}{t:Tg}{fi:@Pi}{fe:VF D}{vs:List Nv}{β β1:Int}{ds:List D}(h:D->D)(hi:fi vs β=.ok ds β1)(hz:ds.length<=1000)
  (hh:∀d,d∈ds->∃vs1,nr t d (gp own ixs vs)=some vs1/\fe vs1 β1=.ok (h d) β1):aM own ixs t fi lN fe vs β=.ok (.list (ds.map h)) β1:=by
 rw[y9 (ft:=lN) (λ_=>true) h hi hz λd hd=>let ⟨vs1,e1,e2⟩:=hh d hd;⟨vs1,e1,rfl,λ_=>e2⟩]
 rw[List.filter_eq_self.mpr @C_]
def cV {α:Type}{own:Nat}{ixs:@IO}{t:Tg}{fi:@Pi}{fe:VF D}{vs:List Nv}{β β1:Int}{l:List α}{e:α->D}(h:α->D)(hi:fi vs β=.ok (l.map e) β1)(hz:l.length<=1000)
  (hh:∀x,x∈l->∃vs1,nr t (e x) (gp own ixs vs)=some vs1/\fe vs1 β1=.ok (h x) β1):aM own ixs t fi lN fe vs β=.ok (.list (l.map h)) β1:=by
 unfold aM
 rw[hi]
 dsimp only[R.bnd]
 rw[Po (sz _ (by rw[Py];exact hz))]
 have key:∀m:List α,(∀x,x∈m->x∈l)->fQ t lN fe (gp own ixs vs) (m.map e) β1=.ok (m.map h) β1:=by
  intro m
  induction m with
  |nil=>intro _;rfl
  |cons x m ih=>
   intro hm
   obtain⟨vs1,e1,e2⟩:=hh x (hm x (Pz ..))
   rw[P8]
   unfold fQ
   rw[e1]
   dsimp only
   show (R.ok true β1).okb _=_
   dsimp only[R.okb]
   rw[Po rfl,e2]
   dsimp only
   rw[ih λy hy=>hm y (Pw _ hy)];rfl
 rw[key l λ_ h=>h];rfl
def cf {α:Type}{own:Nat}{ixs:@IO}{t:Tg}{fi:@Pi}{ft:VF Bool}{fe:VF D}{vs:List Nv}{β β1:Int}{l:List α}{e:α->D}(g:α->Bool)(h:α->D)(hi:fi vs β=.ok (l.map e) β1)(hz:l.length<=1000)
  (hh:∀x,x∈l->∃vs1,nr t (e x) (gp own ixs vs)=some vs1/\ft vs1 β1=.ok (g x) β1/\(g x=true->fe vs1 β1=.ok (h x) β1)):aM own ixs t fi ft fe vs β=.ok (.list ((l.filter g).map h)) β1:=by
 unfold aM
 rw[hi]
 dsimp only[R.bnd]
 rw[Po (sz _ (by rw[Py];exact hz))]
 have key:∀m:List α,(∀x,x∈m->x∈l)->fQ t ft fe (gp own ixs vs) (m.map e) β1=.ok ((m.filter g).map h) β1:=by
  intro m
  induction m with
  |nil=>intro _;rfl
  |cons x m ih=>
   intro hm
   obtain⟨vs1,e1,e2,e3⟩:=hh x (hm x (Pz ..))
   have ih:=ih λy hy=>hm y (Pw _ hy)
   rw[P8]
   unfold fQ
   rw[e1]
   dsimp only
   rw[e2]
   dsimp only[R.okb]
   cases q:g x with
   |true=>
    rw[Po rfl,e3 q]
    dsimp only
    rw[ih,List.filter_cons_of_pos q];rfl
   |false=>
    rw[Px PR,ih,List.filter_cons_of_neg (by rw[q];exact PR)]
 rw[key l λ_ h=>h];rfl
theorem dz {t:Tg}{m:SF}(Pv:Nat->En->Int->Prop):∀{ds:List D} {k:Nat} {env:En} {β:Int},Pv k env β->
  (∀i d env β,ds[i]? =some d->Pv (k + i) env β->∃env1,hZ t d env=some env1/\∃env2 β2,m env1 β=.nx env2 β2/\Pv (k + i + 1) env2 β2)->∃env' β',lK t m ds env β=.nx env' β'/\Pv (k + ds.length) env' β'
 | [],k,env,β,h0,_=>⟨env,β,rfl,h0⟩
 |d :: ds,k,env,β,h0,hs=>by
  obtain⟨env1,e1,env2,β2,e2,h1⟩:=hs 0 d env β rfl h0
  obtain⟨env',β',e3,h2⟩:=dz Pv (t:=t) (m:=m) (ds:=ds) (k:=k + 1) h1 λi d' en be hi hp=>by
   have:=hs (i + 1) d' en be (by simpa using hi) (by rw[show k + (i + 1)=k + 1 + i by omega];exact hp)
   rw[show k + (i + 1) + 1=k + 1 + i + 1 by omega] at this
   exact this
  refine⟨env',β',?_,by rw[P7,show k + (ds.length + 1)=k + 1 + ds.length by omega];exact h2⟩
  unfold lK
  rw[e1]
  dsimp only
  rw[e2]
  exact e3
theorem jf {L:@IO}{t:VF Bool}{m:SF}(Pv:Nat->En->Int->Prop)(Dn:En->Int->Prop):∀{n k:Nat} {env:En} {β:Int},k < n->Pv k env β->
  (∀k env β,Pv k env β->∃c β1,t @Ps β=.ok c β1/\((c=false/\Dn @SX β1)\/(c=true/\∃env2 β2 k',m @SX β1=.nx env2 β2/\k' < k/\Pv k' env2 β2)))->∃env' β',i8 L t m n env β=.nx env' β'/\Dn env' β'
 | 0,k,env,β,hk,_,_=>@AT
 |n + 1,k,env,β,hk,h0,hs=>by
  obtain⟨c,β1,e1,hc⟩:=hs k env β h0
  unfold i8
  rw[e1]
  dsimp only[toS]
  rcases hc with⟨rfl,hd⟩ | ⟨rfl,env2,β2,k',e2,hl,h1⟩
  ·exact⟨_,_,rfl,hd⟩
  ·rw[Po rfl,e2]
   exact jf Pv Dn (n:=n) (k:=k') (@AT) h1 hs
end L2
namespace RM
open PySem L2
def rm:SF:=(bG (fA (f1 (gv 0) (jk "int")) (f1 (f1 (gv 0) (jk "bool")) Cb)))
def rL (cc:@Fk):SF:=(bG (fA (ay cc @Is) (ku @Cl (gv 0) (gv 1) EO FX)))
def uK (cc:@Fk):SF:=(bG (fA (ay cc @Is) (ku @EQ (gv 0) (cst (.int 8)) EO EO)))
def j6 (fq:@Fk):SF:=(aK (kr @TY (nu (uv (lG (f1 (gv 0) (jk "tuple")))) (cm (f2 (f1 (gv 0) eS) @Tf (cv true))))
 (bG (cst (.bool false)))
 nR)
 (bG (fA (ay fq (aa @TB @L_)) (ay fq (aa (f2 (gv 0) @EQ bu) @L_)))))
def iI:SF:=(ml (aM 1 [0] (.nm 0) (bS (f2 (gv 0) (gv 0) cR)) lN (aQ (aa (f2 (gv 0) (gv 1) C9) (aa (f2 (gv 0) (gv 1) nU) af)))))
def rH:SF:=(bG (f1 (aM 2 [] (.two 0 1) (bC (gv 0)) lN (f2 (gv 0) (gv 1) (cv false))) (iC λbs=>bs.any id)))
def ja (iV cx kg gF:@Fk):SF:=(aK (kr @TY (nu (uv (lG (f1 (gv 0) (jk "tuple")))) (cm (f2 (f1 (gv 0) eS) @Tf (cv true))))
 (bG (cst (.bool false)))
 nR)
 (aK (a9 1 @Ev @TB)
 (aK (a9 2 @Ev (f2 (gv 0) @EQ bu))
 (aK (kr (([1] ++ []) ++ []) (nu (uv (lG (ay iV @L_))) (uv (lG (f1 (gv 2) (jk "tuple")))))
 (bG (cst (.bool false)))
 nR)
 (aK (kr ([] ++ [1]) (uv (lG (f1 (aM 1 [1] (.nm 0) (bC (gv 2)) lN (ay cx (aa (gv 0) @L_))) (iC λbs=>bs.all id))))
 (bG (cst (.bool false)))
 nR)
 (bG (fA (f2 (gv 2) (ay kg (aa (gv 1) (aa (gv 2) af))) (cv false)) (f1 (ay gF (aa (gv 2) af)) Cb))))))))
def iQ (gC:@Fk):SF:=(kr ([0] ++ []) (uv (lG (ay gC @Is)))
 (λenv β=>toS ((aa (cst (.str "this is no order")) af) @Ps β) λds _=>if ds.length<=sizeLine then .exc "NoOrder" else .bad)
 nR)
def qf:SF:=(bG (fA (f2 (gv 1) (gv 2) (cv true)) @Tc))
def h9:SF:=(aK (kr @Ev (cm (f2 (gv 1) (f1 (gv 0) eS) FX))
 (bG (f2 (gv 0) (gv 1) bu))
 nR)
 (bG @Cl))
def kE:SF:=(aK (a9 2 [] (bt (O5 [48271,69621,16807,39373,30269,40014,40692,50021,61687,71993,83869,95561,30307]))) (aK (a9 3 ((((@Ev ++ []) ++ @TY) ++ @Ev) ++ @TY) (f2 (f2 (f2 (f2 (f2 (gv 0) (cst (.int 2147483647)) nU) (cst (.int 12345)) b8) (f2 (gv 2) (f2 (gv 1) (cst (.int 13)) nU) bu) cR) (f2 (cst (.int 977)) (gv 1) cR) b8) (f2 (cst (.int 7919)) (f2 (gv 1) (cst (.int 13)) C9) cR) b8))
 (aK (a9 3 @Ev (f2 (gv 3) (cst (.int 1000000007)) nU))
 (bG (f2 (f2 (f2 (f2 (gv 3) (gv 3) cR) (f2 (cst (.int 48271)) (gv 1) cR) b8) (cst (.int 1000000007)) nU) (cst (.int 7)) C9)))))
def kA (fJ gM:@Fk):SF:=(aK (a9 2 ([0] ++ ([1] ++ [])) (ay fJ (aa (gv 0) @L_)))
 (aK (kr (@Ev ++ []) (cm (f2 (f2 (gv 2) @Tf nU) @Cl (cv false)))
 (ml (bt (aa (f2 (f1 (gv 2) GJ) @Tf C9) af)))
 nR)
 (aK (a9 3 [] @Cl)
 (aK (dY (.nm 4) [] (bS (cst (.int 40)))
 (a9 3 (@Ev ++ ([2] ++ ([4] ++ []))) (f2 (f2 (gv 3) (cst (.int 142857143)) cR) (ay gM (aa (gv 2) @Te)) b8)))
 (ml (bt (aa (gv 3) af)))))))
def eV (aH:@SN):SF:=(aK (l4 2 [] (f1 (gv 1) AG))
 (aK (l4 3 [] (bt af))
 (aK (i8 @Ev (cm (f2 (gv 2) (bt af) (cv true)))
 (ll 3 2 @Ev (i5 0 aH (aa (f1 (gv 2) eS) af))) 1000)
 (uN 3))))
noncomputable def gY:SF:=(aK (a9 1 [] (f1 (gv 0) cY))
 (aK (a9 2 [] (f1 @EQ pz))
 (aK (i8 @Ev (cm (f2 (gv 2) (f1 (gv 1) eS) (cv true)))
 (aK (a9 2 [] (f1 (gv 1) eS))
 (aK (a9 3 [] (bt af))
 (aK (dY (.two 4 5) [1] (bC (gv 1))
 (a9 3 ([] ++ ([] ++ [4])) (f2 (gv 3) @KB dt)))
 (a9 1 @Ev (f1 (f2 (gv 1) (gv 3) dt) cY))))) 1000)
 (bG (f1 (gv 1) gL)))))
def iF (dc:@Fk)(aH aN:@SN):SF:=(aK (a9 2 ([] ++ ([1] ++ [])) (f2 @EQ (i5 0 aH @L_) b8))
 (aK (a9 3 @Ev (i5 0 aN (aa (f1 (gv 2) cC) af)))
 (aK (a9 4 (([] ++ ([] ++ @TY)) ++ @Ev) (f2 (bt (aa @Tf (aa (cst (.int 3)) (aa (cst (.int 4)) (aa (cst (.int 7)) af))))) (i5 0 aH (aa (cst (.int 4)) af)) bu))
 (aK (l4 5 [] (bt af))
 (aK (dY (.nm 6) [] (bS (gv 2))
 (dY (.nm 7) (@Ev ++ []) (ux (f2 (gv 6) @EQ b8) (gv 2))
 (kr (([4] ++ []) ++ []) (cm (f2 (i5 0 aH @Te) @Cl (cv false)))
 (l0 5 (@Ev ++ (@Ev ++ [])) (aQ (aa (f2 (gv 3) (gv 6) bu) (aa (f2 (gv 3) (gv 7) bu) af))))
 nR)))
 (bG (aQ (aa (gv 2) (aa (ay dc (aa (gv 5) af)) af)))))))))
def oj:SF:=(bG (fA (f2 (gv 1) (gv 2) (cv true)) @Tc))
def qY (a7 cT bJ:@Fk):SF:=(aK (mD ([0] ++ []) (ay a7 @Is))
 (ml (aM 2 [0] (.two 0 1) (bC (ay cT (aa @TB af))) (lG (ay bJ (aa (gv 2) (aa (gv 0) @L_)))) (aQ (aa (gv 0) @L_)))))
def qE:D->Bool
 | .int _=>true
 |_=>false
def lO:@Fk
 | [d]=>if cX d=true then .bad else .ok (.bool (qE d)) false
 |_=>.bad
def oJ {d:D}(h:cX d=false):lO [d]=.ok (.bool (qE d)) false:=Px (by rw[h];exact PR)
def AR (ds:List D)(h:lO ds≠.bad):bg 1 1 rm ds=lO ds:=by
 unfold lO at h
 split at h
 ·rename_i d
  cases q:cX d with
  |true=>rw[q] at h;exact absurd rfl h
  |false=>
   rw[oJ q]
   have e1:jk "int" d=some (.bool (D6 d "int")):=by unfold jk;rw[q];rfl
   have e2:jk "bool" d=some (.bool (D6 d "bool")):=by unfold jk;rw[q];rfl
   show fin (bG (fA (f1 (gv 0) (jk "int")) (f1 (f1 (gv 0) (jk "bool")) Cb)) [.fz d] 0)=_
   unfold bG fA f1 gv
   simp only[u7,zb,zP,List.getElem?_cons_zero,zq,vC,nG,e1,e2]
   cases d <;> rfl
 ·exact absurd rfl h
def mC (d:D)(n:Int):Bool:=match d with
 | .int i=>decide (0<=i/\i < n)
 |_=>false
def gO:@Fk
 | [d,.int n]=>if cX d=true then .bad else .ok (.bool (mC d n)) false
 |_=>.bad
def vF {d:D}{n:Int}(h:cX d=false):gO [d,.int n]=.ok (.bool (mC d n)) false:=Px (by rw[h];exact PR)
def xF {i lo n:Int}{vs:List Nv}{β:Int}{fa fb fc:VF D}{g':D->@Os}{q:Bool}(ha:@TX=.ok (.int lo) β)(hb:fb vs β=.ok @S3 β)(hc:fc vs β=.ok @Ix β)(hq:g' @S3 @Ix=some (.bool q)):ku fa fb fc EO g' vs β=.ok (.bool (decide (lo<=i) && q)) β:=by
 unfold ku
 rw[ha];dsimp only[R.bnd];rw[hb];dsimp only[R.bnd]
 show (match (some (PyData.bool (decide (lo<=i))):Option D) with
  |some (.bool true)=>_
  |some (.bool false)=>_
  |_=>_)=_
 by_cases h:lo<=i
 ·rw[PF h]
  dsimp only
  rw[hc]
  dsimp only[R.bnd]
  rw[hq];rfl
 ·rw[PU h];rfl
def Gj (ds:List D)(h:gO ds≠.bad):bg 2 2 (rL lO) ds=gO ds:=by
 unfold gO at h
 split at h
 ·rename_i d n
  cases q:cX d with
  |true=>rw[q] at h;exact absurd rfl h
  |false=>
   rw[vF q]
   show fin (bG (fA (ay lO @Is) (ku @Cl (gv 0) (gv 1) EO FX)) [.fz d,.fz @Ix] 0)=_
   unfold bG fA ay
   simp only[u7,zb,zP,bE,AW,Jc,List.getElem?_cons_zero,zq,vC,nG,oJ q]
   cases d with
   |int i=>
    show fin (toS (ku @Cl (gv 0) (gv 1) EO FX [.da @S3,.da @Ix] 0) _)=_
    rw[xF (lo:=0) (i:=i) (n:=n) rfl rfl rfl rfl]
    show FR.ok (.bool (decide (0<=i) && decide (i < n))) false=.ok (.bool (decide (0<=i/\i < n))) false
    rw[Bool.decide_and]
   |_=>rfl
 ·exact absurd rfl h
def IF (d:D):Bool:=match d with
 | .int i=>decide (1<=i/\i<=8)
 |_=>false
def nj:@Fk
 | [d]=>if cX d=true then .bad else .ok (.bool (IF d)) false
 |_=>.bad
def Ff {d:D}(h:cX d=false):nj [d]=.ok (.bool (IF d)) false:=Px (by rw[h];exact PR)
def K8 (ds:List D)(h:nj ds≠.bad):bg 1 1 (uK lO) ds=nj ds:=by
 unfold nj at h
 split at h
 ·rename_i d
  cases q:cX d with
  |true=>rw[q] at h;exact absurd rfl h
  |false=>
   rw[Ff q]
   show fin (bG (fA (ay lO @Is) (ku @EQ (gv 0) (cst (.int 8)) EO EO)) [.fz d] 0)=_
   unfold bG fA ay
   simp only[u7,zb,zP,bE,AW,Jc,List.getElem?_cons_zero,zq,vC,nG,oJ q]
   cases d with
   |int i=>
    show fin (toS (ku @EQ (gv 0) (cst (.int 8)) EO EO [.da @S3] 0) _)=_
    rw[xF (lo:=1) (i:=i) (n:=8) rfl rfl rfl rfl]
    show FR.ok (.bool (decide (1<=i) && decide (i<=8))) false=.ok (.bool (decide (1<=i/\i<=8))) false
    rw[Bool.decide_and]
   |_=>rfl
 ·exact absurd rfl h
def pairF:@Fk
 | [d,.int n]=>(match sD d with
  |some p=>.ok (.bool (decide (@S1))) false
  |none=>.bad)
 |_=>.bad
def Fb (p:Pr)(n:Int):pairF [ao p,.int n]=.ok (.bool (decide (@S1))) false:=rfl
def KL (ds:List D)(h:pairF ds≠.bad):bg 2 2 (j6 gO) ds=pairF ds:=by
 unfold pairF at h
 split at h
 ·rename_i d n
  cases q:sD d with
  |none=>rw[q] at h;exact absurd rfl h
  |some p=>
   obtain rfl:=wR q
   rw[Fb]
   obtain⟨a,b⟩:=p
   show fin (toS (fA (ay gO (aa @TB @L_)) (ay gO (aa (f2 (gv 0) @EQ bu) @L_)) [.da (.tuple [.int a,.int b]),.da @Ix] 0) λd β'=>.rt d false β')=_
   have e1:ay gO (aa @TB @L_) [.da (.tuple [.int a,.int b]),.da @Ix] 0=.ok (.bool (decide (0<=a/\a < n))) 0:=rfl
   have e2:ay gO (aa (f2 (gv 0) @EQ bu) @L_) [.da (.tuple [.int a,.int b]),.da @Ix] 0=.ok (.bool (decide (0<=b/\b < n))) 0:=rfl
   unfold fA
   rw[e1]
   dsimp only[R.bnd]
   by_cases c:0<=a/\a < n
   ·rw[PF c,e2]
    show FR.ok (.bool (decide (0<=b/\b < n))) false=.ok (.bool (decide ((0<=a/\a < n)/\(0<=b/\b < n)))) false
    simp[c]
   ·rw[PU c]
    show FR.ok (.bool false) false=.ok (.bool (decide ((0<=a/\a < n)/\(0<=b/\b < n)))) false
    simp[c]
 ·exact absurd rfl h
def aA (n:Nat)(l:@Do):D:=.tuple [.int n,.tuple @R_]
open Classical in
noncomputable def ur (f:Nat->@Do->FR):D->FR:=λd=>if h:∃nl:Nat×@Do,d=aA nl.1 nl.2/\OM.Ord nl.1 nl.2 then f (Classical.choose h).1 (Classical.choose h).2 else .bad
def HL {p q:Pr}(h:ao p=ao q):p=q:=by
 obtain⟨a,b⟩:=p
 obtain⟨c,d⟩:=q
 unfold ao at h
 simp at h
 rw[h.1,h.2]
theorem qq:∀{l m:@Do},l.map ao=m.map ao->l=m
 | [],[],_=>rfl
 | [],_ :: _,h=>by cases h
 |_ :: _,[],h=>by cases h
 |p :: l,q :: m,h=>by
  simp only[P8,List.cons.injEq] at h
  rw[HL h.1,qq h.2]
def EY {n m:Nat}{l k:@Do}(h:aA n l=aA m k):n=m/\l=k:=by
 unfold aA at h
 simp only[PyData.tuple.injEq,List.cons.injEq,int.injEq,and_true] at h
 exact⟨@AT,qq h.2⟩
def yt {f:Nat->@Do->FR}{n:Nat}{l:@Do}(O:@S8):ur f (aA n l)=f n l:=by
 unfold ur
 have h:∃nl:Nat×@Do,aA n l=aA nl.1 nl.2/\OM.Ord nl.1 nl.2:=⟨(n,l),rfl,O⟩
 rw[dif_pos h]
 obtain⟨e,_⟩:=Classical.choose_spec h
 obtain⟨e1,e2⟩:=EY e
 rw[<-e1,<-e2]
def wQ {f:Nat->@Do->FR}{d:D}(h:ur f d≠.bad):∃n l,d=aA n l/\@S8:=by
 unfold ur at h
 by_cases q:∃nl:Nat×@Do,d=aA nl.1 nl.2/\OM.Ord nl.1 nl.2
 ·obtain⟨nl,e,O⟩:=q;exact⟨nl.1,nl.2,e,O⟩
 ·rw[dif_neg q] at h;exact absurd rfl h
noncomputable def dF:@Fk
 | [.int n,d]=>(match nJ d with
  |some ds=>(match gQ ds with
   |some ps=>(open Classical in if 1<=n/\n<=8/\OM.Wn n.toNat ps then .ok (.tuple ((OM.bW n.toNat (OM.Tr @TV)).map ao)) false else .bad)
   |none=>.bad)
  |none=>.bad)
 |_=>.bad
def Fy {n:Nat}{ps:@Do}(h1:1<=n)(h8:n<=8)(w:OM.Wn n ps):dF [.int n,.tuple (ps.map ao)]=.ok (.tuple ((OM.bW n (OM.Tr @TV)).map ao)) false:=by
 unfold dF
 simp only[nJ,fm]
 rw[Po ⟨@AT,@AT,by rw[Qj];exact w⟩,Qj]
def lH:@Fk
 | [.tuple ds]=>(match gQ ds with
  |some ps=>if ps.length<=1000 then .ok (.bool (ps.any λp=>decide (p.1=p.2))) false else .bad
  |none=>.bad)
 |_=>.bad
theorem mV {α:Type}(f:α->Bool):∀l:List α,lZ (l.map λx=>PyData.bool (f x))=some (l.map f)
 | []=>rfl
 |x :: l=>by
  show (lZ (l.map λx=>PyData.bool (f x))).map (f x :: ·)=_
  rw[mV f l];rfl
def Jf (ds:List D)(h:lH ds≠.bad):bg 1 1 rH ds=lH ds:=by
 unfold lH at h
 split at h
 ·rename_i ds
  cases q:gQ ds with
  |none=>rw[q] at h;exact absurd rfl h
  |some ps=>
   rw[q] at h
   dsimp only at h
   by_cases hz:ps.length<=1000
   case neg=>rw[Px hz] at h;exact absurd rfl h
   obtain rfl:=j7 q
   have e:lH [.tuple (ps.map ao)]=.ok (.bool (ps.any λp=>decide (p.1=p.2))) false:=by
    unfold lH;simp only[fm];rw[Po hz]
   rw[e]
   have ec:aM 2 [] (.two 0 1) (bC (gv 0)) lN (f2 (gv 0) (gv 1) (cv false)) [.da (.tuple (ps.map ao))] 0=.ok (.list (ps.map λp=>PyData.bool (decide (p.1=p.2)))) 0:=by
    exact cV (l:=ps) (e:=ao) (λp=>PyData.bool (decide (p.1=p.2))) rfl hz λp hp=>⟨_,rfl,rfl⟩
   show fin (toS ((aM 2 [] (.two 0 1) (bC (gv 0)) lN (f2 (gv 0) (gv 1) (cv false)) [.da (.tuple (ps.map ao))] 0).bnd λx β1=>R.of (iC (λbs=>bs.any id) x) β1) λd β'=>.rt d false β')=_
   rw[ec]
   simp only[nG,iC]
   rw[mV]
   simp[fin,List.any_map]
 ·exact absurd rfl h
def pX (p:Pr):SeqAt.shaped (ao p)=true:=rfl
theorem vh:∀l:@Do,PyData.canLayAll0 @R_=true
 | []=>rfl
 |p :: l=>by
  show ((ao p).canLay0 && PyData.canLayAll0 @R_)=true
  rw[vh l];rfl
theorem wB:∀l:@Do,PyData.depthAll @R_<=1
 | []=>by show (0:Nat)<=1;omega
 |p :: l=>by
  show max (ao p).depth (PyData.depthAll @R_)<=1
  have h1:(ao p).depth=1:=by simp[ao,PyData.depth,PyData.depthAll]
  have h2:=wB l
  omega
def sf (l:@Do):SeqAt.shaped (.tuple @R_)=true:=by
 unfold SeqAt.shaped
 have h1:(PyData.tuple @R_).canLay0=true:=by simp only[PyData.canLay0];exact vh l
 have h2:(PyData.tuple @R_).depth<=64:=by simp only[PyData.depth];have:=wB l;omega
 rw[h1,PF h2];rfl
def rn (l:@Do):SeqAt.shaped (.list @R_)=true:=by
 unfold SeqAt.shaped
 have h1:(PyData.list @R_).canLay0=true:=by simp only[PyData.canLay0];exact vh l
 have h2:(PyData.list @R_).depth<=64:=by simp only[PyData.depth];have:=wB l;omega
 rw[h1,PF h2];rfl
def FP (p q:Pr):PyData.eqv (ao p) (ao q)=decide (p=q):=by
 obtain⟨a,b⟩:=p
 obtain⟨c,d⟩:=q
 simp only[ao,PyData.eqv,PyData.eqvAll,Bool.and_true]
 rw[Qn]
 simp
theorem vX:∀l m:@Do,PyData.eqvAll @R_ (m.map ao)=decide (l=m)
 | [],[]=>rfl
 | [],_ :: _=>rfl
 |_ :: _,[]=>rfl
 |p :: l,q :: m=>by
  show (PyData.eqv (ao p) (ao q) && PyData.eqvAll @R_ (m.map ao))=_
  rw[FP,vX l m,Qn]
  simp
def vH {n:Nat}{l:@Do}(O:@S8):l.length < 64:=by
 have h8:=O.hi
 have e:=O.closed
 by_cases h:l.length < 64
 ·exact h
 ·exfalso
  have h1:l.length<=n * n:=by rw[<-e];exact OM.Du _ _
  have h2:n * n<=64:=QV h8 h8
  have hn:n=8:=by
   by_cases h7:n<=7
   ·have:n * n<=7 * 7:=QV h7 h7
    omega
   ·omega
  have hlen:l.length=n * n:=by subst hn;omega
  have hg:l=OM.cn n:=by
   refine OM.sub_eq O.ris (OM.fN n) (λx hx=>OM.bo.mpr (O.wn x hx)) ?_
   rw[hlen];unfold OM.cn;simp
  have:((0:Int),(0:Int))∈l:=by rw[hg];exact OM.bo.mpr ⟨⟨@AT,@AT ⟩,@AT,@AT ⟩
  exact O.irr 0 this
def E4 {n:Nat}(h1:1<=n)(h8:n<=8):nj [.int n]=.ok (@TU) false:=by
 rw[Ff rfl]
 show FR.ok (.bool (decide (1<=(n:Int)/\(n:Int)<=8))) false=_
 rw[PF (@AT)]
def FT (neg:Bool)(l m:@Do):cv neg (.tuple @R_) (.tuple (m.map ao))=some (.bool (if neg then !decide (l=m) else decide (l=m))):=by
 unfold cv
 rw[sf,sf]
 simp only[R0,QC,PyData.eqv,vX]
def Eg (neg:Bool)(l m:@Do):cv neg (.list @R_) (.list (m.map ao))=some (.bool (if neg then !decide (l=m) else decide (l=m))):=by
 unfold cv
 rw[rn,rn]
 simp only[R0,QC,PyData.eqv,vX]
def Gb {n:Nat}{l:@Do}(O:@S8):lH [.tuple @R_]=.ok (.bool false) false:=by
 have hl:=vH O
 unfold lH
 simp only[fm]
 rw[Po (@AT)]
 have:(l.any λp=>decide (p.1=p.2))=false:=by
  rw[List.any_eq_false]
  intro p hp
  simp only[PL]
  intro e
  obtain⟨a,b⟩:=p
  simp only at e
  subst e
  exact O.irr a hp
 rw[this]
def CP {n:Nat}{l:@Do}(O:@S8):bg 3 1 (ja nj pairF dF lH) [aA n l]=.ok (@TU) false:=by
 have hl:=vH O
 show fin (ja nj pairF dF lH [@GT,.no,.no] 0)=_
 unfold ja
 rw[az (env':=[@GT,.no,.no]) (β':=0) @Tk]
 rw[az (env':=[@GT,.fz @Ix,.no]) (β':=0) @Tk]
 rw[az (env':=[@GT,.fz @Ix,.fz (.tuple @R_)]) (β':=0) @Tk]
 have e4:ay nj @L_ [.da (aA n l),.da @Ix,.da (.tuple @R_)] 0=.ok (@TU) 0:=aE rfl (E4 O.lo O.hi)
 rw[az (env':=[@GT,.fz @Ix,.fz (.tuple @R_)]) (β':=0) ?h4]
 case h4=>
  refine gr ?_
  show nu (uv (lG (ay nj @L_))) _ [.da (aA n l),.da @Ix,.da (.tuple @R_)] 0=_
  rw[qS,wt,vT,e4]
  rfl
 have e5:aM 1 [1] (.nm 0) (bC (gv 2)) lN (ay pairF (aa (gv 0) @L_)) [.da (aA n l),.da @Ix,.da (.tuple @R_)] 0=.ok (.list (l.map λ_=>PyData.bool true)) 0:=by
  refine cV (l:=l) (e:=ao) (λ_=>PyData.bool true) rfl (@AT) λp hp=>⟨_,rfl,?_⟩
  refine aE (b:=false) (ds:=[ao p,.int n]) rfl ?_
  rw[Fb,PF (by have:=O.wn p hp;exact this)]
 rw[az (env':=[@GT,.fz @Ix,.fz (.tuple @R_)]) (β':=0) ?h5]
 case h5=>
  refine gr ?_
  show uv (lG (f1 (aM 1 [1] (.nm 0) (bC (gv 2)) lN (ay pairF (aa (gv 0) @L_))) (iC λbs=>bs.all id))) [.da (aA n l),.da @Ix,.da (.tuple @R_)] 0=_
  rw[wt,vT,eN (d:=@TU) e5 (by simp only[iC];rw[mV];simp)]
  rfl
 have e6:ay dF (aa (gv 1) (aa (gv 2) af)) [.da (aA n l),.da @Ix,.da (.tuple @R_)] 0=.ok (.tuple @R_) 0:=aE rfl (by rw[Fy O.lo O.hi O.wn,O.closed])
 have e7:ay lH (aa (gv 2) af) [.da (aA n l),.da @Ix,.da (.tuple @R_)] 0=.ok (.bool false) 0:=aE rfl (Gb O)
 show fin (toS (fA (f2 (gv 2) (ay dF (aa (gv 1) (aa (gv 2) af))) (cv false)) (f1 (ay lH (aa (gv 2) af)) Cb) [.da (aA n l),.da @Ix,.da (.tuple @R_)] 0) _)=_
 unfold fA
 rw[aF (d:=@TU) (x:=.tuple @R_) rfl e6 (by rw[FT];simp)]
 dsimp only[R.bnd]
 rw[eN (d:=@TU) e7 rfl]
 rfl
noncomputable def fS:@Fk
 | [d]=>ur (λ_ _=>.ok (@TU) false) d
 |_=>.bad
def ud {n:Nat}{l:@Do}(O:@S8):fS [aA n l]=.ok (@TU) false:=by simp only[fS];exact yt O
def zz (ds:List D)(h:fS ds≠.bad):bg 3 1 (ja nj pairF dF lH) ds=fS ds:=by
 unfold fS at h
 split at h
 ·obtain⟨n,l,rfl,O⟩:=wQ h
  rw[CP O,ud O]
 ·exact absurd rfl h
noncomputable def jE:@Fk
 | [d]=>ur (λ_ _=>.ok .none false) d
 |_=>.bad
def p0 {n:Nat}{l:@Do}(O:@S8):jE [aA n l]=.ok .none false:=by simp only[jE];exact yt O
def Hm (ds:List D)(h:jE ds≠.bad):bg 1 1 (iQ fS) ds=jE ds:=by
 unfold jE at h
 split at h
 ·obtain⟨n,l,rfl,O⟩:=wQ h
  rw[p0 O]
  have e:ay fS @Is [.da (aA n l)] 0=.ok (@TU) 0:=aE (ds:=[aA n l]) rfl (ud O)
  show fin (iQ fS [@GT] 0)=_
  unfold iQ
  rw[gr (β':=0)]
  ·rfl
  ·show uv (lG (ay fS @Is)) [.da (aA n l)] 0=_
   rw[wt,vT,e];rfl
 ·exact absurd rfl h
abbrev dX (ns:@KF):D:=.dict [(.none,@SQ)]
def nX {i j:Int}(h: -(2 ^ 64) < i/\i < 2 ^ 64):cR @S3 (.int j)=some (.int (i * j)):=Po (by dsimp only;rw[PF h.1,PF h.2];rfl)
def Kj {i j:Int}(h: -(2 ^ 64) < j/\j < 2 ^ 64):cR @S3 (.int j)=some (.int (i * j)):=Po (by dsimp only;rw[PF h.1,PF h.2,R0,Bool.or_true])
def pL {i j:Int}(h:0 < j):nU @S3 (.int j)=some (.int (i % j)):=Po (PF h)
def Ay {i j:Int}(h:0 < j)(h2:j < 1073741824):C9 @S3 (.int j)=some (.int (i / j)):=Po (by dsimp only;rw[PF h,PF h2];rfl)
theorem jJ {α β:Type}(f:α->β)(l:List α)(i:Int):kq (l.map f) i=(kq l i).map f:=by
 unfold kq
 rw[Py]
 cases wM l.length i with
 |none=>rfl
 |some j=>simp
def nK {α:Type}{l:List α}{k:Nat}(h:k < l.length):kq l (k:Int)=some l[k]:=kU (Pn h)
def K9 {fa fb:VF D}{vs:List Nv}{β β1 β2:Int}{i j:Int}(h:@TX=.ok @S3 β1)(h':fb vs β1=.ok (.int j) β2):cm (f2 fa fb FX) vs β=.ok (decide (i < j)) β2:=fB _ _ _ _ (aF h h' rfl)
def fk {neg:Bool}{fa fb:VF D}{vs:List Nv}{β β1 β2:Int}{i j:Int}(h:@TX=.ok @S3 β1)(h':fb vs β1=.ok (.int j) β2):cm (f2 fa fb (cv neg)) vs β=.ok (if neg then !decide (i=j) else decide (i=j)) β2:=by
 refine fB _ _ _ _ (aF h h' ?_)
 cases neg <;> rfl
def Lf (ns:@KF)(k:Nat):∃z,bg 2 2 h9 [dX ns,.int k]=.ok (.int z) false:=by
 show ∃z,fin (h9 [.fz (dX ns),.fz (.int k)] 0)=.ok (.int z) false
 unfold h9
 have e:cm (f2 (gv 1) (f1 (gv 0) eS) FX) [.da (dX ns),.da (.int k)] 0=.ok (decide ((k:Int) < (ns.map int).length)) 0:=K9 rfl rfl
 by_cases h:k < ns.length
 ·refine⟨ns[k],?_⟩
  rw[PF (by simp;exact h)] at e
  rw[eT (d:=.int ns[k]) (b:=false) (β':=0)]
  ·rfl
  ·rw[ij e]
   show toS (f2 (gv 0) (gv 1) bu [.da (dX ns),.da (.int k)] 0) _=_
   rw[aF (x:=dX ns) (y:=.int k) (d:=.int ns[k]) (β1:=0) (β2:=0) rfl rfl]
   ·rfl
   ·show kq (ns.map int) (k:Int)=_
    rw[jJ,nK h];rfl
 ·refine⟨0,?_⟩
  rw[PU (by simp;omega)] at e
  rw[az (env':=[.fz (dX ns),.fz (.int k)]) (β':=0)]
  ·rfl
  ·rw[gr e];rfl
noncomputable def AX:@Fk:=bg 2 2 h9
noncomputable def Fw:@Fk:=bg 4 2 kE
abbrev zm:@KF:=[48271,69621,16807,39373,30269,40014,40692,50021,61687,71993,83869,95561,30307]
def MV (c k:Int):∃z,Fw [.int c,.int k]=.ok (.int z) false:=by
 show ∃z,fin (kE [.fz (.int c),.fz (.int k),.no,.no] 0)=.ok (.int z) false
 unfold kE
 rw[az (env':=[.fz (.int c),.fz (.int k),.fz (.list (zm.map int)),.no]) (β':=0) @Tk]
 obtain⟨j,hj⟩:∃j:Nat,k % 13=j:=⟨(k % 13).toNat,@AT ⟩
 have hj13:j < zm.length:=by show j < 13;omega
 have e1:f2 (f2 (f2 (f2 (f2 (gv 0) (cst (.int 2147483647)) nU) (cst (.int 12345)) b8) (f2 (gv 2) (f2 (gv 1) (cst (.int 13)) nU) bu) cR) (f2 (cst (.int 977)) (gv 1) cR) b8) (f2 (cst (.int 7919)) (f2 (gv 1) (cst (.int 13)) C9) cR) b8 [.da (.int c),.da (.int k),.da (.list (zm.map int)),.no] 0
   =.ok (.int ((c % 2147483647 + 12345) * zm[j] + 977 * k + 7919 * (k / 13))) 0:=by
  refine aF (aF (aF (aF (aF (x:=.int c) (y:=.int 2147483647) rfl rfl (pL (@AT))) rfl rfl) (aF (x:=.list (zm.map int)) rfl (aF (x:=.int k) (y:=.int 13) rfl rfl (pL (@AT))) (d:=.int zm[j]) ?_) (nX ⟨@AT,@AT ⟩)) (aF (x:=.int 977) (y:=.int k) rfl rfl (nX ⟨@AT,@AT ⟩)) rfl) (aF (x:=.int 7919) rfl (aF (x:=.int k) (y:=.int 13) rfl rfl (Ay (@AT) (@AT))) (nX ⟨@AT,@AT ⟩)) rfl
  show kq (zm.map int) (k % 13)=_
  rw[hj,jJ,nK hj13];rfl
 generalize ((c % 2147483647 + 12345) * zm[j] + 977 * k + 7919 * (k / 13))=st at e1
 rw[az (env':=[.fz (.int c),.fz (.int k),.fz (.list (zm.map int)),.fz (.int st)]) (β':=0) ?h]
 case h=>
  show toS (f2 _ _ b8 [.da (.int c),.da (.int k),.da (.list (zm.map int)),.no] 0) _=_
  rw[e1];rfl
 have e2:f2 (gv 3) (cst (.int 1000000007)) nU [.da (.int c),.da (.int k),.da (.list (zm.map int)),.da (.int st)] 0=.ok (.int (st % 1000000007)) 0:=aF rfl rfl (pL (@AT))
 rw[az (env':=[.fz (.int c),.fz (.int k),.fz (.list (zm.map int)),.fz (.int (st % 1000000007))]) (β':=0) ?h2]
 case h2=>
  show toS (f2 (gv 3) (cst (.int 1000000007)) nU [.da (.int c),.da (.int k),.da (.list (zm.map int)),.da (.int st)] 0) _=_
  rw[e2];rfl
 have hb: -(2 ^ 64) < st % 1000000007/\st % 1000000007 < 2 ^ 64:=⟨@AT,@AT ⟩
 generalize st % 1000000007=u at hb
 have e3:f2 (f2 (f2 (f2 (gv 3) (gv 3) cR) (f2 (cst (.int 48271)) (gv 1) cR) b8) (cst (.int 1000000007)) nU) (cst (.int 7)) C9 [.da (.int c),.da (.int k),.da (.list (zm.map int)),.da (.int u)] 0=.ok (.int ((u * u + 48271 * k) % 1000000007 / 7)) 0:=
  aF (aF (aF (aF (x:=.int u) (y:=.int u) rfl rfl (nX hb)) (aF (x:=.int 48271) (y:=.int k) rfl rfl (nX ⟨@AT,@AT ⟩)) rfl) rfl (pL (@AT))) rfl (Ay (@AT) (@AT))
 refine⟨(u * u + 48271 * k) % 1000000007 / 7,?_⟩
 show fin (toS (f2 _ (cst (.int 7)) C9 [.da (.int c),.da (.int k),.da (.list (zm.map int)),.da (.int u)] 0) _)=_
 rw[e3];rfl
noncomputable def K6:@Fk:=bg 5 2 (kA AX Fw)
def Mn (ns:@KF)(k:Nat):∃z,K6 [dX ns,.int k]=.ok (.list [.int z]) true:=by
 obtain⟨c,hc⟩:=Lf ns k
 show ∃z,fin (kA AX Fw [.fz (dX ns),.fz (.int k),.no,.no,.no] 0)=.ok (.list [.int z]) true
 unfold kA
 have e0:ay AX (aa (gv 0) @L_) [.da (dX ns),.da (.int k),.no,.no,.no] 0=.ok (.int c) 0:=aE rfl hc
 rw[az (env':=[.fz (dX ns),.fz (.int k),.fz (.int c),.no,.no]) (β':=0) ?h]
 case h=>
  show toS (ay AX _ [.da (dX ns),.da (.int k),.no,.no,.no] 0) _=_
  rw[e0];rfl
 have e1:cm (f2 (f2 (gv 2) @Tf nU) @Cl (cv false)) [.da (dX ns),.da (.int k),.da (.int c),.no,.no] 0=.ok (decide (c % 2=0)) 0:=fk (neg:=false) (aF rfl rfl (pL (@AT))) rfl
 by_cases h:c % 2=0
 ·rw[PF h] at e1
  refine⟨(if c < 0 then -c else c) / 2,?_⟩
  rw[eT (d:=.list [.int ((if c < 0 then -c else c) / 2)]) (b:=true) (β':=0)]
  ·rfl
  ·rw[ij e1]
   show toS (bt (aa (f2 (f1 (gv 2) GJ) @Tf C9) af) [.da (dX ns),.da (.int k),.da (.int c),.no,.no] 0) _=_
   rw[dU (ds:=[.int ((if c < 0 then -c else c) / 2)]) (β1:=0)]
   ·rfl
   ·have e2:f2 (f1 (gv 2) GJ) @Tf C9 [.da (dX ns),.da (.int k),.da (.int c),.no,.no] 0=.ok (.int ((if c < 0 then -c else c) / 2)) 0:=aF (eN (x:=.int c) rfl rfl) rfl (Ay (@AT) (@AT))
    rw[bE,e2];rfl
   ·simp
 ·rw[PU h] at e1
  rw[az (env':=[.fz (dX ns),.fz (.int k),.fz (.int c),.no,.no]) (β':=0) (by rw[gr e1];rfl)]
  rw[az (env':=[.fz (dX ns),.fz (.int k),.fz (.int c),.fz (.int 0),.no]) (β':=0) @Tk]
  obtain⟨env',β',el,z,x,rfl,rfl⟩:=dz (t:=.nm 4) (m:=a9 3 (@Ev ++ ([2] ++ ([4] ++ []))) (f2 (f2 (gv 3) (cst (.int 142857143)) cR) (ay Fw (aa (gv 2) @Te)) b8)) (ds:=cJ 0 40) (k:=0)
   (λ_ env β=>∃(z:Int) (x:Sl),env= [.fz (dX ns),.fz (.int k),.fz (.int c),.fz (.int z),x]/\β=0) (env:=[.fz (dX ns),.fz (.int k),.fz (.int c),.fz (.int 0),.no]) (β:=0) ⟨0,.no,rfl,rfl⟩ (by
    rintro i d env β hi ⟨z,x,rfl,rfl⟩
    obtain⟨j,rfl⟩:∃j:Int,d=.int j:=by
     unfold cJ at hi
     rw[PK] at hi
     cases q:(List.range 40)[i]? with
     |none=>rw[q] at hi;cases hi
     |some j=>rw[q] at hi;cases hi;exact⟨_,rfl⟩
    obtain⟨y,hy⟩:=MV c j
    refine⟨_,rfl,_,_,?_,z * 142857143 + y,.fz (.int j),rfl,rfl⟩
    show toS (f2 (f2 (gv 3) (cst (.int 142857143)) cR) (ay Fw (aa (gv 2) @Te)) b8 [.da (dX ns),.da (.int k),.da (.int c),.da (.int z),.da (.int j)] 0) _=_
    rw[aF (d:=.int (z * 142857143 + y)) (aF (x:=.int z) (y:=.int 142857143) (β1:=0) (β2:=0) rfl rfl (Kj ⟨@AT,@AT ⟩)) (aE (ds:=[.int c,.int j]) (β1:=0) rfl hy) rfl]
    rfl)
  refine⟨z,?_⟩
  rw[az (env':=[.fz (dX ns),.fz (.int k),.fz (.int c),.fz (.int z),x]) (β':=0) ?h2]
  case h2=>exact el
  show fin (toS (bt (aa (gv 3) af) [.da (dX ns),.da (.int k),.da (.int c),.da (.int z),x.val] 0) _)=_
  rw[dU (ds:=[.int z]) (β1:=0) rfl @Go]
  rfl
noncomputable def fw:@SN:=o9 4 1 (eV b4)
theorem lay_ints:∀ns:@KF,PyData.canLayAll0 (ns.map int)=true
 | []=>rfl
 |n :: ns=>by
  show ((int n).canLay0 && PyData.canLayAll0 (ns.map int))=true
  rw[lay_ints ns];rfl
theorem xH:∀ns:@KF,PyData.depthAll (ns.map int)=0
 | []=>rfl
 |n :: ns=>by
  show max (int n).depth (PyData.depthAll (ns.map int))=0
  rw[xH ns];rfl
def shaped_ints (ns:@KF):SeqAt.shaped (@SQ)=true:=by
 unfold SeqAt.shaped
 have h1:(PyData.list (ns.map int)).canLay0=true:=by simp only[PyData.canLay0];exact lay_ints ns
 have h2:(PyData.list (ns.map int)).depth<=64:=by simp only[PyData.depth];rw[xH];omega
 rw[h1,PF h2];rfl
theorem xX:∀l m:@KF,PyData.eqvAll (l.map int) (m.map int)=decide (l=m)
 | [],[]=>rfl
 | [],_ :: _=>rfl
 |_ :: _,[]=>rfl
 |p :: l,q :: m=>by
  show ((p == q) && PyData.eqvAll (l.map int) (m.map int))=_
  rw[xX l m,Qn]
  simp
def wU (neg:Bool)(l m:@KF):cv neg (.list (l.map int)) (.list (m.map int))=some (.bool (if neg then !decide (l=m) else decide (l=m))):=by
 unfold cv
 rw[shaped_ints,shaped_ints]
 simp only[R0,QC,PyData.eqv,xX]
theorem jm {α:Type}:∀{l:List α} {k:Nat} {x:α},l[k]? =some x->(x :: l.eraseIdx k).Perm l
 | [],_,_,h=>by simp at h
 |y :: l,0,x,h=>by simp at h;subst h;exact List.Perm.refl _
 |y :: l,k + 1,x,h=>by
  have h:l[k]? =some x:=by simpa using h
  have ih:=jm h
  show (x :: y :: l.eraseIdx k).Perm (y :: l)
  exact (List.Perm.swap y x _).trans (ih.cons y)
theorem uH {α β:Type}(f:α->β):∀(l:List α) (k:Nat),(l.map f).eraseIdx k=(l.eraseIdx k).map f
 | [],_=>rfl
 |_ :: _,0=>rfl
 |x :: l,k + 1=>by simp[uH f l k]
def qN (ns:@KF)(hz:ns.length<=100)(β:Int):∃(ms:@KF) (β':Int),fw [@SQ] β=.ok @E_ true β'/\ms.Perm ns:=by
 show ∃(ms:@KF) (β':Int),wz (eV b4 [.bx,.fz (@SQ),.no,.no] β)=.ok @E_ true β'/\ms.Perm ns
 unfold eV
 rw[az (env':=[.bx,.fz (@SQ),.ow (@SQ),.no]) (β':=β) @Tk]
 have ez:bt af [Nv.bx,.da (@SQ),.da (@SQ),.no] β=.ok (.list []) β:=dU rfl @Go
 rw[az (env':=[.bx,.fz (@SQ),.ow (@SQ),.ow (.list [])]) (β':=β) ?h]
 case h=>
  show toS (bt af [Nv.bx,.da (@SQ),.da (@SQ),.no] β) _=_
  rw[ez];rfl
 obtain⟨env',β',ew,ms,rfl,hp⟩:=jf (L:=[] ++ []) (t:=cm (f2 (gv 2) (bt af) (cv true))) (m:=ll 3 2 @Ev (i5 0 b4 (aa (f1 (gv 2) eS) af)))
  (λk env β=>∃ls ms:@KF,env= [.bx,.fz (@SQ),.ow (.list (ls.map int)),.ow @E_]/\(ms ++ ls).Perm ns/\k=ls.length)
  (λenv β=>∃ms:@KF,env= [.bx,.fz (@SQ),.ow (.list []),.ow @E_]/\ms.Perm ns) (n:=1000) (k:=ns.length) (env:=[.bx,.fz (@SQ),.ow (@SQ),.ow (.list [])]) (β:=β) (@AT) ⟨ns,[],rfl,by simp,rfl⟩ (by
   rintro k env β ⟨ls,ms,rfl,hp,rfl⟩
   have e1:bt af [Nv.bx,.da (@SQ),.da (.list (ls.map int)),.da @E_] β=.ok (.list (([]:@KF).map int)) β:=dU rfl @Go
   have et:cm (f2 (gv 2) (bt af) (cv true)) [Nv.bx,.da (@SQ),.da (.list (ls.map int)),.da @E_] β=.ok (!decide (ls= [])) β:=
    fB _ _ _ _ (aF (x:=.list (ls.map int)) rfl e1 (by rw[wU];rfl))
   refine⟨_,_,et,?_⟩
   have hlen:=hp.length_eq
   rw[P5] at hlen
   cases ls with
   |nil=>exact .inl ⟨rfl,ms,rfl,by simpa using hp⟩
   |cons y ys=>
    refine .inr ⟨rfl,?_⟩
    have hm:(0:Int) < ((y :: ys).length:Nat)/\(((y :: ys).length:Nat):Int) < 1073741824:=by
     have:(y :: ys).length<=100:=@AT
     constructor
     ·simp
     ·omega
    obtain⟨j,hj⟩:∃j:Nat,β % (((y :: ys).length:Nat):Int)=j:=⟨(β % (((y :: ys).length:Nat):Int)).toNat,by have:=Int.emod_nonneg β (b:=(((y :: ys).length:Nat):Int)) (@AT);omega⟩
    have hj2:j < (y :: ys).length:=by have:=Int.emod_lt_of_pos β hm.1;omega
    have ef:i5 0 b4 (aa (f1 (gv 2) eS) af) [Nv.bx,.da (@SQ),.da (.list ((y :: ys).map int)),.da @E_] β=.ok (.int (j:Int)) (β / (((y :: ys).length:Nat):Int)):=by
     refine fx (ds:=[.int (((y :: ys).length:Nat):Int)]) (b:=false) @Tk ?_ (by rw[wg hm.1 hm.2,hj])
     show R.ok [int ((((y :: ys).map int).length:Nat):Int)] β=_
     rw[Py]
    have hpop:CQ ((y :: ys).map int) (.int (j:Int))=some (.int (y :: ys)[j],((y :: ys).eraseIdx j).map int):=by
     unfold CQ
     dsimp only
     rw[Po ⟨@AT,@AT ⟩]
     have es:seqIndex? (j:Int) ((y :: ys).map int).length=some j:=by
      rw[Py]
      exact PySem.StrLaws.seqIndex_nonneg (@AT) (@AT)
     rw[es]
     dsimp only
     rw[PK,Pn hj2,uH];rfl
    refine⟨[.bx,.fz (@SQ),.ow (.list (((y :: ys).eraseIdx j).map int)),.ow (.list ((ms ++ [(y :: ys)[j]]).map int))],β / (((y :: ys).length:Nat):Int),((y :: ys).eraseIdx j).length,?_,?_,(y :: ys).eraseIdx j,ms ++ [(y :: ys)[j]],rfl,?_,rfl⟩
    ·show ll 3 2 @Ev (i5 0 b4 (aa (f1 (gv 2) eS) af)) [.bx,.fz (@SQ),.ow (.list ((y :: ys).map int)),.ow @E_] β=_
     rw[y0 (ds:=ms.map int) (es:=(y :: ys).map int) @Tk @Tk @A_ ef @Tk hpop (by rw[Py];omega),Qk]
     rfl
    ·rw[List.length_eraseIdx]
     rw[Po hj2]
     show (y :: ys).length - 1 < (y :: ys).length
     simp
    ·rw[QN]
     exact (List.Perm.append_left ms (jm (Pn hj2))).trans hp)
 refine⟨ms,β',?_,hp⟩
 rw[az ew]
 rfl
def IA {n:Nat}{l:@Do}(h8:n<=8)(w:OM.Wn n l):OM.bW 8 (OM.Mem l)=OM.bW n (OM.Mem l):=by
 refine OM.fT (OM.cK _ _) (OM.cK _ _) λx=>?_
 rw[OM.bc,OM.bc]
 constructor
 ·rintro⟨_,h⟩;exact⟨w x h,h⟩
 ·rintro⟨h1,h⟩;exact⟨⟨⟨h1.1.1,@AT ⟩,h1.2.1,@AT ⟩,h⟩
def AQ {n:Nat}{l:@Do}(h1:1<=n)(h8:n<=8)(w:OM.Wn n l)(nd:l.Nodup)(irr:∀a,(a,a)∉l):l.length < 64:=by
 have:=OM.iB (l:=(0,0) :: l) (m:=OM.cn n) (Qh.mpr ⟨irr 0,nd⟩) (λx hx=>by
  rcases Pu.mp hx with e |e
  ·subst e;exact OM.bo.mpr ⟨⟨by simp,by simp;omega⟩,by simp,by simp;omega⟩
  ·exact OM.bo.mpr (w x e))
 have hg:(OM.cn n).length=n * n:=by unfold OM.cn;simp
 have hn:n * n<=64:=QV h8 h8
 rw[hg,P7] at this
 omega
def zO {n:Nat}{l:@Do}(h8:n<=8)(w:OM.Wn n l):l.all Kl=true:=by
 rw[Qm]
 intro p hp
 have:=w p hp
 unfold Kl
 rw[PF this.1.1,PF (@AT:p.1 < 8),PF this.2.1,PF (@AT:p.2 < 8)];rfl
def p6 {n:Nat}{l:@Do}{d:D}(h8:n<=8)(w:OM.Wn n l)(hl:(OM.bW n (OM.Mem l)).length < 64)(hd:nJ d=some @R_):cY d=some (.list ((OM.bW n (OM.Mem l)).map ao)):=by
 unfold cY
 rw[hd]
 simp only[fm]
 rw[IA h8 w,Po ⟨zO h8 w,hl⟩]
def yO (l:@Do)(p:Pr):@Do:=(l.filter λq=>decide (q.1=p.2)).map λq=>(p.1,q.2)
def Bv (l:@Do)(p:Pr):(yO l p).length<=l.length:=by unfold yO;rw[Py];exact Qr ..
theorem xp (l m:@Do):(m.flatMap (yO l)).length<=m.length * l.length:=by
 induction m with
 |nil=>simp
 |cons p m ih=>
  rw[List.flatMap_cons,P5,P7,Nat.succ_mul]
  have:=Bv l p
  omega
def fY {a b:List D}(h:a.length + b.length<=10000):dt (.list a) (.list b)=some (.list (a ++ b)):=Po (by rw[Qc];omega)
noncomputable def kn:@Fk:=bg 6 1 gY
def CW {n:Nat}{ps:@Do}(h1:1<=n)(h8:n<=8)(w:OM.Wn n ps)(irr:∀a,¬OM.Tr @TV a a):kn [.list (ps.map ao)]=.ok (.tuple ((OM.bW n (OM.Tr @TV)).map ao)) false:=by
 have blen:∀{l:@Do},OM.Ja n ps l->l.length < 64:=λ{l} B=>AQ h1 h8 B.wn (OM.iX B.ris) λa ha=>irr a (B.sup _ ha)
 show fin (gY [.fz @FS,.no,.no,.no,.no,.no] 0)=_
 unfold gY
 have B0:=OM.Cj (ps:=ps) w
 have e0:f1 (gv 0) cY [.da @FS,.no,.no,.no,.no,.no] 0=.ok (.list ((OM.bW n @TV).map ao)) 0:=eN rfl (p6 h8 w (blen B0) rfl)
 rw[az (env':=[.fz @FS,.fz (.list ((OM.bW n @TV).map ao)),.no,.no,.no,.no]) (β':=0) ?h0]
 case h0=>
  show toS (f1 (gv 0) cY [.da @FS,.no,.no,.no,.no,.no] 0) _=_
  rw[e0];rfl
 rw[az (env':=[.fz @FS,.fz (.list ((OM.bW n @TV).map ao)),.fz (.int (-1)),.no,.no,.no]) (β':=0) @Tk]
 obtain⟨env',β',ew,rfl,x,sz,a,b,rfl⟩:=jf (L:=[] ++ []) (t:=cm (f2 (gv 2) (f1 (gv 1) eS) (cv true)))
  (m:=aK (a9 2 [] (f1 (gv 1) eS)) (aK (a9 3 [] (bt af)) (aK (dY (.two 4 5) [1] (bC (gv 1)) (a9 3 ([] ++ ([] ++ [4])) (f2 (gv 3) @KB dt))) (a9 1 @Ev (f1 (f2 (gv 1) (gv 3) dt) cY)))))
  (λk env β=>β=0/\∃(l:@Do) (sz:Int) (x a b:Sl),env= [.fz @FS,.fz (.list @R_),.fz (.int sz),x,a,b]/\OM.Ja n ps l/\(sz= -1\/∃lp,OM.Ja n ps lp/\l=OM.mH n lp/\sz=lp.length)/\k=2 * (64 - l.length) + (if sz=l.length then 0 else 1))
  (λenv β=>β=0/\∃(x sz a b:Sl),env= [.fz @FS,.fz (.list ((OM.bW n (OM.Tr @TV)).map ao)),sz,x,a,b])
  (n:=1000) (k:=2 * (64 - (OM.bW n @TV).length) + (if (-1:Int)=(OM.bW n @TV).length then 0 else 1)) (env:=[.fz @FS,.fz (.list ((OM.bW n @TV).map ao)),.fz (.int (-1)),.no,.no,.no]) (β:=0)
  (by split <;> omega) ⟨rfl,_,_,_,_,_,rfl,B0,.inl rfl,rfl⟩ (by
   rintro k env β ⟨rfl,l,sz,x,a,b,rfl,B,hsz,rfl⟩
   have hl:=blen B
   have et:cm (f2 (gv 2) (f1 (gv 1) eS) (cv true)) [.da @FS,.da (.list @R_),.da (.int sz),x.val,a.val,b.val] 0=.ok (!decide (sz=((l.map ao).length:Nat))) 0:=fk (neg:=true) rfl rfl
   rw[Py] at et
   refine⟨_,_,et,?_⟩
   by_cases c:sz=(l.length:Nat)
   ·refine .inl ⟨by rw[PF c];rfl,rfl,x,.fz (.int sz),a,b,?_⟩
    rcases hsz with h | ⟨lp,Bp,rfl,h⟩
    ·omega
    ·show [Sl.fz @FS,.fz (.list ((OM.mH n lp).map ao)),.fz (.int sz),x,a,b]=_
     rw[OM.FK Bp (@AT)]
   ·refine .inr ⟨by rw[PU c];rfl,?_⟩
    obtain⟨B2,hs⟩:=OM.xh B
    have hl2:=blen B2
    have hge:l.length<=(OM.mH n l).length:=OM.iB (OM.iX B.ris) hs
    have eturn:∃x' a' b':Sl,aK (a9 2 [] (f1 (gv 1) eS)) (aK (a9 3 [] (bt af)) (aK (dY (.two 4 5) [1] (bC (gv 1)) (a9 3 ([] ++ ([] ++ [4])) (f2 (gv 3) @KB dt))) (a9 1 @Ev (f1 (f2 (gv 1) (gv 3) dt) cY)))) [.fz @FS,.fz (.list @R_),.fz (.int sz),x,a,b] 0
      =.nx [.fz @FS,.fz (.list ((OM.mH n l).map ao)),.fz (.int (l.length:Nat)),x',a',b'] 0:=by
     rw[az (env':=[.fz @FS,.fz (.list @R_),.fz (.int (l.length:Nat)),x,a,b]) (β':=0) ?g1]
     case g1=>
      show SO.nx [.fz @FS,.fz (.list @R_),.fz (.int ((l.map ao).length:Nat)),x,a,b] 0=_
      rw[Py]
     have e3:bt af [.da @FS,.da (.list @R_),.da (.int (l.length:Nat)),x.val,a.val,b.val] 0=.ok (.list []) 0:=dU rfl @Go
     rw[az (env':=[.fz @FS,.fz (.list @R_),.fz (.int (l.length:Nat)),.fz (.list []),a,b]) (β':=0) ?g2]
     case g2=>
      show toS (bt af [.da @FS,.da (.list @R_),.da (.int (l.length:Nat)),x.val,a.val,b.val] 0) _=_
      rw[e3];rfl
     obtain⟨env2,β2,ef,rfl,a2,b2,rfl⟩:=dz (t:=.two 4 5) (m:=a9 3 ([] ++ ([] ++ [4])) (f2 (gv 3) @KB dt)) (ds:=l.map ao) (k:=0)
      (λi env β=>β=0/\∃a b:Sl,env= [.fz @FS,.fz (.list @R_),.fz (.int (l.length:Nat)),.fz (.list (((l.take i).flatMap (yO l)).map ao)),a,b]) (env:=[.fz @FS,.fz (.list @R_),.fz (.int (l.length:Nat)),.fz (.list []),a,b]) (β:=0) ⟨rfl,a,b,rfl⟩ (by
       rintro i d env β hi ⟨rfl,a,b,rfl⟩
       rw[PK] at hi
       cases q:l[i]? with
       |none=>rw[q] at hi;cases hi
       |some p=>
        rw[q] at hi
        cases hi
        have hil:i < l.length:=(PN.mp q).1
        refine⟨[.fz @FS,.fz (.list @R_),.fz (.int (l.length:Nat)),.fz (.list (((l.take (0 + i)).flatMap (yO l)).map ao)),.fz (.int p.1),.fz (.int p.2)],rfl,[.fz @FS,.fz (.list @R_),.fz (.int (l.length:Nat)),.fz (.list (((l.take (0 + i + 1)).flatMap (yO l)).map ao)),.fz (.int p.1),.fz (.int p.2)],0,?_,rfl,_,_,rfl⟩
        have ec:aM 2 [5,4] (.two 0 1) (bC (gv 1)) (cm (f2 (gv 0) (gv 2) (cv false))) (aQ (aa (gv 3) @L_)) @TN 0=.ok (.list ((yO l p).map ao)) 0:=by
         rw[cf (l:=l) (e:=ao) (λq=>decide (q.1=p.2)) (λq=>ao (p.1,q.2)) rfl (@AT) (β1:=0)]
         ·unfold yO;rw[QE];rfl
         ·intro q hq
          refine⟨_,rfl,fk (neg:=false) (i:=q.1) (j:=p.2) rfl rfl,λ_=>?_⟩
          exact iE (ds:=[.int p.1,.int q.2]) rfl @Go
        have hk:(l.take (0 + i)).length<=63:=by rw[Qx];omega
        have hfl:=xp l (l.take (0 + i))
        have hfl2:(l.take (0 + i)).length * l.length<=63 * 63:=QV hk (@AT)
        have hm1:=Bv l p
        have e5:f2 (gv 3) @KB dt @TN 0=.ok (.list (((l.take (0 + i + 1)).flatMap (yO l)).map ao)) 0:=by
         refine aF rfl ec ?_
         rw[fY (by rw[Py,Py];omega),<-Qk]
         have:l.take (0 + i + 1)=l.take (0 + i) ++ [p]:=by rw[Qt,RH,q];rfl
         rw[this,List.flatMap_append,List.flatMap_cons,List.flatMap_nil,Rl]
        show toS (f2 (gv 3) @KB dt @TN 0) _=_
        rw[e5];rfl)
     rw[Qt,Py,Rf (Pt _)] at ef
     rw[az (env':=[.fz @FS,.fz (.list @R_),.fz (.int (l.length:Nat)),.fz (.list ((l.flatMap (yO l)).map ao)),a2,b2]) (β':=0) ?g3]
     case g3=>exact ef
     have hfl:=xp l l
     have hfl2:l.length * l.length<=63 * 63:=QV (@AT) (@AT)
     have e6:f1 (f2 (gv 1) (gv 3) dt) cY [.da @FS,.da (.list @R_),.da (.int (l.length:Nat)),.da (.list ((l.flatMap (yO l)).map ao)),a2.val,b2.val] 0=.ok (.list ((OM.mH n l).map ao)) 0:=by
      refine eN (x:=.list ((l ++ OM.more l).map ao)) (aF rfl rfl ?_) (p6 h8 (OM.Fu B) hl2 rfl)
      rw[fY (by rw[Py,Py];omega),<-Qk];rfl
     refine⟨.fz (.list ((l.flatMap (yO l)).map ao)),a2,b2,?_⟩
     show toS (f1 (f2 (gv 1) (gv 3) dt) cY [.da @FS,.da (.list @R_),.da (.int (l.length:Nat)),.da (.list ((l.flatMap (yO l)).map ao)),a2.val,b2.val] 0) _=_
     rw[e6];rfl
    obtain⟨x',a',b',et2⟩:=eturn
    refine⟨_,_,_,et2,?_,rfl,_,_,_,_,_,rfl,B2,.inr ⟨l,B,rfl,rfl⟩,rfl⟩
    rw[Px c]
    split <;> omega)
 rw[az ew]
 rfl
def xi (ms:@KF)(ps:@Do):Prop:=∀p,p∈ps->∃i j:Nat,i < j/\ms[i]? =some p.1/\ms[j]? =some p.2
theorem jj {α:Type}:∀{l:List α} {i j:Nat} {x:α},l.Nodup->l[i]? =some x->l[j]? =some x->i=j
 | [],_,_,_,_,h,_=>by simp at h
 |y :: l,0,0,_,_,_,_=>rfl
 |y :: l,0,j + 1,x,nd,h1,h2=>by
  simp at h1
  subst h1
  exact absurd (PV (by simpa using h2)) (Qh.mp nd).1
 |y :: l,i + 1,0,x,nd,h1,h2=>by
  simp at h2
  subst h2
  exact absurd (PV (by simpa using h1)) (Qh.mp nd).1
 |y :: l,i + 1,j + 1,x,nd,h1,h2=>by
  rw[jj (l:=l) (i:=i) (j:=j) (Qh.mp nd).2 (by simpa using h1) (by simpa using h2)]
def Df {ms:@KF}{ps:@Do}(nd:ms.Nodup)(h:xi ms ps){a b:Int}(t:OM.Tr @TV a b):∃i j:Nat,i < j/\ms[i]? =some a/\ms[j]? =some b:=by
 refine t.least (S:=λa b=>∃i j:Nat,i < j/\ms[i]? =some a/\ms[j]? =some b) (λa b r=>h _ r) ?_
 rintro a b c ⟨i,j,hij,h1,h2⟩ ⟨k,l,hkl,h3,h4⟩
 have:=jj nd h2 h3
 exact⟨i,l,@AT,h1,h4⟩
def BZ {ms:@KF}{ps:@Do}(nd:ms.Nodup)(h:xi ms ps)(a:Int):¬OM.Tr @TV a a:=λt=>by
 obtain⟨i,j,hij,h1,h2⟩:=Df nd h t
 have:=jj nd h1 h2
 omega
def eB (n:Nat):@KF:=(@TR).map λ(k:Nat)=>(k:Int)
def cU (n:Nat):(eB n).length=n:=by unfold eB;simp
def bN {n:Nat}{x:Int}:x∈eB n↔0<=x/\x < n:=by
 unfold eB
 rw[PD]
 constructor
 ·rintro⟨k,hk,rfl⟩
  have:=P4.mp hk
  omega
 ·intro h
  exact⟨x.toNat,P4.mpr (@AT),@AT ⟩
def kf (n:Nat):(eB n).Nodup:=by
 unfold eB
 rw[QU,Qv]
 exact (QU.mp Rx).imp λ{a b} h e=>h (@AT)
def mJ (n:Nat):cJ 0 n=(eB n).map int:=by
 unfold cJ eB
 rw[QE]
 refine Rb λk _=>?_
 show int (0 + (k:Int))=_
 rw[QT];rfl
theorem jr {lo:Int}{n i:Nat}{d:D}(h:(cJ lo n)[i]? =some d):i < n/\d=.int (lo + i):=by
 unfold cJ at h
 rw[PK] at h
 cases q:(@TR)[i]? with
 |none=>rw[q] at h;cases h
 |some j=>
  rw[q] at h
  cases h
  obtain⟨hi,ej⟩:=PN.mp q
  rw[QO] at hi
  rw[List.getElem_range] at ej
  subst ej
  exact⟨hi,rfl⟩
def mr {n:Nat}(h:n<=1000):cC @Ix=some (.list ((eB n).map int)):=by
 unfold cC
 dsimp only
 rw[Po ⟨@AT,@AT ⟩,Qj,mJ]
def du {fa:VF D}{vs:List Nv}{β β1:Int}{n:Nat}(h:@TX=.ok @Ix β1)(hn:n<=1000):bS fa vs β=.ok (cJ 0 n) β1:=by
 unfold bS
 rw[h]
 simp only[nG]
 rw[Po (pC (@AT) (@AT)),Qj]
def EV {fa fb:VF D}{vs:List Nv}{β β1 β2:Int}{i j:Int}(h:@TX=.ok @S3 β1)(h':fb vs β1=.ok (.int j) β2)(hi:0<=i/\i<=1000)(hj:0<=j/\j<=1000):ux fa fb vs β=.ok (cJ i (j - i).toNat) β2:=by
 unfold ux
 rw[h]
 simp only[nG]
 rw[h']
 simp only[nG]
 rw[Po (by rw[pC (@AT) (@AT),pC (@AT) (@AT)];rfl)]
def dC {t:Tg}{L:@IO}{fi:@Pi}{m:SF}{env:En}{β β1:Int}{ds:List D}(h:fi @Ps β=.ok ds β1):dY t L fi m env β=lK t m ds @SX β1:=by unfold dY;rw[h];rfl
noncomputable def qH:@SN:=o9 8 1 (iF kn b4 fw)
def BP {n:Nat}{ms:@KF}{ps:@Do}(h1:1<=n)(h8:n<=8)(hp:ms.Perm (eB n))(ha:xi ms ps):OM.Wn n ps/\(∀a,¬OM.Tr @TV a a)/\OM.Ord n (OM.bW n (OM.Tr @TV)):=by
 have nd:ms.Nodup:=hp.nodup_iff.mpr (kf n)
 have w:OM.Wn n ps:=λp hm=>by
  obtain⟨i,j,_,e1,e2⟩:=ha p hm
  have m1:=bN.mp (hp.mem_iff.mp (PV e1))
  have m2:=bN.mp (hp.mem_iff.mp (PV e2))
  exact⟨m1,m2⟩
 have ir:=λa=>BZ nd ha a
 exact⟨w,ir,OM.J2 h1 h8 w ir⟩
def jq {m:Nat}(h:1<=m)(h2:m<=1000)(β:Int):∃j:Nat,j < m/\b4 [.int m] β=.ok (.int (j:Int)) false (β / m):=by
 refine⟨(β % m).toNat,?_,?_⟩
 ·have h0:=Int.emod_nonneg β (b:=(m:Int)) (@AT)
  have h3:=Int.emod_lt_of_pos β (b:=(m:Int)) (@AT)
  omega
 ·rw[wg (@AT) (@AT)]
  have h0:=Int.emod_nonneg β (b:=(m:Int)) (@AT)
  rw[show ((β % m).toNat:Int)=β % m by omega]
def Et {most:Nat}(hm1:1<=most)(hm8:most<=8)(β:Int):∃(n:Nat) (l:@Do) (β':Int),qH [.int most] β=.ok (aA n l) false β'/\@S8/\n<=most:=by
 obtain⟨j,hj,ej⟩:=jq hm1 (@AT) β
 show ∃(n:Nat) (l:@Do) (β':Int),wz (iF kn b4 fw [.bx,.fz (.int most),.no,.no,.no,.no,.no,.no] β)=.ok (aA n l) false β'/\@S8/\n<=most
 unfold iF
 generalize hβ1:β / (most:Int)=β1 at ej
 have n8:1 + j<=8:=@AT
 have e1:f2 @EQ (i5 0 b4 @L_) b8 [Nv.bx,.da (.int most),.no,.no,.no,.no,.no,.no] β=.ok (.int ((1 + j:Nat):Int)) β1:=by
  refine aF (x:=.int 1) rfl (fx @Tk rfl ej) ?_
  show some (int (1 + (j:Int)))=_
  rw[show ((1 + j:Nat):Int)=1 + (j:Int) by omega]
 rw[az (env':=[.bx,.fz (.int most),.fz (.int ((1 + j:Nat):Int)),.no,.no,.no,.no,.no]) (β':=β1) ?g1]
 case g1=>
  show toS (f2 @EQ (i5 0 b4 @L_) b8 [Nv.bx,.da (.int most),.no,.no,.no,.no,.no,.no] β) _=_
  rw[e1];rfl
 generalize hn:1 + j=n at n8
 have n1:1<=n:=@AT
 obtain⟨ms,β2,em,hp⟩:=qN (eB n) (by rw[cU];omega) β1
 have hml:ms.length=n:=by rw[hp.length_eq,cU]
 have e2:i5 0 fw (aa (f1 (gv 2) cC) af) [Nv.bx,.da (.int most),.da @Ix,.no,.no,.no,.no,.no] β1=.ok @E_ β2:=by
  refine fx (ds:=[.list ((eB n).map int)]) (b:=true) (β1:=β1) @Tk ?_ em
  rw[bE,eN (x:=.int n) (d:=.list ((eB n).map int)) (β1:=β1) rfl (mr (@AT))];rfl
 rw[az (env':=[.bx,.fz (.int most),.fz @Ix,.fz @E_,.no,.no,.no,.no]) (β':=β2) ?g2]
 case g2=>
  show toS (i5 0 fw (aa (f1 (gv 2) cC) af) [Nv.bx,.da (.int most),.da @Ix,.no,.no,.no,.no,.no] β1) _=_
  rw[e2];rfl
 obtain⟨q,hq,eq⟩:=jq (m:=4) (@AT) (@AT) β2
 obtain⟨th,hth,hthv⟩:∃th:Nat,([2,3,4,7]:@IO)[q]? =some th/\1<=th/\th<=7:=by
  rcases (show q=0\/q=1\/q=2\/q=3 by omega) with rfl |rfl |rfl |rfl
  ·exact⟨2,rfl,@AT,@AT ⟩
  ·exact⟨3,rfl,@AT,@AT ⟩
  ·exact⟨4,rfl,@AT,@AT ⟩
  ·exact⟨7,rfl,@AT,@AT ⟩
 generalize hβ3:β2 / ((4:Nat):Int)=β3 at eq
 have e3:f2 (bt (aa @Tf (aa (cst (.int 3)) (aa (cst (.int 4)) (aa (cst (.int 7)) af))))) (i5 0 b4 (aa (cst (.int 4)) af)) bu [Nv.bx,.da (.int most),.da @Ix,.da @E_,.no,.no,.no,.no] β2=.ok (.int th) β3:=by
  refine aF (x:=.list (([2,3,4,7]:@IO).map λ(k:Nat)=>int (k:Int))) (y:=.int q) (dU rfl @Go) (fx (ds:=[.int 4]) @Tk rfl eq) ?_
  show kq (([2,3,4,7]:@IO).map λ(k:Nat)=>int (k:Int)) (q:Int)=_
  rw[jJ,kU hth];rfl
 rw[az (env':=[.bx,.fz (.int most),.fz @Ix,.fz @E_,.fz (.int th),.no,.no,.no]) (β':=β3) ?g3]
 case g3=>
  show toS (f2 (bt (aa @Tf (aa (cst (.int 3)) (aa (cst (.int 4)) (aa (cst (.int 7)) af))))) (i5 0 b4 (aa (cst (.int 4)) af)) bu [Nv.bx,.da (.int most),.da @Ix,.da @E_,.no,.no,.no,.no] β2) _=_
  rw[e3];rfl
 have e4:bt af [Nv.bx,.da (.int most),.da @Ix,.da @E_,.da (.int th),.no,.no,.no] β3=.ok (.list []) β3:=dU rfl @Go
 rw[az (env':=[.bx,.fz (.int most),.fz @Ix,.fz @E_,.fz (.int th),.ow (.list []),.no,.no]) (β':=β3) ?g4]
 case g4=>
  show toS (bt af [Nv.bx,.da (.int most),.da @Ix,.da @E_,.da (.int th),.no,.no,.no] β3) _=_
  rw[e4];rfl
 obtain⟨env',β',ef,ps,a,b,rfl,hal,hpl⟩:=dz (t:=.nm 6) (m:=dY (.nm 7) (@Ev ++ []) (ux (f2 (gv 6) @EQ b8) (gv 2))
   (kr (([4] ++ []) ++ []) (cm (f2 (i5 0 b4 @Te) @Cl (cv false)))
   (l0 5 (@Ev ++ (@Ev ++ [])) (aQ (aa (f2 (gv 3) (gv 6) bu) (aa (f2 (gv 3) (gv 7) bu) af)))) nR)) (ds:=cJ 0 n) (k:=0)
  (λi env β=>∃(ps:@Do) (a b:Sl),env= [.bx,.fz (.int most),.fz @Ix,.fz @E_,.fz (.int th),.ow @FS,a,b]/\xi ms ps/\ps.length<=8 * i)
  (env:=[.bx,.fz (.int most),.fz @Ix,.fz @E_,.fz (.int th),.ow (.list []),.no,.no]) (β:=β3) ⟨[],.no,.no,rfl,λp hp=>(by cases hp),by simp⟩ (by
   rintro i d env β hi ⟨ps,a,b,rfl,hal,hpl⟩
   obtain⟨hin,rfl⟩:=jr hi
   refine⟨[.bx,.fz (.int most),.fz @Ix,.fz @E_,.fz (.int th),.ow @FS,.fz (.int (0 + @S0)),b],rfl,?_⟩
   have er:ux (f2 (gv 6) @EQ b8) (gv 2) [Nv.bx,.da (.int most),.da @Ix,.da @E_,.da (.int th),.da @FS,.da (.int (0 + @S0)),b.val] β=.ok (cJ (0 + @S0 + 1) ((n:Int) - (0 + @S0 + 1)).toNat) β:=EV rfl rfl ⟨@AT,@AT ⟩ ⟨@AT,@AT ⟩
   rw[dC (env:=[.bx,.fz (.int most),.fz @Ix,.fz @E_,.fz (.int th),.ow @FS,.fz (.int (0 + @S0)),b]) er]
   obtain⟨env',β',ef,qs,b,rfl,hal2,hql⟩:=dz (t:=.nm 7) (m:=kr (([4] ++ []) ++ []) (cm (f2 (i5 0 b4 @Te) @Cl (cv false)))
     (l0 5 (@Ev ++ (@Ev ++ [])) (aQ (aa (f2 (gv 3) (gv 6) bu) (aa (f2 (gv 3) (gv 7) bu) af)))) nR) (ds:=cJ (0 + @S0 + 1) ((n:Int) - (0 + @S0 + 1)).toNat) (k:=0)
    (λk env β=>∃(qs:@Do) (b:Sl),env= [.bx,.fz (.int most),.fz @Ix,.fz @E_,.fz (.int th),.ow (.list (qs.map ao)),.fz (.int (0 + @S0)),b]/\xi ms qs/\qs.length<=8 * i + k)
    (env:=[.bx,.fz (.int most),.fz @Ix,.fz @E_,.fz (.int th),.ow @FS,.fz (.int (0 + @S0)),b]) (β:=β) ⟨ps,b,rfl,hal,@AT ⟩ (by
     rintro k d env β hk ⟨qs,b,rfl,hal,hql⟩
     obtain⟨hkn,rfl⟩:=jr hk
     have hkn:i + 1 + k < n:=@AT
     refine⟨[.bx,.fz (.int most),.fz @Ix,.fz @E_,.fz (.int th),.ow (.list (qs.map ao)),.fz (.int (0 + @S0)),.fz (.int (0 + @S0 + 1 + (k:Int)))],rfl,?_⟩
     obtain⟨z,hz,ez⟩:=jq hthv.1 (@AT) β
     have et:cm (f2 (i5 0 b4 @Te) @Cl (cv false)) @M2 β=.ok (decide ((z:Int)=0)) (β / th):=fk (neg:=false) (fx (ds:=[.int th]) @Tk rfl ez) rfl
     by_cases c:(z:Int)=0
     ·rw[PF c] at et
      have h1:i < ms.length:=@AT
      have h2:i + 1 + k < ms.length:=@AT
      refine⟨[.bx,.fz (.int most),.fz @Ix,.fz @E_,.fz (.int th),.ow (.list ((qs ++ [(ms[i],ms[i + 1 + k])]).map ao)),.fz (.int (0 + @S0)),.fz (.int (0 + @S0 + 1 + (k:Int)))],β / th,?_,qs ++ [(ms[i],ms[i + 1 + k])],_,rfl,?_,?_⟩
      ·rw[ij et]
       have ep:aQ (aa (f2 (gv 3) (gv 6) bu) (aa (f2 (gv 3) (gv 7) bu) af)) @M2 (β / th)=.ok (ao (ms[i],ms[i + 1 + k])) (β / th):=by
        refine iE (ds:=[.int ms[i],.int ms[i + 1 + k]]) ?_ @Go
        have a1:f2 (gv 3) (gv 6) bu @M2 (β / th)=.ok (.int ms[i]) (β / th):=by
         refine aF rfl rfl ?_
         show kq (ms.map int) (0 + @S0)=_
         rw[QT,jJ,nK h1];rfl
        have a2:f2 (gv 3) (gv 7) bu @M2 (β / th)=.ok (.int ms[i + 1 + k]) (β / th):=by
         refine aF rfl rfl ?_
         show kq (ms.map int) (0 + @S0 + 1 + (k:Int))=_
         rw[show (0 + @S0 + 1 + (k:Int))=((i + 1 + k:Nat):Int) by omega,jJ,nK h2];rfl
        rw[bE,a1]
        dsimp only[R.bnd]
        rw[bE,a2];rfl
       have:=ot (i:=5) (L:=@Ev ++ (@Ev ++ [])) (env:=[.bx,.fz (.int most),.fz @Ix,.fz @E_,.fz (.int th),.ow (.list (qs.map ao)),.fz (.int (0 + @S0)),.fz (.int (0 + @S0 + 1 + (k:Int)))]) (ds:=qs.map ao) @Tk ep @Tk (by rw[Py];omega)
       rw[Qk]
       exact this
      ·intro p hp
       rcases PQ.mp hp with hp |hp
       ·exact hal p hp
       ·have:p=(ms[i],ms[i + 1 + k]):=by simpa using hp
        subst this
        exact⟨i,i + 1 + k,@AT,Pn h1,Pn h2⟩
      ·rw[P5];simp;omega
     ·rw[PU c] at et
      refine⟨_,_,by rw[gr et];rfl,qs,_,rfl,hal,@AT ⟩)
   have hlen:(cJ (0 + @S0 + 1) ((n:Int) - (0 + @S0 + 1)).toNat).length<=7:=by rw[gB];omega
   exact⟨_,_,ef,qs,_,b,rfl,hal2,@AT ⟩)
 rw[az (env':=[.bx,.fz (.int most),.fz @Ix,.fz @E_,.fz (.int th),.ow @FS,a,b]) (β':=β') ?g5]
 case g5=>
  rw[dC (env:=[.bx,.fz (.int most),.fz @Ix,.fz @E_,.fz (.int th),.ow (.list []),.no,.no]) (du (n:=n) rfl (@AT))]
  exact ef
 obtain⟨w,ir,O⟩:=BP n1 n8 hp hal
 refine⟨n,OM.bW n (OM.Tr @TV),β',?_,O,@AT ⟩
 have e9:aQ (aa (gv 2) (aa (ay kn (aa (gv 5) af)) af)) [Nv.bx,.da (.int most),.da @Ix,.da @E_,.da (.int th),.da @FS,a.val,b.val] β'=.ok (aA n (OM.bW n (OM.Tr @TV))) β':=by
  refine iE (ds:=[.int n,.tuple ((OM.bW n (OM.Tr @TV)).map ao)]) ?_ @Go
  have a1:ay kn (aa (gv 5) af) [Nv.bx,.da (.int most),.da @Ix,.da @E_,.da (.int th),.da @FS,a.val,b.val] β'=.ok (.tuple ((OM.bW n (OM.Tr @TV)).map ao)) β':=aE rfl (CW n1 n8 w ir)
  rw[bE]
  show (R.ok (int n) β').bnd _=_
  dsimp only[R.bnd]
  rw[bE,a1];rfl
 show wz (toS (aQ (aa (gv 2) (aa (ay kn (aa (gv 5) af)) af)) [Nv.bx,.da (.int most),.da @Ix,.da @E_,.da (.int th),.da @FS,a.val,b.val] β') _)=_
 rw[e9];rfl
theorem vn (p:Pr):∀l:@Do,((l.map ao).any λe=>PyData.eqv e (ao p))=decide (p∈l)
 | []=>rfl
 |q :: l=>by
  rw[P8,Q4,vn p l,FP,Qn]
  simp only[QY,PL,Pu]
  exact⟨λh=>h.imp Eq.symm id,λh=>h.imp Eq.symm id⟩
def AU (l:@Do):(l.map ao).all SeqAt.shaped=true:=by
 rw[Qm]
 intro d hd
 obtain⟨p,_,rfl⟩:=PD.mp hd
 exact pX p
def vP (neg:Bool)(p:Pr)(l:@Do):pB neg (ao p) (.tuple @R_)=some (.bool (if neg then !decide (p∈l) else decide (p∈l))):=by
 unfold pB
 simp only[nJ,pX,AU,R0,QC,vn]
def A7 (neg:Bool)(p:Pr)(l:@Do):pB neg (ao p) (.list @R_)=some (.bool (if neg then !decide (p∈l) else decide (p∈l))):=by
 unfold pB
 simp only[nJ,pX,AU,R0,QC,vn]
def oB (neg:Bool)(i j:Int):cv neg @S3 (.int j)=some (.bool (if neg then !decide (i=j) else decide (i=j))):=rfl
theorem v9 {fa fb:VF D}{vs:List Nv}{β:Int}{a b:Bool}(h:@TX=.ok (.bool a) β)(h':fb vs β=.ok (.bool b) β):fA fa fb vs β=.ok (.bool (a && b)) β:=by
 unfold fA
 rw[h]
 dsimp only[R.bnd]
 cases a with
 |true=>exact h'
 |false=>rfl
def dB {fa fb:VF D}{vs:List Nv}{β:Int}{a b:Int}(h:@TX=.ok (.int a) β)(h':fb vs β=.ok (.int b) β):aQ (aa fa (aa fb af)) vs β=.ok (ao (a,b)) β:=by
 refine iE (ds:=[.int a,.int b]) ?_ @Go
 rw[bE,h]
 dsimp only[R.bnd]
 rw[bE,h'];rfl
def tQ (l:@Do)(p:Pr):Bool:= !decide (p.1=p.2) && (!decide ((p.1,p.2)∈l) && !decide ((p.2,p.1)∈l))
def Nf {n:Nat}{l:@Do}{fa:VF D}{vs:List Nv}{β:Int}(h:@TX=.ok (aA n l) β):f2 fa @EQ bu vs β=.ok (.tuple @R_) β:=aF h rfl rfl
def Nt {n:Nat}{l:@Do}{fa:VF D}{vs:List Nv}{β:Int}(h:@TX=.ok (aA n l) β):f2 fa @Cl bu vs β=.ok @Ix β:=aF h rfl rfl
def JM:@Fk:=bg 3 3 qf
def Af:@Fk:=bg 3 3 oj
def Kf (n:Nat)(l:@Do)(a b:Int):JM [aA n l,.int a,.int b]=.ok (.bool (tQ l (a,b))) false:=by
 show fin (toS (fA (f2 (gv 1) (gv 2) (cv true)) @Tc [.da (aA n l),.da (.int a),.da (.int b)] 0) _)=_
 rw[v9 (aF (x:=.int a) (y:=.int b) rfl rfl (oB true a b)) (v9 (aF (dB (a:=a) (b:=b) rfl rfl) (Nf (n:=n) (l:=l) rfl) (vP true (a,b) l)) (aF (dB (a:=b) (b:=a) rfl rfl) (Nf (n:=n) (l:=l) rfl) (vP true (b,a) l)))]
 rfl
def Lz (n:Nat)(l:@Do)(a b:Int):Af [aA n l,.int a,.int b]=.ok (.bool (tQ l (a,b))) false:=Kf n l a b
def pN:@Fk:=bg 1 1 iI
def Gm {n:Nat}(h1:1<=n)(h8:n<=8):pN [.int n]=.ok (.list ((OM.cn n).map ao)) true:=by
 have hm:n * n<=64:=QV h8 h8
 have e:aM 1 [0] (.nm 0) (bS (f2 (gv 0) (gv 0) cR)) lN (aQ (aa (f2 (gv 0) (gv 1) C9) (aa (f2 (gv 0) (gv 1) nU) af))) [.da @Ix] 0=.ok (.list ((OM.cn n).map ao)) 0:=by
  have hi:bS (f2 (gv 0) (gv 0) cR) [.da @Ix] 0=.ok ((List.range (n * n)).map λ(k:Nat)=>int (0 + (k:Int))) 0:=by
   refine du (n:=n * n) (aF (x:=.int n) (y:=.int n) rfl rfl ?_) (@AT)
   rw[nX ⟨@AT,@AT ⟩];rfl
  rw[cV (l:=List.range (n * n)) (e:=λ(k:Nat)=>int (0 + (k:Int))) (λk=>ao (((k / n:Nat):Int),((k % n:Nat):Int))) hi (by rw[QO];omega) λk hk=>⟨_,rfl,?_⟩]
  ·unfold OM.cn;rw[QE];rfl
  ·refine dB (aF (x:=.int (0 + (k:Int))) (y:=.int n) rfl rfl ?_) (aF (x:=.int (0 + (k:Int))) (y:=.int n) rfl rfl ?_)
   ·rw[Ay (@AT) (@AT),QT];rfl
   ·rw[pL (@AT),QT];rfl
 show fin (iI [.fz @Ix] 0)=_
 unfold iI
 rw[xE,show vl [Sl.fz @Ix]= [.da @Ix] from rfl,e];rfl
def dZ (n:Nat)(l:@Do):@Do:=(OM.cn n).filter (tQ l)
def fW (n:Nat):(OM.cn n).length=n * n:=by unfold OM.cn;simp
def wq {n:Nat}{l:@Do}(h8:n<=8):(dZ n l).length<=64:=by
 have h1:(dZ n l).length<=(OM.cn n).length:=Qr _ _
 rw[fW] at h1
 have:n * n<=64:=QV h8 h8
 omega
def AZ (n:Nat)(l:@Do):OM.vS (dZ n l):=OM.cS _ (OM.fN n)
def dH {n:Nat}{l:@Do}{p:Pr}:p∈dZ n l↔(@S1)/\tQ l p=true:=by
 unfold dZ;rw[PH,OM.bo]
noncomputable def zA:@Fk:=bg 1 1 (qY jE pN JM)
def ju {fa:VF D}{vs:List Nv}{β:Int}{c:Bool}(h:@TX=.ok (.bool c) β):lG fa vs β=.ok c β:=by rw[vT,h];rfl
def Iq {n:Nat}{l:@Do}(O:@S8):zA [aA n l]=.ok (.list ((dZ n l).map ao)) true:=by
 have hm:n * n<=64:=QV O.hi O.hi
 show fin (qY jE pN JM [@GT] 0)=_
 unfold qY
 rw[az (env':=[@GT]) (β':=0) ?g1]
 case g1=>
  show toS (ay jE @Is [.da (aA n l)] 0) _=_
  rw[aE (ds:=[aA n l]) rfl (p0 O)];rfl
 have e:aM 2 [0] (.two 0 1) (bC (ay pN (aa @TB af))) (lG (ay JM (aa (gv 2) (aa (gv 0) @L_)))) (aQ (aa (gv 0) @L_)) [.da (aA n l)] 0=.ok (.list ((dZ n l).map ao)) 0:=by
  have hi:bC (ay pN (aa @TB af)) [.da (aA n l)] 0=.ok ((OM.cn n).map ao) 0:=by
   unfold bC
   rw[aE (ds:=[.int n]) rfl (Gm O.lo O.hi)];rfl
  exact cf (l:=OM.cn n) (e:=ao) (tQ l) ao hi (by rw[fW];omega) λp hp=>⟨_,rfl,ju (aE (ds:=[aA n l,.int p.1,.int p.2]) rfl (Kf n l p.1 p.2)),λ_=>dB rfl rfl⟩
 show fin (toS (aM 2 [0] (.two 0 1) (bC (ay pN (aa @TB af))) (lG (ay JM (aa (gv 2) (aa (gv 0) @L_)))) (aQ (aa (gv 0) @L_)) [.da (aA n l)] 0) _)=_
 rw[e];rfl
end RM
namespace L2
open PySem PySem.Spec PyProof.Rows
section
variable {X:Cx}{pins:@Db}{σ:St}{H:Hp}{s:Shared}
def Inv.turnedL {t':Nat}{ch:List Addr}{h':Heap}(I:@At)(k:∀b o,b∉ch->s.heap.get? b=some o->h'.get? b=some o)(hf:∀b∈ch,p4 X pins H b):Inv X pins σ H {s with heap:=h',toks:=t'}:=by
 have nit:∀b u,H b=some u->b∉ch:=λb u e z=>by rw[(hf b z).1] at e;cases e
 have nL:X.env.locals∉ch:=λz=>(hf _ z).2.1 rfl
 refine I.step (g':=s.gens) (d':=s.drawn) (ch:=ch) (λb hb=>?_) (λb o _ _ hc e _=>k b o hc e) (λb o _ _ hc e _=>⟨o.slots,k b o hc e⟩) (λ_ _ _ _ n=>n)
  (λb o hc e=>⟨o,k b o hc e⟩) (λ_ _ e=>e) (λ_ _ _ e=>e) (λb ps e=>⟨#[],by rw[e];simp⟩) (λm hm=>?_) (λb u e=>?_) I.bare
 ·obtain⟨f0,f1,f2,f3,f4,f5⟩:=hf b hb
  exact⟨f3,f1,f4,f5⟩
 ·obtain⟨o,es,ep,ho,r⟩:=hm
  exact⟨o,es,ep,k _ o nL ho,r⟩
 ·refine (I.hok b u e).stay (λc v hc q=>k c v ?_ q) (λ_ q=>q) λ_ _ q=>q
  rcases hc with z |z
  ·rw[z];exact nit b u e
  ·exact nit c _ z
end
def NZ {n:Nat}(i j:Nat)(h:(i == j)=false):(n + i:Nat)≠n + j:=by
 have:i≠j:=by simpa using h
 omega
section
variable {κ:Type}[DecidableEq κ]
def pE (kvs:List (κ×V))(k:κ):Option V:=(kvs.find? λkv=>decide (kv.1=k)).map (·.2)
def putK (kvs:List (κ×V))(k:κ)(v:V):List (κ×V):=
 if (kvs.any λkv=>decide (kv.1=k))=true then kvs.map (λkv=>if kv.1=k then (kv.1,v) else kv) else kvs ++ [(k,v)]
def oE {p:κ×V}{r:List (κ×V)}{k:κ}(e:p.1=k):pE (p :: r) k=some p.2:=by simp[pE,R3,e]
def om {p:κ×V}{r:List (κ×V)}{k:κ}(e:¬p.1=k):pE (p :: r) k=pE r k:=by simp[pE,R3,e]
theorem xw (k:κ):∀kvs:List (κ×V),(kvs.any λkv=>decide (kv.1=k))=(pE kvs k).isSome
 | []=>rfl
 |p :: r=>by
  rw[Q4]
  by_cases e:p.1=k
  ·simp only[oE e,PF e,Bool.true_or,Option.isSome_some]
  ·rw[om e,PU e,Bool.false_or];exact xw k r
def l5 (kvs:List (κ×V))(k:κ)(v:V):(putK kvs k v).length<=kvs.length + 1:=by
 unfold putK
 split
 ·rw[Py];omega
 ·rw[P5,P7,Ss];omega
theorem zw.isSome_eq {o:Option V}{u:Option Value}(r:zw o u):o.isSome=u.isSome:=by
 cases o with
 |none=>cases u with
  |none=>rfl
  |some _=>exact (show False from r).elim
 |some _=>cases u with
  |none=>exact (show False from r).elim
  |some _=>rfl
theorem KV.val {kvs:List (κ×V)}{vs:List (κ×Value)}(r:KV kvs vs)(k:κ):zw (pE kvs k) (valueAt vs k):=by
 unfold KV at r
 induction r with
 |nil=>exact True.intro
 | @cons p q ps qs h t ih=>
  obtain⟨h1,h2⟩:=h
  by_cases e:p.1=k
  ·have e':q.1=k:=h1.symm.trans e
   have b:valueAt (q :: qs) k=some q.2:=by simp[valueAt,R3,e']
   rw[oE e,b];exact h2
  ·have e':¬q.1=k:=λz=>e (h1.trans z)
   have b:valueAt (q :: qs) k=valueAt qs k:=by simp[valueAt,R3,e']
   rw[om e,b];exact ih
theorem KV.any {kvs:List (κ×V)}{vs:List (κ×Value)}(r:KV kvs vs)(k:κ):(kvs.any λkv=>decide (kv.1=k))=vs.any λkv=>decide (kv.1=k):=by
 unfold KV at r
 induction r with
 |nil=>rfl
 |cons h t ih=>rw[Q4,Q4,ih,h.1]
theorem KV.repl {kvs:List (κ×V)}{vs:List (κ×Value)}(r:KV kvs vs)(k:κ){y:V}{u:Value}(ry:RelV y u) :
  KV (kvs.map λkv=>if kv.1=k then (kv.1,y) else kv) (vs.map λkv=>if kv.1=k then (kv.1,u) else kv):=by
 unfold KV at r ⊢
 induction r with
 |nil=>exact .nil
 | @cons p q ps qs h t ih=>
  rw[P8,P8]
  refine .cons ?_ ih
  obtain⟨h1,h2⟩:=h
  by_cases e:p.1=k
  ·rw[Po e,Po (h1.symm.trans e)];exact⟨h1,ry⟩
  ·rw[Px e,Px (λz=>e (h1.trans z))];exact⟨h1,h2⟩
def KV.put {kvs:List (κ×V)}{vs:List (κ×Value)}(r:KV kvs vs)(k:κ){y:V}{u:Value}(ry:RelV y u):KV (putK kvs k y) (stored vs k u):=by
 unfold putK stored
 rw[r.any k]
 by_cases e:(vs.any λkv=>decide (kv.1=k))=true
 ·rw[Po e,Po e];exact r.repl k ry
 ·rw[Px e,Px e];exact Paired.snoc r ⟨rfl,ry⟩
end
theorem A4 {P:Program}{w:World}{k:Key}{u:Value}(r:RelV (kV k) u):(bQ P w).is k u=true:=by
 cases k with
 |inl i=>obtain⟨t,e⟩:=(show ∃t,u=Value.int i t from r);subst e;exact wN P w i t
 |inr x=>obtain⟨t,e⟩:=(show ∃t,u=Value.str x t from r);subst e;exact yr P w x t
theorem uf {P:Program}{w:World}:∀{ks:List Key} {us:@GM},Vals (ks.map kV) us->ItemsAre (bQ P w) ks us
 | [],_,r=>by rw[List.map_nil] at r;cases r;exact .nil
 |k :: ks,_,r=>by
  rw[P8] at r
  cases r with
  |cons h t=>exact .cons (A4 h) (uf t)
abbrev KT (H:Hp):@On->List (List Key×Addr×Value)->Prop:=Paired λp q=>p.1=q.1/\Rd H q.2.1 (.tup (p.1.map kV))/\RelV p.2 q.2.2
theorem KT.val {H:Hp}{kvs:@On}{xs:List (List Key×Addr×Value)}(r:KT H kvs xs)(k:List Key):zw (pE kvs k) ((atKey xs k).map (·.2)):=by
 induction r with
 |nil=>exact True.intro
 | @cons p q ps qs h t ih=>
  obtain⟨h1,_,h2⟩:=h
  by_cases e:p.1=k
  ·have e':q.1=k:=h1.symm.trans e
   have b:atKey (q :: qs) k=some q.2:=by simp[atKey,R3,e']
   rw[oE e,b];exact h2
  ·have e':¬q.1=k:=λz=>e (h1.trans z)
   have b:atKey (q :: qs) k=atKey qs k:=by simp[atKey,R3,e']
   rw[om e,b];exact ih
theorem KT.repl {H:Hp}{kvs:@On}{xs:List (List Key×Addr×Value)}(r:KT H kvs xs)(k:List Key){y:V}{u:Value}(ry:RelV y u) :
  KT H (kvs.map λkv=>if kv.1=k then (kv.1,y) else kv) (xs.map (putAt k u)):=by
 induction r with
 |nil=>exact .nil
 | @cons p q ps qs h t ih=>
  rw[P8,P8]
  refine .cons ?_ ih
  obtain⟨h1,h2,h3⟩:=h
  unfold putAt
  by_cases e:p.1=k
  ·rw[Po e,Po (h1.symm.trans e)];exact⟨h1,h2,ry⟩
  ·rw[Px e,Px (λz=>e (h1.trans z))];exact⟨h1,h2,h3⟩
def KT.put {H:Hp}{kvs:@On}{xs:List (List Key×Addr×Value)}(r:KT H kvs xs)(k:List Key){b:Addr}{y:V}{u:Value}(hb:Rd H b (.tup (k.map kV)))(ry:RelV y u) :
  KT H (putK kvs k y) (storedH xs k b u):=by
 have e:(kvs.any λkv=>decide (kv.1=k))=(atKey xs k).isSome:=by
  rw[xw,(r.val k).isSome_eq,Option.isSome_map]
 unfold putK storedH
 rw[e]
 by_cases q:(atKey xs k).isSome=true
 ·rw[Po q,Po q];exact r.repl k ry
 ·rw[Px q,Px q];exact Paired.snoc r ⟨rfl,hb,ry⟩
def KT.keeps {H H':Hp}{kvs:@On}{xs:List (List Key×Addr×Value)}(r:KT H kvs xs)(ht:∀b ys,Rd H b (.tup ys)->Rd H' b (.tup ys)):KT H' kvs xs:=
 Paired.mapP r λ_ _ z=>⟨z.1,ht _ _ z.2.1,z.2.2⟩
section
variable {P:Program}{w:World}{H:Hp}{h:Heap}{a:Addr}
def IW {u:HO}(ok:lC P w H h)(e:Rd H a u):bV P w H h a u:=e.ok ok
def w8 {kvs:List (Key×V)}(ok:lC P w H h)(e:Rd H a (.dK kvs)):kvs.length<=sizeLine/\(a == sysModules)=false/\∃vs,KV kvs vs/\h.DictOf (bQ P w) a vs:=
 show bV P w H h a (.dK kvs) from IW ok e
def LF {kvs:List (Key×V)}(ok:lC P w H h)(e:H a=some (.dK kvs)):kvs.length<=sizeLine/\(a == sysModules)=false/\∃vs,KV kvs vs/\h.DictOf (bQ P w) a vs:=w8 ok (.inl e)
def pM {ks:List Key}(ok:lC P w H h)(e:Rd H a (.tup (ks.map kV))):(tupleKind (bQ P w)).is h ks a:=by
 obtain⟨_,its,r,o,h1,h2,n,h3⟩:=(show bV P w H h a (.tup (ks.map kV)) from e.ok ok)
 exact⟨o,its.toArray,n,h1,h2,h3.1,by simpa using uf r⟩
def Fp {kvs:@On}(ok:lC P w H h)(e:Rd H a (.dT kvs)):kvs.length<=sizeLine/\(a == sysModules)=false/\
  ∃xs,KT H kvs xs/\h.DictOfH (tupleKind (bQ P w)) a xs:=by
 obtain⟨z,y,xs,r,o,es,ep,h1,h2,h3,h4,h5⟩:=(show bV P w H h a (.dT kvs) from IW ok e)
 refine⟨z,y,xs,r,o,es,ep,h1,h2,h3,h4,λx hx=>?_,h5⟩
 have all:∀{l:@On} {m:List (List Key×Addr×Value)},KT H l m->∀x∈m,(tupleKind (bQ P w)).is h x.1 x.2.1:=by
  intro l m q
  induction q with
  |nil=>intro x hx;exact nomatch hx
  | @cons p q ps qs hq t ih=>
   intro x hx
   rcases Pu.mp hx with e |hx
   ·subst e
    exact pM ok (by rw[<-hq.1];exact hq.2.1)
   ·exact ih x hx
 exact all r x hx
def LD {kvs:@On}(ok:lC P w H h)(e:H a=some (.dT kvs)):kvs.length<=sizeLine/\(a == sysModules)=false/\
  ∃xs,KT H kvs xs/\h.DictOfH (tupleKind (bQ P w)) a xs:=Fp ok (.inl e)
end
def vM (H:Hp)(a:Addr)(y:V)(r:Option V):Prop:=
 (∃kvs k,Rd H a (.dK kvs)/\y=kV k/\r=pE kvs k)\/∃kvs k b,Rd H a (.dT kvs)/\y=.ref b/\Rd H b (.tup (k.map kV))/\r=pE kvs k
def GV (H:Hp)(a:Addr)(y v:V)(H':Hp):Prop:=
 (∃kvs k,H a=some (.dK kvs)/\y=kV k/\kvs.length < sizeLine/\H'=upd H a (.dK (putK kvs k v)))\/
 ∃kvs k b,H a=some (.dT kvs)/\y=.ref b/\Rd H b (.tup (k.map kV))/\kvs.length < sizeLine/\H'=upd H a (.dT (putK kvs k v))
def vM.k {H:Hp}{a:Addr}{kvs:List (Key×V)}{k:Key}(e:H a=some (.dK kvs)):vM H a (kV k) (pE kvs k):=.inl ⟨kvs,k,.inl e,rfl,rfl⟩
def vM.t {H:Hp}{a b:Addr}{kvs:@On}{k:List Key}(e:H a=some (.dT kvs))(eb:Rd H b (.tup (k.map kV))):vM H a (.ref b) (pE kvs k):=.inr ⟨kvs,k,b,.inl e,rfl,eb,rfl⟩
def GV.k {H:Hp}{a:Addr}{kvs:List (Key×V)}{k:Key}{v:V}(e:H a=some (.dK kvs))(hl:kvs.length < sizeLine):GV H a (kV k) v (upd H a (.dK (putK kvs k v))):=.inl ⟨kvs,k,e,rfl,hl,rfl⟩
def GV.t {H:Hp}{a b:Addr}{kvs:@On}{k:List Key}{v:V}(e:H a=some (.dT kvs))(eb:Rd H b (.tup (k.map kV)))(hl:kvs.length < sizeLine) :
  GV H a (.ref b) v (upd H a (.dT (putK kvs k v))):=.inr ⟨kvs,k,b,e,rfl,eb,hl,rfl⟩
section
variable {X:Cx}{pins:@Db}{σ:St}{H:Hp}{s:Shared}{a:Addr}{y v:V}{u r:Value}{o:Option V}{A:Around}{E:@Ch}
def Inv.big (I:@At):sysModules < s.heap.objs.size:=by
 have h:mainGlobals < s.heap.objs.size:=(I.mod.glob.keeps I.bk).lt
 exact RP @A_ h
def Ou {Q:@Ch}(hu:A.units + 1 < cLine)(I:@At)(g:vM H a y o)(ry:RelV y u)(h:∀s',Inv X pins σ H s'->Q (.bool o.isSome) s') :
  wpAny @D_ A (compareOp .In u @S2) Q E s:=by
 rcases g with⟨kvs,k,e,ey,l⟩ | ⟨kvs,k,b,e,ey,eb,l⟩
 ·subst ey
  obtain⟨z,hd,vs,rel,dd⟩:=w8 I.hok e
  refine wpAny_in_of (A4 ry) hd dd.mapOf ?_
  rw[<-(rel.val k).isSome_eq,<-l]
  exact h _ (I.tok _)
 ·subst ey
  cases (show u=Value.ref b from ry)
  obtain⟨z,hd,xs,rel,dd⟩:=Fp I.hok e
  refine wpAny_in_heap (Sx hu) (pM I.hok eb) hd dd ?_
  have q:=(rel.val k).isSome_eq
  rw[Option.isSome_map] at q
  rw[<-q,<-l]
  exact h _ (I.tok _)
def Hu {Q:@Ch}(hu:A.units + 1 < cLine)(I:@At)(g:vM H a y o)(ry:RelV y u)(h:∀s',Inv X pins σ H s'->Q (.bool (!o.isSome)) s') :
  wpAny @D_ A (compareOp .NotIn u @S2) Q E s:=by
 rcases g with⟨kvs,k,e,ey,l⟩ | ⟨kvs,k,b,e,ey,eb,l⟩
 ·subst ey
  obtain⟨z,hd,vs,rel,dd⟩:=w8 I.hok e
  refine wpAny_notIn_of (A4 ry) hd dd.mapOf ?_
  rw[<-(rel.val k).isSome_eq,<-l]
  exact h _ (I.tok _)
 ·subst ey
  cases (show u=Value.ref b from ry)
  obtain⟨z,hd,xs,rel,dd⟩:=Fp I.hok e
  refine wpAny_notIn_heap (Sx hu) (pM I.hok eb) hd dd ?_
  have q:=(rel.val k).isSome_eq
  rw[Option.isSome_map] at q
  rw[<-q,<-l]
  exact h _ (I.tok _)
def A6 {h':Heap}{t':Nat}{ob:HO}(I:@At)(mu:LW (H a))(hs:Heap.SameBut a s.heap h')(he:∃q,h'.get? a=some q)(new:bV X.prog X.w (upd H a ob) h' a ob) :
  Inv X pins σ (upd H a ob) {s with heap:=h',toks:=t'}:=
 I.write (x:=a) (e:=a) mu (.inl rfl) (λb q hb z=>(hs.2 b hb).trans z) he new
def KH {P:Program}{w:World}{H':Hp}{h':Heap}{kvs:List (Key×V)}{vs:List (Key×Value)}(z:kvs.length<=sizeLine)(hd:(a == sysModules)=false)(rel:KV kvs vs)(dd:h'.DictOf (bQ P w) a vs) :
  bV P w H' h' a (.dK kvs):=⟨z,hd,vs,rel,dd⟩
end
def wV {P:Program}{w:World}{H:Hp}(h:Heap)(hb:sysModules < h.objs.size):bV P w H (h.push {cls:=.type "dict",data:=.dict #[]}) h.objs.size (.dK []):=
 ⟨Qp _,Sk.mpr (Ne.symm (Qg hb)),[],.nil,Heap.DictOf.new h⟩
def Jr:TE:=λ_ H Q=>∀p,H p=none->Q (.ref p) (upd H p (.dK []))
section
variable {X:Cx}{pos:Pos}
def Dw:PE X (.Dict [] [] pos) Jr:=λpins s σ H Q I h=>
 wpAny_Dict_empty ⟨@LE,_,I.laid (a:=s.heap.objs.size) (o:=.dK []) (t':=s.toks) (λ_ _ q=>Pq _ q) (Pt _) (wV s.heap I.big),rfl,h _ (I.hok.fresh (Pt _))⟩
end
def zQ:List (TE×TE)->St->Hp->(List (V×V)->Hp->Prop)->Prop
 | [],_,H,Q=>Q [] H
 | (tk,tv) :: r,σ,H,Q=>tk σ H λx H1=>tv σ H1 λy H2=>zQ r σ H2 λps H3=>Q ((x,y) :: ps) H3
abbrev VV:List (V×V)->List (Value×Value)->Prop:=Paired λp q=>RelV p.1 q.1/\RelV p.2 q.2
def M5 (X:Cx)(pos:Pos)(keys:List (Option Expr))(values:@TH)(trs:List (TE×TE)):Prop:=
 ∀(pins:@Db) (s:Shared) (σ:St) (H:Hp) (Q:List (V×V)->Hp->Prop),@At->zQ trs σ H Q->
  wpAny @D_ X.A (evalPairs (pairTrees keys values X.env pos)) (λvs s'=>∃ps H',Inv X pins σ H' s'/\VV ps vs/\Q ps H') X.xe s
def Ic {X:Cx}{pos:Pos}:M5 X pos [] [] []:=λpins s σ H Q I h=>pairTrees_nil_walk ⟨[],H,I,.nil,h⟩
def Ek {X:Cx}{pos:Pos}{k v:Expr}{ks:List (Option Expr)}{vs:@TH}{tk tv:TE}{trs:List (TE×TE)}(hk:PE X k tk)(hv:PE X v tv)(hr:M5 X pos ks vs trs) :
  M5 X pos (some k :: ks) (v :: vs) ((tk,tv) :: trs):=λpins s σ H Q I h=>
 pairTrees_cons_walk (cG (hk pins s σ H _ I h) λu s1 ⟨x,H1,I1,rx,q1⟩=>cG (hv pins s1 σ H1 _ I1 q1) λw2 s2 ⟨y,H2,I2,ry,q2⟩=>
  cG (hr pins s2 σ H2 _ I2 q2) λws s3 ⟨ps,H3,I3,rel,q3⟩=>⟨(x,y) :: ps,H3,I3,.cons ⟨rx,ry⟩ rel,q3⟩)
def rf (kvs more:List (Key×V)):List (Key×V):=more.foldl (λacc kv=>putK acc kv.1 kv.2) kvs
theorem KV.merge:∀{more:List (Key×V)} {rs:List (Key×Value)} {kvs:List (Key×V)} {vs:List (Key×Value)},KV more rs->KV kvs vs->KV (rf kvs more) (merged vs rs):=by
 intro more rs kvs vs r
 unfold KV at r
 induction r generalizing kvs vs with
 |nil=>intro q;exact q
 | @cons p q ps qs h t ih=>
  intro r0
  have e:KV (putK kvs p.1 p.2) (stored vs q.1 q.2):=by
   have:=r0.put p.1 h.2
   rw[<-h.1];exact this
  exact ih e
theorem ng:∀(more kvs:List (Key×V)),(rf kvs more).length<=kvs.length + more.length
 | [],kvs=>by show kvs.length<=kvs.length + 0;omega
 |p :: r,kvs=>by
  have h1:=ng r (putK kvs p.1 p.2)
  have h2:=l5 kvs p.1 p.2
  show (rf (putK kvs p.1 p.2) r).length<=_
  rw[P7];omega
theorem sd {P:Program}{w:World}:∀{kvs:List (Key×V)} {ws:List (Value×Value)},VV (kvs.map λkv=>(kV kv.1,kv.2)) ws->∃rs,Carries (bQ P w) ws rs/\KV kvs rs
 | [],_,r=>by rw[List.map_nil] at r;cases r;exact⟨[],True.intro,.nil⟩
 |p :: kvs,_,r=>by
  rw[P8] at r
  cases r with
  | @cons a b as bs h t=>
   obtain⟨rs,c,q⟩:=sd (P:=P) (w:=w) t
   obtain⟨b1,b2⟩:=b
   exact⟨(p.1,b2) :: rs,⟨A4 h.1,rfl,c⟩,.cons ⟨rfl,h.2⟩ q⟩
def LK (trs:List (TE×TE)):TE:=λσ H Q=>∀p,H p=none->zQ trs σ (upd H p (.dK [])) λps H2=>H2 p=some (.dK [])/\∃kvs:List (Key×V),ps=kvs.map (λkv=>(kV kv.1,kv.2))/\kvs.length<=15/\Q (.ref p) (upd H2 p (.dK (rf [] kvs)))
def Hn {X:Cx}{pos:Pos}{keys:List (Option Expr)}{values:@TH}{trs:List (TE×TE)}(h:M5 X pos keys values trs)(hall:keys.all (·.isSome)=true)(hl:keys.length=values.length)(h0:keys≠ [])
  (h15:keys.length<=15):PE X (.Dict keys values pos) (LK trs):=by
 intro pins s σ H Q I q
 have hn:=I.hok.fresh (Pt s.heap.objs.size)
 have I1:=I.laid (a:=s.heap.objs.size) (o:=.dK []) (h':=s.heap.push {cls:=.type "dict",data:=.dict #[]}) (t':=s.toks) (λ_ _ q=>Pq _ q) (Pt _) (wV s.heap I.big)
 refine wpAny_Dict_walk (knd:=bQ X.prog X.w) hall hl h0 h15 (cG (h pins _ σ _ _ I1 (q _ hn)) λws s2 ⟨ps,H2,I2,rel,e,kvs,ep,lk,q2⟩=>?_)
 subst ep
 obtain⟨rs,c,rk⟩:=sd (P:=X.prog) (w:=X.w) rel
 obtain⟨z,hd,vs0,r0,dd⟩:=LF I2.hok e
 cases r0
 refine⟨rs,c,dd,λh' dd' hs=>⟨@LE,_,?_,rfl,q2⟩⟩
 have hz:(rf [] kvs).length<=sizeLine:=by
  have h1:=ng kvs []
  rw[Ss] at h1
  rw[Qc];omega
 have he:∃q,h'.get? s.heap.objs.size=some q:=let ⟨q,_,_,hq,_⟩:=dd';⟨q,hq⟩
 exact A6 I2 (by rw[e];exact True.intro) hs he (KH hz hd (rk.merge .nil) dd')
section
variable {X:Cx}{Γ:Fx}{E:XK}{pos:Pos}
def Gg {k:Str}{i:Int}{j j'}{p p':Pos}:SE X Γ E (.Dict [some (.Constant (.str k) j p)] [.Constant @S3 j' p'] pos) (cst (.dict [(.str k,.int i)])) [] .v:=by
 refine PE.post' (Hn (Ek sU ra Ic) rfl rfl @Go @Go) ?_
 rintro σ H Q ⟨env,G,B,β,I,o⟩ p hp
 have o:∀v G' H',SR Γ B G' H' σ (a8 [] env) β->av G G'->i3 B H H'->Rp Γ.K G' v (.dict [(.str k,.int i)])->Q v H':=o
 refine⟨aw,[(.inr k,.int i)],rfl,by simp,?_⟩
 rw[GY]
 have xn:=Ext.new I.sub (o:=.dK [((.inr k:Key),V.int i)]) hp
 exact o _ _ _ (I.ext xn) xn.gg (xn.hh.mov B) (.dK (kvs:=[((.inr k:Key),V.int i)]) aw (.cons @S3 .nil))
end
mutual
def NM:D->Bool
 | .list ds=>Jk ds
 | .tuple ds=>Jk ds
 | .dict kvs=> !kvs.isEmpty && kvs.all λkv=>match kv.1,kv.2 with
  | .str _,.int _=>true
  |_,_=>false
 |_=>true
def Jk:List D->Bool
 | []=>true
 |d :: ds=>NM d && Jk ds
end
abbrev FW (n:Nat):@IO:=[n + 1,n]
def Cy:bootBuiltins "enumerate"=some (.type "enumerate"):=@B_
section
variable {X:Cx}{Γ:Fx}{E:XK}{e a b c:Expr}{f fa fb:VF D}{L La Lb:@IO}{md ma mb:Md}{pos:Pos}
def jZ (ds:List D):List D:=ds.mapIdx λi d=>.tuple [.int i,d]
end
def isStar:Expr->Bool
 | .Starred _ _=>true
 |_=>false
def Cq {a:Expr}{es:@TH}{env:Env}(h:isStar a=false):starEach (a :: es) env=(false,eval a env) :: starEach es env:=by
 cases a <;> first |rfl |cases h
def Km (sc:Scope)(x:Str):Bool:=match sc.names.lookup x with
 |some .local=>true
 |some .cell=>true
 |some .free=>true
 |_=>false
def Gv {sc:Scope}{x:Str}(h:Km sc x=true):yM sc x:=by
 unfold Km at h
 unfold yM
 split at h
 ·exact .inl (by assumption)
 ·exact .inr (.inl (by assumption))
 ·exact .inr (.inr (by assumption))
 ·cases h
def Aj (N:@KK)(sc:Scope):List (Str×Nat)->Bool
 | []=>true
 | (x,i) :: r=>decide (N[i]? =some x) && (Km sc x && ((!(x == ("__debug__":Str))) && ((!(x == ("__classdict__":Str))) && Aj N sc r)))
theorem AM {N:@KK}{sc:Scope}:∀{l:List (Str×Nat)} {x:Str} {i:Nat},Aj N sc l=true->l.lookup x=some i->N[i]? =some x/\yM sc x/\@FM/\@TF
 | [],_,_,_,h=>by cases h
 | (y,j) :: r,x,i,h,e=>by
  simp only[Aj,PM,PL,QG] at h
  obtain⟨h1,h2,h3,h4,h5⟩:=h
  rw[Rz] at e
  split at e
  ·rename_i q
   have q:x=y:=by simpa using q
   subst q
   cases e
   exact⟨h1,Gv h2,h3,h4⟩
  ·exact AM h5 e
def CK:Expr->@TK
 | .Constant (.int i) _ _=>some i
 |_=>none
theorem qV {e:Expr}{i:Int}(h:CK e=some i):∃j p,e=.Constant @S3 j p:=by
 cases e with
 |Constant c j p=>cases c <;> first | (cases h;exact⟨_,_,rfl⟩) |cases h
 |_=>cases h
def Om (op:UnaryOp)(e:Expr):@TK:=match op with
 | .USub=>CK e
 |_=>none
def IY:Operator->Bool
 | .Pow=>true
 |_=>false
def EW {o:Operator}(h:IY o=true):o=.Pow:=by cases o <;> first |rfl |cases h
def JJ (ks:List (Option Expr))(vs:@TH):Option (Str×Int):=match ks,vs with
 | [some (.Constant (.str k) _ _)],[v]=>(CK v).map λi=>(k,i)
 |_,_=>none
def Im {ks:List (Option Expr)}{vs:@TH}{r:Str×Int}(h:JJ ks vs=some r):∃j p j' p',ks= [some (.Constant (.str r.1) j p)]/\vs= [.Constant (.int r.2) j' p']:=by
 unfold JJ at h
 split at h
 ·rename_i k j p v
  cases q:CK v with
  |none=>rw[q] at h;cases h
  |some i=>
   rw[q] at h
   cases h
   obtain⟨j',p',rfl⟩:=qV q
   exact⟨_,_,_,_,rfl,rfl⟩
 ·cases h
def NH:Const->Option D
 | .int i=>some @S3
 | .bool b=>some (.bool b)
 | .none=>some .none
 | .str x=>some (.str x)
 |_=>none
mutual
def rD (nm:List (Str×Nat)):Expr->Option (VF D×@IO)
 | .Name x _=>(nm.lookup x).map λi=>(gv i,[i])
 | .Constant c _ _=>(NH c).map λd=>(cst d,[])
 | .UnaryOp op a _=>(Om op a).map λi=>(cst (.int (-i)),[])
 | .BinOp a o b _=>if IY o=true then (CK a).bind λi=>(CK b).map λj=>(f2 (cst @S3) (cst (.int j)) Dp,[]) else none
 | .Dict ks vs _=>(JJ ks vs).map λr=>(cst (.dict [(.str r.1,.int r.2)]),[])
 | .Tuple es _ _=>(IP nm es).map λr=>(aQ r.1,r.2)
 | .List es _=>(IP nm es).map λr=>(bt r.1,r.2)
 | .BoolOp ..=>none
 | .NamedExpr ..=>none
 | .Lambda ..=>none
 | .IfExp ..=>none
 | .Set ..=>none
 | .ListComp ..=>none
 | .SetComp ..=>none
 | .DictComp ..=>none
 | .GeneratorExp ..=>none
 | .Await ..=>none
 | .Yield ..=>none
 | .YieldFrom ..=>none
 | .Compare ..=>none
 | .Call ..=>none
 | .FormattedValue ..=>none
 | .JoinedStr ..=>none
 | .Attribute ..=>none
 | .Subscript ..=>none
 | .Starred ..=>none
 | .Slice ..=>none
def IP (nm:List (Str×Nat)):@TH->Option (@Pi ×@IO)
 | []=>some (af,[])
 |e :: es=>(rD nm e).bind λr=>(IP nm es).map λq=>(aa r.1 q.1,r.2 ++ q.2)
end
section
variable {X:Cx}{Γ:Fx}{E:XK}{nm:List (Str×Nat)}
theorem me {α β:Type}{o:Option α}{f:α->β}{b:β}(h:o.map f=some b):∃a,o=some a/\f a=b:=by
 cases o with
 |none=>cases h
 |some a=>exact⟨a,rfl,Option.some.inj h⟩
theorem Bd {α β:Type}{o:Option α}{f:α->Option β}{b:β}(h:o.bind f=some b):∃a,o=some a/\f a=some b:=by
 cases o with
 |none=>cases h
 |some a=>exact⟨a,rfl,h⟩
mutual
theorem L4 (hc:Aj X.N X.env.scope nm=true)(hb:∀i,Γ.br i=false):∀{e:Expr} {f:VF D} {L:@IO},rD nm e=some (f,L)->SE X Γ E e f L .v/\isStar e=false
 | .Name x p,f,L,h=>by
  rw[rD] at h
  obtain⟨i,q,e⟩:=me h
  cases e
  obtain⟨h1,h2,h3,h4⟩:=AM hc q
  exact⟨au i (hb i) h1 h2 h3 h4,rfl⟩
 | .Constant c j p,f,L,h=>by
  rw[rD] at h
  obtain⟨d,q,e⟩:=me h
  cases e
  cases c <;> first | (cases q;first |exact⟨ar,rfl⟩ |exact⟨lW,rfl⟩ |exact⟨DL,rfl⟩ |exact⟨gz,rfl⟩) |cases q
 | .UnaryOp op a p,f,L,h=>by
  rw[rD] at h
  obtain⟨i,q,e⟩:=me h
  cases e
  cases op <;> first | (cases q;done) |skip
  obtain⟨j,p,rfl⟩:=qV q
  exact⟨xN su yI ar,rfl⟩
 | .BinOp a op b p,f,L,h=>by
  rw[rD] at h
  split at h
  ·rename_i ho
   obtain rfl:=EW ho
   obtain⟨i,q,h⟩:=Bd h
   obtain⟨j,q2,e⟩:=me h
   cases e
   obtain⟨j1,p1,rfl⟩:=qV q
   obtain⟨j2,p2,rfl⟩:=qV q2
   exact⟨bp Jw LM ar ar,rfl⟩
  ·cases h
 | .Dict ks vs p,f,L,h=>by
  rw[rD] at h
  obtain⟨r,q,e⟩:=me h
  cases e
  obtain⟨_,_,_,_,rfl,rfl⟩:=Im q
  exact⟨Gg,rfl⟩
 | .Tuple es c p,f,L,h=>by
  rw[rD] at h
  obtain⟨r,q,e⟩:=me h
  cases e
  exact⟨bR (vN hc hb q),rfl⟩
 | .List es p,f,L,h=>by
  rw[rD] at h
  obtain⟨r,q,e⟩:=me h
  cases e
  exact⟨SE.wv (bI (vN hc hb q)),rfl⟩
 | .BoolOp ..,_,_,h=>@P_
 | .NamedExpr ..,_,_,h=>@P_
 | .Lambda ..,_,_,h=>@P_
 | .IfExp ..,_,_,h=>@P_
 | .Set ..,_,_,h=>@P_
 | .ListComp ..,_,_,h=>@P_
 | .SetComp ..,_,_,h=>@P_
 | .DictComp ..,_,_,h=>@P_
 | .GeneratorExp ..,_,_,h=>@P_
 | .Await ..,_,_,h=>@P_
 | .Yield ..,_,_,h=>@P_
 | .YieldFrom ..,_,_,h=>@P_
 | .Compare ..,_,_,h=>@P_
 | .Call ..,_,_,h=>@P_
 | .FormattedValue ..,_,_,h=>@P_
 | .JoinedStr ..,_,_,h=>@P_
 | .Attribute ..,_,_,h=>@P_
 | .Subscript ..,_,_,h=>@P_
 | .Starred ..,_,_,h=>@P_
 | .Slice ..,_,_,h=>@P_
theorem vN (hc:Aj X.N X.env.scope nm=true)(hb:∀i,Γ.br i=false):∀{es:@TH} {f:@Pi} {L:@IO},IP nm es=some (f,L)->SA X Γ E es f L
 | [],f,L,h=>by rw[IP] at h;cases h;exact ah
 |e :: es,f,L,h=>by
  rw[IP] at h
  obtain⟨r,q,h⟩:=Bd h
  obtain⟨r2,q2,e⟩:=me h
  cases e
  obtain⟨a,b⟩:=L4 hc hb q
  exact ae a (vN hc hb q2) (Cq b)
end
def Hv {es:@TH}{p:Pos}{t:Option Expr}{l:Nat}{env:Env}:swapsWith (.List es p) t l env=pure false:=rfl
def Iv {es:@TH}{f:@Pi}{L:@IO}{pos:Pos}(nm:List (Str×Nat))(hc:Aj X.N X.env.scope nm=true)(hb:∀i,Γ.br i=false)(h:IP nm es=some (f,L)):SE X Γ E (.List es pos) (bt f) L .w:=bI (vN hc hb h)
def IE {i:Nat}{x:Str}{es:@TH}{f:@Pi}{L:@IO}{pos' p pos:Pos}(nm:List (Str×Nat))(hc:Aj X.N X.env.scope nm=true)(hb:∀i,Γ.br i=false)(h:IP nm es=some (f,L))(hN:X.N.Nodup)(hi:X.N[i]? =some x)(hx:Loc X.env.scope x)(hf:@LT) :
  SS X Γ E (.Assign [.Name x pos'] (.List es p) pos) (a9 i L (bt f)):=aU (SE.wv (Iv nm hc hb h)) hN hi hx Hv hf
end
end L2
namespace L2
open PySem
section
variable {K:Frag}{h:Heap}{mg:@Fa}
theorem yK {α:Type}{P:List α->Prop}(q:∀a,P [a]):∀us:List α,us.length=1->P us
 | [a],_=>q a
theorem ln2 {α:Type}{P:List α->Prop}(q:∀a b,P [a,b]):∀us:List α,us.length=2->P us
 | [a,b],_=>q a b
theorem JH {α:Type}{P:List α->Prop}(q:∀a b c,P [a,b,c]):∀us:List α,us.length=3->P us
 | [a,b,c],_=>q a b c
def aX (x:Str)(st:Stmt)(ps:@KK):Prop:=∀(kV doc pm:Value) (an:@J_) (cdv ct:Value) (us:@GM),us.length=ps.length->bindArgs (PySem.W.fnOf x x (jG st) (cj st) (aq st) .none kV doc pm an cdv ct) ⟨us,[]⟩=pure (ps.zip us)
structure Fo (K:Frag)(mg:@Fa)(x:Str)(st:Stmt)(ps:@KK):Prop where
 ex:∃f fd,i4 K mg x st ps f fd
def bw {x:Str}{st:Stmt}{ps:@KK}{f:Addr}{oc:Value}{od an:@J_}{sl:Array (Option Value)}{kV doc pm cdv ct:Value}(X:K.In h)(G:h.Ns mainGlobals mg)(b:aX x st ps)(a:PySem.W.nsIn K mainGlobals x=some (some (.ref f)))
  (l:K.lookup f=some ⟨oc,od,.func (PySem.W.fnOf x x (jG st) (cj st) (aq st) .none kV doc pm an cdv ct),sl⟩) (c:PySem.W.codeIn K cdv x=true) (k:PySem.W.keepIn K (.ref f)=true):Fo K mg x st ps:=
 ⟨⟨f,_,Qs X G a,zF l c k,(zF l c k).binds b⟩⟩
def NV:@KK:=["len","range","enumerate","zip","min","max","sum","abs","sorted","reversed","int","str","bool","list","tuple","dict","set","isinstance","repr","any","all","divmod"]
def Of (K:Frag):Bool:=NV.all λx=>match PySem.W.nsIn K mainGlobals x with
 |some none=>true
 |_=>false
def Kv (q:Of K=true){x:Str}(hx:x∈NV):PySem.W.nsIn K mainGlobals x=some none:=by
 have:=Qm.mp q x hx
 split at this
 ·assumption
 ·cases this
def MO (X:K.In h)(G:h.Ns mainGlobals mg)(q:Of K=true):jh mg:=by
 have key:∀{x:Str},x∈NV->mg x=none:=λhx=>PySem.W.mg_none_of X G (Kv q hx)
 constructor <;> exact key @A_
end
end L2
namespace L2
open PySem PySem.Spec PyProof.Rows
def Ir {prog:Program}{w:World}{A:Around}{it t:Addr}{xs:Array Value}(hh:A.handled=none)(i:Nat)(hx:xs[i]? =none):Draws prog w A it [it,t] i (λ_ _=>False) (λj h=>j=i/\h.IsListIter it t i/\h.IsList t xs) where
 live:=λ_ _ st=>let ⟨o,ho,_⟩:=st.2.1;⟨o,ho⟩
 frame:=λ_ _ _ st hk=>⟨st.1,st.2.1.at λo e=>hk it @Go o e,st.2.2.at λo e=>hk t @Go o e⟩
 item:=λj s Q E hi st k=>absurd st.1 (@AT)
 done:=λs Q E st k=>wpAny_nextOf_list_end hh st.2.1 st.2.2 hx k
def Jx (K:Frag)(a:Addr):It:=
 ⟨λi H=>∃xs x,gk K H a xs/\xs[i]? =some x,
  λi H v H'=>∃x t,H t=none/\(∀xs,gk K H a xs->xs[i]? =some x)/\v=.ref t/\H'=upd H t (.tup [.int i,x]),
  λi H=>∃xs,gk K H a xs/\xs.length<=i⟩
def Cv {h:Heap}{a n:Addr}{i:Nat}{its:Array Value}{b:Addr}(p:h.IsList a its)(q:h.IsListIter n b i):a≠n:=λz=>by
 subst z
 obtain⟨o,e,c,_⟩:=p
 obtain⟨o',e',c',_⟩:=q
 rw[e] at e';cases e'
 rw[c] at c'
 simp at c'
def BQ {h:Heap}{a n it:Addr}{i:Int}{its:Array Value}{old:Value}(p:h.IsList a its)(q:IsEnum h n it i old):n≠a:=λz=>by
 subst z
 obtain⟨o,e,c,_⟩:=p
 rw[q] at e;cases e
 simp at c
def zh {P:Program}{w:World}{K:Frag}{elts:@TH}{x1}{pos:Pos}(a:Addr)(n:Nat):Turn P w K (.Tuple elts x1 pos) (Jx K a) (FW n) (n + 1)
  (λi h=>(∃old,IsEnum h (n + 1) n i old)/\h.IsListIter n a i) where
 mem:=by simp
 obj:=λi h st c hc=>by
  obtain⟨⟨old,z1⟩,⟨o2,z2,_,d2⟩⟩:=st
  simp only[FW,Pu,Qz,RF] at hc
  rcases hc with rfl |rfl
  ·exact⟨_,z1,λv z=>by
    have z':Data.fields _=Data.cell v:=z
    cases z'⟩
  ·exact⟨o2,z2,λv z=>by rw[d2] at z;cases z⟩
 keep:=λi h h' st k=>by
  obtain⟨⟨old,z1⟩,z2⟩:=st
  exact⟨⟨old,k _ @Go _ z1⟩,z2.at λo e=>k _ @Go o e⟩
 item:=by
  intro X hP hw hK hc i pins s σ H E I hf st hg
  subst hP hw hK
  obtain⟨xs,x,ha,hx⟩:=hg
  obtain⟨its,rv,p,hz⟩:=I.list ha
  have p:s.heap.IsList a its.toArray:=p.isList
  obtain⟨u0,hu0,ru0⟩:=rv.get hx
  obtain⟨⟨old,z1⟩,z2⟩:=st
  have hh:X.A.in1.handled=none:=I.ok.hd hc
  have hlt:i < its.toArray.size:=by
   have:=PN.mp hu0
   simpa using this.1
  refine wpAny_pyNext_enum_itemD (Draws.list hh n a (Cv p z2) its.toArray) z1 ⟨z2,p⟩ hlt (NZ 1 0 rfl) (by
   simp only[Pu,Qz,RF,not_or]
   exact⟨NZ 1 0 rfl,BQ p z1⟩) λu h' tk hu q1 q2 q3 q4 q5=>?_
  have eu:u0=u:=by
   have hu:its.toArray[i]? =some u:=hu
   rw[Sb,hu0] at hu
   exact Option.some.inj hu
  subst eu
  refine⟨_,rfl,wpAny_letOwnedTupleGo_enum (s:={s with heap:=h',toks:=tk + 1}) q1 λh2 r1 r2=>?_⟩
  have r2:∀c,c≠n + 1->h2.get? c=h'.get? c:=r2.2
  have lz:n + 1 < s.heap.objs.size:=PB z1
  have hT:H s.heap.objs.size=none:=I.hok.fresh (Pt _)
  have I1:Inv X pins σ (upd H s.heap.objs.size (.tup [.int i,x])) {s with heap:=s.heap.push {cls:=.type "tuple",data:=.seq #[.int i tk,u0]},toks:=s.toks}:=
   I.laid (λb o e=>Pq _ e) (Pt _) ⟨by show 2<=sizeLine;rw[Qc];omega,[.int i tk,u0],.cons ⟨tk,rfl⟩ (.cons ru0 .nil),u5.new _ _⟩
  have hf':∀c∈FW n,p4 X pins (upd H s.heap.objs.size (.tup [.int i,x])) c:=λc hc=>⟨by
   rw[aC (λz=>?_)]
   ·exact (hf c hc).1
   ·subst z
    simp only[FW,Pu,Qz,RF] at hc
    omega,(hf c hc).2⟩
  have I2:Inv X pins σ (upd H s.heap.objs.size (.tup [.int i,x])) {s with heap:=h2,toks:=tk + 1}:=by
   refine I1.turnedL (ch:=FW n) (λc o hc e=>?_) hf'
   have e:(s.heap.push {cls:=.type "tuple",data:=.seq #[.int i tk,u0]}).get? c=some o:=e
   simp only[FW,Pu,Qz,RF,not_or] at hc
   rw[r2 c hc.1]
   by_cases z:c=s.heap.objs.size
   ·subst z
    rw[PX _ rfl] at e
    rw[<-e];exact q3
   ·refine q5 c o hc.1 hc.2 ?_
    rw[Heap.get?_push_ne _ _ _ z] at e
    exact e
  refine⟨@LE,_,I2,rfl,⟨x,_,hT,λxs' h'=>?_,rfl,rfl⟩,⟨⟨u0,r1⟩,q2.1.at λo e=>(r2 _ (NZ 0 1 rfl)).trans e⟩,λc hc=>(hf' c hc).1⟩
  rw[I.list_inj h' ha];exact hx
 done:=by
  intro X hP hw hK hc i pins s σ H E I hf st hg
  subst hP hw hK
  obtain⟨xs,ha,hl⟩:=hg
  obtain⟨its,rv,p,hz⟩:=I.list ha
  obtain⟨⟨old,z1⟩,z2⟩:=st
  have hh:X.A.in1.handled=none:=I.ok.hd hc
  have l1:=rv.length
  refine wpAny_pyNext_enum_endD (Ir hh i (xs:=its.toArray) (by simp;omega)) z1 ⟨rfl,z2,p.isList⟩ λh' q=>⟨rfl,?_⟩
  refine I.turnedL (t':=s.toks) (ch:=FW n) (λc o hc e=>?_) hf
  simp only[FW,Pu,Qz,RF,not_or] at hc
  exact q c o hc.2 e
 self:=λ_ _ _ _ _ st h=>by
  obtain⟨⟨old,z1⟩,_⟩:=st
  exact wpAny_pyIter_enum z1 h
def OK (K:Frag)(ta:TA):TI:=λσ H R=>ta σ H λvs H2=>∃a xs,vs= [.ref a]/\gk K H2 a xs/\R (Jx K a) H2
section
variable {X:Cx}
theorem Jo {a:Expr}{ta:TA}{p pos pt:Pos}{elts:@TH}{x1}(hg:Gl X "enumerate")(hm:X.mg "enumerate"=none)(ha:PA X [a] ta)(hs:starEach [a] X.env= [@S4]:=by rfl) :
  PI X (.Tuple elts x1 pt) (.Call (.Name "enumerate" p) [a] [] pos) (OK X.K ta):=by
 intro pins s σ H R I h
 refine Call_ (pO I hg hm Cy (RA (cG (ha pos pins s σ H _ I h) λus s1 ⟨vs,H1,I1,r1,q1⟩=>?_) hs rfl))
 obtain⟨a,xs,e,h1,q⟩:=q1
 subst e
 cases r1 with
 |cons r rr=>
  cases rr
  cases r
  obtain⟨its,rv,p1,hz⟩:=I1.list h1
  refine call_enumerate_list p1.isList λh' z1 z2 _ z3=>?_
  refine wpAny_pyIter_enum z1 ⟨_,FW s1.heap.objs.size,_,_,H1,rfl,I1.kept (t':=s1.toks) z3,zh a s1.heap.objs.size,⟨⟨_,z1⟩,z2⟩,λc hc=>?_,q⟩
  have:s1.heap.objs.size<=c:=by
   simp only[FW,Pu,Qz,RF] at hc
   rcases hc with rfl |rfl <;> first |exact Pt _ |exact Nat.le_add_right _ _
  exact I1.fpOk this (I1.hok.fresh this)
end
section
variable {X:Cx}{Γ:Fx}{E:XK}{e a b c:Expr}{f fa fb:VF D}{L La Lb:@IO}{md ma mb:Md}{pos:Pos}
def GZ (fa:VF D):@Pi:=λvs β=>(@TX).bnd λx β1=>match x with
 | .list ds=>.ok (jZ ds) β1
 |_=>.bad
def EM {K:Frag}{B:@J_}{G H1:Hp}{p:Addr}{xs:List V}{ds:List D}(hp:∀Gc H,av G Gc->av Gc H->i3 B H1 H->gk K H p xs)(r:@Td):Walk K B G H1 (jZ ds) (Jx K p):=λGc H i s1 s2 m=>by
 have hp':=hp Gc H s1 s2 m
 have l1:=r.len
 have lz:(jZ ds).length=ds.length:=by unfold jZ;rw[List.length_mapIdx]
 refine⟨λhi=>⟨?_,λx H' y=>?_⟩,λhi=>⟨xs,hp',@AT ⟩⟩
 ·have h1:i < xs.length:=@AT
  exact⟨xs,xs[i],hp',by simp[h1]⟩
 ·obtain⟨x,t,ht,hx,rfl,rfl⟩:=y
  obtain⟨d,ed,rd⟩:=r.at' (hx xs hp')
  have xn:=Ext.new s2 (o:=.tup [.int i,x]) ht
  refine⟨upd Gc t (.tup [.int i,x]),.tuple [.int i,d],xn,?_,.tup (.inl (.inl aw)) (.cons @S3 (.cons (rd.mono (s1.trans xn.gg)) .nil))⟩
  unfold jZ
  rw[List.getElem?_mapIdx,ed];rfl
theorem yk {p pt:Pos}{elts:@TH}{x1}(hK:X.K=Γ.K)(hg:Gl X "enumerate")(hm:X.mg "enumerate"=none)(ha:SE X Γ E a fa La .v)(hs:starEach [a] X.env= [@S4]:=by rfl)(hs':starEach [a] X.env=@S4 :: starEach [] X.env:=by rfl) :
  SI X Γ E (.Tuple elts x1 pt) (.Call (.Name "enumerate" p) [a] [] pos) (GZ fa) La .v:=by
 refine PI.post (Jo hg hm (ax ha aR hs') hs) ?_
 rintro σ H Q ⟨env,G,B,β,I,o⟩
 refine⟨env,G,B,β,I,o.bnd.imp λd1 β1 h x G1 H1 I1 s1 m1 vx=>?_⟩
 have vx:Rp Γ.K G1 x d1:=vx
 rw[hK]
 cases d1 with
 |list ds=>
  cases vx with
  | @lst p xs _ hq r=>exact⟨p,xs,rfl,.inl (Rd.mono (.inl hq) I1.sub),h _ G1 H1 I1 s1 m1 (EM (λGc H t1 t2 _=>.inl (Rd.mono (.inl hq) (t1.trans t2))) r)⟩
 |_=>exact h.elim
end
end L2
section
namespace HT
open PySem PySem.Spec PyProof.Rows
section
variable {prog:Program}{w:World}{A:Around}{E:@Ch}{s:Shared}
def nc {t sl:Addr}{items:Array Value}{vl vu:Value}{lo hi:@TK}{Q:@Ch}(ht:IsTup s.heap t items)(hs:s.heap.IsSliceOf sl vl vu .none)(pl:IsPart vl lo)(pu:IsPart vu hi)
  (hw:eJ items.size 0 lo=0/\eJ items.size items.size hi=items.size) (h:Q (.ref t) s):wpAny (@NE) A (getItem (.ref t) (.ref sl)) Q E s:=by
 obtain⟨os,hos,hcs,hds⟩:=id hs
 have hTs:s.TypeIs (.ref sl) "slice":=⟨os,hos,hcs⟩
 unfold getItem
 try with_reducible refine QI ?_
 first |refine Pl (Pp ?_) |skip
 refine Pl (wpAny_sequenceKey ht.typeIs @A_ ?_)
 refine Pl (RY (name:=Str.ofString "__getitem__") ht.typeIs QH
  (Rw QH ht.typeIs entry_tuple_getitem ?_ (args_tuple_getitem _ _)))
 show wpAny _ _ (Builtin.Tuple.tupleItemsOf (.ref t) >>= _) _ _ s
 refine Pl (tupleItemsOf_ ht ?_)
 refine Pl (RB hTs ?_)
 rw[Po @A_]
 refine Pl (j3 hs pl pu ?_)
 rw[hw.1,hw.2]
 show wpAny _ _ (if (((0:Nat):Int) == 0 && (1:Int) == 1 && (items.size - 0) == items.size)=true then _ else _) _ _ s
 rw[Po @Go]
 refine Pl ?_
 unfold Builtin.Tuple.tupleIsExact
 first
  |refine Pl (RB ht.typeIs (Pp ?_))
  |refine Pl (RB ht.typeIs ?_)
 first |rw[Po @A_] |skip
 first
  |exact Pl (wpAny_rule (Pp ⟨_,rfl,Pp h⟩))
  |exact Pl (Pl (wpAny_rule (Pp ⟨_,rfl,Pp h⟩)))
end
end HT
namespace L2
open PySem PySem.Spec PyProof.Rows
section
variable {X:Cx}{Γ:Fx}{E:XK}{e a b c:Expr}{f fa fb fc:VF D}{L La Lb:@IO}{md ma mb mc:Md}{pos:Pos}
def Ny (K:Frag):V->@TK->@TK->Hp->VK->Prop:=λx lo hi H Q=>∃a xs,x=.ref a/\gj K H a xs/\
 ((HT.eJ xs.length 0 lo=0/\HT.eJ xs.length xs.length hi=xs.length)->Q @S2 H)/\
 (¬(HT.eJ xs.length 0 lo=0/\HT.eJ xs.length xs.length hi=xs.length)->∀p,H p=none->Q (.ref p) (upd H p (.tup (sS xs lo hi))))
def Hs:Nw X (Ny X.K):=by
 intro pins s σ H x v vl vu lo hi sl Q I rx hs pl pu h
 obtain⟨a,xs,rfl,hx,hw,q⟩:=h
 by_cases z:HT.eJ xs.length 0 lo=0/\HT.eJ xs.length xs.length hi=xs.length
 ·have hw:=hw z
  cases rx
  obtain⟨its,r,ht,hz⟩:=I.tuple hx
  have hlen:its.toArray.size=xs.length:=by rw[PJ];exact r.length.symm
  refine⟨"tuple",_,QH.lookup,ht.typeIs,?_⟩
  exact HT.nc ht hs pl pu (by rw[hlen];exact z) ⟨.ref a,H,I,rfl,hw⟩
 ·exact KU pins s σ H @S2 v vl vu lo hi sl Q I rx hs pl pu ⟨a,xs,rfl,hx,z,q z⟩
def Cf (fa:VF D)(fl fh:VF (@TK)):VF D:=λvs β=>(@TX).bnd λx β1=>(fl vs β1).bnd λl β2=>(fh vs β2).bnd λh β3=>match x with
 | .tuple ds=>.ok (.tuple (cutD ds l h)) β3
 |_=>.bad
def zf {ds:List D}{lo hi:@TK}(h:HT.eJ ds.length 0 lo=0/\HT.eJ ds.length ds.length hi=ds.length):cutD ds lo hi=ds:=by
 unfold cutD;rw[h.1,h.2];simp
theorem BM {lo hi:Option Expr}{fl fh:VF (@TK)}{Ll Lh:@IO}{p2:Pos}(hK:X.K=Γ.K)(ha:@Re)(hl:Lm X Γ E lo fl Ll)(hh:Lm X Γ E hi fh Lh):SE X Γ E (.Subscript a (.Slice lo hi none p2) pos) (Cf fa fl fh) (La ++ Ll ++ Lh) .v:=by
 refine PE.post' (xq Hs ha hl hh) ?_
 rintro σ H Q ⟨env,G,B,β,I,o⟩
 refine⟨env,G,B,β,I,o.bnd.imp λd1 β1 h x G1 H1 I1 s1 m1 vx=>⟨a8 La env,G1,B,β1,I1,?_⟩⟩
 rw[dh]
 refine h.bnd.imp λl β2 h G2 H2 I2 s2 m2=>⟨a8 Ll (a8 La env),G2,B,β2,I2,?_⟩
 rw[dh,dh]
 refine h.bnd.imp λu β3 h G3 H3 I3 s3 m3=>?_
 rw[<-bO,<-bO,<-QN] at I3
 have bx:=((vx.brw I.boxThere).mono s2 m2).mono s3 m3
 cases d1 with
 |tuple ds=>
  obtain⟨p,xs,rfl,hq,r⟩:=bx.tuple I3.sub
  rw[hK]
  dsimp only at h
  refine⟨p,xs,rfl,hq,λz=>?_,λhw q hn=>?_⟩
  ·rw[r.len] at z
   rw[zf z] at h
   refine h _ _ _ I3 ((s1.trans s2).trans s3) ((m1.trans m2).trans m3) ?_
   rcases bx with bx | ⟨_,_,_,bx⟩
   ·exact bx
   ·exact bx.elim
  ·have x:=Ext.new I3.sub (o:=.tup (sS xs l u)) hn
   exact h _ _ _ (I3.ext x) (((s1.trans s2).trans s3).trans x.gg) (((m1.trans m2).trans m3).trans (x.mov B)) (.tup (.inl (.inl aw)) ((Bu r l u).mono x.gg))
 |_=>exact h.elim
end
end L2
end
namespace L2
open PySem PyProof.Rows
section
variable {X:Cx}{Γ:Fx}{E:XK}{pos:Pos}
def Hi:SE X Γ E (.Dict [] [] pos) (cst (.dict [])) [] .v:=by
 refine PE.post' Dw ?_
 rintro σ H Q ⟨env,G,B,β,I,o⟩ p hp
 have o:∀v G' H',SR Γ B G' H' σ (a8 [] env) β->av G G'->i3 B H H'->Rp Γ.K G' v (.dict [])->Q v H':=o
 have xn:=Ext.new I.sub (o:=.dK []) hp
 exact o _ _ _ (I.ext xn) xn.gg (xn.hh.mov B) (.dK (kvs:=[]) aw .nil)
end
end L2
namespace RM
open PySem L2
def pj:SF:=(bG (fA (f1 (gv 0) (jk "int")) (f1 (f1 (gv 0) (jk "bool")) Cb)))
def la (aH:@SN):SF:=(aK (a9 1 ([] ++ ([] ++ ([] ++ ([] ++ ([] ++ ([] ++ ([] ++ ([] ++ ([] ++ ([] ++ (@Ev ++ (@TY ++ (@Ev ++ []))))))))))))) (bt @TZ))
 (aK (a9 1 ([] ++ ([] ++ (@TY ++ ([] ++ ((@TY ++ []) ++ @Ev))))) (f2 (gv 1) (bt (aa (cst (.dict [(.str "a",.int 1)])) (aa (aQ (aa @Cl (aa @EQ af))) (aa (f2 (cst (.int 10)) (cst (.int 39)) Dp) (aa (aQ (aa (aQ (aa @Cl (aa @EQ af))) af)) (aa (cst (.str "a")) af)))))) dt))
 (bG (f2 (gv 1) (i5 0 aH (aa (cst (.int 18)) af)) bu))))
def iL (dJ:@Fk):SF:=(aK (a9 1 [] (bt af))
 (aK (dY (.nm 2) @Ev (bS @TB)
 (a9 1 ([] ++ (@Ev ++ [0,2])) (f2 (gv 1) (aM 1 [0,2] (.nm 0) (bS @TB) (lG (ay dJ (aa (gv 1) (aa (gv 2) @Is)))) (aQ (aa (gv 2) @Is))) dt)))
 (uN 1)))
def iG:SF:=(bG (f2 (gv 0) (f2 @EQ (gv 1) J4) MX))
def hX (aI:@Fk):SF:=(aK (l4 1 (@Ev ++ @Ev) (f2 (bt (aa @Cl af)) @TB FA))
 (aK (dY (.two 2 3) @Ev (bC (f2 (gv 0) @EQ bu))
 (yb 1 (@Ev ++ ([2] ++ [])) [] (ay aI (aa (f2 (gv 1) (gv 3) bu) (aa (gv 2) af))) (gv 3)))
 (uN 1)))
def gZ (aI:@Fk):SF:=(aK (l4 2 [] (bt af))
 (aK (dY (.two 3 4) [0] (GZ (gv 0))
 (kr ((([1] ++ ([3] ++ [])) ++ []) ++ (@Ev ++ [])) (yN (cm (f2 (ay aI (aa (gv 1) (aa (gv 3) af))) (gv 1) (cv true))) (cm (f2 (f2 (gv 1) (gv 4) DO) (gv 4) (cv false))))
 (l0 2 [3] (gv 3))
 nR))
 (uN 2)))
def jM (df aI:@Fk):SF:=(aK (l4 2 [] (bt af))
 (aK (a9 3 [] @Cl)
 (aK (i8 @Ev (cm (f2 (f1 (gv 2) eS) (f1 (gv 0) eS) FX))
 (aK (a9 4 ([0] ++ ([3] ++ [])) (ay df (aa (gv 0) (aa (gv 3) af))))
 (aK (a9 5 @Ev (aM 1 [1] (.nm 0) (bC (gv 4)) (cm (f2 (gv 0) (gv 1) (pB true))) (gv 0)))
 (aK (l0 2 (@Ev ++ []) (f2 (f2 (gv 5) (gv 4) dt) @Cl bu))
 (a9 3 ([3] ++ (@Ev ++ [])) (ay aI (aa (gv 3) (aa (f2 (gv 2) (f1 @EQ pz) bu) af))))))) 1000)
 (bG (f1 (gv 2) gL)))))
end RM
namespace L2
open PySem PyProof.Rows
section
variable {X:Cx}{K:Frag}{E:XK}
variable {Γ:Fx}{e a b c:Expr}{f fa fb fc:VF D}{L La Lb:@IO}{md ma mb mc:Md}{pos:Pos}
def SI.vb {tg:Expr}{fi:@Pi}(h:SI X Γ E tg e fi L .v):SI X Γ E tg e fi L .b:=PI.post h λσ H Q ⟨env,G,B,β,I,o⟩=>⟨env,G,B,β,I,o.imp λds β' k J G' H' a b c w=>k J G' H' a b c w.any⟩
end
end L2
namespace L2
open PySem PySem.Spec PyProof.Rows
def qg (marks:Str->Option Str)(m:SF):SF:=λenv β=>if jR env=true then (match m env 0 with
 | .rt d fr _=>.rt d fr β
 | .exc c=>(match marks c with
  |some x=>.rt (.str x) false β
  |none=>.bad)
 | .nx e _=>if jR e=true then .nx e β else .bad
 |_=>.bad) else .bad
section
variable {X:Cx}{Γ:Fx}{E:XK}{m:SF}
def SR.undropN {B B':@J_}{G H G' H':Hp}{σ σ':St}{env env':En}{β β':Int}(I:@G_)(J:SR (Fx.fn Γ.K H G Γ.ca) B' G' H' σ' env' β')(hf:jR env'=true):SR Γ B G' H' σ' env' β:=by
 have kp:∀b o,H b=some o->Kt H' b o:=λb o e=>J.keep b o e @Go
 have ks:av H H':=kp
 refine⟨J.sub,I.old.trans J.old,λb h1 h2=>J.new b (I.thereM h1) (I.new b h1 h2),λb o h1 h2=>(I.keep b o h1 h2).step ks,λb hb=>(I.pin b hb).same (kp b),I.fix,λb e=>?_,J.len,λi s e=>?_,λi j a d e h=>?_⟩
 ·obtain⟨h1,h2,h3⟩:=I.box b e
  exact⟨kp b _ h1,J.new b (Mx.lst h1) h2,h3⟩
 ·rcases iZ hf e with rfl | ⟨d,rfl⟩
  ·trivial
  ·exact J.slot i _ e
 ·rcases iZ hf h with z | ⟨_,z⟩ <;> cases z
def DK {n x y:Str}{i k:Nat}{Dc gm:Addr}{dm:FuncData}{W:Addr->Str->Prop}{marks:Str->Option Str}{np hpos pos cp fp ap rp:Pos}{body:List Stmt}(hb:∀Eb Ex pn H G,Passes (o5 X.prog X.w) (X.inTry Ex pn) Eb->C8 (X.inTry Ex pn) (Fx.fn Γ.K H G Γ.ca) Eb body m)
  (hM:uw X.prog X.w X.K X.mg X.base zy k gm dm ["e"] (MC W)) (hr:∀e,oG k (X.inEx e).A) (hmg:X.mg y=some (.ref gm)) (hkp:PySem.W.keepIn X.K (.ref gm)=true) (hbi:Binds X.K dm ["e"] [])
  (hw:∀c z,marks c=some z->Mt X.K (.ref (Γ.ca c)) Dc/\W (Γ.ca c) z)
  (hm:X.mg x=some (.ref Dc)) (hN:X.N.Nodup) (hgy:∀e,Gl (X.inEx e) y:=by intro _;rfl) (hst:X.stack=X.env :: X.outer:=by rfl) (hfr:X.env.frame=some X.env.locals:=by rfl) (hex:X.ex= []:=by rfl) (hg:Gl X x:=by rfl) (hi:X.N[i]? =some n:=by rfl) (hk:X.env.scope.names.lookup n=some .local:=by rfl)
  (hd:(n == ("__debug__":Str))=false:=by decide) (hcd:(n == ("__classdict__":Str))=false:=by decide)
  (hdb:@FM:=by decide) (hdy:(y == ("__debug__":Str))=false:=by decide)
  (he:∀e,starEach [.Name n ap] (X.inEx e).env=(false,eval (.Name n ap) (X.inEx e).env) :: starEach [] (X.inEx e).env:=by intro _;rfl) :
  SS X Γ E (.Try body [.ExceptHandler (some @TW) (some n) [.Return (some (.Call (.Name y fp) [.Name n ap] [] cp)) rp] hpos] [] [] pos) (qg marks m):=by
 have hbU:∀Eb Ex pn,Passes (o5 X.prog X.w) (X.inTry Ex pn) Eb->qB (X.inTry Ex pn) body (λD σ H=>∃H0 G0,sT (Fx.fn Γ.K H0 G0 Γ.ca) Eb m D σ H):=λEb Ex pn hp pins s σ H D I ⟨H0,G0,q⟩=>hb Eb Ex pn H0 G0 hp pins s σ H D I q
 have hsU:∀e,qB (X.inEx e) [.Return (some (.Call (.Name y fp) [.Name n ap] [] cp)) rp] _:=λe=>fg (jY (DP hM (hr e) (hgy e) hmg hkp hbi .nil ID (ax (jn (i:=i) hi (Or.inl hk) hd hcd) aR (he e)) hdy (he e) rfl))
 refine PS.post (JN (i:=i) hst hfr hex hbU hsU hg hm hN hi hk hdb) λN σ H ⟨env,G,B,β,I,o⟩=>?_
 unfold qg at o
 by_cases hf:jR env=true
 case neg=>rw[Px hf] at o;exact o.elim
 rw[Po hf] at o
 refine⟨λcls _ H'=>∃c z,cls=.ref (Γ.ca c)/\marks c=some z/\av H H'/\m env 0=.exc c,⟨H,G,env,G,none,0,I.drop hf,?_⟩,?_⟩
 ·cases q:m env 0 with
  |nx e b=>
   rw[q] at o
   dsimp only at o
   by_cases hf2:jR e=true
   case neg=>rw[Px hf2] at o;exact o.elim
   rw[Po hf2] at o
   intro B' G' H' σ' J s
   exact o B G' H' σ' (I.undropN J hf2) s
  |bk e b=>rw[q] at o;exact o.elim
  |ct e b=>rw[q] at o;exact o.elim
  |bad=>rw[q] at o;exact o.elim
  |rt d fr b=>
   rw[q] at o
   intro B' G' H' σ' env' v J s rv
   refine o B G' H' σ _ v (I.undrop J) s ?_
   unfold RV at rv ⊢
   cases fr with
   |false=>exact rv
   |true=>
    rw[Po rfl] at rv ⊢
    obtain⟨a,rfl,h1,h2,h3⟩:=rv
    exact⟨a,rfl,(I.fresh h1).1,h2,h3⟩
  |exc c=>
   rw[q] at o
   intro H' kp
   cases q2:marks c with
   |none=>dsimp only at o;rw[q2] at o;exact o.elim
   |some z=>exact⟨c,z,rfl,q2,λb u e=>kp b u e @Go,rfl⟩
 ·rintro cls d H' ⟨c,z,rfl,q2,s',q⟩
  rw[q] at o
  dsimp only at o
  rw[q2] at o
  obtain⟨w1,w2⟩:=hw c z q2
  refine⟨w1,λea σ' hea hlen=>?_⟩
  have hil:i < σ'.length:=by rw[hlen];exact (PN.mp hi).1
  refine⟨.ref ea,PY hil,ea,_,z,rfl,aw,w2,λH2 s2=>?_⟩
  exact o B G H2 σ _ (.str z) (I.forget ((s'.trans (av.new hea)).trans s2)) (av.refl _) (Rp.str z)
def HE {n x y:Str}{i k:Nat}{marks:Str->Option Str}{np hpos pos cp fp ap rp:Pos}{body:List Stmt}(M:G7 X.prog X.w X.K X.mg X.base Γ.ca x y marks)(hr:eM (k + 1) X.A)(hb:∀Eb Ex pn H G,Passes (o5 X.prog X.w) (X.inTry Ex pn) Eb->C8 (X.inTry Ex pn) (Fx.fn Γ.K H G Γ.ca) Eb body m)
  (hN:X.N.Nodup) (hgy:∀e,Gl (X.inEx e) y:=by intro _;rfl) (hst:X.stack=X.env :: X.outer:=by rfl) (hfr:X.env.frame=some X.env.locals:=by rfl) (hex:X.ex= []:=by rfl) (hg:Gl X x:=by rfl) (hi:X.N[i]? =some n:=by rfl) (hk:X.env.scope.names.lookup n=some .local:=by rfl)
  (hd:(n == ("__debug__":Str))=false:=by decide) (hcd:(n == ("__classdict__":Str))=false:=by decide)
  (hdb:@FM:=by decide) (hdy:(y == ("__debug__":Str))=false:=by decide)
  (he:∀e,starEach [.Name n ap] (X.inEx e).env=(false,eval (.Name n ap) (X.inEx e).env) :: starEach [] (X.inEx e).env:=by intro _;rfl) :
  SS X Γ E (.Try body [.ExceptHandler (some @TW) (some n) [.Return (some (.Call (.Name y fp) [.Name n ap] [] cp)) rp] hpos] [] [] pos) (qg marks m):=by
 obtain⟨gm,Dc,dm,W,h1,h2,h3,h4,h5,h6⟩:=M.ex
 exact DK (i:=i) hb h1 (λe=>((hr.mono (@AT)).mark _)) h2 h3 h4 h6 h5 hN hgy hst hfr hex hg hi hk hd hcd hdb hdy he
end
end L2
namespace RM
open PySem L2
def hU:SF:=(aK (l4 2 [] (bt af))
 (aK (dY (.nm 3) [] (bS (gv 0))
 (dY (.nm 4) [] (bS (gv 0))
 (aK (a9 5 @Ev (aM 1 [3,4] (.nm 0) (bC (gv 1)) (cm (f2 (pA (gv 0) (gv 1)) (pA (gv 0) (gv 2)) Lj)) @EQ))
 (kr (@Ev ++ @Ev) (yN (cm (f2 (gv 3) (gv 4) (cv true))) (cm (f2 (gv 5) (bt af) (cv false))))
 (l0 2 ([3] ++ ([4] ++ [])) (aQ (aa (gv 3) @Te)))
 nR))))
 (bG (f1 (gv 2) gL))))
noncomputable def iS (aH aN:@SN):SF:=(aK (a9 1 @TY (f2 (cst (.int 3)) (i5 0 aH (aa @Tf af)) b8))
 (aK (a9 2 (@Ev ++ []) (i5 0 aN (aa (f1 (f2 @Tf (gv 1) cR) cC) af)))
 (aK (a9 3 [] (bt af))
 (aK (dY (.nm 4) [] (bS (gv 1))
 (aK (a9 5 @Ev (aM 1 [4,2,1] (.nm 0) (bS (gv 1)) (cm (f2 (gv 0) (gv 1) (cv true))) (f2 (gv 2) (f2 (gv 3) (gv 0) b8) bu)))
 (a9 3 @TY (f2 (gv 3) (aM 1 [2,4] (.nm 0) (bC (gv 5)) lN (aQ (aa (f2 (gv 1) (gv 2) bu) @Is))) dt))))
 (bG (aQ (aa (f2 @Tf (gv 1) cR) (aa (f1 (f1 (gv 3) i6) gL) af))))))))
def dQ (fI:@Fk)(aH dO aN dN:@SN):SF:=(aK (a9 2 @Ev (i5 0 aH (aa (cst (.int 5)) af)))
 (aK (kr @Ev (cm (f2 (gv 2) (cst (.int 4)) (cv false)))
 (bG (i5 0 dO af))
 nR)
 (aK (kr @Ev (cm (f2 (gv 2) (cst (.int 3)) (cv false)))
 (aK (a9 3 ([] ++ ([1] ++ [])) (f2 @EQ (i5 0 aH @L_) b8))
 (aK (a9 4 @Ev (aM 1 [0,3] (.nm 0) (bS @Tf) lN (f1 (i5 1 aN (aa (f1 (gv 2) cC) af)) gL)))
 (bG (aQ (aa (gv 3) (aa (ay fI (aa (gv 3) @Te)) af))))))
 nR)
 (bG (i5 0 dN @L_)))))
end RM
namespace PySem
open Sem (wp)
namespace F
def vQ:typeLookup (.type "list") "keys"=pure none:=by rw[typeLookup_type,Sd];kernel_rfl
end F
section
variable {prog:Program}{w:World}{A:Around}{E:@Ch}{h:Heap}{g:Array GenState}{d:Drawn}{t:Nat}{os:OsState}{a:Addr}{o:Obj}
def qw {tk:Tok}{Q:Fin->@Rs}{items:Array Value}{n:Nat}{sl:Array (Option Value)}(hx:h.get? a=some {cls:=.type "list",dict:=none,data:=.seq items n,slots:=sl})(hh:A.handled=none)
  (hq:∀h' t' e,(∀b q,h.get? b=some q->h'.get? b=some q)->(∃q,h'.get? e=some q/\q.cls=.type "AttributeError")->E (.ref e) ⟨h',g,d,t',os⟩) :
  wpAny (@NE) A (Builtin.«object.__getattribute__» ⟨[.ref a,.str "keys" tk],[]⟩) Q E ⟨h,g,d,t,os⟩:=by
 have hT:(⟨h,g,d,t,os⟩:Shared).TypeIs @S2 "list":=⟨_,hx,rfl⟩
 have f4:=F.vQ
 repeat (any_goals (first |assumption |wp_step))
 have hm:(Str.ofString (toString "'" ++ toString ((Manifest.find? "list").elim "list" λx=>x.tpName) ++ toString "' object has no attribute '") ++ Str.ofString "keys" ++ Str.ofString "'").length<=sizeLine:=@B_
 generalize (Str.ofString (toString "'" ++ toString ((Manifest.find? "list").elim "list" λx=>x.tpName) ++ toString "' object has no attribute '") ++ Str.ofString "keys" ++ Str.ofString "'")=msg at hm
 unfold raiseAttrError
 refine Pl (wpAny_mkStr (Pl ?_) hm)
 unfold newExc newTuple
 refine Pl (QF ?_)
 refine Pl (m:=firstArgMember _ _) (wpAny_of_eq (a:=Value.none) (by first |rfl |kernel_rfl) ?_)
 refine QF ?_
 dsimp only
 obtain⟨e,he⟩:∃e,(h.push {cls:=.type "tuple",data:=.seq #[Value.str msg t]}).objs.size=e:=⟨_,rfl⟩
 have hk:∀b q,h.get? b=some q->((h.push {cls:=.type "tuple",data:=.seq #[Value.str msg t]}).push @SW).get? b=some q:=λb q hb=>Pq _ (Pq _ hb)
 have hv:=PX (h.push {cls:=.type "tuple",data:=.seq #[Value.str msg t]}) (o:=@SW) rfl
 generalize ((h.push {cls:=.type "tuple",data:=.seq #[Value.str msg t]}).push @SW)=h1 at hk hv
 rw[he] at hv ⊢
 have hv:h1.get? e=some {cls:=.type "AttributeError",data:=.fields #[.ref h.objs.size,.none,.none,.none,.bool false,.none,unsetMember,unsetMember]}:=hv
 have hn:h.get? e=none:=Heap.get?_none_of_le (by rw[<-he,Q6];omega)
 have hTe:∀t',(⟨h1,g,d,t',os⟩:Shared).TypeIs (.ref e) "AttributeError":=λt'=>⟨_,hv,rfl⟩
 have hTe2:=hTe (t + 1 + 1)
 have f5:isSubtype (.type "AttributeError") (.type "AttributeError")=pure true:=by rw[Ry];kernel_rfl
 refine Pl (wpAny_mkText ?_)
 dsimp only
 clear hTe hT f4 hx
 unfold noteAttr
 repeat (any_goals (first |assumption |wp_step))
 unfold raiseNew
 refine Pl (wpAny_handled ?_)
 rw[hh]
 first
  |refine wpAny_throw ?_
  |refine Pl (Pp (wpAny_throw ?_))
 refine hq _ _ _ (λb q hb=>?_) ?_
 ·rw[QD h1 (a:=e) (b:=b) _ (λz=>by rw[<-z,hn] at hb;cases hb)];exact hk b q hb
 ·exact⟨_,Qw _ hv rfl,rfl⟩
def sL {tk:Tok}{E':Result->@Rs}{items:Array Value}{n:Nat}{sl:Array (Option Value)}(hx:h.get? a=some {cls:=.type "list",dict:=none,data:=.seq items n,slots:=sl})(hh:A.handled=none)
  (hq:∀h' t' e,(∀b q,h.get? b=some q->h'.get? b=some q)->(∃q,h'.get? e=some q/\q.cls=.type "AttributeError")->E' (.error (.ref e)) ⟨h',g,d,t',os⟩) :
  codeAny (@NE) A (.call (.builtin "list.__getattribute__") ⟨[.ref a,.str "keys" tk],[]⟩) E' ⟨h,g,d,t,os⟩:=
 codeAny_call_builtin RU.plain F.entry_list_ga (RU.check _ _ _ _ _ _ _ _ (show (⟨h,g,d,t,os⟩:Shared).TypeIs @S2 "list" from⟨_,hx,rfl⟩) (F.args_list_getattribute_2 _ _) (qw hx hh hq))
def wF {tk:Tok}{Q:@Ch}{items:Array Value}{n:Nat}{sl:Array (Option Value)}(hx:h.get? a=some {cls:=.type "list",dict:=none,data:=.seq items n,slots:=sl})(hh:A.handled=none)
  (hq:∀h' t' e,(∀b q,h.get? b=some q->h'.get? b=some q)->(∃q,h'.get? e=some q/\q.cls=.type "AttributeError")->E (.ref e) ⟨h',g,d,t',os⟩) :
  wpAny (@NE) A (getAttrBy @S2 (.str "keys" tk) false) Q E ⟨h,g,d,t,os⟩:=by
 have hT:(⟨h,g,d,t,os⟩:Shared).TypeIs @S2 "list":=⟨_,hx,rfl⟩
 have f2:=RU.lookup
 have f3:=RU.bind @S2
 repeat (any_goals (first |assumption |wp_step))
 refine sL hx hh λh' t' e hk hv=>?_
 have hT2:(⟨h',g,d,t',os⟩:Shared).TypeIs (.ref e) "AttributeError":=hv
 have f5:isSubtype (.type "AttributeError") (.type "AttributeError")=pure true:=by rw[Ry];kernel_rfl
 have f6:typeLookup (.type "list") "__getattr__"=pure none:=by rw[typeLookup_type,Sd];kernel_rfl
 have hq2:=hq h' t' e hk hv
 clear hq hT f2 f3
 dsimp only
 unfold getattributeRaised hookBehind hookOrError attributeErrorLeaves
 repeat (any_goals (first |assumption |wp_step))
def BN {Q:Option Value->@Rs}{items:Array Value}{n:Nat}{sl:Array (Option Value)}(hx:h.get? a=some {cls:=.type "list",dict:=none,data:=.seq items n,slots:=sl})(hh:A.handled=none)
  (hq:∀h' t',(∀b q,h.get? b=some q->h'.get? b=some q)->Q none ⟨h',g,d,t',os⟩):wpAny (@NE) A (getAttr? @S2 "keys") Q E ⟨h,g,d,t,os⟩:=by
 unfold getAttr? getAttrBy?
 refine Pl (wpAny_mkText (Pl (wpAny_attempt (wF hx hh λh' t' e hk hv=>?_))))
 have hT2:(⟨h',g,d,t',os⟩:Shared).TypeIs (.ref e) "AttributeError":=hv
 have f5:isSubtype (.type "AttributeError") (.type "AttributeError")=pure true:=by rw[Ry];kernel_rfl
 have hq2:=hq h' t' hk
 dsimp only
 repeat (any_goals (first |assumption |wp_step))
end
end PySem
section
namespace PySem
namespace F
def lQ:entryFor table "dict.update.loop"=some Builtin.«dict.update.loop»:=entryFor_of_tree (@I_)
def fX:plainId "dict.update.loop"=true:=@B_
end F
end PySem
namespace L2
open PySem PyProof.Rows
section
variable {X:Cx}{pins:@Db}{σ:St}{H:Hp}{s:Shared}{a b d l it:Addr}{A:Around}{E:@Ch}
def CN {kvs:@On}{k:List Key}{v:V}{r:Value}{Q:Unit->@Rs}(hu:A.units < cLine)(I:@At)(e:H a=some (.dT kvs))(eb:Rd H b (.tup (k.map kV)))(lk:kvs.length < sizeLine)(rv:RelV v r)
  (h:∀h' t',Heap.SameBut a s.heap h'->Inv X pins σ (upd H a (.dT (putK kvs k v))) {s with heap:=h',toks:=t'}->Q () {s with heap:=h',toks:=t'}) :
  wpAny @D_ A (dictSet a (.ref b) r) Q E s:=by
 obtain⟨z,hd,xs,rel,dd⟩:=LD I.hok e
 have hz:xs.length<=sizeLine:=by rw[<-Paired.length rel];exact z
 have hl:(putK kvs k v).length<=sizeLine:=by have:=l5 kvs k v;omega
 refine wpAny_dictSet_heap (knd:=tupleKind (bQ X.prog X.w)) (hsz:=hz) hu (pM I.hok eb) dd λh' dd' hs=>h _ _ hs ?_
 obtain⟨q,es,ep,hq,h2,h3,h4,_,h5⟩:=dd'
 refine A6 I (by rw[e];exact True.intro) hs ⟨q,hq⟩ ⟨hl,hd,_,(rel.put k eb rv).keeps λc ys ec=>?_,q,es,ep,hq,h2,h3,h4,h5⟩
 exact ec.imp (λec=>by rw[aC (A8 ec e (λz=>nomatch z))];exact ec) λ⟨o,ec⟩=>⟨o,by rw[aC (A8 ec e (λz=>nomatch z))];exact ec⟩
theorem yu {result:Value}{R:Result->@Rs}{xs:List V}(hh:A.handled=none)(hu:A.units + 1 < cLine)(hnd:it≠d)(hl:∀o,gk X.K (upd H d o) l xs)(hf:∀o,p4 X pins (upd H d o) it) :
  ∀(rest:List (Addr×Addr×List Key×V)) (i:Nat) (j:Int) (kvs:@On) (s:Shared),Inv X pins σ (upd H d (.dT kvs)) s->s.heap.IsListIter it l i->xs.drop i=rest.map (λq=>V.ref q.1)->
   (∀q,q∈rest->∀o,gj X.K (upd H d o) q.1 [V.ref q.2.1,q.2.2.2]/\Rd (upd H d o) q.2.1 (.tup (q.2.2.1.map kV)))->kvs.length + rest.length<=sizeLine->
   (∀h' t',Inv X pins σ (upd H d (.dT (rest.foldl (λa q=>putK a q.2.2.1 q.2.2.2) kvs))) {s with heap:=h',toks:=t'}->R (.ok (.ret result)) {s with heap:=h',toks:=t'})->
   codeAny @D_ A (.builtin "dict.update.loop" ⟨[.ref d,.ref it,rawInt j,result],[]⟩) R s
 | [],i,j,kvs,s,I,hi,hx,_,_,hR=>by
  obtain⟨its,rv,pl,_⟩:=I.list (hl _)
  have hlen:its.length=xs.length:=rv.length.symm
  have hx:its.toArray[i]? =none:=by
   have:xs.length<=i:=by
    have:=congrArg List.length hx
    rw[List.length_drop] at this
    simp at this
    omega
   simp;omega
  refine Rn F.lQ ?_
  rw[Q5 F.fX _]
  show wpAny _ A.in1 (pyNext (.ref it) >>= _) _ _ s
  refine Pl (wpAny_pyNext_list_end hh hi pl.isList hx λh' hk=>?_)
  have I':=I.turnedL (t':=s.toks) (ch:=[it]) (h':=h') (λb o hb e=>hk b o (λz=>hb (by simp[z])) e) (λb hb=>by rw[P6] at hb;exact hb▸hf _)
  refine Pl (Pp ?_)
  exact Pp (hR h' s.toks I')
 |q :: rest,i,j,kvs,s,I,hi,hx,hq,hz,hR=>by
  obtain⟨its,rv,pl,_⟩:=I.list (hl _)
  have hxi:xs[i]? =some (V.ref q.1):=by
   have:=congrArg List.head? hx
   rwa [List.head?_drop,P8,List.head?_cons] at this
  obtain⟨u,hu2,ru⟩:∃u,its[i]? =some u/\RelV (V.ref q.1) u:=Vals.get rv hxi
  cases ru
  refine Rn F.lQ ?_
  rw[Q5 F.fX _]
  show wpAny _ A.in1 (pyNext (.ref it) >>= _) _ _ s
  refine Pl (wpAny_pyNext_list_item hi pl.isList (x:=.ref q.1) (by simpa using hu2) λh' hi' hk=>?_)
  have I':=I.turnedL (t':=s.toks) (ch:=[it]) (h':=h') (λb o hb e=>(hk.2 b (λz=>hb (by simp[z]))).trans e) (λb hb=>by rw[P6] at hb;exact hb▸hf _)
  obtain⟨ht,hkey⟩:=hq q (Pz ..) (.dT kvs)
  obtain⟨ps,rp,tp,_⟩:=I'.tuple ht
  show wpAny _ A.in1 (holding [Value.ref q.1] _ >>= _) _ _ _
  refine Pl (QI ?_)
  obtain⟨u,w,rfl,ru,rw'⟩:∃u w,ps= [u,w]/\RelV (V.ref q.2.1) u/\RelV q.2.2.2 w:=by
   cases rp with
   |cons h1 r=>cases r with |cons h2 r=>cases r;exact⟨_,_,rfl,h1,h2⟩
  cases ru
  obtain⟨o,ho,hoc,n,hod⟩:=tp
  have hT:({s with heap:=h'}:Shared).TypeIs (.ref q.1) "tuple":=⟨o,ho,hoc⟩
  refine Pl (wpAny_tryCatch ?_)
  unfold Builtin.Dict.pairItems
  refine Pl (RB hT ?_)
  rw[Po @A_]
  refine Pl (wpAny_seqItems ho hod (Pp ?_))
  show wpAny _ A.in1 (holding [Value.ref q.2.1,w] (dictSet d (.ref q.2.1) w)) _ _ _
  refine QI ?_
  rw[P7] at hz
  refine CN hu I' aw hkey (@AT) rw' λh2 t2 hs2 I2=>?_
  have eH:upd (upd H d (.dT kvs)) d (.dT (putK kvs q.2.2.1 q.2.2.2))=upd H d (.dT (putK kvs q.2.2.1 q.2.2.2)):=by
   funext c;unfold upd;by_cases z:c=d <;> simp[z]
  rw[eH] at I2
  refine Pp ⟨Si F.fX _,yu hh hu hnd hl hf rest (i + 1) (j + 1) _ _ I2 ?_ ?_ (λq' hq'=>hq q' (Pw _ hq')) ?_ λh3 t3 I3=>hR h3 t3 I3⟩
  ·exact Heap.IsListIter.extBut hi' hs2.extBut hnd
  ·rw[<-List.tail_drop,hx];rfl
  ·have:=l5 kvs q.2.2.1 q.2.2.2;omega
end
end L2
end
namespace L2
open PySem PyProof.Rows
section
variable {X:Cx}{K:Frag}{pins:List V}{σ:St}{H:Hp}{s:Shared}{E:XK}
def DQ (K:Frag):@KM:=λxs H Q=>∃l,∃rest:List (Addr×Addr×List Key×V),xs= [.ref l]/\gk K H l (rest.map λq=>V.ref q.1)/\(∀q,q∈rest->gj K H q.1 [V.ref q.2.1,q.2.2.2]/\Rd H q.2.1 (.tup (q.2.2.1.map kV)))/\
 ∀d,H d=none->Q (.ref d) (upd H d (.dT (rest.foldl (λa q=>putK a q.2.2.1 q.2.2.2) [])))
def gk.up {l d:Addr}{xs:List V}{o:HO}(h:gk K H l xs)(hd:H d=none):gk K (upd H d o) l xs:=by
 have s:av H (upd H d o):=av.new hd
 rcases h with h |h
 ·exact .inl (h.mono s)
 ·exact .inr h
def gj.up {l d:Addr}{xs:List V}{o:HO}(h:gj K H l xs)(hd:H d=none):gj K (upd H d o) l xs:=by
 have s:av H (upd H d o):=av.new hd
 rcases h with h |h
 ·exact .inl (h.mono s)
 ·exact .inr h
def zM (hc:X.calm=true)(hu:X.A.units + 2 < cLine):dr X (.type "dict") (DQ X.K):=by
 intro pins s σ H xs us Q I r h
 obtain⟨l,rest,rfl,hl,hq,k⟩:=h
 obtain⟨u,rfl,rx⟩:=vals1 r
 cases rx
 have hh:=I.ok.hd hc
 have hd0:H s.heap.objs.size=none:=I.hok.fresh (Pt _)
 refine callType_codes (Q₁:=λobj s₁=>obj=@LE/\s₁={s with heap:=s.heap.push {cls:=.type "dict",data:=.dict #[]}}) F.kt_called_dict (F.kt_typeCall_dict_1 _) F.entry_dict_init (kt_code_dict_new _ ⟨rfl,rfl⟩) ?_
 rintro obj s₁ ⟨rfl,rfl⟩
 have hnew:(s.heap.push {cls:=.type "dict",data:=.dict #[]}).DictOf (bQ X.prog X.w) s.heap.objs.size []:=Heap.DictOf.new s.heap
 have hsm:(s.heap.objs.size == sysModules)=false:=by
  have:=I.big
  rw[Sk];exact Nat.ne_of_gt this
 have I1:Inv X pins σ (upd H s.heap.objs.size (.dT [])) {s with heap:=s.heap.push {cls:=.type "dict",data:=.dict #[]},toks:=s.toks}:=I.laid (t':=s.toks) (λ_ _=>Pq _) (Pt _) ⟨Qp _,hsm,[],.nil,_,_,_,PX _ rfl,by trivial,rfl,rfl,RN⟩
 refine⟨hnew.typeIs,F.args_dict_init_2 _ _,?_⟩
 unfold Builtin.«dict.__init__»
 refine Pl ?_
 unfold Builtin.Dict.selfAndRest
 refine Pl (wpAny_notOrdered_dict hnew.typeIs ?_)
 show wpAny _ _ (pure (s.heap.objs.size,[Value.ref l])) _ _ _
 refine Pp ?_
 show wpAny _ _ (Builtin.Dict.updateFrom "dict.__init__" s.heap.objs.size (.ref l) [] .none) _ _ _
 unfold Builtin.Dict.updateFrom
 obtain⟨its,rv,pl,hz⟩:=I1.list (hl.up hd0)
 obtain⟨⟨cls,dd,data,sl⟩,n,ho,hoc,hod,hodd⟩:=id pl
 simp only at hoc hod hodd
 subst hoc hod hodd
 refine Pl (RB (T:="list") ⟨_,ho,rfl⟩ ?_)
 rw[Po @A_]
 refine Pl (BN ho hh λh1 t1 hk1=>?_)
 have I2:=I1.kept (t':=t1) hk1
 obtain⟨its2,rv2,pl2,_⟩:=I2.list (hl.up hd0)
 rw[Po @Tk]
 have hdl:s.heap.objs.size < h1.objs.size:=by
  obtain⟨o,e⟩:∃o,h1.get? s.heap.objs.size=some o:=⟨_,hk1 _ _ (PX _ rfl)⟩
  exact PB e
 have hnd:h1.objs.size≠s.heap.objs.size:=Nat.ne_of_gt hdl
 have hfi:H h1.objs.size=none:=by
  have:=I2.hok.fresh (Pt h1.objs.size)
  rwa [aC hnd] at this
 refine Pl (wpAny_rule ?_)
 refine Pl (RG pl2.isList ?_)
 have I3:Inv X pins σ (upd H s.heap.objs.size (.dT [])) {s with heap:=h1.push {cls:=.type "list_iterator",data:=.fields #[.ref l,.int 0 0]},toks:=t1}:=I2.kept (λ_ _=>Pq _)
 refine Pp ⟨Si F.fX _,yu (A:=X.A.in1) (H:=H) (l:=l) (xs:=rest.map λq=>V.ref q.1) hh (by show X.A.units + 1 + 1 < cLine;exact hu) hnd (λo=>hl.up hd0) (λo=>I2.fpOk (Pt _) (by rw[aC hnd];exact hfi)) rest 0 0 [] _ I3 ⟨_,PX _ rfl,rfl,rfl⟩ rfl (λq hq' o=>⟨(hq q hq').1.up hd0,(hq q hq').2.mono (av.new hd0)⟩) (by rw[Py] at hz;simpa using hz) λh' t' I4=>?_⟩
 exact⟨rfl,.ref _,_,I4,rfl,k _ hd0⟩
end
section
variable {X:Cx}{K:Frag}{σ:St}{G H:Hp}{s:Shared}{E:XK}
def yy (K:Frag):Bool:=K.all λp=>match p.2.cls,p.2.data with
 | .type "tuple",.seq its _=>match its.toList with
  | [.int _ _,.int _ _]=>false
  |_=>true
 |_,_=>true
theorem Dr {α:Type}{a:Addr}{o:α}:∀{L:List (Addr×α)},L.lookup a=some o->(a,o)∈L
 | (b,u) :: L,h=>by
  rw[Rz] at h
  cases c:a == b with
  |true=>rw[c] at h;cases h;rw[eq_of_beq c];exact Pz ..
  |false=>rw[c] at h;exact Pw _ (Dr h)
def AF {a:Addr}{i j:Int}(hn:yy K=true)(h:gj K G a [.int i,.int j]):Rd G a (.tup [.int i,.int j]):=by
 rcases h with h | ⟨o,its,n,hk,hc,hd,hz,r,_⟩
 ·exact h
 ·exfalso
  unfold yy at hn
  rw[Qm] at hn
  have hm:(a,o)∈K:=Dr hk
  have:=hn _ hm
  simp only[hc,hd] at this
  generalize its.toList=us at r this
  cases r with
  |cons h1 r=>cases r with
   |cons h2 r=>
    cases r
    obtain⟨t1,rfl⟩:=h1
    obtain⟨t2,rfl⟩:=h2
    simp at this
def kP (p:Int×Int):List Key:=[.inl p.1,.inl p.2]
def wb {p q:Int×Int}:kP p=kP q↔p=q:=by
 unfold kP
 constructor
 ·intro h
  simp at h
  exact Prod.ext h.1 h.2
 ·intro h;rw[h]
def xC (acc:List ((Int×Int)×D))(p:Int×Int)(d:D):List ((Int×Int)×D):=
 if (acc.any λkv=>decide (kv.1=p))=true then acc.map λkv=>if kv.1=p then (kv.1,d) else kv else acc ++ [(p,d)]
abbrev KP (K:Frag)(G:Hp):@On->List ((Int×Int)×D)->Prop:=Paired λa b=>a.1=kP b.1/\Rp K G a.2 b.2
theorem KP.any {kvs:@On}{acc:List ((Int×Int)×D)}(h:KP K G kvs acc)(p:Int×Int):(kvs.any λkv=>decide (kv.1=kP p))=acc.any λkv=>decide (kv.1=p):=by
 induction h with
 |nil=>rfl
 |cons h _ ih=>
  rw[Q4,Q4,ih,h.1]
  congr 1
  rw[QK];exact wb
theorem KP.repl {p:Int×Int}{v:V}{d:D}(hv:Rp K G v d):∀{kvs:@On} {acc:List ((Int×Int)×D)},KP K G kvs acc->KP K G (kvs.map λkv=>if kv.1=kP p then (kv.1,v) else kv) (acc.map λkv=>if kv.1=p then (kv.1,d) else kv)
 |_,_,.nil=>.nil
 | (a,_) :: _,(b,_) :: _,.cons h1 t=>by
  rw[P8,P8]
  refine .cons ?_ (KP.repl hv t)
  obtain⟨e,h1⟩:=h1
  simp only at e h1
  subst e
  by_cases c:b=p
  ·simp only[Po (wb.mpr c),Po c];exact⟨trivial,hv⟩
  ·simp only[Px (λz=>c (wb.mp z)),Px c];exact⟨trivial,h1⟩
theorem KP.snoc {p:Int×Int}{v:V}{d:D}(hv:Rp K G v d):∀{kvs:@On} {acc:List ((Int×Int)×D)},KP K G kvs acc->KP K G (kvs ++ [(kP p,v)]) (acc ++ [(p,d)])
 |_,_,.nil=>.cons ⟨rfl,hv⟩ .nil
 |_,_,.cons h1 t=>.cons h1 (KP.snoc hv t)
def KP.put {kvs:@On}{acc:List ((Int×Int)×D)}(h:KP K G kvs acc)(p:Int×Int){v:V}{d:D}(hv:Rp K G v d):KP K G (putK kvs (kP p) v) (xC acc p d):=by
 unfold putK xC
 rw[h.any p]
 split
 ·exact h.repl hv
 ·exact h.snoc hv
theorem KP.rp {kvs:@On}{acc:List ((Int×Int)×D)}(h:KP K G kvs acc):yX K G kvs (acc.map λx=>(.tuple [.int x.1.1,.int x.1.2],x.2)):=by
 induction h with
 |nil=>exact .nil
 | @cons a b _ _ h _ ih=>
  obtain⟨k,v⟩:=a
  obtain⟨e,h⟩:=h
  simp only at e h
  subst e
  exact .cons h ih
def Nj:D->Option ((Int×Int)×D)
 | .tuple [.tuple [.int a,.int b],v]=>some ((a,b),v)
 |_=>none
def F0:List D->Option (List ((Int×Int)×D))
 | []=>some []
 |d :: ds=>match Nj d,F0 ds with
  |some x,some L=>some (x :: L)
  |_,_=>none
def JS {d:D}{x:(Int×Int)×D}(h:Nj d=some x):d=.tuple [.tuple [.int x.1.1,.int x.1.2],x.2]:=by
 unfold Nj at h
 split at h
 ·cases h;rfl
 ·cases h
abbrev OY (K:Frag)(G:Hp):List (Addr×Addr×List Key×V)->List ((Int×Int)×D)->Prop:=Paired λq x=>q.2.2.1=kP x.1/\Rp K G q.2.2.2 x.2
theorem Av (hn:yy K=true):∀{ds:List D} {xs:List V} {L:List ((Int×Int)×D)},@Td->F0 ds=some L->∃rest:List (Addr×Addr×List Key×V),xs=rest.map (λq=>V.ref q.1)/\OY K G rest L/\∀q,q∈rest->gj K G q.1 [V.ref q.2.1,q.2.2.2]/\Rd G q.2.1 (.tup (q.2.2.1.map kV))
 | [],_,L,.nil,h=>by cases h;exact⟨[],rfl,.nil,(λq hq=>by cases hq)⟩
 |d :: ds,_,L,.cons (x:=x) h t,e=>by
  unfold F0 at e
  cases e1:Nj d with
  |none=>rw[e1] at e;cases e
  |some y=>
   cases e2:F0 ds with
   |none=>rw[e1,e2] at e;cases e
   |some M=>
    rw[e1,e2] at e
    cases e
    obtain⟨rest,rfl,h1,h2⟩:=Av hn t e2
    rw[JS e1] at h
    cases h with
    | @tup a zs _ hq r=>
     cases r with
     | @cons z _ _ _ r1 r=>cases r with
      | @cons w _ _ _ r2 r=>
       cases r
       cases r1 with
       | @tup b ws _ hq2 r3=>
        have hw:ws= [V.int y.1.1,V.int y.1.2]:=by
         cases r3 with
         |cons a1 r3=>cases r3 with
          |cons a2 r3=>cases r3;cases a1;cases a2;rfl
        subst hw
        refine⟨(a,b,kP y.1,w) :: rest,rfl,.cons ⟨rfl,r2⟩ h1,λq hq'=>?_⟩
        rcases Pu.mp hq' with rfl |hq'
        ·exact⟨hq,AF hn hq2⟩
        ·exact h2 q hq'
def zo:@Os
 | .list ds=>(F0 ds).map λL=>.dict ((L.foldl (λa x=>xC a x.1 x.2) []).map λx=>(.tuple [.int x.1.1,.int x.1.2],x.2))
 |_=>none
theorem KP.fold:∀{rest:List (Addr×Addr×List Key×V)} {L:List ((Int×Int)×D)} {kvs:@On} {acc:List ((Int×Int)×D)},OY K G rest L->KP K G kvs acc->KP K G (rest.foldl (λa q=>putK a q.2.2.1 q.2.2.2) kvs) (L.foldl (λa x=>xC a x.1 x.2) acc)
 |_,_,_,_,.nil,h=>h
 |q :: _,_,_,_,.cons h1 t,h=>by
  rw[RE,RE]
  refine KP.fold t ?_
  rw[h1.1]
  exact h.put _ h1.2
theorem Hg (hn:yy K=true):C4 K (λx=>DQ K [x]) zo .v:=by
 intro B G H x dx d Q s hB bx e k
 cases dx with
 |list ds=>
  have e:((F0 ds).map λL=>PyData.dict ((L.foldl (λa x=>xC a x.1 x.2) []).map λx=>(.tuple [.int x.1.1,.int x.1.2],x.2)))=some d:=e
  cases e1:F0 ds with
  |none=>rw[e1] at e;cases e
  |some L=>
   rw[e1] at e
   cases e
   obtain⟨p,xs,rfl,hq,r⟩:=bx.list s
   obtain⟨rest,rfl,hR,h2⟩:=Av hn r e1
   refine⟨p,rest,rfl,.inl hq,λq hq=>⟨(h2 q hq).1.grow s.grow,(h2 q hq).2.mono s⟩,λd hd=>?_⟩
   have xn:=Ext.new s (o:=.dT (rest.foldl (λa q=>putK a q.2.2.1 q.2.2.2) [])) hd
   exact k _ _ _ xn (.dT aw ((KP.fold hR .nil).rp.mono xn.gg))
 |_=>cases e
end
section
variable {X:Cx}{K:Frag}{σ:St}{G H:Hp}{s:Shared}{E:XK}
def Cp (neg:Bool):R2:=λx y H Q=>∃a o,y=.ref a/\(vM H a x o\/(o=none/\Rd H a (.dK [])/\∃b,∃k:List Key,x=.ref b/\Rd H b (.tup (k.map kV))))/\Q (.bl (if neg then !o.isSome else o.isSome)) H
def DR {P:Program}{w:World}{a:Addr}{g:Heap}(h:g.DictOf (bQ P w) a []):g.DictOfH (tupleKind (bQ P w)) a []:=by
 obtain⟨o,es,ep,h1,h2,h3,h4,h5,_⟩:=h
 exact⟨o,es,ep,h1,h2,h3,by generalize es.toList=q at h5 ⊢;cases h5;rfl,(λx hx=>by cases hx),RN⟩
def Kn (hu:X.A.units + 100 < cLine):mQ X (compareOp .In) (Cp false):=by
 intro pins s σ H x y v u Q I rx ry h
 obtain⟨a,o,rfl,hg,q⟩:=h
 cases ry
 rcases hg with hg | ⟨rfl,hd,b,k,rfl,hb⟩
 ·exact Ou (@AT) I hg rx λs' I'=>⟨.bl o.isSome,H,I',rfl,q⟩
 ·cases rx
  obtain⟨z,hs,vs,rel,dd⟩:=w8 I.hok hd
  cases rel
  exact wpAny_in_heap (Sx (@AT)) (pM I.hok hb) hs (DR dd) ⟨.bl false,H,I.tok _,rfl,q⟩
def ua (hu:X.A.units + 100 < cLine):mQ X (compareOp .NotIn) (Cp true):=by
 intro pins s σ H x y v u Q I rx ry h
 obtain⟨a,o,rfl,hg,q⟩:=h
 cases ry
 rcases hg with hg | ⟨rfl,hd,b,k,rfl,hb⟩
 ·exact Hu (@AT) I hg rx λs' I'=>⟨.bl (!o.isSome),H,I',rfl,q⟩
 ·cases rx
  obtain⟨z,hs,vs,rel,dd⟩:=w8 I.hok hd
  cases rel
  exact wpAny_notIn_heap (Sx (@AT)) (pM I.hok hb) hs (DR dd) ⟨.bl true,H,I.tok _,rfl,q⟩
def FF:List (D×D)->Option (List (Int×Int))
 | []=>some []
 | (.tuple [.int a,.int b],_) :: ds=>(FF ds).map λL=>(a,b) :: L
 |_=>none
def z7 (neg:Bool):D->@Os
 | .tuple [.int a,.int b],.dict ds=>(FF ds).map λL=>.bool (if neg then !decide ((a,b)∈L) else decide ((a,b)∈L))
 |_,_=>none
theorem Au:∀{kvs:@On} {ds:List (D×D)} {L:List (Int×Int)} (p:Int×Int),yX K G kvs ds->FF ds=some L->(pE kvs (kP p)).isSome=decide (p∈L)
 |_,_,L,p,.nil,h=>by cases h;rfl
 |_,_,L,p,.cons (k:=k) (x:=x) (xs:=xs) (d:=d) (ds:=ds) hx t,h=>by
  unfold FF at h
  split at h
  ·rename_i e;cases e
  ·rename_i a b d' ds' e
   injection e with e1 e2
   injection e1 with e1 _
   subst e2
   cases e3:FF ds with
   |none=>rw[e3] at h;cases h
   |some M=>
    rw[e3] at h
    cases h
    have ih:=Au p t e3
    have hk:k=kP (a,b):=by
     injection e1 with e1
     match k,e1 with
     | [.inl i,.inl j],e1=>simp[kD] at e1;rw[e1.1,e1.2];rfl
     | [.inl i,.inr j],e1=>simp[kD] at e1
     | [.inr i,_],e1=>simp[kD] at e1
     | [],e1=>simp at e1
     | [_],e1=>simp at e1
     |_ :: _ :: _ :: _,e1=>simp at e1
    subst hk
    by_cases c:p=(a,b)
    ·subst c
     rw[oE rfl]
     simp
    ·rw[om (λz=>c (wb.mp z).symm),ih]
     simp[c]
  ·cases h
theorem GX {kvs:List (Key×V)}{ds:List (D×D)}{L:List (Int×Int)}(r:Am K G kvs ds)(h:FF ds=some L):kvs= []/\L= []:=by
 cases r with
 |nil=>cases h;exact⟨rfl,rfl⟩
 | @cons k x xs d ds _ _=>cases k <;> (simp[FF,kD] at h)
def Eh {neg:Bool}(hn:yy K=true):pk K (Cp neg) (z7 neg) .v:=by
 intro B G H x y dx dy d Q s hB bx by' e k
 unfold z7 at e
 split at e
 ·rename_i a b ds
  cases e1:FF ds with
  |none=>rw[e1] at e;cases e
  |some L=>
   rw[e1] at e
   cases e
   obtain⟨p,xs,rfl,hq,r⟩:=bx.tuple s
   have hw:xs= [V.int a,V.int b]:=by
    cases r with
    |cons a1 r=>cases r with
     |cons a2 r=>cases r;cases a1;cases a2;rfl
   subst hw
   have hk:Rd H p (.tup ((kP (a,b)).map kV)):=AF hn hq
   have fin:∀c o,y=.ref c->(vM H c (.ref p) o\/(o=none/\Rd H c (.dK [])/\∃b,∃k:List Key,V.ref p=.ref b/\Rd H b (.tup (k.map kV))))->o.isSome=decide ((a,b)∈L)->Cp neg (.ref p) y H Q:=λc o hy hg ho=>⟨c,o,hy,hg,by rw[ho];exact k _ G H (Ext.refl s) (.bl _)⟩
   have dT:∀c kvs,y=.ref c->H c=some (.dT kvs)->yX K G kvs ds->Cp neg (.ref p) y H Q:=λc kvs hy hc r=>fin c _ hy (.inl (vM.t hc hk)) (Au (a,b) r e1)
   have dK:∀c kvs,y=.ref c->H c=some (.dK kvs)->Am K G kvs ds->Cp neg (.ref p) y H Q:=λc kvs hy hc r=>by
    obtain⟨rfl,rfl⟩:=GX r e1
    exact fin c none hy (.inr ⟨rfl,.inl hc,p,_,rfl,hk⟩) rfl
   rcases by' with h | ⟨c,rfl,_,h⟩
   ·cases h with
    |scr h=>cases e1
    |dK h r=>exact dK _ _ rfl (s _ _ h) r
    |dT h r=>exact dT _ _ rfl (s _ _ h) r
   ·rcases h with⟨kvs,h,r⟩ | ⟨kvs,h,r⟩
    ·exact dK _ _ rfl h r
    ·exact dT _ _ rfl h r
 ·cases e
def eM.u2 {k:Nat}{A:Around}(r:eM k A):A.units + 2 < cLine:=by have:=r.units;omega
end
end L2
namespace RM
open PySem L2
def mT (cx bJ:@Fk):SF:=(bG (fA (ay cx (aa (gv 0) (aa (f2 (gv 1) @Cl bu) af))) (ay bJ (aa (gv 1) (aa @TB (aa (f2 (gv 0) @EQ bu) af))))))
def jv (cO:@Fk):SF:=(bG (fA (f1 (gv 0) (jk "list")) (f1 (aM 1 [1] (.nm 0) (bC (gv 0)) lN (ay cO (aa (gv 0) @L_))) (iC λbs=>bs.all id))))
def lh:SF:=(bG (Lg (f2 (f2 (gv 1) @Cl bu) (f2 (gv 2) @EQ bu) (cv false)) (f2 (aQ (aa (f2 (gv 1) @Cl bu) (aa (f2 (gv 2) @EQ bu) af))) (f2 (gv 0) @EQ bu) (pB false))))
def kx (aI:@Fk):SF:=(bG (f2 (ay aI (aa (f2 (gv 0) (gv 2) bu) @L_)) (f2 (gv 0) (gv 2) bu) (cv false)))
def jH (cg:@Fk):SF:=(bG (ay cg (aa (gv 0) (aa (f2 (gv 1) @Cl bu) (aa (f2 (gv 1) @EQ bu) af)))))
def kW (cg aI:@Fk):SF:=(aK (a9 2 ([] ++ [0]) (aM 1 [1,0] (.nm 0) (bS (f1 (gv 0) eS)) (nu (cm (f2 (gv 0) (f2 (gv 1) @Cl bu) (cv false))) (lG (ay cg (aa (gv 2) (aa (f2 (gv 1) @Cl bu) @Is))))) (gv 0)))
 (aK (a9 3 (@TY ++ (@Ev ++ [])) (ay aI (aa (f2 (gv 0) (f2 (gv 1) @EQ bu) bu) (aa (f2 (gv 1) @EQ bu) af))))
 (ml (aM 2 [2,3] (.two 0 1) (GZ (gv 0)) lN (M9 (cm (f2 (gv 0) (gv 2) (pB false))) (f2 (gv 1) (gv 3) MX) (gv 1))))))
def jw (fo:@Fk):SF:=(aK (l4 3 (([2] ++ []) ++ []) (bt (aa (bt (aa (gv 2) af)) af)))
 (aK (a9 4 [1] (gv 1))
 (aK (a9 5 [] @Cl)
 (aK (i8 ([0] ++ ((@Ev ++ []) ++ ([2] ++ []))) (uv (lG (ay fo (aa (gv 0) (aa (f2 (f2 (gv 3) (gv 5) bu) (f1 @EQ pz) bu) (aa (gv 2) af))))))
 (aK (a9 6 ([] ++ [0]) (aM 1 [0,3,5] (.nm 0) (bC (gv 4)) (lG (ay fo (aa (gv 1) (aa (f2 (f2 (gv 2) (gv 3) bu) (f1 @EQ pz) bu) @Is)))) (gv 0)))
 (aK (a9 4 @Ev (aM 1 [6] (.nm 0) (bC (gv 4)) (cm (f2 (gv 0) (gv 1) (pB true))) (gv 0)))
 (aK (Cc 3 @Ev (aM 1 [3,5] (.nm 0) (bC (gv 6)) lN (f2 (f2 (gv 1) (gv 2) bu) (bt @Is) dt)))
 (a9 5 @Ev (f2 (gv 5) @EQ b8))))) 1000)
 (bG (f2 (gv 3) (gv 5) bu))))))
def gu (a7 fG cZ fF fE gG fH:@Fk):SF:=(aK (mD ([0] ++ []) (ay a7 @Is))
 (aK (kr ([1] ++ ([0] ++ [])) (uv (lG (ay fG (aa (gv 1) @Is))))
 (λenv β=>toS ((aa (cst (.str "this is no list of turns of the order")) af) @Ps β) λds _=>if ds.length<=sizeLine then .exc "NoTurns" else .bad)
 nR)
 (aK (a9 2 ([0] ++ []) (ay cZ @Is))
 (aK (l4 3 [] (bt af))
 (aK (dY (.nm 4) [1] (bC (gv 1))
 (aK (kr ([2] ++ ([4] ++ [])) (lG (ay fF (aa (gv 2) @Te)))
 (bG (aQ (aa (cst (.str "ring")) (aa (ay fE (aa (gv 0) (aa (gv 3) @Te))) af))))
 nR)
 (aK (a9 2 ([2] ++ ([4] ++ [])) (ay gG (aa (gv 2) @Te)))
 (l0 3 [4] (gv 4)))))
 (bG (aQ (aa (cst (.str "row")) (aa (ay fH (aa (gv 2) (aa (bt af) af))) af)))))))))
noncomputable def gf:SF:=(aK (a9 3 @Ev (f2 (gv 2) @Cl bu))
 (aK (a9 4 @Ev (f2 (gv 2) @EQ bu))
 (aK (a9 5 ([] ++ [4]) (aM 1 [4,0] (.nm 0) (bS (gv 1)) (yN (cm (f2 (gv 0) (gv 1) (cv true))) (cm (f2 (aQ (aa (gv 1) @Is)) (gv 2) (z7 true)))) (gv 0)))
 (aK (a9 6 ([] ++ [3]) (aM 1 [3,0] (.nm 0) (bS (gv 1)) (yN (cm (f2 (gv 0) (gv 1) (cv true))) (cm (f2 (aQ (aa (gv 1) @Is)) (gv 2) (z7 true)))) (gv 0)))
 (aK (a9 7 (([] ++ [3]) ++ ([] ++ [4])) (f2 (aM 1 [3] (.nm 0) (bC (gv 5)) lN (aQ (aa (gv 1) @Is))) (aM 1 [4] (.nm 0) (bC (gv 6)) lN (aQ (aa (gv 0) @L_))) dt))
 (ml (f1 (aM 1 [0] (.nm 0) (bC (gv 7)) (cm (f2 (gv 0) (gv 1) (z7 false))) (gv 0)) i6)))))))
def kJ (mO:@Fk):SF:=(bG (f1 (aM 1 [] (.nm 0) (bC (ay mO @Is)) lN (aQ (aa (gv 0) (aa (cst (@TU)) af)))) zo))
def j4 (a7 cO cM dG:@Fk):SF:=(aK (mD ([0] ++ []) (ay a7 @Is))
 (aK (kr ([1] ++ ([0] ++ [])) (uv (lG (ay cO (aa (gv 1) @Is))))
 (λenv β=>toS ((aa (cst (.str "this is no turn of the order")) af) @Ps β) λds _=>if ds.length<=sizeLine then .exc "NoTurns" else .bad)
 nR)
 (ml (ue cM (aa (ay dG @Is) (aa @TB @L_))))))
def fO (dI bA:@Fk):SF:=(aK (kr ([] ++ (@Ev ++ @Ev)) (nu (uv (lG (f1 (gv 1) (jk "tuple")))) (nu (cm (f2 (f1 (gv 1) eS) @Tf (cv true))) (uv (lG (f1 (aM 1 [] (.nm 0) (bC (gv 1)) lN (ay dI @Is)) (iC λbs=>bs.all id))))))
 (bG (cst (.bool false)))
 nR)
 (bG (f2 (gv 1) (ay bA @Is) (pB false))))
def qm (marks:Str->Option Str)(gW kh:@Fk):SF:=(aK (qg marks (kr @Ev (cm (f2 (gv 0) @Cl (cv false)))
 (mD ([1] ++ ([2] ++ [])) (ay gW (aa (gv 1) (aa (gv 2) af))))
 (mD ([1] ++ ([2] ++ [])) (ay kh (aa (gv 1) (aa (gv 2) af))))))
 (bG (cst (.str "told"))))
def Be (gS bA cP b6:@Fk)(b7 gA:@SN):SF:=(aK (dY (.nm 1) @TY (bS (f2 @EQ (f2 (f1 (gv 0) eS) (cst (.int 5)) (yL λi j=>.int (if j < i then j else i))) (yL λi j=>.int (if j > i then j else i))))
 (aK (BE 2 ([0] ++ ([1] ++ [])) (ue gS (aa (gv 0) @L_)))
 (aK (a9 3 @Ev (i5 2 b7 (aa (cst (.int 7)) af)))
 (aK (a9 4 ([3] ++ []) (ay bA (aa (gv 3) af)))
 (aK (a9 5 @Ev (f2 (gv 3) @Cl bu))
 (aK (a9 6 (@TY ++ (([] ++ ([5] ++ [])) ++ (@TY ++ (@Ev ++ (@TY ++ (([] ++ @TY) ++ ([] ++ ([] ++ (@TY ++ (@TY ++ ((@TY ++ []) ++ []))))))))))) (bt @No))
 (aK (a9 6 (([] ++ ((@Ev ++ []) ++ [])) ++ ([] ++ (([5] ++ ([5] ++ [])) ++ []))) (f2 (f2 (gv 6) (f1 (Cf (f2 (gv 3) @EQ bu) (λ_ β=>.ok none β) (G6 (cst (.int 3)))) AG) dt) (bt (aa (i5 2 gA af) (aa (aQ (aa (gv 5) (aa (gv 5) af))) af))) dt))
 (aK (dY (.nm 7) [6] (bC (gv 6))
 (kr ([3] ++ ([7] ++ [])) (uv (lG (ay cP (aa (gv 3) (aa (gv 7) af)))))
 (kr ((([] ++ ([3] ++ ([7] ++ []))) ++ []) ++ (([] ++ ([3] ++ (((@Ev ++ []) ++ ([7] ++ [])) ++ []))) ++ [])) (nu (cm (f2 (ay b6 (aa @EQ (aa (gv 3) (aa (gv 7) af)))) (cst (.str "turns")) (cv true))) (cm (f2 (ay b6 (aa @Cl (aa (gv 3) (aa (f2 (Nc (gv 4) (λ_ β=>.ok none β) (G6 (cst (.int 3)))) (bt (aa (gv 7) af)) dt) af)))) (cst (.str "turns")) (cv true))))
 (bG (cst (.bool false)))
 nR)
 nR))
 (aK (dY (.nm 7) ([] ++ ([] ++ (@TY ++ @TY))) (bC (bt (aa (f1 (gv 4) gL) (aa (cst .none) (aa (aQ (aa @Cl (aa @EQ af))) (aa (cst (.str "")) (aa (cst (.dict [])) af)))))))
 (kr (([] ++ ([3] ++ ([7] ++ []))) ++ []) (cm (f2 (ay b6 (aa @Cl (aa (gv 3) (aa (gv 7) af)))) (cst (.str "turns")) (cv true)))
 (bG (cst (.bool false)))
 nR))
 (kr ((([] ++ ([3] ++ ([4] ++ []))) ++ []) ++ (@Ev ++ (([] ++ ([3] ++ (@Ev ++ []))) ++ []))) (nu (cm (f2 (ay b6 (aa @Cl (aa (gv 3) @Te))) (cst (.str "told")) (cv true))) (yN (cm (f2 (gv 4) (bt af) (cv true))) (cm (f2 (ay b6 (aa @EQ (aa (gv 3) (aa (f2 (gv 4) @Cl bu) af)))) (cst (.str "told")) (cv true)))))
 (bG (cst (.bool false)))
 nR))))))))))
 (bG (cst (@TU))))
end RM
namespace RQ
open PySem L2 RM
def top (i:Nat):Stmt:=PySem.Challenge.pw_rowsorder_k26_what_are_no_turns.main.body.getD i (.Pass ⟨0,0,0,0⟩)
section
variable {P:Program}{w:World}{K:Frag}{mg:@Fa}{base:Heap}{ca:Str->Addr}
abbrev lA:Stmt:=top 2
def xU:aG @Tl @Tl (aq lA):=@AC
def wK {f:Addr}{fd:FuncData}(F:i4 K mg "is_whole" lA @Tl f fd)(B:jh mg):cB P w K mg base ca "is_whole" @Tl 1 (bg 1 1 (rm)):=
 ⟨⟨f,fd,F.mg,F.F.kp,F.b,aS (N:=@Tl) (k:=0) F.F xU λcdv A outer s H G E hr=>
  (aB (aY (iy (lD "int" @A_ rfl rfl B.isinstance rfl B.int (@B_) (ag 0)) (ji (yS (lD "bool" @A_ rfl rfl B.isinstance rfl B.bool (@B_) (ag 0)))) @C_)))⟩,@PP ⟩
abbrev kC:Stmt:=top 3
def yi:aG ["thing","bound"] ["thing","bound"] (aq kC):=@AC
def vG {f:Addr}{fd:FuncData}{cc:@Fk}(F:i4 K mg "is_below" kC ["thing","bound"] f fd)(B:jh mg)(gH:cB P w K mg base ca "is_whole" @Tl 1 cc):cB P w K mg base ca "is_below" ["thing","bound"] 2 (bg 2 2 (rL cc)):=
 ⟨⟨f,fd,F.mg,F.F.kp,F.b,aS (N:=["thing","bound"]) (k:=1) F.F yi λcdv A outer s H G E hr=>
  (aB (aY (iy (aJ gH @F_ aV rfl rfl (ae (au 0 rfl) ah)) (ji (xG ER DU K0 KW ar (ag 0) (ag 1))) @C_)))⟩,@PP ⟩
abbrev mM:Stmt:=top 4
def zv:aG @Tl @Tl (aq mM):=@AC
def yd {f:Addr}{fd:FuncData}{cc:@Fk}(F:i4 K mg "is_many" mM @Tl f fd)(B:jh mg)(gH:cB P w K mg base ca "is_whole" @Tl 1 cc){tZ:Tok}(jU:mg "MOST_THINGS"=some (.int 8 tZ)):cB P w K mg base ca "is_many" @Tl 2 (bg 1 1 (uK cc)):=
 ⟨⟨f,fd,F.mg,F.F.kp,F.b,aS (N:=@Tl) (k:=1) F.F zv λcdv A outer s H G E hr=>
  (aB (aY (iy (aJ gH @F_ aV rfl rfl (ae (au 0 rfl) ah)) (ji (xG ER ER K0 K0 ar (ag 0) (GH @Tk jU))) @C_)))⟩,@PP ⟩
abbrev mP:Stmt:=top 5
def z8:aG ["thing","many"] ["thing","many"] (aq mP):=@AC
def qr {f:Addr}{fd:FuncData}{fq:@Fk}(F:i4 K mg "is_pair" mP ["thing","many"] f fd)(B:jh mg)(jl:cB P w K mg base ca "is_below" ["thing","bound"] 2 fq):cB P w K mg base ca "is_pair" ["thing","many"] 3 (bg 2 2 (j6 fq)):=
 ⟨⟨f,fd,F.mg,F.F.kp,F.b,aS (N:=["thing","many"]) (k:=2) F.F z8 λcdv A outer s H G E hr=>
  (ak (eQ (uZ.t (ql (iz (dv rfl (lD "tuple" @A_ rfl rfl B.isinstance rfl B.tuple (@B_) (ag 0)))) (ny (bq (dg hr.units) fu (bF dw lX rfl B.len QW (ag 0)) ar (bh _))) @C_))
  (aB (aY lW))
  cN)
  (aB (aY (iy (aJ jl @F_ aV rfl rfl (ae @SK (ae (au 1 rfl) ah))) (ji (aJ jl @F_ aV rfl rfl (ae @SK (ae (au 1 rfl) ah)))) @C_))))⟩,@PP ⟩
abbrev fL:Stmt:=top 6
def tJ:aG ["many"] ["many"] (aq fL):=@AC
def rJ {f:Addr}{fd:FuncData}(F:i4 K mg "every_pair" fL ["many"] f fd)(B:jh mg):cB P w K mg base ca "every_pair" ["many"] 1 (bg 1 1 (iI)):=
 ⟨⟨f,fd,F.mg,F.F.kp,F.b,aS (N:=["many"]) (k:=0) F.F tJ λcdv A outer s H G E hr=>
  (aB (kK (cy (NB:=["number","many"]) (own:=1) (ixs:=[0]) [] rfl (bZ (@I_)) @C_ (jK rfl B.range (bp jT kR (ag 0) (ag 0))) (λH0 G0 par br bx C ex s3 H3 pn=>(b9 (i:=0) (show (["number","many"]:@KK).Nodup by decide +kernel))) (λH0 G0 par br bx C ex s3 H3 pn hB1=>eZ) (λH0 G0 par br bx C ex s3 H3 pn hB1=>(bR (ae (bp oQ Hx (ag 0) (ag 1)) (ae (bp nH uT (ag 0) (ag 1)) ah)))))))⟩,@PP ⟩
abbrev lq:Stmt:=top 24
def x8:aG ["pairs"] ["pairs"] (aq lq):=@AC
def vA {f:Addr}{fd:FuncData}(F:i4 K mg "has_ring" lq ["pairs"] f fd)(B:jh mg):cB P w K mg base ca "has_ring" ["pairs"] 1 (bg 1 1 (rH)):=
 ⟨⟨f,fd,F.mg,F.F.kp,F.b,aS (N:=["pairs"]) (k:=0) F.F x8 λcdv A outer s H G E hr=>
  (aB (aY (bF (EA rfl) qQ rfl B.any (@B_) (cy (NB:=["a","b"]) (own:=2) (ixs:=[]) [] rfl (bZ (@I_)) @C_ (mZ rfl (ag 0)) (λH0 G0 par br bx C ex s3 H3 pn=>(nO (i:=0) (j:=1) (show (["a","b"]:@KK).Nodup by decide +kernel))) (λH0 G0 par br bx C ex s3 H3 pn hB1=>eZ) (λH0 G0 par br bx C ex s3 H3 pn hB1=>(iu (gN hr.units) fu (ag 0) (ag 1) (bh _)))))))⟩,@PP ⟩
abbrev lF:Stmt:=top 22
def mG:aG ["thing","many","pairs"] @Tl (aq lF):=@AC
def vk {f:Addr}{fd:FuncData}{iV cx kg gF:@Fk}(F:i4 K mg "is_order" lF @Tl f fd)(B:jh mg)(pP:cB P w K mg base ca "is_many" @Tl 2 iV)(kl:cB P w K mg base ca "is_pair" ["thing","many"] 3 cx)(rR:cB P w K mg base ca "closed" ["many","pairs"] 3 kg)(nW:cB P w K mg base ca "has_ring" ["pairs"] 1 gF):cB P w K mg base ca "is_order" @Tl 4 (bg 3 1 (ja iV cx kg gF)):=
 ⟨⟨f,fd,F.mg,F.F.kp,F.b,aS (N:=["thing","many","pairs"]) (k:=3) F.F mG λcdv A outer s H G E hr=>
  (ak (eQ (uZ.t (ql (iz (dv rfl (lD "tuple" @A_ rfl rfl B.isinstance rfl B.tuple (@B_) (ag 0)))) (ny (bq (dg hr.units) fu (bF dw lX rfl B.len QW (ag 0)) ar (bh _))) @C_))
  (aB (aY lW))
  cN)
  (ak (aU (i:=1) @SK mG.nd)
  (ak (aU (i:=2) @SK mG.nd)
  (ak (eQ (uZ.t (ql (iz (dv rfl (aJ pP @F_ aV rfl rfl (ae (au 1 rfl) ah)))) (ny (iz (dv rfl (lD "tuple" @A_ rfl rfl B.isinstance rfl B.tuple (@B_) (ag 2))))) @C_))
  (aB (aY lW))
  cN)
  (ak (eQ (iz (dv rfl (bF (sh rfl) qQ rfl B.all (@B_) (cy (NB:=["pair","many"]) (own:=1) (ixs:=[1]) [1] rfl (bZ (@I_)) @C_ (mZ rfl (ag 2)) (λH0 G0 par br bx C ex s3 H3 pn=>(b9 (i:=0) (show (["pair","many"]:@KK).Nodup by decide +kernel))) (λH0 G0 par br bx C ex s3 H3 pn hB1=>eZ) (λH0 G0 par br bx C ex s3 H3 pn hB1=>(aJ kl @F_ qh rfl rfl (ae (au 0 (hB1 0 @A_)) (ae (au 1 (hB1 1 @A_)) ah))))))))
  (aB (aY lW))
  cN)
  (aB (aY (iy (iu (gN hr.units) fu (ag 2) (aJ rR @F_ aV rfl rfl (ae (au 1 rfl) (ae (au 2 rfl) ah))) (bh _)) (ji (yS (aJ nW @F_ aV rfl rfl (ae (au 2 rfl) ah)))) @C_))))))))⟩,@PP ⟩
abbrev iO:Stmt:=top 25
def tS:aG @Tl @Tl (aq iO):=@AC
def rA {f:Addr}{fd:FuncData}{gC:@Fk}(F:i4 K mg "need_order" iO @Tl f fd)(B:jh mg)(nI:cB P w K mg base ca "is_order" @Tl 4 gC)(ke:Exc K mg ca "NoOrder"):cB P w K mg base ca "need_order" @Tl 5 (bg 1 1 (iQ gC)):=
 ⟨⟨f,fd,F.mg,F.F.kp,F.b,aS (N:=@Tl) (k:=4) F.F tS λcdv A outer s H G E hr=>
  (aB (eQ (iz (dv rfl (aJ nI @F_ aV rfl rfl (ae (au 0 rfl) ah))))
  (aB (rj ke.ex ke.ca rfl ke.mg (ae gz ah)))
  cN))⟩,@PP ⟩
abbrev jz:Stmt:=top 26
def wC:aG ["order","a","b"] ["order","a","b"] (aq jz):=@AC
def tV {f:Addr}{fd:FuncData}(F:i4 K mg "are_apart" jz ["order","a","b"] f fd)(B:jh mg):cB P w K mg base ca "are_apart" ["order","a","b"] 1 (bg 3 3 (qf)):=
 ⟨⟨f,fd,F.mg,F.F.kp,F.b,aS (N:=["order","a","b"]) (k:=0) F.F wC λcdv A outer s H G E hr=>
  (aB (aY (iy (iu (dg hr.units) fu (ag 1) (ag 2) (bh _)) (iy (iu (iY hr.u1) vm (bR (ae (au 1 rfl) (ae (au 2 rfl) ah))) @SK @S5) (ji (iu (iY hr.u1) vm (bR (ae (au 2 rfl) (ae (au 1 rfl) ah))) @SK @S5)) @C_) @C_)))⟩,@PP ⟩
abbrev iH:Stmt:=top 28
def tm:aG ["placed","thing"] ["placed","thing"] (aq iH):=@AC
def sF {f:Addr}{fd:FuncData}(F:i4 K mg "with_thing" iH ["placed","thing"] f fd)(B:jh mg):cB P w K mg base ca "with_thing" ["placed","thing"] 1 (bg 2 2 (iG)):=
 ⟨⟨f,fd,F.mg,F.F.kp,F.b,aS (N:=["placed","thing"]) (k:=0) F.F tm λcdv A outer s H G E hr=>
  (aB (aY (bp IB LX (ag 0) (bp Ld Lv ar (ag 1)))))⟩,@PP ⟩
abbrev g8:Stmt:=top 29
def jt:aG ["order","masks","a","b"] ["order"] (aq g8):=@AC
def qx {f:Addr}{fd:FuncData}{aI:@Fk}(F:i4 K mg "masks_ahead" g8 ["order"] f fd)(B:jh mg)(bf:cB P w K mg base ca "with_thing" ["placed","thing"] 1 aI):cB P w K mg base ca "masks_ahead" ["order"] 2 (bg 4 1 (hX aI)):=
 ⟨⟨f,fd,F.mg,F.F.kp,F.b,aS (N:=["order","masks","a","b"]) (k:=1) F.F jt λcdv A outer s H G E hr=>
  (ak (iM (i:=1) (Ks (bI (ae ar ah)) @SK) jt.nd)
  (ak (fM PassesOwn.leaving rfl (EX rfl @SK) (nO (i:=2) (j:=3) jt.nd)
  (aB (HM 1 (λ_=>rfl) (aJ bf @F_ aV rfl rfl (ae (ba aO bK (ag 1) (ag 3) @C_) (ae (au 2 rfl) ah))) (ag 3))))
  (aB (qM 1))))⟩,@PP ⟩
abbrev gX:Stmt:=top 30
def i9:aG ["masks","placed","free","thing","mask"] ["masks","placed"] (aq gX):=@AC
def qu {f:Addr}{fd:FuncData}{aI:@Fk}(F:i4 K mg "free_things" gX ["masks","placed"] f fd)(B:jh mg)(bf:cB P w K mg base ca "with_thing" ["placed","thing"] 1 aI):cB P w K mg base ca "free_things" ["masks","placed"] 2 (bg 5 2 (gZ aI)):=
 ⟨⟨f,fd,F.mg,F.F.kp,F.b,aS (N:=["masks","placed","free","thing","mask"]) (k:=1) F.F i9 λcdv A outer s H G E hr=>
  (ak (iM (i:=2) (bI ah) i9.nd)
  (ak (fM PassesOwn.leaving rfl (yk rfl rfl B.enumerate (au 0 rfl)) (nO (i:=3) (j:=4) i9.nd)
  (aB (eQ (uZ.t (sq (bq (dg hr.units) fu (aJ bf @F_ aV rfl rfl (ae (au 1 rfl) (ae (au 3 rfl) ah))) (ag 1) (bh _)) (oi (bq (gN hr.units) fu (bp Kx L3 (ag 1) (ag 4)) (ag 4) (bh _))) @C_))
  (aB (j5 2 (λ_=>rfl) (au 3 rfl)))
  cN)))
  (aB (qM 2))))⟩,@PP ⟩
abbrev jI:Stmt:=top 31
def dP:aG ["masks","late","row","placed","free","early"] ["masks","late"] (aq jI):=@AC
def tq {f:Addr}{fd:FuncData}{df aI:@Fk}(F:i4 K mg "row_along" jI ["masks","late"] f fd)(B:jh mg)(jP:cB P w K mg base ca "free_things" ["masks","placed"] 2 df)(bf:cB P w K mg base ca "with_thing" ["placed","thing"] 1 aI):cB P w K mg base ca "row_along" ["masks","late"] 3 (bg 6 2 (jM df aI)):=
 ⟨⟨f,fd,F.mg,F.F.kp,F.b,aS (N:=["masks","late","row","placed","free","early"]) (k:=2) F.F dP λcdv A outer s H G E hr=>
  (ak (iM (i:=2) (bI ah) dP.nd)
  (ak (aU (i:=3) ar dP.nd)
  (ak (oA 1000 PassesOwn.leaving (bq DU KW (bF dw lX rfl B.len QW (ag 2)) (bF dw lX rfl B.len QW (ag 0)) (bh _))
  (ak (aU (i:=4) (aJ jP @F_ aV rfl rfl (ae (au 0 rfl) (ae (au 3 rfl) ah))) dP.nd)
  (ak (lj (i:=5) (NB:=["thing","late"]) (own:=1) (ixs:=[1]) [] rfl (bZ (@I_)) @C_ (mZ rfl (ag 4)) (λH0 G0 par br bx C ex s3 H3 pn=>(b9 (i:=0) (show (["thing","late"]:@KK).Nodup by decide +kernel))) (λH0 G0 par br bx C ex s3 H3 pn hB1=>(fj (bq (iY hr.u1) vm (ag 0) (ag 1) @S5))) (λH0 G0 par br bx C ex s3 H3 pn hB1=>(au 0 (hB1 0 @A_))) dP.nd)
  (ak (j5 2 (λ_=>rfl) (ba aO bK (bp gc mz (ag 5) (ag 4)) ar @C_))
  (aB (aU (i:=3) (aJ bf @F_ aV rfl rfl (ae (au 3 rfl) (ae (ba aO bK (ag 2) (xN su yI ar) @C_) ah))) dP.nd))))))
  (aB (aY (fU cD mW rfl B.tuple (@B_) (ag 2)))))))⟩,@PP ⟩
abbrev qW:Stmt:=top 33
def Dg:aG ["order"] ["order"] (aq qW):=@AC
def Cn {f:Addr}{fd:FuncData}{a7 cT bJ:@Fk}(F:i4 K mg "turns" qW ["order"] f fd)(B:jh mg)(bX:cB P w K mg base ca "need_order" @Tl 5 a7)(lB:cB P w K mg base ca "every_pair" ["many"] 1 cT)(fD:cB P w K mg base ca "are_apart" ["order","a","b"] 1 bJ):cB P w K mg base ca "turns" ["order"] 6 (bg 1 1 (qY a7 cT bJ)):=
 ⟨⟨f,fd,F.mg,F.F.kp,F.b,aS (N:=["order"]) (k:=5) F.F Dg λcdv A outer s H G E hr=>
  (ak (o7 (aJ bX @F_ aV rfl rfl (ae (au 0 rfl) ah)))
  (aB (kK (cy (NB:=["a","b","order"]) (own:=2) (ixs:=[0]) [0] rfl (bZ (@I_)) @C_ (mZ rfl (aJ lB @F_ aV rfl rfl (ae @SK ah))) (λH0 G0 par br bx C ex s3 H3 pn=>(nO (i:=0) (j:=1) (show (["a","b","order"]:@KK).Nodup by decide +kernel))) (λH0 G0 par br bx C ex s3 H3 pn hB1=>(fj (dv rfl (aJ fD @F_ qh rfl rfl (ae (au 2 (hB1 2 @A_)) (ae (au 0 (hB1 0 @A_)) (ae (au 1 (hB1 1 @A_)) ah))))))) (λH0 G0 par br bx C ex s3 H3 pn hB1=>(bR (ae (au 0 (hB1 0 @A_)) (ae (au 1 (hB1 1 @A_)) ah))))))))⟩,@PP ⟩
abbrev mS:Stmt:=top 34
def zi:aG ["thing","order"] ["thing","order"] (aq mS):=@AC
def yB {f:Addr}{fd:FuncData}{cx bJ:@Fk}(F:i4 K mg "is_turn" mS ["thing","order"] f fd)(B:jh mg)(kl:cB P w K mg base ca "is_pair" ["thing","many"] 3 cx)(fD:cB P w K mg base ca "are_apart" ["order","a","b"] 1 bJ):cB P w K mg base ca "is_turn" ["thing","order"] 4 (bg 2 2 (mT cx bJ)):=
 ⟨⟨f,fd,F.mg,F.F.kp,F.b,aS (N:=["thing","order"]) (k:=3) F.F zi λcdv A outer s H G E hr=>
  (aB (aY (iy (aJ kl @F_ aV rfl rfl (ae (au 0 rfl) (ae (ba aO bK (ag 1) ar @C_) ah))) (ji (aJ fD @F_ aV rfl rfl (ae (au 1 rfl) (ae @SK (ae @SK ah))))) @C_)))⟩,@PP ⟩
abbrev jA:Stmt:=top 35
def vf:aG ["thing","order"] ["thing","order"] (aq jA):=@AC
def tK {f:Addr}{fd:FuncData}{cO:@Fk}(F:i4 K mg "are_turns" jA ["thing","order"] f fd)(B:jh mg)(iW:cB P w K mg base ca "is_turn" ["thing","order"] 4 cO):cB P w K mg base ca "are_turns" ["thing","order"] 5 (bg 2 2 (jv cO)):=
 ⟨⟨f,fd,F.mg,F.F.kp,F.b,aS (N:=["thing","order"]) (k:=4) F.F vf λcdv A outer s H G E hr=>
  (aB (aY (iy (lD "list" @A_ rfl rfl B.isinstance rfl B.list (@B_) (ag 0)) (ji (bF (sh rfl) qQ rfl B.all (@B_) (cy (NB:=["turn","order"]) (own:=1) (ixs:=[1]) [1] rfl (bZ (@I_)) @C_ (mZ rfl (ag 0)) (λH0 G0 par br bx C ex s3 H3 pn=>(b9 (i:=0) (show (["turn","order"]:@KK).Nodup by decide +kernel))) (λH0 G0 par br bx C ex s3 H3 pn hB1=>eZ) (λH0 G0 par br bx C ex s3 H3 pn hB1=>(aJ iW @F_ qh rfl rfl (ae (au 0 (hB1 0 @A_)) (ae (au 1 (hB1 1 @A_)) ah))))))) @C_)))⟩,@PP ⟩
abbrev kF:Stmt:=top 36
def yh:aG ["order","turn","other"] ["order","turn","other"] (aq kF):=@AC
def vI {f:Addr}{fd:FuncData}(F:i4 K mg "leads_on" kF ["order","turn","other"] f fd)(B:jh mg):cB P w K mg base ca "leads_on" ["order","turn","other"] 1 (bg 3 3 (lh)):=
 ⟨⟨f,fd,F.mg,F.F.kp,F.b,aS (N:=["order","turn","other"]) (k:=0) F.F yh λcdv A outer s H G E hr=>
  (aB (aY (Mz (iu (gN hr.units) fu (ba aO bK (ag 1) ar @C_) (ba aO bK (ag 2) ar @C_) (bh _)) (ji (iu (Ab hr.u1) vm (bR (ae (ba aO bK (ag 1) ar @C_) (ae (ba aO bK (ag 2) ar @C_) ah))) @SK @S5)) @C_)))⟩,@PP ⟩
abbrev kY:Stmt:=top 38
def ya:aG ["masks","a","b"] ["masks","a","b"] (aq kY):=@AC
def vL {f:Addr}{fd:FuncData}{aI:@Fk}(F:i4 K mg "is_ahead" kY ["masks","a","b"] f fd)(B:jh mg)(bf:cB P w K mg base ca "with_thing" ["placed","thing"] 1 aI):cB P w K mg base ca "is_ahead" ["masks","a","b"] 2 (bg 3 3 (kx aI)):=
 ⟨⟨f,fd,F.mg,F.F.kp,F.b,aS (N:=["masks","a","b"]) (k:=1) F.F ya λcdv A outer s H G E hr=>
  (aB (aY (iu (gN hr.units) fu (aJ bf @F_ aV rfl rfl (ae (ba aO bK (ag 0) (ag 2) @C_) (ae (au 1 rfl) ah))) (ba aO bK (ag 0) (ag 2) @C_) (bh _))))⟩,@PP ⟩
abbrev jO:Stmt:=top 39
def vY:aG ["masks","turn"] ["masks","turn"] (aq jO):=@AC
def tu {f:Addr}{fd:FuncData}{cg:@Fk}(F:i4 K mg "is_barred" jO ["masks","turn"] f fd)(B:jh mg)(gJ:cB P w K mg base ca "is_ahead" ["masks","a","b"] 2 cg):cB P w K mg base ca "is_barred" ["masks","turn"] 3 (bg 2 2 (jH cg)):=
 ⟨⟨f,fd,F.mg,F.F.kp,F.b,aS (N:=["masks","turn"]) (k:=2) F.F vY λcdv A outer s H G E hr=>
  (aB (aY (aJ gJ @F_ aV rfl rfl (ae (au 0 rfl) (ae (ba aO bK (ag 1) ar @C_) (ae (ba aO bK (ag 1) ar @C_) ah))))))⟩,@PP ⟩
abbrev lE:Stmt:=top 40
def lU:aG ["masks","turn","late","more"] ["masks","turn"] (aq lE):=@AC
def u4 {f:Addr}{fd:FuncData}{cg aI:@Fk}(F:i4 K mg "put_turn" lE ["masks","turn"] f fd)(B:jh mg)(gJ:cB P w K mg base ca "is_ahead" ["masks","a","b"] 2 cg)(bf:cB P w K mg base ca "with_thing" ["placed","thing"] 1 aI):cB P w K mg base ca "put_turn" ["masks","turn"] 3 (bg 4 2 (kW cg aI)):=
 ⟨⟨f,fd,F.mg,F.F.kp,F.b,aS (N:=["masks","turn","late","more"]) (k:=2) F.F lU λcdv A outer s H G E hr=>
  (ak (aU (i:=2) (SE.wv (cy (NB:=["thing","turn","masks"]) (own:=1) (ixs:=[1,0]) [0] rfl (bZ (@I_)) @C_ (jK rfl B.range (bF dw lX rfl B.len QW (ag 0))) (λH0 G0 par br bx C ex s3 H3 pn=>(b9 (i:=0) (show (["thing","turn","masks"]:@KK).Nodup by decide +kernel))) (λH0 G0 par br bx C ex s3 H3 pn hB1=>(fj (uZ.t (ql (bq (gN hr.units) fu (ag 0) (ba aO bK (ag 1) ar @C_) (bh _)) (ny (dv rfl (aJ gJ @F_ qh rfl rfl (ae (au 2 (hB1 2 @A_)) (ae (ba aO bK (ag 1) ar @C_) (ae (au 0 (hB1 0 @A_)) ah)))))) (λi hi=>hB1 i (by revert i hi;decide)))))) (λH0 G0 par br bx C ex s3 H3 pn hB1=>(au 0 (hB1 0 @A_))))) lU.nd)
  (ak (aU (i:=3) (aJ bf @F_ aV rfl rfl (ae (ba aO bK (ag 0) (ba aO bK (ag 1) ar @C_) @C_) (ae (ba aO bK (ag 1) ar @C_) ah))) lU.nd)
  (aB (kK (cy (NB:=["thing","mask","late","more"]) (own:=2) (ixs:=[2,3]) [] rfl (bZ (@I_)) @C_ (SI.vb (yk rfl rfl B.enumerate (au 0 rfl))) (λH0 G0 par br bx C ex s3 H3 pn=>(nO (i:=0) (j:=1) (show (["thing","mask","late","more"]:@KK).Nodup by decide +kernel))) (λH0 G0 par br bx C ex s3 H3 pn hB2=>eZ) (λH0 G0 par br bx C ex s3 H3 pn hB2=>(MW (bq (Ab hr.u1) vm (ag 0) (ag 2) @S5) (bp IB LX (ag 1) (ag 3)) (au 1 (hB2 1 @A_)) (λi hi=>hB2 i (by revert i hi;decide)))))))))⟩,@PP ⟩
abbrev jB:Stmt:=top 41
def cW:aG ["order","put","turn","paths","left","at","fresh"] ["order","put","turn"] (aq jB):=@AC
def tO {f:Addr}{fd:FuncData}{fo:@Fk}(F:i4 K mg "ring_with" jB ["order","put","turn"] f fd)(B:jh mg)(lg:cB P w K mg base ca "leads_on" ["order","turn","other"] 1 fo):cB P w K mg base ca "ring_with" ["order","put","turn"] 2 (bg 7 3 (jw fo)):=
 ⟨⟨f,fd,F.mg,F.F.kp,F.b,aS (N:=["order","put","turn","paths","left","at","fresh"]) (k:=1) F.F cW λcdv A outer s H G E hr=>
  (ak (iM (i:=3) (bI (ae (SE.wv (bI (ae (au 2 rfl) ah))) ah)) cW.nd)
  (ak (aU (i:=4) (au 1 rfl) cW.nd)
  (ak (aU (i:=5) ar cW.nd)
  (ak (oA 1000 PassesOwn.leaving (iz (dv rfl (aJ lg @F_ aV rfl rfl (ae (au 0 rfl) (ae (ba aO bK (ba aO bK (ag 3) (ag 5) @C_) (xN su yI ar) @C_) (ae (au 2 rfl) ah))))))
  (ak (aU (i:=6) (SE.wv (cy (NB:=["other","order","paths","at"]) (own:=1) (ixs:=[0,3,5]) [0] rfl (bZ (@I_)) @C_ (mZ rfl (ag 4)) (λH0 G0 par br bx C ex s3 H3 pn=>(b9 (i:=0) (show (["other","order","paths","at"]:@KK).Nodup by decide +kernel))) (λH0 G0 par br bx C ex s3 H3 pn hB1=>(fj (dv rfl (aJ lg @F_ qh rfl rfl (ae (au 1 (hB1 1 @A_)) (ae (ba aO bK (ba aO bK (ag 2) (ag 3) @C_) (xN su yI ar) @C_) (ae (au 0 (hB1 0 @A_)) ah))))))) (λH0 G0 par br bx C ex s3 H3 pn hB1=>(au 0 (hB1 0 @A_))))) cW.nd)
  (ak (lj (i:=4) (NB:=["other","fresh"]) (own:=1) (ixs:=[6]) [] rfl (bZ (@I_)) @C_ (mZ rfl (ag 4)) (λH0 G0 par br bx C ex s3 H3 pn=>(b9 (i:=0) (show (["other","fresh"]:@KK).Nodup by decide +kernel))) (λH0 G0 par br bx C ex s3 H3 pn hB2=>(fj (bq (iY hr.u1) vm (ag 0) (ag 1) @S5))) (λH0 G0 par br bx C ex s3 H3 pn hB2=>(au 0 (hB2 0 @A_))) cW.nd)
  (ak (BW 3 (λ_=>rfl) (cy (NB:=["other","paths","at"]) (own:=1) (ixs:=[3,5]) [] rfl (bZ (@I_)) @C_ (mZ rfl (ag 6)) (λH0 G0 par br bx C ex s3 H3 pn=>(b9 (i:=0) (show (["other","paths","at"]:@KK).Nodup by decide +kernel))) (λH0 G0 par br bx C ex s3 H3 pn hB3=>eZ) (λH0 G0 par br bx C ex s3 H3 pn hB3=>(SE.wv (bp gc mz (ba aO bK (ag 1) (ag 2) @C_) (bI (ae (au 0 (hB3 0 @A_)) ah)))))))
  (aB (aU (i:=5) (bp jo jd (ag 5) ar) cW.nd))))))
  (aB (aY (ba aO bK (ag 3) (ag 5) @C_)))))))⟩,@PP ⟩
abbrev kS:Stmt:=top 37
def ik:aG ["order","some","masks","put","turn"] ["order","some"] (aq kS):=@AC
def vJ {f:Addr}{fd:FuncData}{a7 fG cZ fF fE gG fH:@Fk}(F:i4 K mg "together" kS ["order","some"] f fd)(B:jh mg)(bX:cB P w K mg base ca "need_order" @Tl 5 a7)(lT:cB P w K mg base ca "are_turns" ["thing","order"] 5 fG)(jS:cB P w K mg base ca "masks_ahead" ["order"] 2 cZ)(mf:cB P w K mg base ca "is_barred" ["masks","turn"] 3 fF)(mn:cB P w K mg base ca "ring_with" ["order","put","turn"] 2 fE)(nQ:cB P w K mg base ca "put_turn" ["masks","turn"] 3 gG)(lP:cB P w K mg base ca "row_along" ["masks","late"] 3 fH)(de:Exc K mg ca "NoTurns"):cB P w K mg base ca "together" ["order","some"] 6 (bg 5 2 (gu a7 fG cZ fF fE gG fH)):=
 ⟨⟨f,fd,F.mg,F.F.kp,F.b,aS (N:=["order","some","masks","put","turn"]) (k:=5) F.F ik λcdv A outer s H G E hr=>
  (ak (o7 (aJ bX @F_ aV rfl rfl (ae (au 0 rfl) ah)))
  (ak (eQ (iz (dv rfl (aJ lT @F_ aV rfl rfl (ae (au 1 rfl) (ae (au 0 rfl) ah)))))
  (aB (rj de.ex de.ca rfl de.mg (ae gz ah)))
  cN)
  (ak (aU (i:=2) (aJ jS @F_ aV rfl rfl (ae (au 0 rfl) ah)) ik.nd)
  (ak (iM (i:=3) (bI ah) ik.nd)
  (ak (fM PassesOwn.leaving rfl (EX rfl (au 1 rfl)) (b9 (i:=4) ik.nd)
  (ak (eQ (dv rfl (aJ mf @F_ aV rfl rfl (ae (au 2 rfl) (ae (au 4 rfl) ah))))
  (aB (aY (bR (ae gz (ae (aJ mn @F_ aV rfl rfl (ae (au 0 rfl) (ae (au 3 rfl) (ae (au 4 rfl) ah)))) ah)))))
  cN)
  (ak (aU (i:=2) (aJ nQ @F_ aV rfl rfl (ae (au 2 rfl) (ae (au 4 rfl) ah))) ik.nd)
  (aB (j5 3 (λ_=>rfl) (au 4 rfl))))))
  (aB (aY (bR (ae gz (ae (aJ lP @F_ aV rfl rfl (ae (au 2 rfl) (ae (SE.wv (bI ah)) ah))) ah))))))))))⟩,@PP ⟩
abbrev fR:Stmt:=top 45
def cw:aG ["table","many","turn","a","b","seconds","firsts","found"] ["table","many","turn"] (aq fR):=@AC
def pw {f:Addr}{fd:FuncData}(F:i4 K mg "forced_among" fR ["table","many","turn"] f fd)(B:jh mg)(hn:yy K=true):cB P w K mg base ca "forced_among" ["table","many","turn"] 1 (bg 8 3 (gf)):=
 ⟨⟨f,fd,F.mg,F.F.kp,F.b,aS (N:=["table","many","turn","a","b","seconds","firsts","found"]) (k:=0) F.F cw λcdv A outer s H G E hr=>
  (ak (aU (i:=3) (ba aO bK (ag 2) ar @C_) cw.nd)
  (ak (aU (i:=4) (ba aO bK (ag 2) ar @C_) cw.nd)
  (ak (lj (i:=5) (NB:=["c","b","table"]) (own:=1) (ixs:=[4,0]) [4] rfl (bZ (@I_)) @C_ (jK rfl B.range (ag 1)) (λH0 G0 par br bx C ex s3 H3 pn=>(b9 (i:=0) (show (["c","b","table"]:@KK).Nodup by decide +kernel))) (λH0 G0 par br bx C ex s3 H3 pn hB1=>(fj (uZ.t (sq (bq (dg hr.units) fu (ag 0) (ag 1) (bh _)) (oi (bq (ua hr.u1) (Eh hn) (bR (ae (au 1 (hB1 1 @A_)) (ae (au 0 (hB1 0 @A_)) ah))) (ag 2) @S5)) (λi hi=>hB1 i (by revert i hi;decide)))))) (λH0 G0 par br bx C ex s3 H3 pn hB1=>(au 0 (hB1 0 @A_))) cw.nd)
  (ak (lj (i:=6) (NB:=["c","a","table"]) (own:=1) (ixs:=[3,0]) [3] rfl (bZ (@I_)) @C_ (jK rfl B.range (ag 1)) (λH0 G0 par br bx C ex s3 H3 pn=>(b9 (i:=0) (show (["c","a","table"]:@KK).Nodup by decide +kernel))) (λH0 G0 par br bx C ex s3 H3 pn hB2=>(fj (uZ.t (sq (bq (dg hr.units) fu (ag 0) (ag 1) (bh _)) (oi (bq (ua hr.u1) (Eh hn) (bR (ae (au 1 (hB2 1 @A_)) (ae (au 0 (hB2 0 @A_)) ah))) (ag 2) @S5)) (λi hi=>hB2 i (by revert i hi;decide)))))) (λH0 G0 par br bx C ex s3 H3 pn hB2=>(au 0 (hB2 0 @A_))) cw.nd)
  (ak (aU (i:=7) (SE.wv (bp gc mz (cy (NB:=["c","a"]) (own:=1) (ixs:=[3]) [3] rfl (bZ (@I_)) @C_ (mZ rfl (ag 5)) (λH0 G0 par br bx C ex s3 H3 pn=>(b9 (i:=0) (show (["c","a"]:@KK).Nodup by decide +kernel))) (λH0 G0 par br bx C ex s3 H3 pn hB3=>eZ) (λH0 G0 par br bx C ex s3 H3 pn hB3=>(bR (ae (au 1 (hB3 1 @A_)) (ae (au 0 (hB3 0 @A_)) ah))))) (cy (NB:=["c","b"]) (own:=1) (ixs:=[4]) [4] rfl (bZ (@I_)) @C_ (mZ rfl (ag 6)) (λH0 G0 par br bx C ex s3 H3 pn=>(b9 (i:=0) (show (["c","b"]:@KK).Nodup by decide +kernel))) (λH0 G0 par br bx C ex s3 H3 pn hB4=>eZ) (λH0 G0 par br bx C ex s3 H3 pn hB4=>(bR (ae (au 0 (hB4 0 @A_)) (ae (au 1 (hB4 1 @A_)) ah))))))) cw.nd)
  (aB (kK (bF p9 As rfl B.sorted (@B_) (cy (NB:=["other","table"]) (own:=1) (ixs:=[0]) [] rfl (bZ (@I_)) @C_ (mZ rfl (ag 7)) (λH0 G0 par br bx C ex s3 H3 pn=>(b9 (i:=0) (show (["other","table"]:@KK).Nodup by decide +kernel))) (λH0 G0 par br bx C ex s3 H3 pn hB5=>(fj (bq (Kn hr.u1) (Eh hn) (ag 0) (ag 1) @S5))) (λH0 G0 par br bx C ex s3 H3 pn hB5=>(au 0 (hB5 0 @A_))))))))))))⟩,@PP ⟩
abbrev iP:Stmt:=top 44
def tD:aG ["order"] ["order"] (aq iP):=@AC
def sy {f:Addr}{fd:FuncData}{mO:@Fk}(F:i4 K mg "turn_table" iP ["order"] f fd)(B:jh mg)(vD:cB P w K mg base ca "turns" ["order"] 6 mO)(hn:yy K=true):cB P w K mg base ca "turn_table" ["order"] 7 (bg 1 1 (kJ mO)):=
 ⟨⟨f,fd,F.mg,F.F.kp,F.b,aS (N:=["order"]) (k:=6) F.F tD λcdv A outer s H G E hr=>
  (aB (aY (fU (zM rfl hr.u2) (Hg hn) rfl B.dict (@B_) (cy (NB:=["turn"]) (own:=1) (ixs:=[]) [] rfl (bZ (@I_)) @C_ (mZ rfl (aJ vD @F_ aV rfl rfl (ae (au 0 rfl) ah))) (λH0 G0 par br bx C ex s3 H3 pn=>(b9 (i:=0) (show (["turn"]:@KK).Nodup by decide +kernel))) (λH0 G0 par br bx C ex s3 H3 pn hB1=>eZ) (λH0 G0 par br bx C ex s3 H3 pn hB1=>(bR (ae (au 0 (hB1 0 @A_)) (ae lW ah))))))))⟩,@PP ⟩
abbrev nZ:Stmt:=top 43
def CA:aG ["order","turn"] ["order","turn"] (aq nZ):=@AC
def Ag {f:Addr}{fd:FuncData}{a7 cO cM dG:@Fk}(F:i4 K mg "forced" nZ ["order","turn"] f fd)(B:jh mg)(bX:cB P w K mg base ca "need_order" @Tl 5 a7)(iW:cB P w K mg base ca "is_turn" ["thing","order"] 4 cO)(i7:cB P w K mg base ca "forced_among" ["table","many","turn"] 1 cM)(kH:cB P w K mg base ca "turn_table" ["order"] 7 dG)(de:Exc K mg ca "NoTurns"):cB P w K mg base ca "forced" ["order","turn"] 8 (bg 2 2 (j4 a7 cO cM dG)):=
 ⟨⟨f,fd,F.mg,F.F.kp,F.b,aS (N:=["order","turn"]) (k:=7) F.F CA λcdv A outer s H G E hr=>
  (ak (o7 (aJ bX @F_ aV rfl rfl (ae (au 0 rfl) ah)))
  (ak (eQ (iz (dv rfl (aJ iW @F_ aV rfl rfl (ae (au 1 rfl) (ae (au 0 rfl) ah)))))
  (aB (rj de.ex de.ca rfl de.mg (ae gz ah)))
  cN)
  (aB (kK (xZ i7 @F_ aV rfl rfl (ae (aJ kH @F_ aV rfl rfl (ae (au 0 rfl) ah)) (ae @SK (ae (au 1 rfl) ah))))))))⟩,@PP ⟩
abbrev jy:Stmt:=top 47
def wd:aG ["script","k"] ["script","k"] (aq jy):=@AC
def tP {f:Addr}{fd:FuncData}(F:i4 K mg "_law_cell" jy ["script","k"] f fd)(B:jh mg):cB P w K mg base ca "_law_cell" ["script","k"] 1 (bg 2 2 (h9)):=
 ⟨⟨f,fd,F.mg,F.F.kp,F.b,aS (N:=["script","k"]) (k:=0) F.F wd λcdv A outer s H G E hr=>
  (ak (eQ (bq DU KW (ag 1) (bF dw lX rfl B.len QW (ag 0)) (bh _))
  (aB (aY (ba aO bK (ag 0) (ag 1) @C_)))
  cN)
  (aB (aY ar)))⟩,@PP ⟩
abbrev gR:Stmt:=top 48
def jF:aG ["cell","k","some","stir"] ["cell","k"] (aq gR):=@AC
def vK:∃(es:@TH) (p1 p2 p3:Pos),cj gR=.Assign [.Name "some" p1] (.List es p2) p3 :: (cj gR).drop 1/\constsOf es=some [48271,69621,16807,39373,30269,40014,40692,50021,61687,71993,83869,95561,30307]:=⟨_,_,_,_,rfl,@I_ ⟩
def v3 {f:Addr}{fd:FuncData}(F:i4 K mg "_law_mix" gR ["cell","k"] f fd)(B:jh mg):cB P w K mg base ca "_law_mix" ["cell","k"] 1 (bg 4 2 (kE)):=by
 obtain⟨es,p1,p2,p3,hb,hes⟩:=vK
 refine⟨⟨f,fd,F.mg,F.F.kp,F.b,aS (N:=["cell","k","some","stir"]) (k:=0) F.F jF λcdv A outer s H G E hr=>?_⟩,@PP ⟩
 rw[hb]
 exact (ak (aU (i:=2) (SE.wv (bI (uV hes))) jF.nd) (ak (aU (i:=3) (bp jo jd (bp jo jd (bp jT kR (bp jo jd (bp nH uT (ag 0) ar) ar) (ba aO bK (ag 2) (bp nH uT (ag 1) ar) @C_)) (bp jT kR ar (ag 1))) (bp jT kR ar (bp oQ Hx (ag 1) ar))) jF.nd)
  (ak (aU (i:=3) (bp nH uT (ag 3) ar) jF.nd)
  (aB (aY (bp oQ Hx (bp nH uT (bp jo jd (bp jT kR (ag 3) (ag 3)) (bp jT kR ar (ag 1))) ar) ar))))))
abbrev kQ:Stmt:=top 49
def il:aG ["script","k","cell","number","j"] ["script","k"] (aq kQ):=@AC
def vW {f:Addr}{fd:FuncData}{fJ gM:@Fk}(F:i4 K mg "_law_box" kQ ["script","k"] f fd)(B:jh mg)(lR:cB P w K mg base ca "_law_cell" ["script","k"] 1 fJ)(nM:cB P w K mg base ca "_law_mix" ["cell","k"] 1 gM):cB P w K mg base ca "_law_box" ["script","k"] 2 (bg 5 2 (kA fJ gM)):=
 ⟨⟨f,fd,F.mg,F.F.kp,F.b,aS (N:=["script","k","cell","number","j"]) (k:=1) F.F il λcdv A outer s H G E hr=>
  (ak (aU (i:=2) (aJ lR @F_ aV rfl rfl (ae (au 0 rfl) (ae (au 1 rfl) ah))) il.nd)
  (ak (eQ (bq (gN hr.units) fu (bp nH uT (ag 2) ar) ar (bh _))
  (aB (kK (bI (ae (bp oQ Hx (bF Ep LG rfl B.abs (@B_) (ag 2)) ar) ah))))
  cN)
  (ak (aU (i:=3) ar il.nd)
  (ak (fM PassesOwn.leaving rfl (jK rfl B.range ar) (b9 (i:=4) il.nd)
  (aB (aU (i:=3) (bp jo jd (bp jT kR (ag 3) ar) (aJ nM @F_ aV rfl rfl (ae (au 2 rfl) (ae (au 4 rfl) ah)))) il.nd)))
  (aB (kK (bI (ae (au 3 rfl) ah))))))))⟩,@PP ⟩
abbrev jx:Stmt:=top 50
def pd:aG ["box","many","left","digit"] ["box","many"] (aq jx):=@AC
def tW {f:Addr}{fd:FuncData}(F:i4 K mg "_law_take" jx ["box","many"] f fd)(B:jh mg):kL P w K mg base "_law_take" ["box","many"] 1 b4:=by
 refine⟨⟨f,fd,F.mg,F.F.kp,F.b,?_⟩,λds β h=>?_⟩
 ·refine F.F.Dd pd (λvs H Q E h=>?_) (λcdv A outer s H vs Q E hr h=>?_)
  ·obtain⟨b,rest,G,ds,β,rfl,hb,gb,sG,hl,r,_⟩:=h
   rw[P7,r.len,hl];rfl
  ·obtain⟨b,rest,G,ds,β,rfl,hb,gb,sG,hl,r,h⟩:=h
   obtain⟨m,rfl,h0,h1⟩:=An (λz=>by rw[z] at h;exact h)
   rw[wg h0 h1] at h
   have kk:∀v G' H',i3 (some b) H H'->H' b=some (.lst [.int (β / m)])->av G G'->av G' H'->(∀c,Mx H c->G c=none->G' c=none)->FV K H G' H' false (.int (β % m)) v->Q v H':=h
   cases r with
   |cons r1 r2=>
    cases r1
    cases r2
    refine⟨_,cL (rT (bB x9 rfl B.divmod (@B_) (ax (lV hW (pv 0) ra @C_) (ax (pv 1) aR))) (Hf (i:=2) (j:=3) pd.nd rfl rfl rfl rfl rfl))
     (cL (rT (pv 2) (wm (pv 0) ra set_list)) (fg (jY (pv 3)))),?_⟩
    refine⟨_,rfl,b,_,0,.int β,rfl,rfl,.inl (.inl hb),rfl,_,rfl,β,m,rfl,⟨h0,h1⟩,λp hp=>⟨p,_,rfl,.inl (.inl aw),rfl,_,_,rfl,_,_,rfl,rfl,?_⟩⟩
    have hbp:b≠p:=aL hb hp
    exact⟨_,rfl,_,rfl,b,[.int β],0,0,rfl,rfl,by rw[aC hbp];exact hb,rfl,_,rfl,Fi hb sG hp kk gb⟩
 ·obtain⟨m,rfl,_⟩:=An h
  rfl
abbrev iJ:Stmt:=top 51
def sY:aG @Tl @Tl (aq iJ):=@AC
def rb {f:Addr}{fd:FuncData}(F:i4 K mg "_law_whole" iJ @Tl f fd)(B:jh mg):cB P w K mg base ca "_law_whole" @Tl 1 (bg 1 1 (pj)):=
 ⟨⟨f,fd,F.mg,F.F.kp,F.b,aS (N:=@Tl) (k:=0) F.F sY λcdv A outer s H G E hr=>
  (aB (aY (iy (lD "int" @A_ rfl rfl B.isinstance rfl B.int (@B_) (ag 0)) (ji (yS (lD "bool" @A_ rfl rfl B.isinstance rfl B.bool (@B_) (ag 0)))) @C_)))⟩,@PP ⟩
abbrev lr:Stmt:=top 52
def l8:aG ["box","some"] ["box"] (aq lr):=@AC
def wx {f:Addr}{fd:FuncData}{aH:@SN}(F:i4 K mg "_law_odd" lr ["box"] f fd)(B:jh mg)(aZ:kL P w K mg base "_law_take" ["box","many"] 1 aH):kL P w K mg base "_law_odd" ["box"] 2 (o9 2 0 (la aH)):=
 ⟨⟨f,fd,F.mg,F.F.kp,F.b,mj (ca:=λ_=>0) (N:=["box","some"]) (k:=1) F.F l8 @A_ λcdv A outer s H G b E hr=>
  (@ak _ _ _ _ _ _ _ (@IE _ _ _ 1 _ _ @TZ ([] ++ ([] ++ ([] ++ ([] ++ ([] ++ ([] ++ ([] ++ ([] ++ ([] ++ ([] ++ (@Ev ++ (@TY ++ (@Ev ++ []))))))))))))) _ _ _ [] (@I_) (λ_=>rfl) (@I_) l8.nd rfl (by first |exact @TM |exact Or.inr rfl) (by first |exact .inl rfl |exact .inr rfl))
  (ak (aU (i:=1) (SE.wv (bp gc mz (ag 1) (@Iv _ _ _ _ (aa (cst (.dict [(.str "a",.int 1)])) (aa (aQ (aa @Cl (aa @EQ af))) (aa (f2 (cst (.int 10)) (cst (.int 39)) Dp) (aa (aQ (aa (aQ (aa @Cl (aa @EQ af))) af)) (aa (cst (.str "a")) af))))) ([] ++ (@TY ++ ([] ++ ((@TY ++ []) ++ @Ev)))) _ [] (@I_) (λ_=>rfl) (@I_)))) l8.nd)
  (aB (aY (ba aO bK (ag 1) (jc 0 aZ @F_ aV rfl rfl (ae ar ah)) @C_)))))⟩,λds β h=>mi ds β h⟩
abbrev eY:Stmt:=top 53
def gP:aG ["box","some","left","found"] ["box","some"] (aq eY):=@AC
def oV {f:Addr}{fd:FuncData}{aH:@SN}(F:i4 K mg "_law_mixed_up" eY ["box","some"] f fd)(B:jh mg)(aZ:kL P w K mg base "_law_take" ["box","many"] 1 aH):kL P w K mg base "_law_mixed_up" ["box","some"] 2 (o9 4 1 (eV aH)):=
 ⟨⟨f,fd,F.mg,F.F.kp,F.b,mj (ca:=λ_=>0) (N:=["box","some","left","found"]) (k:=1) F.F gP @A_ λcdv A outer s H G b E hr=>
  (ak (iM (i:=2) (fU oZ D7 rfl B.list (@B_) (ag 1)) gP.nd)
  (ak (iM (i:=3) (bI ah) gP.nd)
  (ak (oA 1000 PassesOwn.leaving (bq (dg hr.units) fu (ag 2) (bI ah) (bh _))
  (aB (CG 3 2 (λ_=>rfl) (jc 0 aZ @F_ aV rfl rfl (ae (bF dw lX rfl B.len QW (ag 2)) ah)))))
  (aB (qM 3)))))⟩,λds β h=>mi ds β h⟩
abbrev g7:Stmt:=top 54
def bH:aG ["pairs","found","size","more","a","b"] ["pairs"] (aq g7):=@AC
def qG {f:Addr}{fd:FuncData}(F:i4 K mg "_law_closed" g7 ["pairs"] f fd)(B:jh mg):cB P w K mg base ca "_law_closed" ["pairs"] 1 (bg 6 1 (gY)):=
 ⟨⟨f,fd,F.mg,F.F.kp,F.b,aS (N:=["pairs","found","size","more","a","b"]) (k:=0) F.F bH λcdv A outer s H G E hr=>
  (ak (aU (i:=1) (SE.wv (sM rfl hr.units rfl rfl B.sorted rfl B.set (ag 0))) bH.nd)
  (ak (aU (i:=2) (xN su yI ar) bH.nd)
  (ak (oA 1000 PassesOwn.leaving (bq (dg hr.units) fu (ag 2) (bF dw lX rfl B.len QW (ag 1)) (bh _))
  (ak (aU (i:=2) (bF dw lX rfl B.len QW (ag 1)) bH.nd)
  (ak (aU (i:=3) (SE.wv (bI ah)) bH.nd)
  (ak (fM PassesOwn.leaving rfl (EX rfl (au 1 rfl)) (nO (i:=4) (j:=5) bH.nd)
  (aB (aU (i:=3) (SE.wv (bp gc mz (ag 3) (cy (NB:=["c","d","b","a"]) (own:=2) (ixs:=[5,4]) [4] rfl (bZ (@I_)) @C_ (mZ rfl (ag 1)) (λH0 G0 par br bx C ex s3 H3 pn=>(nO (i:=0) (j:=1) (show (["c","d","b","a"]:@KK).Nodup by decide +kernel))) (λH0 G0 par br bx C ex s3 H3 pn hB1=>(fj (bq (gN hr.units) fu (ag 0) (ag 2) (bh _)))) (λH0 G0 par br bx C ex s3 H3 pn hB1=>(bR (ae (au 3 (hB1 3 @A_)) (ae (au 1 (hB1 1 @A_)) ah))))))) bH.nd)))
  (aB (aU (i:=1) (SE.wv (sM rfl hr.units rfl rfl B.sorted rfl B.set (bp gc mz (ag 1) (ag 3)))) bH.nd))))))
  (aB (aY (fU cD mW rfl B.tuple (@B_) (ag 1)))))))⟩,@PP ⟩
abbrev iU:Stmt:=top 55
def cE:aG ["box","most","many","names","thin","pairs","i","j"] ["box","most"] (aq iU):=@AC
def rh {f:Addr}{fd:FuncData}{dc:@Fk}{aH aN:@SN}(F:i4 K mg "_law_order" iU ["box","most"] f fd)(B:jh mg)(jV:cB P w K mg base ca "_law_closed" ["pairs"] 1 dc)(aZ:kL P w K mg base "_law_take" ["box","many"] 1 aH)(bz:kL P w K mg base "_law_mixed_up" ["box","some"] 2 aN):kL P w K mg base "_law_order" ["box","most"] 3 (o9 8 1 (iF dc aH aN)):=
 ⟨⟨f,fd,F.mg,F.F.kp,F.b,mj (ca:=ca) (N:=["box","most","many","names","thin","pairs","i","j"]) (k:=2) F.F cE @A_ λcdv A outer s H G b E hr=>
  (ak (aU (i:=2) (bp jo jd ar (jc 0 aZ @F_ aV rfl rfl (ae (au 1 rfl) ah))) cE.nd)
  (ak (aU (i:=3) (jc 0 bz @F_ aV rfl rfl (ae (SE.wv (nF rfl rfl B.list rfl B.range (ag 2))) ah)) cE.nd)
  (ak (aU (i:=4) (ba aO bK (bI (ae ar (ae ar (ae ar (ae ar ah))))) (jc 0 aZ @F_ aV rfl rfl (ae ar ah)) @C_) cE.nd)
  (ak (iM (i:=5) (bI ah) cE.nd)
  (ak (fM PassesOwn.leaving rfl (jK rfl B.range (ag 2)) (b9 (i:=6) cE.nd)
  (aB (fM PassesOwn.leaving rfl (Mf rfl B.range (bp jo jd (ag 6) ar) (ag 2)) (b9 (i:=7) cE.nd)
  (aB (eQ (bq (gN hr.units) fu (jc 0 aZ @F_ aV rfl rfl (ae (au 4 rfl) ah)) ar (bh _))
  (aB (j5 5 (λ_=>rfl) (bR (ae (ba aO bK (ag 3) (ag 6) @C_) (ae (ba aO bK (ag 3) (ag 7) @C_) ah)))))
  cN)))))
  (aB (aY (bR (ae (au 2 rfl) (ae (aJ jV @F_ aV rfl rfl (ae (au 5 rfl) ah)) ah))))))))))⟩,λds β h=>mi ds β h⟩
abbrev iR:Stmt:=top 56
def tY:aG ["order","a","b"] ["order","a","b"] (aq iR):=@AC
def r6 {f:Addr}{fd:FuncData}(F:i4 K mg "_law_apart" iR ["order","a","b"] f fd)(B:jh mg):cB P w K mg base ca "_law_apart" ["order","a","b"] 1 (bg 3 3 (oj)):=
 ⟨⟨f,fd,F.mg,F.F.kp,F.b,aS (N:=["order","a","b"]) (k:=0) F.F tY λcdv A outer s H G E hr=>
  (aB (aY (iy (iu (dg hr.units) fu (ag 1) (ag 2) (bh _)) (iy (iu (iY hr.u1) vm (bR (ae (au 1 rfl) (ae (au 2 rfl) ah))) @SK @S5) (ji (iu (iY hr.u1) vm (bR (ae (au 2 rfl) (ae (au 1 rfl) ah))) @SK @S5)) @C_) @C_)))⟩,@PP ⟩
abbrev iK:Stmt:=top 57
def hV:aG ["order","found","a"] ["order"] (aq iK):=@AC
def rB {f:Addr}{fd:FuncData}{dJ:@Fk}(F:i4 K mg "_law_turns" iK ["order"] f fd)(B:jh mg)(lu:cB P w K mg base ca "_law_apart" ["order","a","b"] 1 dJ):cB P w K mg base ca "_law_turns" ["order"] 2 (bg 3 1 (iL dJ)):=
 ⟨⟨f,fd,F.mg,F.F.kp,F.b,aS (N:=["order","found","a"]) (k:=1) F.F hV λcdv A outer s H G E hr=>
  (ak (aU (i:=1) (SE.wv (bI ah)) hV.nd)
  (ak (fM PassesOwn.leaving rfl (jK rfl B.range @SK) (b9 (i:=2) hV.nd)
  (aB (aU (i:=1) (SE.wv (bp gc mz (ag 1) (cy (NB:=["b","order","a"]) (own:=1) (ixs:=[0,2]) [0,2] rfl (bZ (@I_)) @C_ (jK rfl B.range @SK) (λH0 G0 par br bx C ex s3 H3 pn=>(b9 (i:=0) (show (["b","order","a"]:@KK).Nodup by decide +kernel))) (λH0 G0 par br bx C ex s3 H3 pn hB1=>(fj (dv rfl (aJ lu @F_ qh rfl rfl (ae (au 1 (hB1 1 @A_)) (ae (au 2 (hB1 2 @A_)) (ae (au 0 (hB1 0 @A_)) ah))))))) (λH0 G0 par br bx C ex s3 H3 pn hB1=>(bR (ae (au 2 (hB1 2 @A_)) (ae (au 0 (hB1 0 @A_)) ah))))))) hV.nd)))
  (aB (qM 1))))⟩,@PP ⟩
abbrev jC:Stmt:=top 58
def fP:aG ["many","rows","found","a","b","left"] ["many","rows"] (aq jC):=@AC
def tL {f:Addr}{fd:FuncData}(F:i4 K mg "_law_told" jC ["many","rows"] f fd)(B:jh mg):cB P w K mg base ca "_law_told" ["many","rows"] 1 (bg 6 2 (hU)):=
 ⟨⟨f,fd,F.mg,F.F.kp,F.b,aS (N:=["many","rows","found","a","b","left"]) (k:=0) F.F fP λcdv A outer s H G E hr=>
  (ak (iM (i:=2) (bI ah) fP.nd)
  (ak (fM PassesOwn.leaving rfl (jK rfl B.range (ag 0)) (b9 (i:=3) fP.nd)
  (aB (fM PassesOwn.leaving rfl (jK rfl B.range (ag 0)) (b9 (i:=4) fP.nd)
  (ak (lj (i:=5) (NB:=["one","a","b"]) (own:=1) (ixs:=[3,4]) [] rfl (bZ (@I_)) @C_ (mZ rfl (ag 1)) (λH0 G0 par br bx C ex s3 H3 pn=>(b9 (i:=0) (show (["one","a","b"]:@KK).Nodup by decide +kernel))) (λH0 G0 par br bx C ex s3 H3 pn hB1=>(fj (bq L9 OO (xm rfl (ag 0) (ag 1)) (xm rfl (ag 0) (ag 2)) (bh _)))) (λH0 G0 par br bx C ex s3 H3 pn hB1=>ar) fP.nd)
  (aB (eQ (uZ.t (sq (bq (dg hr.units) fu (ag 3) (ag 4) (bh _)) (oi (bq (gN hr.units) fu (ag 5) (bI ah) (bh _))) @C_))
  (aB (j5 2 (λ_=>rfl) (bR (ae (au 3 rfl) (ae (au 4 rfl) ah)))))
  cN))))))
  (aB (aY (fU cD mW rfl B.tuple (@B_) (ag 2))))))⟩,@PP ⟩
abbrev fZ:Stmt:=top 60
def qy:aG ["order","thing"] ["order","thing"] (aq fZ):=@AC
def pH {f:Addr}{fd:FuncData}{dI bA:@Fk}(F:i4 K mg "_law_is_turn" fZ ["order","thing"] f fd)(B:jh mg)(kO:cB P w K mg base ca "_law_whole" @Tl 1 dI)(dR:cB P w K mg base ca "_law_turns" ["order"] 2 bA):cB P w K mg base ca "_law_is_turn" ["order","thing"] 3 (bg 2 2 (fO dI bA)):=
 ⟨⟨f,fd,F.mg,F.F.kp,F.b,aS (N:=["order","thing"]) (k:=2) F.F qy λcdv A outer s H G E hr=>
  (ak (eQ (uZ.t (ql (iz (dv rfl (lD "tuple" @A_ rfl rfl B.isinstance rfl B.tuple (@B_) (ag 1)))) (ql (bq (dg hr.units) fu (bF dw lX rfl B.len QW (ag 1)) ar (bh _)) (ny (iz (dv rfl (bF (sh rfl) qQ rfl B.all (@B_) (cy (NB:=["one"]) (own:=1) (ixs:=[]) [] rfl (bZ (@I_)) @C_ (mZ rfl (ag 1)) (λH0 G0 par br bx C ex s3 H3 pn=>(b9 (i:=0) (show (["one"]:@KK).Nodup by decide +kernel))) (λH0 G0 par br bx C ex s3 H3 pn hB1=>eZ) (λH0 G0 par br bx C ex s3 H3 pn hB1=>(aJ kO @F_ qh rfl rfl (ae (au 0 (hB1 0 @A_)) ah)))))))) @C_) @C_))
  (aB (aY lW))
  cN)
  (aB (aY (iu (Ab hr.u1) vm (ag 1) (aJ dR @F_ aV rfl rfl (ae (au 0 rfl) ah)) @S5))))⟩,@PP ⟩
abbrev iN:Stmt:=top 61
def cF:aG ["box","many","names","pairs","i","others"] ["box"] (aq iN):=@AC
def rZ {f:Addr}{fd:FuncData}{aH aN:@SN}(F:i4 K mg "_law_crown" iN ["box"] f fd)(B:jh mg)(aZ:kL P w K mg base "_law_take" ["box","many"] 1 aH)(bz:kL P w K mg base "_law_mixed_up" ["box","some"] 2 aN):kL P w K mg base "_law_crown" ["box"] 3 (o9 6 0 (iS aH aN)):=
 ⟨⟨f,fd,F.mg,F.F.kp,F.b,mj (ca:=λ_=>0) (N:=["box","many","names","pairs","i","others"]) (k:=2) F.F cF @A_ λcdv A outer s H G b E hr=>
  (ak (aU (i:=1) (bp jo jd ar (jc 0 aZ @F_ aV rfl rfl (ae ar ah))) cF.nd)
  (ak (aU (i:=2) (jc 0 bz @F_ aV rfl rfl (ae (SE.wv (nF rfl rfl B.list rfl B.range (bp jT kR ar (ag 1)))) ah)) cF.nd)
  (ak (aU (i:=3) (SE.wv (bI ah)) cF.nd)
  (ak (fM PassesOwn.leaving rfl (jK rfl B.range (ag 1)) (b9 (i:=4) cF.nd)
  (ak (lj (i:=5) (NB:=["j","i","names","many"]) (own:=1) (ixs:=[4,2,1]) [] rfl (bZ (@I_)) @C_ (jK rfl B.range (ag 1)) (λH0 G0 par br bx C ex s3 H3 pn=>(b9 (i:=0) (show (["j","i","names","many"]:@KK).Nodup by decide +kernel))) (λH0 G0 par br bx C ex s3 H3 pn hB1=>(fj (bq (dg hr.units) fu (ag 0) (ag 1) (bh _)))) (λH0 G0 par br bx C ex s3 H3 pn hB1=>(ba aO bK (ag 2) (bp jo jd (ag 3) (ag 0)) @C_)) cF.nd)
  (aB (aU (i:=3) (SE.wv (bp gc mz (ag 3) (cy (NB:=["other","names","i"]) (own:=1) (ixs:=[2,4]) [] rfl (bZ (@I_)) @C_ (mZ rfl (ag 5)) (λH0 G0 par br bx C ex s3 H3 pn=>(b9 (i:=0) (show (["other","names","i"]:@KK).Nodup by decide +kernel))) (λH0 G0 par br bx C ex s3 H3 pn hB2=>eZ) (λH0 G0 par br bx C ex s3 H3 pn hB2=>(bR (ae (ba aO bK (ag 1) (ag 2) @C_) (ae (au 0 (hB2 0 @A_)) ah))))))) cF.nd))))
  (aB (aY (bR (ae (bp jT kR ar (ag 1)) (ae (fU cD mW rfl B.tuple (@B_) (bF p9 As rfl B.sorted (@B_) (ag 3))) ah)))))))))⟩,λds β h=>mi ds β h⟩
abbrev dM:Stmt:=top 62
def dq:aG ["box","most","kind","many","rows"] ["box","most"] (aq dM):=@AC
def nN {f:Addr}{fd:FuncData}{fI:@Fk}{aH dO aN dN:@SN}(F:i4 K mg "_law_any_order" dM ["box","most"] f fd)(B:jh mg)(mw:cB P w K mg base ca "_law_told" ["many","rows"] 1 fI)(aZ:kL P w K mg base "_law_take" ["box","many"] 1 aH)(ly:kL P w K mg base "_law_crown" ["box"] 3 dO)(bz:kL P w K mg base "_law_mixed_up" ["box","some"] 2 aN)(kz:kL P w K mg base "_law_order" ["box","most"] 3 dN):kL P w K mg base "_law_any_order" ["box","most"] 4 (o9 5 1 (dQ fI aH dO aN dN)):=
 ⟨⟨f,fd,F.mg,F.F.kp,F.b,mj (ca:=ca) (N:=["box","most","kind","many","rows"]) (k:=3) F.F dq @A_ λcdv A outer s H G b E hr=>
  (ak (aU (i:=2) (jc 0 aZ @F_ aV rfl rfl (ae ar ah)) dq.nd)
  (ak (eQ (bq (gN hr.units) fu (ag 2) ar (bh _))
  (aB (aY (jc 0 ly @F_ aV rfl rfl ah)))
  cN)
  (ak (eQ (bq (gN hr.units) fu (ag 2) ar (bh _))
  (ak (aU (i:=3) (bp jo jd ar (jc 0 aZ @F_ aV rfl rfl (ae (au 1 rfl) ah))) dq.nd)
  (ak (lj (i:=4) (NB:=["side","box","many"]) (own:=1) (ixs:=[0,3]) [] rfl (bZ (@I_)) @C_ (jK rfl B.range ar) (λH0 G0 par br bx C ex s3 H3 pn=>(b9 (i:=0) (show (["side","box","many"]:@KK).Nodup by decide +kernel))) (λH0 G0 par br bx C ex s3 H3 pn hB1=>eZ) (λH0 G0 par br bx C ex s3 H3 pn hB1=>(fU cD mW rfl B.tuple (@B_) (jc 1 bz @F_ qh rfl rfl (ae (SE.wv (nF rfl rfl B.list rfl B.range (ag 2))) ah)))) dq.nd)
  (aB (aY (bR (ae (au 3 rfl) (ae (aJ mw @F_ aV rfl rfl (ae (au 3 rfl) (ae (au 4 rfl) ah))) ah)))))))
  cN)
  (aB (aY (jc 0 kz @F_ aV rfl rfl (ae (au 1 rfl) ah)))))))⟩,λds β h=>mi ds β h⟩
abbrev jD:Stmt:=top 63
def pe:aG ["kind","order","thing","e"] ["kind","order","thing"] (aq jD):=@AC
def tH {f:Addr}{fd:FuncData}{marks:Str->Option Str}{gW kh:@Fk}(F:i4 K mg "_law_said" jD ["kind","order","thing"] f fd)(B:jh mg)(nS:cB P w K mg base ca "together" ["order","some"] 6 gW)(so:cB P w K mg base ca "forced" ["order","turn"] 8 kh)(MK:G7 P w K mg base ca "RankError" "_law_marks" marks):cB P w K mg base ca "_law_said" ["kind","order","thing"] 9 (bg 4 3 (qm marks gW kh)):=
 ⟨⟨f,fd,F.mg,F.F.kp,F.b,aS (N:=["kind","order","thing","e"]) (k:=8) F.F pe λcdv A outer s H G E hr=>
  (ak (HE (i:=3) MK hr (λEb Ex pn H G hpT=>
  (aB (eQ (bq (gN hr.units) fu (ag 0) ar (bh _))
  (aB (o7 (aJ nS @F_ hpT rfl rfl (ae (au 1 rfl) (ae (au 2 rfl) ah)))))
  (aB (o7 (aJ so @F_ hpT rfl rfl (ae (au 1 rfl) (ae (au 2 rfl) ah))))))))
  pe.nd)
  (aB (aY gz)))⟩,@PP ⟩
abbrev ni:Stmt:=top 64
def jQ:aG ["script","k","box","order","some","many","bad","thing"] ["script"] (aq ni):=@AC
def Gz {f:Addr}{fd:FuncData}{gS bA cP b6:@Fk}{b7 gA:@SN}(F:i4 K mg "law" ni ["script"] f fd)(B:jh mg)(nv:cB P w K mg base ca "_law_box" ["script","k"] 2 gS)(dR:cB P w K mg base ca "_law_turns" ["order"] 2 bA)(jb:cB P w K mg base ca "_law_is_turn" ["order","thing"] 3 cP)(dA:cB P w K mg base ca "_law_said" ["kind","order","thing"] 9 b6)(gx:kL P w K mg base "_law_any_order" ["box","most"] 4 b7)(nY:kL P w K mg base "_law_odd" ["box"] 2 gA):ie P w K mg base (o5 P w) 10 f fd ["script"] (FY K ca 1 (bg 8 1 (Be gS bA cP b6 b7 gA))):=
 aS (N:=["script","k","box","order","some","many","bad","thing"]) (k:=9) F.F jQ λcdv A outer s H G E hr=>
  (ak (fM PassesOwn.leaving rfl (jK rfl B.range (yx (BR rfl) Jm rfl B.max (@B_) ar (yx (BG rfl) Jt rfl B.min (@B_) (bF dw lX rfl B.len QW (ag 0)) ar))) (b9 (i:=1) jQ.nd)
  (ak (Hj (i:=2) rfl (xZ nv @F_ aV rfl rfl (ae (au 0 rfl) (ae (au 1 rfl) ah))) jQ.nd)
  (ak (aU (i:=3) (jc 2 gx @F_ aV rfl rfl (ae ar ah)) jQ.nd)
  (ak (aU (i:=4) (aJ dR @F_ aV rfl rfl (ae (au 3 rfl) ah)) jQ.nd)
  (ak (aU (i:=5) (ba aO bK (ag 3) ar @C_) jQ.nd)
  (@ak _ _ _ _ _ _ _ (@IE _ _ _ 6 _ _ @No (@TY ++ (([] ++ ([5] ++ [])) ++ (@TY ++ (@Ev ++ (@TY ++ (([] ++ @TY) ++ ([] ++ ([] ++ (@TY ++ (@TY ++ ((@TY ++ []) ++ []))))))))))) _ _ _ [("many",5)] (@I_) (λ_=>rfl) (@I_) jQ.nd rfl (by first |exact @TM |exact Or.inr rfl) (by first |exact .inl rfl |exact .inr rfl))
  (ak (aU (i:=6) (SE.wv (bp gc mz (bp gc mz (ag 6) (fU oZ D7 rfl B.list (@B_) (BM rfl (ba aO bK (ag 3) ar @C_) AO (Bz ar)))) (bI (ae (jc 2 nY @F_ aV rfl rfl ah) (ae (bR (ae (au 5 rfl) (ae (au 5 rfl) ah))) ah))))) jQ.nd)
  (ak (fM PassesOwn.leaving rfl (EX rfl (au 6 rfl)) (b9 (i:=7) jQ.nd)
  (aB (eQ (iz (dv rfl (aJ jb @F_ aV rfl rfl (ae (au 3 rfl) (ae (au 7 rfl) ah)))))
  (aB (eQ (uZ.t (ql (bq (dg hr.units) fu (aJ dA @F_ aV rfl rfl (ae ar (ae (au 3 rfl) (ae (au 7 rfl) ah)))) gz (bh _)) (ny (bq (dg hr.units) fu (aJ dA @F_ aV rfl rfl (ae ar (ae (au 3 rfl) (ae (SE.wv (bp gc mz (DY rfl (ag 4) AO (Bz ar)) (bI (ae (au 7 rfl) ah)))) ah)))) gz (bh _))) @C_))
  (aB (aY lW))
  cN))
  cN)))
  (ak (fM PassesOwn.leaving rfl (EX rfl (SE.wv (bI (ae (fU cD mW rfl B.tuple (@B_) (ag 4)) (ae DL (ae (bR (ae ar (ae ar ah))) (ae gz (ae Hi ah)))))))) (b9 (i:=7) jQ.nd)
  (aB (eQ (bq (dg hr.units) fu (aJ dA @F_ aV rfl rfl (ae ar (ae (au 3 rfl) (ae (au 7 rfl) ah)))) gz (bh _))
  (aB (aY lW))
  cN)))
  (aB (eQ (uZ.t (ql (bq (dg hr.units) fu (aJ dA @F_ aV rfl rfl (ae ar (ae (au 3 rfl) (ae (au 4 rfl) ah)))) gz (bh _)) (ny (uZ.t (sq (bq (dg hr.units) fu (ag 4) (bI ah) (bh _)) (oi (bq (dg hr.units) fu (aJ dA @F_ aV rfl rfl (ae ar (ae (au 3 rfl) (ae (ba aO bK (ag 4) ar @C_) ah)))) gz (bh _))) @C_))) @C_))
  (aB (aY lW))
  cN)))))))))))
  (aB (aY lW)))
end
end RQ
namespace RM
open PySem L2
theorem ze {t u:VF Bool}{vs:List Nv}{β:Int}{a b:Bool}(h:t vs β=.ok a β)(h':u vs β=.ok b β):yN t u vs β=.ok (a && b) β:=by
 rw[DZ,h];dsimp only[R.bnd]
 cases a with
 |true=>rw[Po rfl,h'];rfl
 |false=>rfl
theorem GB {t u:VF Bool}{vs:List Nv}{β:Int}{a b:Bool}(h:t vs β=.ok a β)(h':u vs β=.ok b β):nu t u vs β=.ok (a || b) β:=by
 rw[qS,h];dsimp only[R.bnd]
 cases a with
 |true=>rfl
 |false=>rw[Px PR,h'];rfl
def eG {t:VF Bool}{vs:List Nv}{β:Int}{a:Bool}(h:t vs β=.ok a β):uv t vs β=.ok (!a) β:=by rw[wt,h];rfl
def Jq (n:Nat):(eB n).Pairwise (· < ·):=by
 unfold eB
 rw[Qv]
 exact List.pairwise_lt_range.imp λ{a b} h=>@AT
def upTo (n:Nat)(f:Pr->Bool)(i k:Nat):@Do:=(OM.cn n).filter λp=>(decide (p.1 < i) || (decide (p.1=i) && decide (p.2 < k))) && f p
def DC {n:Nat}(f:Pr->Bool)(i k:Nat)(h8:n<=8):(upTo n f i k).length<=64:=by
 have h1:(upTo n f i k).length<=(OM.cn n).length:=Qr _ _
 rw[fW] at h1
 have:n * n<=64:=QV h8 h8
 omega
def CI (n:Nat)(f:Pr->Bool):upTo n f 0 0= []:=by
 unfold upTo
 rw[List.filter_eq_nil_iff]
 intro p hp
 have:=OM.bo.mp hp
 rw[PU (@AT),PU (p:=p.2 < ((0:Nat):Int)) (@AT)];simp
def Dh (n:Nat)(f:Pr->Bool):upTo n f n 0=(OM.cn n).filter f:=by
 unfold upTo
 refine R6 λp hp=>?_
 have:=(OM.bo.mp hp).1.2
 rw[PF this];simp
def D9 (n:Nat)(f:Pr->Bool)(i:Nat):upTo n f i n=upTo n f (i + 1) 0:=by
 unfold upTo
 refine R6 λp hp=>?_
 have h:=OM.bo.mp hp
 congr 1
 rw[Qn]
 simp only[QY,PM,PL]
 omega
def uh {n i k:Nat}(f:Pr->Bool)(hi:i < n)(hk:k < n):upTo n f i (k + 1)=upTo n f i k ++ if f (@S0,(k:Int))=true then [(@S0,(k:Int))] else []:=by
 refine OM.fT (OM.cS _ (OM.fN n)) ?_ λx=>?_
 ·show List.Pairwise OM.FZ _
  rw[List.pairwise_append]
  refine⟨OM.cS _ (OM.fN n),?_,λp hp q hq=>?_⟩
  ·split <;> simp
  ·unfold upTo at hp
   have h1:=(PH.mp hp).2
   simp only[QY,PM,PL] at h1
   split at hq
   ·have:q=(@S0,(k:Int)):=by simpa using hq
    subst this
    show p.1 < @S0\/(p.1=@S0/\p.2 < (k:Int))
    exact h1.1
   ·cases hq
 ·rw[PQ]
  unfold upTo
  rw[PH,PH,OM.bo]
  simp only[QY,PM,PL]
  constructor
  ·rintro⟨h1,h2,h3⟩
   by_cases z:x.1=i/\x.2=k
   ·obtain⟨xa,xb⟩:=x
    simp only at z h3
    obtain⟨rfl,rfl⟩:=z
    rw[Po h3]
    exact .inr (P6.mpr rfl)
   ·exact .inl ⟨h1,@AT,h3⟩
  ·rintro (⟨h1,h2,h3⟩ |h)
   ·exact⟨h1,@AT,h3⟩
   ·split at h
    ·rename_i hf
     have:x=(@S0,(k:Int)):=by simpa using h
     subst this
     exact⟨⟨⟨by show (0:Int)<=@S0;omega,by show @S0 < n;omega⟩,by show (0:Int)<=(k:Int);omega,by show (k:Int) < n;omega⟩,.inr ⟨rfl,by show (k:Int) < ((k + 1:Nat):Int);omega⟩,hf⟩
    ·cases h
def tupI (r:@KF):D:=.tuple (r.map int)
def Bi {fa fb:VF D}{vs:List Nv}{β:Int}{r:@KF}{k:Int}(h:@TX=.ok (tupI r) β)(h':fb vs β=.ok (.int k) β)(hk:k∈r):pA fa fb vs β=.ok (.int (r.idxOf k:Nat)) β:=by
 unfold pA
 rw[h]
 dsimp only[R.bnd]
 rw[Po @Tk,h']
 dsimp only[R.bnd,GD,tupI]
 rw[mU]
 dsimp only
 rw[Po hk];rfl
def HX {r:@KF}{a b:Int}(ha:a∈r)(hb:b∈r)(h:r.idxOf a=r.idxOf b):a=b:=by
 have h1:=Sw (Ro.mpr ha)
 have h2:=Sw (Ro.mpr hb)
 rw[<-h1,<-h2]
 congr 1
def Cw {N:Nat}{l:@Do}(h1:1<=N)(h8:N<=8)(w:OM.Wn N l)(nd:l.Nodup)(irr:∀a,(a,a)∉l):i6 (.list @R_)=some (.list ((OM.bW 8 (OM.Mem l)).map ao)):=by
 simp only[i6,fm]
 rw[Po ⟨zO h8 w,nd,AQ h1 h8 w nd irr⟩]
def E7:D->Bool
 | .tuple _=>true
 |_=>false
theorem AD {d:D}(h:E7 d=true):∃ds,d=.tuple ds:=by
 cases d with
 |tuple ds=>exact⟨ds,rfl⟩
 |_=>cases h
def D3 {d:D}(h:cX d=false):jk "tuple" d=some (.bool (E7 d)):=by
 unfold jk;rw[h];cases d <;> rfl
section
variable {fa fb:VF D}{vs:List Nv}{β:Int}
def II {d:D}(ha:@TX=.ok d β)(h:cX d=false):lG (f1 fa (jk "tuple")) vs β=.ok (E7 d) β:=ju (eN ha (D3 h))
def BA {l:List D}{f:D->Bool}(h:@TX=.ok (.list (l.map λq=>PyData.bool (f q))) β):f1 fa (iC λbs=>bs.all id) vs β=.ok (.bool (l.all f)) β:=by
 refine eN h ?_
 simp only[iC]
 rw[mV]
 simp[List.all_map]
def LH {ds:List D}(ha:@TX=.ok (.tuple ds) β):f1 fa eS vs β=.ok (.int ds.length) β:=eN ha rfl
def D0 {ds:List D}{k:Int}(ha:@TX=.ok (.tuple ds) β):cm (f2 (f1 fa eS) (cst (.int k)) (cv true)) vs β=.ok (!decide ((ds.length:Int)=k)) β:=fk (neg:=true) (LH ha) rfl
def Ew {t u:VF Bool}(h:t vs β=.ok true β):nu t u vs β=.ok true β:=by rw[qS,h];rfl
def oF {t u:VF Bool}{c:Bool}(h:t vs β=.ok false β)(h':u vs β=.ok c β):nu t u vs β=.ok c β:=by rw[qS,h];exact h'
def IT (h:@TX=.ok (.bool false) β):fA fa fb vs β=.ok (.bool false) β:=by unfold fA;rw[h];rfl
def IQ {d:D}(h:@TX=.ok (@TU) β)(h':fb vs β=.ok d β):fA fa fb vs β=.ok d β:=by unfold fA;rw[h];exact h'
def NW (h:@TX=.ok (@TU) β):Lg fa fb vs β=.ok (@TU) β:=by unfold Lg;rw[h];rfl
def Ol {d:D}(h:@TX=.ok (.bool false) β)(h':fb vs β=.ok d β):Lg fa fb vs β=.ok d β:=by unfold Lg;rw[h];exact h'
end
def Sq (c k:Nat)(d:D):Prop:=d.showable=true/\d.depth<=k/\d.shown.length<=c
def Sq.mono {c k c' k':Nat}{d:D}(h:Sq c k d)(h1:c<=c')(h2:k<=k'):Sq c' k' d:=⟨h.1,QA h.2.1 h2,QA h.2.2 h1⟩
def Bf (d:D):Prop:=NM d=true
section
variable {vs:List Nv}{β β1 β2:Int}{fa:VF D}{fr:@Pi}{d:D}{ds:List D}
def ac {fa:VF D}{fr:@Pi}(h:@TX=.ok d β)(h':fr vs β=.ok ds β):aa fa fr vs β=.ok (d :: ds) β:=by rw[bE,h];dsimp only[R.bnd];rw[h']
def an:af vs β=.ok [] β:=rfl
def tp (h:fr vs β=.ok ds β)(hz:ds.length<=1000:=by simp):aQ fr vs β=.ok (.tuple ds) β:=iE h hz
def lp (h:fr vs β=.ok ds β)(hz:ds.length<=1000:=by simp):bt fr vs β=.ok (.list ds) β:=dU h hz
def ck (d:D):cst d vs β=.ok d β:=rfl
end
def LY {vs:List Nv}{β:Int}:f2 (cst (.int 10)) (cst (.int 39)) Dp vs β=.ok (.int 1000000000000000000000000000000000000000) β:=aF (x:=.int 10) (y:=.int 39) rfl rfl @Tk
def G9 {P:D->Prop}{x y:D}(hx:P x)(hy:P y):∀d,d∈ [x,y]->P d:=λd hd=>by
 rcases Pu.mp hd with rfl |hd
 ·exact hx
 ·rw[P6] at hd;subst hd;exact hy
def ET {d:D}(h:cX d=false):jk "list" d=some (.bool (match d with | .list _=>true |_=>false)):=by
 unfold jk;rw[h];cases d <;> rfl
def Ke:D->Bool
 | .list _=>true
 |_=>false
theorem HC {d:D}(h:Ke d=true):∃ds,d=.list ds:=by
 cases d with
 |list ds=>exact⟨ds,rfl⟩
 |_=>cases h
def Ms {fa:VF D}{vs:List Nv}{β:Int}{d:D}(ha:@TX=.ok d β)(h:cX d=false):f1 fa (jk "list") vs β=.ok (.bool (Ke d)) β:=eN ha (by rw[ET h];cases d <;> rfl)
def z0 {fa:VF D}{vs:List Nv}{β:Int}{ds:List D}(ha:@TX=.ok (.list ds) β):f1 fa eS vs β=.ok (.int ds.length) β:=eN ha rfl
def kT:@KK:=["order","many","pairs","ring","thing","row","rows","number","chain","turns","points","text"]
def w9 (tbl:List (Str×Nat))(c:Str):Option Str:=(tbl.lookup c).map λj=>kT.getD j ""
def gq (n:Nat)(l:@Do)(i:Nat):@Do:=(OM.cn n).filter λp=>decide (p.1 < i) && tQ l p
def CY (n:Nat)(l:@Do):gq n l n=dZ n l:=by
 unfold gq dZ
 refine R6 λp hp=>?_
 have:=(OM.bo.mp hp).1.2
 rw[PF this,Bool.true_and]
def Fv {n i:Nat}(l:@Do)(hi:i < n):gq n l (i + 1)=gq n l i ++ ((eB n).filter λb=>tQ l (@S0,b)).map λb=>(@S0,b):=by
 refine OM.fT (OM.cS _ (OM.fN n)) ?_ λx=>?_
 ·show List.Pairwise OM.FZ _
  rw[List.pairwise_append]
  refine⟨OM.cS _ (OM.fN n),?_,λp hp q hq=>?_⟩
  ·rw[Qv]
   exact ((Jq n).filter _).imp λ{a b} h=>.inr ⟨rfl,h⟩
  ·unfold gq at hp
   have h1:=(PH.mp hp).2
   rw[PM,PL] at h1
   obtain⟨b,_,rfl⟩:=PD.mp hq
   exact .inl h1.1
 ·rw[PQ]
  unfold gq
  rw[PH,PH,PD,OM.bo]
  simp only[PM,PL]
  constructor
  ·rintro⟨h1,h2,h3⟩
   by_cases z:x.1 < i
   ·exact .inl ⟨h1,z,h3⟩
   ·have e:x.1=i:=@AT
    obtain⟨xa,xb⟩:=x
    simp only at e h1 h3
    subst e
    exact .inr ⟨xb,PH.mpr ⟨bN.mpr h1.2,h3⟩,rfl⟩
  ·rintro (⟨h1,h2,h3⟩ | ⟨b,hb,rfl⟩)
   ·exact⟨h1,@AT,h3⟩
   ·obtain⟨hb1,hb2⟩:=PH.mp hb
    have:=bN.mp hb1
    exact⟨⟨⟨@AT,@AT ⟩,this⟩,@AT,hb2⟩
def B8 {n:Nat}(l:@Do)(i:Nat)(h8:n<=8):(gq n l i).length<=64:=by
 have h1:(gq n l i).length<=(OM.cn n).length:=Qr _ _
 rw[fW] at h1
 have:n * n<=64:=QV h8 h8
 omega
def mK:@Fk:=bg 3 1 (iL Af)
def yE {n:Nat}{l:@Do}(O:@S8):mK [aA n l]=.ok (.list ((dZ n l).map ao)) false:=by
 have h8:=O.hi
 show fin (iL Af [@GT,.no,.no] 0)=_
 unfold iL
 rw[az (env':=[@GT,.fz (.list []),.no]) (β':=0) ?g1]
 case g1=>rw[bP,dU (ds:=[]) rfl @Go];rfl
 have er:∀(s t:Sl),bS @TB [.da (aA n l),s.val,t.val] 0=.ok (cJ 0 n) 0:=λs t=>du (n:=n) (Nt (n:=n) (l:=l) rfl) (@AT)
 obtain⟨env',β',ef,s,rfl,rfl⟩:=dz (t:=.nm 2) (m:=a9 1 ([] ++ (@Ev ++ [0,2])) (f2 (gv 1) (aM 1 [0,2] (.nm 0) (bS @TB) (lG (ay Af (aa (gv 1) (aa (gv 2) @Is)))) (aQ (aa (gv 2) @Is))) dt)) (ds:=cJ 0 n) (k:=0)
  (λi env β=>∃s:Sl,env= [@GT,.fz (.list ((gq n l i).map ao)),s]/\β=0)
  (env:=[@GT,.fz (.list []),.no]) (β:=0) ⟨.no,by
   have:gq n l 0= []:=by
    unfold gq
    rw[List.filter_eq_nil_iff]
    intro p hp
    have:=(OM.bo.mp hp).1.1
    rw[PU (@AT)];simp
   rw[this];rfl,rfl⟩ (by
   rintro i d env β hi ⟨s,rfl,rfl⟩
   obtain⟨hin,rfl⟩:=jr hi
   refine⟨[@GT,.fz (.list ((gq n l (0 + i)).map ao)),.fz (.int (0 + @S0))],rfl,?_⟩
   rw[Qt,QT]
   have ec:aM 1 [0,2] (.nm 0) (bS @TB) (lG (ay Af (aa (gv 1) (aa (gv 2) @Is)))) (aQ (aa (gv 2) @Is)) [.da (aA n l),.da (.list ((gq n l i).map ao)),.da @S3] 0=.ok (.list (((eB n).filter λb=>tQ l (@S0,b)).map λb=>ao (@S0,b))) 0:=by
    refine cf (l:=eB n) (e:=int) (λb=>tQ l (@S0,b)) (λb=>ao (@S0,b)) ?_ (by rw[cU];omega) λb hb=>⟨_,rfl,ju (aE (ds:=[aA n l,.int i,.int b]) rfl (Lz n l i b)),λ_=>dB rfl rfl⟩
    rw[<-mJ]
    exact er (.fz _) (.fz _)
   have ew:f2 (gv 1) (aM 1 [0,2] (.nm 0) (bS @TB) (lG (ay Af (aa (gv 1) (aa (gv 2) @Is)))) (aQ (aa (gv 2) @Is))) dt [.da (aA n l),.da (.list ((gq n l i).map ao)),.da @S3] 0=.ok (.list ((gq n l (i + 1)).map ao)) 0:=by
    refine aF (x:=.list ((gq n l i).map ao)) rfl ec ?_
    rw[fY]
    ·rw[Fv l hin,Qk,QE];rfl
    ·rw[Py,Py]
     have h1:=B8 l i h8
     have h2:((eB n).filter λb=>tQ l (@S0,b)).length<=(eB n).length:=Qr _ _
     rw[cU] at h2
     omega
   refine⟨[@GT,.fz (.list ((gq n l (i + 1)).map ao)),.fz @S3],0,?_,_,rfl,rfl⟩
   rw[bP]
   show toS (f2 (gv 1) (aM 1 [0,2] (.nm 0) (bS @TB) (lG (ay Af (aa (gv 1) (aa (gv 2) @Is)))) (aQ (aa (gv 2) @Is))) dt [.da (aA n l),.da (.list ((gq n l i).map ao)),.da @S3] 0) _=_
   rw[ew];rfl)
 rw[gB,Qt,CY] at ef
 rw[az (env':=[@GT,.fz (.list ((dZ n l).map ao)),s]) (β':=0) ?g2]
 case g2=>
  rw[dC (env:=[@GT,.fz (.list []),.no]) (er (.fz (.list [])) .no)]
  exact ef
 rfl
def Ge (e:D):Prop:=cX e=false/\∀es,e=.tuple es->es.length<=100/\∀x,x∈es->cX x=false
def Je (n:Int):D->Bool
 | .tuple [x,y]=>mC x n && mC y n
 |_=>false
def MB {n:Int}{d:D}(h:Je n d=true):∃p:Pr,d=ao p/\@S1:=by
 unfold Je at h
 split at h
 ·rename_i x y
  rw[PM] at h
  cases x with
  |int a=>
   cases y with
   |int b=>exact⟨(a,b),rfl,R7 h.1,R7 h.2⟩
   |_=>cases h.2
  |_=>cases h.1
 ·cases h
def M4:@Fk:=bg 2 2 (j6 gO)
theorem rV {es:List D}:(decide ((es.length:Int)=2)=false/\∀n,Je n (.tuple es)=false)\/∃x y,es= [x,y]:=by
 match es with
 | []=>exact .inl ⟨rfl,λ_=>rfl⟩
 | [_]=>exact .inl ⟨rfl,λ_=>rfl⟩
 | [x,y]=>exact .inr ⟨x,y,rfl⟩
 |_ :: _ :: _ :: _=>exact .inl ⟨PU (by simp;omega),λ_=>rfl⟩
theorem NR {d:D}{n:Int}(h:Ge d):M4 [d,.int n]=.ok (.bool (Je n d)) false:=by
 show fin (j6 gO [.fz d,.fz @Ix] 0)=_
 unfold j6
 have g0:gv 0 (vl [.fz d,.fz @Ix]) 0=.ok d 0:=rfl
 have t1:=II g0 h.1
 cases hy:E7 d with
 |false=>
  rw[hy] at t1
  rw[eT (d:=.bool false) (b:=false) (β':=0) ?a]
  ·cases d <;> first |rfl |cases hy
  case a=>rw[ij (Ew (eG t1))];rfl
 |true=>
  obtain⟨es,rfl⟩:=AD hy
  rw[hy] at t1
  have t2:=D0 (k:=2) g0
  rcases rV (es:=es) with⟨q,z⟩ | ⟨x,y,rfl⟩
  ·rw[q] at t2
   rw[z n,eT (d:=.bool false) (b:=false) (β':=0) (by rw[ij (oF (eG t1) t2)];rfl)];rfl
  ·rw[az (env':=[.fz (.tuple [x,y]),.fz @Ix]) (β':=0) (by rw[gr (oF (eG t1) t2)];rfl)]
   have hx:=(h.2 _ rfl).2 x (Pz ..)
   have hy':=(h.2 _ rfl).2 y (Pw _ (Pz ..))
   have e1:ay gO (aa @TB @L_) (vl [.fz (.tuple [x,y]),.fz @Ix]) 0=.ok (.bool (mC x n)) 0:=aE (ds:=[x,.int n]) rfl (vF hx)
   have e2:ay gO (aa (f2 (gv 0) @EQ bu) @L_) (vl [.fz (.tuple [x,y]),.fz @Ix]) 0=.ok (.bool (mC y n)) 0:=aE (ds:=[y,.int n]) rfl (vF hy')
   rw[cA,v9 e1 e2];rfl
def Nh:@Fk:=bg 1 1 pj
def N4 {d:D}(h:cX d=false):Nh [d]=.ok (.bool (qE d)) false:=by
 have:=AR [d] (by rw[oJ h];exact λz=>by cases z)
 rw[oJ h] at this
 exact this
def Sp (p:Pr):Prop:=(0<=p.1/\p.1<=8)/\(0<=p.2/\p.2<=8)
def El (e:D):Prop:=Ge e/\Sq 100 8 e/\Bf e
def yQ {es:List D}(hl:es.length<=100)(h:∀x,x∈es->cX x=false):Ge (.tuple es):=⟨rfl,λes' e=>by cases e;exact⟨hl,h⟩⟩
def O9:D->Bool
 | .tuple es=>decide (es.length<=100) && es.all λx=> !cX x
 |_=>true
def l9:List D:=[.none,@TU,.bool false,.int (-1),.int 0,.int 1,.str "",.str "1",.tuple [],.list [],.tuple [.int 0],.tuple [.int 1,.tuple []],.list [.int 0],.dict [(.str "a",.int 1)],.tuple [.int 0,.int 1],.int 1000000000000000000000000000000000000000,.tuple [.tuple [.int 0,.int 1]],.str "a"]
def HG:∀x∈l9,(x.showable=true/\x.depth<=5/\x.shown.length<=60)/\NM x=true/\cX x=false/\O9 x=true:=@B_
def JD {o:D}(h:o∈l9):El o:=by
 obtain⟨h1,h2,h3,h4⟩:=HG o h
 refine⟨⟨h3,λes e=>?_⟩,Sq.mono (c:=60) (k:=5) h1 (@AT) (@AT),h2⟩
 subst e
 have hb:(decide (es.length<=100) && es.all λx=> !cX x)=true:=h4
 rw[PM,PL,Qm] at hb
 exact⟨hb.1,λx hx=>by have:=hb.2 x hx;rwa [QG] at this⟩
def FE {fa fb:VF D}{vs:List Nv}{β:Int}{ds:List D}{i:Nat}(ha:@TX=.ok (.list ds) β)(hb:fb vs β=.ok (.int ((i:Nat):Int)) β):Nc fa (λ_ β=>.ok none β) (G6 fb) vs β=.ok (.list (ds.take i)) β:=by
 unfold Nc G6
 rw[ha];dsimp only[R.bnd]
 rw[hb];dsimp only[R.bnd]
 congr 2
 unfold cutD
 rw[HT.xk,HT.Ax]
 by_cases h:i<=ds.length
 ·rw[Nat.min_eq_left h];rfl
 ·rw[Nat.min_eq_right (@AT),Rf (show ds.length<=i by omega)];simp
noncomputable def HU:@SN:=o9 2 0 (la b4)
def LR (β:Int):∃o β',HU [] β=.ok o false β'/\o∈l9:=by
 show ∃o β',wz (la b4 [.bx,.no] β)=.ok o false β'/\o∈l9
 unfold la
 rw[az (env':=[.bx,.fz (.list (l9.take 13))]) (β':=β) ?a]
 case a=>
  rw[bP,lp (ds:=l9.take 13) (ac (ck _) (ac (ck _) (ac (ck _) (ac (ck _) (ac (ck _) (ac (ck _) (ac (ck _) (ac (ck _) (ac (tp an) (ac (lp an) (ac (tp (ac (ck _) an)) (ac (tp (ac (ck _) (ac (tp an) an))) (ac (lp (ac (ck _) an)) an))))))))))))) (by show (13:Nat)<=1000;omega)]
  rfl
 rw[az (env':=[.bx,.fz (.list l9)]) (β':=β) ?b]
 case b=>
  rw[bP,aF (x:=.list (l9.take 13)) (y:=.list (l9.drop 13)) (d:=.list l9) (β1:=β) (β2:=β) rfl (lp (ds:=l9.drop 13) (ac (ck _) (ac (tp (ac (ck _) (ac (ck _) an))) (ac LY (ac (tp (ac (tp (ac (ck _) (ac (ck _) an))) an)) (ac (ck _) an))))) (by show (5:Nat)<=1000;omega)) ?c]
  ·rfl
  case c=>rw[fY (by show (13 + 5:Nat)<=10000;omega)];rfl
 obtain⟨j,hj,ej⟩:=jq (m:=18) (@AT) (@AT) β
 have hlen:l9.length=18:=rfl
 obtain⟨o,ho⟩:∃o,l9[j]? =some o:=⟨_,Pn (@AT)⟩
 have e:f2 (gv 1) (i5 0 b4 (aa (cst (.int 18)) af)) bu (vl [.bx,.fz (.list l9)]) β=.ok o (β / ((18:Nat):Int)):=aF (x:=.list l9) (y:=.int j) rfl (fx (ds:=[.int 18]) @Tk rfl ej) (show kq l9 (j:Int)=some o from kU ho)
 rw[cA,e]
 exact⟨o,_,rfl,PV ho⟩
end RM
namespace RM
open PySem PySem.Spec L2 PyProof.Rows
theorem qe:∀{l m:@KF},l.Nodup->(∀x,x∈l->x∈m)->m.length<=l.length->l.Perm m
 | [],m,_,_,h=>by
  have:m= []:=List.length_eq_zero_iff.mp (by simpa using h)
  rw[this]
 |x :: l,m,nd,hs,h=>by
  obtain⟨h1,h2⟩:=Qh.mp nd
  have hx:x∈m:=hs x (Pz ..)
  have pm:m.Perm (x :: m.erase x):=List.perm_cons_erase hx
  refine (List.Perm.cons x (qe (m:=m.erase x) h2 (λy hy=>?_) ?_)).trans pm.symm
  ·have hy':=pm.mem_iff.mp (hs y (Pw _ hy))
   rcases Pu.mp hy' with rfl |q
   ·exact absurd hy h1
   ·exact q
  ·have:=pm.length_eq
   rw[P7] at this h
   omega
def EK {n:Nat}{r:@KF}(hl:r.length=n)(hb:∀x,x∈r->0<=x/\x < n)(nd:r.Nodup):r.Perm (eB n):=qe nd (λx hx=>bN.mpr (hb x hx)) (by rw[cU];omega)
theorem mU:∀r:@KF,nh (r.map int)=some r
 | []=>rfl
 |x :: r=>by
  have:=mU r
  simp only[P8,nh,this]
  try rfl
end RM
namespace RM
open PySem L2
def JI (l:@Do)(r:@KF):Bool:=l.all λp=>decide (r.idxOf p.1 < r.idxOf p.2)
def Row (n:Nat)(l:@Do)(r:@KF):Prop:=r.Perm (eB n)/\JI l r=true
def Gt (d:D):Prop:=cX d=false/\∀ds,d=.list ds->ds.length<=100/\∀e,e∈ds->Ge e
theorem any_ints (a:Int):∀s:@KF,((s.map int).any λe=>PyData.eqv e (.int a))=decide (a∈s)
 | []=>rfl
 |b :: s=>by
  rw[P8,Q4,any_ints a s]
  show ((b == a) || _)=_
  rw[Qn]
  simp only[QY,beq_iff_eq,PL,Pu]
  exact⟨λh=>h.imp Eq.symm id,λh=>h.imp Eq.symm id⟩
def CF (s:@KF):(s.map int).all SeqAt.shaped=true:=by
 rw[Qm]
 intro d hd
 obtain⟨p,_,rfl⟩:=PD.mp hd
 rfl
def De (l:@Do)(r:@KF)(x:Int):@KF:=(l.filter λp=>decide (p.2=x) && !decide (p.1∈r)).map (·.1)
def lx {l:@Do}{r:@KF}{x a:Int}:a∈De l r x↔(a,x)∈l/\a∉r:=by
 unfold De
 rw[PD]
 constructor
 ·rintro⟨p,hp,rfl⟩
  have:=PH.mp hp
  simp only[PM,PL,QG,Q9] at this
  obtain⟨pa,pb⟩:=p
  obtain⟨h1,h2,h3⟩:=this
  simp only at h2 h3
  subst h2
  exact⟨h1,h3⟩
 ·rintro⟨h1,h2⟩
  exact⟨(a,x),PH.mpr ⟨h1,by simp[h2]⟩,rfl⟩
def Cr {n:Nat}{l:@Do}(O:@S8)(r:@KF)(x:Int):(De l r x).Nodup:=by
 unfold De
 rw[QU,Qv]
 refine QP (λ{a b} ha hb h e=>h ?_) (QU.mp ((OM.iX O.ris).filter _))
 have h1:=(PH.mp ha).2
 have h2:=(PH.mp hb).2
 simp only[PM,PL] at h1 h2
 exact Prod.ext e (h1.1.trans h2.1.symm)
theorem least {n:Nat}{l:@Do}(O:@S8)(r:@KF):∀(k:Nat) (x:Int),(0<=x/\x < n)->x∉r->(De l r x).length<=k->∃y:Int,(0<=y/\y < n)/\y∉r/\De l r y= []
 | 0,x,hx,hr,hk=>⟨x,hx,hr,List.length_eq_zero_iff.mp (@AT)⟩
 |k + 1,x,hx,hr,hk=>by
  by_cases he:De l r x= []
  ·exact⟨x,hx,hr,he⟩
  ·obtain⟨a,ha⟩:=List.exists_mem_of_ne_nil _ he
   obtain⟨h1,h2⟩:=lx.mp ha
   refine least O r k a (O.wn _ h1).1 h2 ?_
   have nd:(a :: De l r a).Nodup:=Qh.mpr ⟨λq=>O.irr a (lx.mp q).1,Cr O r a⟩
   have:=L2.ST.bM nd (m:=De l r x) λy hy=>by
    rcases Pu.mp hy with rfl |hy
    ·exact ha
    ·obtain⟨q1,q2⟩:=lx.mp hy
     exact lx.mpr ⟨O.tr _ _ _ q1 h1,q2⟩
   rw[P7] at this
   omega
structure Ga (n:Nat)(l:@Do)(r:@KF):Prop where
 nd:r.Nodup
 inn:∀x,x∈r->0<=x/\x < (n:Int)
 fit:∀p,p∈l->p.2∈r->p.1∈r/\r.idxOf p.1 < r.idxOf p.2
def Ga.len {n:Nat}{l:@Do}{r:@KF}(B:Ga n l r):r.length<=n:=by
 have:=L2.ST.bM B.nd (m:=eB n) λx hx=>bN.mpr (B.inn x hx)
 rwa [cU] at this
def Ga.row {n:Nat}{l:@Do}{r:@KF}(O:@S8)(B:Ga n l r)(h:n<=r.length):Row n l r:=by
 have pm:=EK (Nat.le_antisymm B.len h) B.inn B.nd
 refine⟨pm,Qm.mpr λp hp=>PF ?_⟩
 exact (B.fit p hp (pm.mem_iff.mpr (bN.mpr (O.wn p hp).2))).2
def iD (l:@Do)(r:@KF)(x:Int):Bool:= !decide (x∈r) && decide (De l r x= [])
def Ga.more {n:Nat}{l:@Do}{r:@KF}{x:Int}(B:Ga n l r)(hx:0<=x/\x < (n:Int))(hf:iD l r x=true):Ga n l (r ++ [x]):=by
 unfold iD at hf
 rw[PM,QG,Q9,PL] at hf
 obtain⟨h1,h2⟩:=hf
 refine⟨?_,λy hy=>?_,λp hp hm=>?_⟩
 ·rw[R8]
  refine⟨B.nd,Qh.mpr ⟨by simp,RN⟩,λa ha b hb=>?_⟩
  rw[P6] at hb
  subst hb
  exact λq=>h1 (q▸ha)
 ·rcases PQ.mp hy with hy |hy
  ·exact B.inn y hy
  ·rw[P6] at hy;subst hy;exact hx
 ·rcases PQ.mp hm with hm |hm
  ·obtain⟨q1,q2⟩:=B.fit p hp hm
   refine⟨QR _ q1,?_⟩
   rw[SH,SH,Po q1,Po hm]
   exact q2
  ·rw[P6] at hm
   have hp1:p.1∈r:=by
    by_cases z:p.1∈r
    ·exact z
    ·have:p.1∈De l r x:=lx.mpr ⟨by rw[<-hm];exact hp,z⟩
     rw[h2] at this;cases this
   refine⟨QR _ hp1,?_⟩
   rw[SH,SH,Po hp1,Px (by rw[hm];exact h1)]
   have:=Ro.mpr hp1
   omega
def Ga.free {n:Nat}{l:@Do}{r:@KF}(O:@S8)(B:Ga n l r)(h:r.length < n):(eB n).filter (iD l r)≠ []:=by
 have:∃x,x∈eB n/\x∉r:=by
  apply Classical.byContradiction
  intro z
  have:=L2.ST.bM (kf n) (m:=r) λx hx=>Classical.byContradiction λq=>z ⟨x,hx,q⟩
  rw[cU] at this
  omega
 obtain⟨x,hx,hr⟩:=this
 obtain⟨y,hy,hyr,hp⟩:=least O r _ x (bN.mp hx) hr (Pt _)
 intro q
 have:y∈(eB n).filter (iD l r):=PH.mpr ⟨bN.mpr hy,by unfold iD;simp[hyr,hp]⟩
 rw[q] at this
 cases this
def dW (l:@Do)(r:@KF)(i:Nat):@KF:=(eB i).filter (iD l r)
def DS (i:Nat):eB (i + 1)=eB i ++ [@S0]:=by unfold eB;rw[List.range_succ,Qk];rfl
def uk (l:@Do)(r:@KF)(i:Nat):dW l r (i + 1)=dW l r i ++ if iD l r @S0=true then [@S0] else []:=by
 unfold dW
 rw[DS,List.filter_append]
 congr 1
 by_cases h:iD l r @S0=true
 ·rw[Po h];simp[h]
 ·rw[Px h];simp[h]
def oI (l:@Do)(r:@KF)(i:Nat):(dW l r i).length<=i:=by
 have:(dW l r i).length<=(eB i).length:=Qr _ _
 rwa [cU] at this
end RM
namespace RM
open PySem L2 PyProof.Rows
def mk (f:Nat->Bool):Nat->Nat
 | 0=>0
 |n + 1=>mk f n ||| if f n=true then 2 ^ n else 0
theorem iw (f:Nat->Bool):∀(n i:Nat),(mk f n).testBit i=(decide (i < n) && f i)
 | 0,i=>by simp[mk]
 |n + 1,i=>by
  unfold mk
  rw[Nat.testBit_or,iw f n i]
  by_cases h:f n=true
  ·rw[Po h,Nat.testBit_two_pow]
   by_cases e:n=i
   ·subst e;simp[h]
   ·have e2:decide (i < n)=decide (i < n + 1):=by
     rw[QK];omega
    simp[e,e2]
  ·rw[Px h]
   by_cases e:i=n
   ·subst e;simp[h]
   ·have e2:decide (i < n)=decide (i < n + 1):=by
     rw[QK];omega
    simp[e2]
def mk_eq {f g:Nat->Bool}{n:Nat}:mk f n=mk g n↔∀i,i < n->f i=g i:=by
 constructor
 ·intro h i hi
  have:=congrArg (λx=>x.testBit i) h
  simp only[iw,PF hi,Bool.true_and] at this
  exact this
 ·intro h
  apply Sh
  intro i
  rw[iw,iw]
  by_cases hi:i < n
  ·rw[h i hi]
  ·rw[PU hi];simp
def iA (f:Nat->Bool)(t:Nat):Nat->Bool:=λi=>f i || decide (i=t)
def LZ {f:Nat->Bool}{n t:Nat}(h:t < n):mk f n ||| 2 ^ t=mk (iA f t) n:=by
 apply Sh
 intro i
 rw[Nat.testBit_or,iw,iw,Nat.testBit_two_pow]
 unfold iA
 by_cases e:t=i
 ·subst e;simp[h]
 ·have e':¬i=t:=λq=>e q.symm
  simp[e,e']
def Kg {f g:Nat->Bool}{n:Nat}:(mk f n &&& mk g n=mk g n)↔∀i,i < n->g i=true->f i=true:=by
 have e:mk f n &&& mk g n=mk (λi=>f i && g i) n:=by
  apply Sh
  intro i
  rw[Nat.testBit_and,iw,iw,iw]
  by_cases h:i < n
  ·simp[h]
  ·simp[h]
 rw[e,mk_eq]
 constructor
 ·intro h i hi hg
  have:=h i hi
  rw[hg,Bool.and_true] at this
  exact this
 ·intro h i hi
  cases hg:g i with
  |false=>simp
  |true=>rw[h i hi hg];rfl
def ug (a b:Nat):Builtin.bitOr (a:Int) (b:Int)=((a ||| b:Nat):Int):=by
 have h1:¬(0<=Builtin.bitNot (a:Int)):=by show ¬(0<= -(a:Int) - 1);omega
 have h2:¬(0<=Builtin.bitNot (b:Int)):=by show ¬(0<= -(b:Int) - 1);omega
 show Builtin.bitNot (Builtin.bitAnd (Builtin.bitNot a) (Builtin.bitNot b))=_
 rw[bitAnd_nn h1 h2]
 have e1:Builtin.bitNot (Builtin.bitNot (a:Int))=a:=by show -(-(a:Int) - 1) - 1=a;omega
 have e2:Builtin.bitNot (Builtin.bitNot (b:Int))=b:=by show -(-(b:Int) - 1) - 1=b;omega
 rw[e1,e2]
 show -(-((((a:Int).toNat ||| (b:Int).toNat:Nat):Int)) - 1) - 1=_
 rw[Qj,Qj];omega
def zx (a b:Nat):Builtin.bitAnd (a:Int) (b:Int)=((a &&& b:Nat):Int):=by
 rw[bitAnd_pp (@AT) (@AT),Qj,Qj]
def mI (f:Nat->Bool)(n:Nat):D:=.int ((mk f n:Nat):Int)
def Kb:∀t:Nat,t < 8->J4 (.int 1) (.int (t:Int))=some (.int ((2 ^ t:Nat):Int)):=by
 intro t ht
 have:t=0\/t=1\/t=2\/t=3\/t=4\/t=5\/t=6\/t=7:=@AT
 rcases this with rfl |rfl |rfl |rfl |rfl |rfl |rfl |rfl <;> rfl
def wW:@Fk:=bg 2 2 iG
def FH {f:Nat->Bool}{n t:Nat}(h8:n<=8)(h:t < n):wW [mI f n,.int (t:Int)]=.ok (mI (iA f t) n) false:=by
 show fin (iG [.fz (mI f n),.fz (.int t)] 0)=_
 unfold iG
 rw[cA,aF (x:=mI f n) (y:=.int ((2 ^ t:Nat):Int)) (d:=mI (iA f t) n) (β1:=0) (β2:=0) rfl (aF (x:=.int 1) (y:=.int t) rfl rfl (Kb t (@AT))) ?a]
 ·rfl
 case a=>
  show some (int (Builtin.bitOr _ _))=_
  rw[ug,LZ h];rfl
def cQ (n:Nat)(M:Nat->Nat->Bool):D:=.list ((@TR).map λb=>mI (M b) n)
def bD (l:@Do)(b a:Nat):Bool:=decide ((((a:Nat):Int),((b:Nat):Int))∈l)
def Di {n b:Nat}{M:Nat->Nat->Bool}(h:b < n):kq ((@TR).map λb=>mI (M b) n) (b:Int)=some (mI (M b) n):=kU (by rw[PK,RX h];rfl)
def Nu:@Fk:=bg 4 1 (hX wW)
def orM (M:Nat->Nat->Bool)(p:Pr)(b a:Nat):Bool:=M b a || (decide ((b:Int)=p.2) && decide ((a:Int)=p.1))
def JT {n:Nat}{M:Nat->Nat->Bool}{p:Pr}(h1:0<=p.1/\p.1 < n)(h2:0<=p.2/\p.2 < n):((@TR).map λb=>mI (M b) n).set p.2.toNat (mI (iA (M p.2.toNat) p.1.toNat) n)=(@TR).map λb=>mI (orM M p b) n:=by
 refine List.ext_getElem @Go λi h3 h4=>?_
 rw[List.getElem_set]
 simp only[List.getElem_map,List.getElem_range]
 unfold mI
 by_cases e:p.2.toNat=i
 ·rw[Po e]
  congr 2
  rw[mk_eq]
  intro j hj
  unfold iA orM
  rw[e]
  have e1:((i:Nat):Int)=p.2:=@AT
  rw[PF e1,Bool.true_and]
  congr 1
  rw[QK];omega
 ·rw[Px e]
  congr 2
  rw[mk_eq]
  intro j hj
  unfold orM
  rw[PU (@AT:¬((i:Nat):Int)=p.2)];simp
theorem AI {n:Nat}{l:@Do}(h8:n<=8):∀(ps:@Do) (M:Nat->Nat->Bool) (s2 s3:Sl),OM.Wn n ps->∃M' s2' s3',lK (.two 2 3) (yb 1 (@Ev ++ ([2] ++ [])) [] (ay wW (aa (f2 (gv 1) (gv 3) bu) (aa (gv 2) af))) (gv 3)) (ps.map ao) [@GT,.ow (cQ n M),s2,s3] 0=.nx [@GT,.ow (cQ n M'),s2',s3'] 0/\∀b a,b < n->a < n->M' b a=(M b a || bD ps b a)
 | [],M,s2,s3,_=>⟨M,s2,s3,rfl,λb a _ _=>by unfold bD;simp⟩
 |p :: ps,M,s2,s3,wn=>by
  have hp:=wn p (Pz ..)
  obtain⟨M',s2',s3',e,hM⟩:=AI (l:=l) h8 ps (orM M p) (.fz (.int p.1)) (.fz (.int p.2)) λq hq=>wn q (Pw _ hq)
  refine⟨M',s2',s3',?_,λb a hb ha=>?_⟩
  ·rw[P8]
   unfold lK
   rw[show hZ (.two 2 3) (ao p) [@GT,.ow (cQ n M),s2,s3]=some [@GT,.ow (cQ n M),.fz (.int p.1),.fz (.int p.2)] from rfl]
   dsimp only
   have e1:(p.2.toNat:Int)=p.2:=@AT
   have e2:(p.1.toNat:Int)=p.1:=@AT
   have ew:ay wW (aa (f2 (gv 1) (gv 3) bu) (aa (gv 2) af)) (vl [@GT,.ow (cQ n M),.fz (.int p.1),.fz (.int p.2)]) 0=.ok (mI (iA (M p.2.toNat) p.1.toNat) n) 0:=by
    refine aE (b:=false) (ds:=[mI (M p.2.toNat) n,.int (p.1.toNat:Int)]) (ac (aF (x:=cQ n M) (y:=.int p.2) rfl rfl ?_) (ac ?_ an)) (FH h8 (@AT))
    ·have:=Di (n:=n) (M:=M) (b:=p.2.toNat) (@AT)
     rw[e1] at this
     exact this
    ·show R.ok (int p.1) 0=_
     rw[e2]
   rw[Ee (ds:=(@TR).map λb=>mI (M b) n) (d:=mI (iA (M p.2.toNat) p.1.toNat) n) (k:=p.2) (n:=p.2.toNat) (β1:=0) (β2:=0) ew @Tk rfl @Tk (by
    unfold wM
    rw[Po hp.2.1,Po (by simp;omega)]),JT hp.1 hp.2]
   dsimp only
   exact e
  ·rw[hM b a hb ha]
   unfold orM bD
   obtain⟨p1,p2⟩:=p
   rw[Bool.or_assoc]
   congr 1
   rw[Qn]
   simp only[QY,PM,PL,Pu,Prod.mk.injEq]
   constructor
   ·rintro (⟨h1,h2⟩ |h)
    ·exact .inl ⟨h2,h1⟩
    ·exact .inr h
   ·rintro (⟨h1,h2⟩ |h)
    ·exact .inl ⟨h2,h1⟩
    ·exact .inr h
def CV {n:Nat}{M N:Nat->Nat->Bool}(h:∀b a,b < n->a < n->M b a=N b a):cQ n M=cQ n N:=by
 unfold cQ
 congr 1
 refine Rb λb hb=>?_
 unfold mI
 congr 2
 rw[mk_eq]
 exact λa ha=>h b a (P4.mp hb) ha
def OJ {n:Nat}{l:@Do}(O:@S8):Nu [aA n l]=.ok (cQ n (bD l)) true:=by
 have h8:=O.hi
 show fin (hX wW [@GT,.no,.no,.no] 0)=_
 unfold hX
 rw[az (env':=[@GT,.ow (cQ n λ_ _=>false),.no,.no]) (β':=0) ?a]
 case a=>
  have e:f2 (bt (aa @Cl af)) @TB FA (vl [@GT,.no,.no,.no]) 0=.ok (cQ n λ_ _=>false) 0:=by
   refine aF (lp (ac (ck _) an)) (Nt (n:=n) (l:=l) rfl) ?_
   simp only[FA]
   rw[Po ⟨@AT,@AT,by rw[Qc];simp;omega⟩]
   unfold cQ
   congr 2
   rw[Qj]
   have hz:∀m,mk (λ_=>false) m=0:=λm=>by
    induction m with
    |zero=>rfl
    |succ m ih=>unfold mk;rw[ih];simp
   unfold mI
   simp only[hz]
   have:∀m:Nat,(List.replicate m [int 0]).flatten=List.replicate m (int 0):=λm=>by
    induction m with
    |zero=>rfl
    |succ m ih=>rw[QM,QM,Rv,ih];rfl
   rw[this]
   refine List.ext_getElem @Go λi h1 h2=>by simp
  rw[j8,e];rfl
 obtain⟨M',s2,s3,e,hM⟩:=AI (l:=l) h8 l (λ_ _=>false) .no .no O.wn
 have hm:cQ n M'=cQ n (bD l):=CV λb a hb ha=>by rw[hM b a hb ha];rfl
 rw[hm] at e
 rw[az (env':=[@GT,.ow (cQ n (bD l)),s2,s3]) (β':=0) (by
  rw[dC (env:=[@GT,.ow (cQ n λ_ _=>false),.no,.no]) (ds:=l.map ao) (β1:=0) (by unfold bC;rw[Nf (n:=n) (l:=l) rfl];rfl)]
  exact e)]
 rfl
end RM
namespace RM
open PySem L2
def dD (r:@KF)(i:Nat):Bool:=decide (@S0 ∈r)
def M8:@Fk:=bg 5 2 (gZ wW)
def Ez {n:Nat}{l:@Do}(O:@S8){r:@KF}{t:Nat}(ht:t < n):(!decide (mk (iA (dD r) t) n=mk (dD r) n) && decide (mk (dD r) n &&& mk (bD l t) n=mk (bD l t) n))=iD l r t:=by
 unfold iD
 congr 1
 ·congr 1
  rw[QK,mk_eq]
  constructor
  ·intro h
   have:=h t ht
   unfold iA dD at this
   simp at this
   exact this
  ·intro h i hi
   unfold iA dD
   by_cases e:i=t
   ·subst e;simp[h]
   ·simp[e]
 ·rw[QK,Kg]
  constructor
  ·intro h
   rw[List.eq_nil_iff_forall_not_mem]
   intro a ha
   obtain⟨h1,h2⟩:=lx.mp ha
   have hw:=(O.wn _ h1).1
   simp only at hw
   have e:((a.toNat:Nat):Int)=a:=@AT
   have:=h a.toNat (@AT) (by unfold bD;rw[e];exact PF h1)
   unfold dD at this
   rw[e] at this
   exact h2 (R7 this)
  ·intro h i hi hg
   unfold dD
   refine PF (Classical.byContradiction λq=>?_)
   have:@S0 ∈De l r t:=lx.mpr ⟨R7 hg,q⟩
   rw[h] at this;cases this
def Gy {n:Nat}{l:@Do}(O:@S8)(r:@KF):∃s3 s4,lK (.two 3 4) (kr ((([1] ++ ([3] ++ [])) ++ []) ++ (@Ev ++ [])) (yN (cm (f2 (ay wW (aa (gv 1) (aa (gv 3) af))) (gv 1) (cv true))) (cm (f2 (f2 (gv 1) (gv 4) DO) (gv 4) (cv false))))
  (l0 2 [3] (gv 3)) nR) (jZ ((@TR).map λb=>mI (bD l b) n)) [@IN,@SL,.ow (.list []),.no,.no] 0=.nx [@IN,@SL,.ow (.list ((dW l r n).map int)),s3,s4] 0:=by
 have h8:=O.hi
 obtain⟨env',β',ef,s3,s4,rfl,rfl⟩:=dz (t:=.two 3 4) (m:=kr ((([1] ++ ([3] ++ [])) ++ []) ++ (@Ev ++ [])) (yN (cm (f2 (ay wW (aa (gv 1) (aa (gv 3) af))) (gv 1) (cv true))) (cm (f2 (f2 (gv 1) (gv 4) DO) (gv 4) (cv false))))
  (l0 2 [3] (gv 3)) nR) (ds:=jZ ((@TR).map λb=>mI (bD l b) n)) (k:=0)
  (λk env b=>∃s3 s4,env= [@IN,@SL,.ow (.list ((dW l r k).map int)),s3,s4]/\b=0)
  (env:=[@IN,@SL,.ow (.list []),.no,.no]) (β:=0) ⟨.no,.no,rfl,rfl⟩ (by
   rintro k d env b hk ⟨s3,s4,rfl,rfl⟩
   unfold jZ at hk
   rw[List.getElem?_mapIdx,PK] at hk
   have hkn:k < n:=by
    by_cases h:k < n
    ·exact h
    ·rw[QZ (by simp;omega)] at hk;cases hk
   rw[RX hkn] at hk
   cases hk
   refine⟨[@IN,@SL,.ow (.list ((dW l r (0 + k)).map int)),.fz (.int k),.fz (mI (bD l k) n)],rfl,?_⟩
   rw[Qt]
   have et:yN (cm (f2 (ay wW (aa (gv 1) (aa (gv 3) af))) (gv 1) (cv true))) (cm (f2 (f2 (gv 1) (gv 4) DO) (gv 4) (cv false))) (vl [@IN,@SL,.ow (.list ((dW l r k).map int)),.fz (.int k),.fz (mI (bD l k) n)]) 0=.ok (iD l r k) 0:=by
    rw[<-Ez O hkn]
    refine ze (fB _ _ _ _ (aF (x:=mI (iA (dD r) k) n) (y:=mI (dD r) n) (aE (ds:=[mI (dD r) n,.int k]) rfl (FH h8 hkn)) rfl ?_)) (fB _ _ _ _ (aF (x:=.int ((mk (dD r) n &&& mk (bD l k) n:Nat):Int)) (y:=mI (bD l k) n) (aF (x:=mI (dD r) n) (y:=mI (bD l k) n) rfl rfl ?_) rfl ?_))
    ·unfold mI;rw[oB,Po rfl];congr 3;rw[QK];omega
    ·show some (int (Builtin.bitAnd _ _))=_
     rw[zx]
    ·unfold mI;rw[oB,Px PR];congr 2;rw[QK];omega
   cases c:iD l r (k:Int) with
   |true=>
    rw[c] at et
    refine⟨[@IN,@SL,.ow (.list ((dW l r (k + 1)).map int)),.fz (.int k),.fz (mI (bD l k) n)],0,?_,_,_,rfl,rfl⟩
    rw[ij et]
    have hz:=oI l r k
    rw[show a8 ((([1] ++ ([3] ++ [])) ++ []) ++ (@Ev ++ [])) [@IN,@SL,.ow (.list ((dW l r k).map int)),.fz (.int k),.fz (mI (bD l k) n)]= [@IN,@SL,.ow (.list ((dW l r k).map int)),.fz (.int k),.fz (mI (bD l k) n)] from rfl]
    rw[ot (i:=2) (ds:=(dW l r k).map int) (d:=.int k) (β':=0) @Tk rfl @Tk (by rw[Py];omega),uk,Po c,Qk]
    rfl
   |false=>
    rw[c] at et
    refine⟨[@IN,@SL,.ow (.list ((dW l r (k + 1)).map int)),.fz (.int k),.fz (mI (bD l k) n)],0,?_,_,_,rfl,rfl⟩
    rw[gr et,uk,c,show dW l r k ++ (if false=true then [(k:Int)] else [])=dW l r k by simp]
    rfl)
 have hle:(jZ ((@TR).map λb=>mI (bD l b) n)).length=n:=by unfold jZ;simp
 rw[Qt,hle] at ef
 exact⟨s3,s4,ef⟩
def NT {n:Nat}{l:@Do}(O:@S8)(r:@KF):M8 [cQ n (bD l),mI (dD r) n]=.ok (.list ((dW l r n).map int)) true:=by
 show fin (gZ wW [@IN,@SL,.no,.no,.no] 0)=_
 unfold gZ
 rw[az (env':=[@IN,@SL,.ow (.list []),.no,.no]) (β':=0) (by rw[j8,lp (ds:=[]) an];rfl)]
 obtain⟨s3,s4,e⟩:=Gy O r
 rw[az (env':=[@IN,@SL,.ow (.list ((dW l r n).map int)),s3,s4]) (β':=0) (by
  rw[dC (env:=[@IN,@SL,.ow (.list []),.no,.no]) (ds:=jZ ((@TR).map λb=>mI (bD l b) n)) (β1:=0) rfl]
  exact e)]
 rfl
noncomputable def Lp:@Fk:=bg 6 2 (jM M8 wW)
structure K4 (n:Nat)(l:@Do)(late r:@KF):Prop where
 beg:Ga n l r
 late:∀q x,(q ++ [x]) <+:r->x∈late->∀y:Int,(0<=y/\y < n)->iD l q y=true->y∈late
def xJ (neg:Bool)(a:Int)(s:@KF):pB neg (.int a) (.list (s.map int))=some (.bool (if neg then !decide (a∈s) else decide (a∈s))):=by
 unfold pB
 simp only[nJ,CF,any_ints]
 rfl
def K4.more {n:Nat}{l:@Do}{late r:@KF}{x:Int}(R:K4 n l late r)(hx:0<=x/\x < (n:Int))(hf:iD l r x=true)(hl:x∈late->∀y:Int,(0<=y/\y < n)->iD l r y=true->y∈late):K4 n l late (r ++ [x]):=by
 refine⟨R.beg.more hx hf,λq z hp hz y hy hfy=>?_⟩
 rcases List.prefix_concat_iff.mp hp with e |hp
 ·have:=List.append_inj' e rfl
  obtain⟨rfl,e2⟩:=this
  cases e2
  exact hl hz y hy hfy
 ·exact R.late q z hp hz y hy hfy
def JW (n:Nat):mI (dD []) n=.int 0:=by
 unfold mI
 congr 1
 have:mk (dD []) n=0:=by
  induction n with
  |zero=>rfl
  |succ m ih=>unfold mk;rw[ih];simp[dD]
 rw[this];rfl
def J1 {n:Nat}{r:@KF}{x:Int}(h:0<=x/\x < n):mI (iA (dD r) x.toNat) n=mI (dD (r ++ [x])) n:=by
 unfold mI
 congr 2
 rw[mk_eq]
 intro i hi
 unfold iA dD
 rw[Qn]
 simp only[QY,PL,PQ,P6]
 constructor
 ·rintro (h |h)
  ·exact .inl h
  ·exact .inr (@AT)
 ·rintro (h |h)
  ·exact .inl h
  ·exact .inr (@AT)
def Oj {n:Nat}{l:@Do}{late:@KF}(O:@S8)(hz:late.length<=100):∃r,Lp [cQ n (bD l),.list (late.map int)]=.ok (tupI r) false/\Row n l r/\K4 n l late r:=by
 have h8:=O.hi
 show ∃r,fin (jM M8 wW [@IN,@SC,.no,.no,.no,.no] 0)=.ok (tupI r) false/\Row n l r/\K4 n l late r
 unfold jM
 rw[az (env':=[@IN,@SC,.ow (.list (([]:@KF).map int)),.no,.no,.no]) (β':=0) (by rw[j8,lp (ds:=[]) an];rfl)]
 rw[az (env':=[@IN,@SC,.ow (.list (([]:@KF).map int)),.fz (mI (dD []) n),.no,.no]) (β':=0) (by rw[bP,JW];rfl)]
 obtain⟨env',β',ew,r,s4,s5,rfl,rfl,hr,R⟩:=jf (L:=[] ++ []) (t:=cm (f2 (f1 (gv 2) eS) (f1 (gv 0) eS) FX))
  (m:=aK (a9 4 ([0] ++ ([3] ++ [])) (ay M8 (aa (gv 0) (aa (gv 3) af))))
   (aK (a9 5 @Ev (aM 1 [1] (.nm 0) (bC (gv 4)) (cm (f2 (gv 0) (gv 1) (pB true))) (gv 0)))
   (aK (l0 2 (@Ev ++ []) (f2 (f2 (gv 5) (gv 4) dt) @Cl bu))
   (a9 3 ([3] ++ (@Ev ++ [])) (ay wW (aa (gv 3) (aa (f2 (gv 2) (f1 @EQ pz) bu) af)))))))
  (λk env b=>∃r s4 s5,env= [@IN,@SC,.ow (.list (r.map int)),@SL,s4,s5]/\b=0/\K4 n l late r/\k=n - r.length)
  (λenv b=>∃r s4 s5,env= [@IN,@SC,.ow (.list (r.map int)),@SL,s4,s5]/\b=0/\Row n l r/\K4 n l late r)
  (n:=1000) (k:=n) (env:=[@IN,@SC,.ow (.list (([]:@KF).map int)),.fz (mI (dD []) n),.no,.no]) (β:=0) (@AT)
  ⟨[],.no,.no,rfl,rfl,⟨⟨RN,(λx hx=>by cases hx),(λp _ h=>by cases h)⟩,λq x hp=>by simp at hp⟩,by simp⟩ (by
   rintro k env b ⟨r,s4,s5,rfl,rfl,R,rfl⟩
   have hrl:=R.beg.len
   have et:cm (f2 (f1 (gv 2) eS) (f1 (gv 0) eS) FX) (vl [@IN,@SC,.ow (.list (r.map int)),@SL,s4,s5]) 0=.ok (decide ((r.length:Int) < n)) 0:=by
    refine fB _ _ _ _ (aF (x:=.int r.length) (y:=.int n) (β1:=0) ?_ ?_ rfl)
    ·rw[z0 (ds:=r.map int) rfl,Py]
    ·rw[z0 (ds:=(@TR).map λb=>mI (bD l b) n) rfl,Py,QO]
   refine⟨_,_,et,?_⟩
   by_cases hlt:r.length < n
   ·refine .inr ⟨PF (@AT),?_⟩
    show ∃env2 β2 k',aK _ _ [@IN,@SC,.ow (.list (r.map int)),@SL,s4,s5] 0=.nx env2 β2/\k' < n - r.length/\_
    rw[az (env':=[@IN,@SC,.ow (.list (r.map int)),@SL,.fz (.list ((dW l r n).map int)),s5]) (β':=0) (by rw[bP,aE (ds:=[cQ n (bD l),mI (dD r) n]) (β1:=0) rfl (NT O r)];rfl)]
    have ec:aM 1 [1] (.nm 0) (bC (gv 4)) (cm (f2 (gv 0) (gv 1) (pB true))) (gv 0) (vl [@IN,@SC,.ow (.list (r.map int)),@SL,.fz (.list ((dW l r n).map int)),s5]) 0=.ok (.list (((dW l r n).filter λx=> !decide (x∈late)).map int)) 0:=by
     refine cf (l:=dW l r n) (e:=int) (λx=> !decide (x∈late)) int rfl (by have:=oI l r n;omega) λx hx=>⟨_,rfl,?_,λ_=>rfl⟩
     exact fB _ _ _ _ (aF (x:=.int x) (y:=.list (late.map int)) rfl rfl (xJ true x late))
    generalize hEE:((dW l r n).filter λx=> !decide (x∈late))=EE at ec
    rw[az (env':=[@IN,@SC,.ow (.list (r.map int)),@SL,.fz (.list ((dW l r n).map int)),.fz (.list (EE.map int))]) (β':=0) (by rw[bP,ec];rfl)]
    have hne:dW l r n≠ []:=R.beg.free O hlt
    have hEl:EE.length<=n:=by rw[<-hEE];exact QA (Qr _ _) (oI l r n)
    have hfl:=oI l r n
    obtain⟨x,L,hx⟩:∃x L,EE ++ dW l r n=x :: L:=List.exists_cons_of_ne_nil (by simp[hne])
    have hxm:x∈dW l r n:=by
     have:x∈EE ++ dW l r n:=by rw[hx];exact Pz ..
     rcases PQ.mp this with h |h
     ·rw[<-hEE] at h;exact (PH.mp h).1
     ·exact h
    obtain⟨hm1,hm2⟩:=PH.mp hxm
    have hxr:=bN.mp hm1
    have hlate:x∈late->∀y:Int,(0<=y/\y < n)->iD l r y=true->y∈late:=λhxl y hy hfy=>by
     apply Classical.byContradiction
     intro hn
     have hyE:y∈EE:=by rw[<-hEE];exact PH.mpr ⟨PH.mpr ⟨bN.mpr hy,hfy⟩,by simp[hn]⟩
     cases hE:EE with
     |nil=>rw[hE] at hyE;cases hyE
     |cons z Z=>
      rw[hE,List.cons_append] at hx
      have e1:=(List.cons.inj hx).1
      have:z∈EE:=by rw[hE];exact Pz ..
      rw[<-hEE] at this
      have:=(PH.mp this).2
      rw[e1] at this
      simp[hxl] at this
    have R':=R.more hxr hm2 hlate
    rw[az (env':=[@IN,@SC,.ow (.list ((r ++ [x]).map int)),@SL,.fz (.list ((dW l r n).map int)),.fz (.list (EE.map int))]) (β':=0) ?bb]
    case bb=>
     have ei:f2 (f2 (gv 5) (gv 4) dt) @Cl bu (vl [@IN,@SC,.ow (.list (r.map int)),@SL,.fz (.list ((dW l r n).map int)),.fz (.list (EE.map int))]) 0=.ok (.int x) 0:=by
      refine aF (x:=.list ((EE ++ dW l r n).map int)) (y:=.int 0) (aF (x:=.list (EE.map int)) (y:=.list ((dW l r n).map int)) rfl rfl ?_) rfl ?_
      ·rw[fY (by rw[Py,Py];omega),Qk]
      ·rw[hx];exact kU (xs:=.int x :: L.map int) (j:=0) rfl
     rw[ot (i:=2) (ds:=r.map int) (d:=.int x) (β':=0) @Tk ei @Tk (by rw[Py];omega),Qk]
     rfl
    have e1:(x.toNat:Int)=x:=@AT
    have el:f2 (gv 2) (f1 @EQ pz) bu (vl [@IN,@SC,.ow (.list ((r ++ [x]).map int)),@SL,.fz (.list ((dW l r n).map int)),.fz (.list (EE.map int))]) 0=.ok (.int (x.toNat:Int)) 0:=by
     refine aF (x:=.list ((r ++ [x]).map int)) (y:=.int (-1)) rfl rfl ?_
     show kq ((r ++ [x]).map int) (-1)=_
     rw[e1]
     unfold kq wM
     rw[Px (@AT),Po (by simp;omega)]
     show ((r ++ [x]).map int)[((-1:Int) + ((((r ++ [x]).map int).length:Nat):Int)).toNat]? =_
     rw[show ((-1:Int) + ((((r ++ [x]).map int).length:Nat):Int)).toNat=r.length by simp;omega,Qk,Qf @Go]
     simp
    refine⟨[@IN,@SC,.ow (.list ((r ++ [x]).map int)),.fz (mI (dD (r ++ [x])) n),.fz (.list ((dW l r n).map int)),.fz (.list (EE.map int))],0,n - (r ++ [x]).length,?_,by rw[P5,Rj];omega,_,_,_,rfl,rfl,R',rfl⟩
    rw[bP,aE (ds:=[mI (dD r) n,.int (x.toNat:Int)]) (β1:=0) (ac rfl (ac el an)) (FH h8 (@AT)),J1 hxr];rfl
   ·refine .inl ⟨PU (@AT),r,s4,s5,rfl,rfl,R.beg.row O (@AT),R⟩)
 rw[az (env':=[@IN,@SC,.ow (.list (r.map int)),@SL,s4,s5]) (β':=0) ew]
 exact⟨r,rfl,hr,R⟩
def EJ {fa fb:VF D}{vs:List Nv}{β:Int}{ds:List D}{i:Nat}(ha:@TX=.ok (.tuple ds) β)(hb:fb vs β=.ok (.int ((i:Nat):Int)) β):Cf fa (λ_ β=>.ok none β) (G6 fb) vs β=.ok (.tuple (ds.take i)) β:=by
 unfold Cf G6
 rw[ha];dsimp only[R.bnd]
 rw[hb];dsimp only[R.bnd]
 congr 2
 unfold cutD
 rw[HT.xk,HT.Ax]
 by_cases h:i<=ds.length
 ·rw[Nat.min_eq_left h];rfl
 ·rw[Nat.min_eq_right (@AT),Rf (show ds.length<=i by omega)];simp
def mY (rows:List (@KF))(p:Pr):Bool:= !decide (p.1=p.2) && (rows.filter λr=>decide (r.idxOf p.1 > r.idxOf p.2)).isEmpty
def xj:@Fk:=bg 6 2 hU
def Jn {n:Nat}{rows:List (@KF)}(h8:n<=8)(hr:rows.length<=100)(hp:∀r,r∈rows->r.Perm (eB n)):xj [.int n,.list (rows.map tupI)]=.ok (.tuple (((OM.cn n).filter (mY rows)).map ao)) false:=by
 show fin (hU [.fz @Ix,@K_,.no,.no,.no,.no] 0)=_
 unfold hU
 rw[az (env':=[.fz @Ix,@K_,.ow (.list []),.no,.no,.no]) (β':=0) ?g1]
 case g1=>rw[j8,dU (ds:=[]) rfl @Go];rfl
 obtain⟨env',β',ef,s,t,u,rfl,rfl⟩:=dz (t:=.nm 3) (m:=dY (.nm 4) [] (bS (gv 0))
   (aK (a9 5 @Ev (aM 1 [3,4] (.nm 0) (bC (gv 1)) (cm (f2 (pA (gv 0) (gv 1)) (pA (gv 0) (gv 2)) Lj)) @EQ))
   (kr (@Ev ++ @Ev) (yN (cm (f2 (gv 3) (gv 4) (cv true))) (cm (f2 (gv 5) (bt af) (cv false))))
   (l0 2 ([3] ++ ([4] ++ [])) (aQ (aa (gv 3) @Te)))
   nR))) (ds:=cJ 0 n) (k:=0)
  (λi env β=>∃s t u:Sl,env= [.fz @Ix,@K_,.ow (.list ((upTo n (mY rows) i 0).map ao)),s,t,u]/\β=0)
  (env:=[.fz @Ix,@K_,.ow (.list []),.no,.no,.no]) (β:=0) ⟨.no,.no,.no,by rw[CI];rfl,rfl⟩ (by
   rintro i d env β hi ⟨s,t,u,rfl,rfl⟩
   obtain⟨hin,rfl⟩:=jr hi
   refine⟨[.fz @Ix,@K_,.ow (.list ((upTo n (mY rows) (0 + i) 0).map ao)),.fz (.int (0 + @S0)),t,u],rfl,?_⟩
   rw[Qt,QT]
   obtain⟨env',β',ef,t2,u2,rfl,rfl⟩:=dz (t:=.nm 4) (m:=aK (a9 5 @Ev (aM 1 [3,4] (.nm 0) (bC (gv 1)) (cm (f2 (pA (gv 0) (gv 1)) (pA (gv 0) (gv 2)) Lj)) @EQ))
     (kr (@Ev ++ @Ev) (yN (cm (f2 (gv 3) (gv 4) (cv true))) (cm (f2 (gv 5) (bt af) (cv false))))
     (l0 2 ([3] ++ ([4] ++ [])) (aQ (aa (gv 3) @Te)))
     nR)) (ds:=cJ 0 n) (k:=0)
    (λk env β=>∃t u:Sl,env= [.fz @Ix,@K_,.ow (.list ((upTo n (mY rows) i k).map ao)),.fz @S3,t,u]/\β=0)
    (env:=[.fz @Ix,@K_,.ow (.list ((upTo n (mY rows) i 0).map ao)),.fz @S3,t,u]) (β:=0) ⟨t,u,rfl,rfl⟩ (by
     rintro k d env β hk ⟨t,u,rfl,rfl⟩
     obtain⟨hkn,rfl⟩:=jr hk
     refine⟨[.fz @Ix,@K_,.ow (.list ((upTo n (mY rows) i (0 + k)).map ao)),.fz @S3,.fz (.int (0 + (k:Int))),u],rfl,?_⟩
     rw[Qt,QT]
     have ec:aM 1 [3,4] (.nm 0) (bC (gv 1)) (cm (f2 (pA (gv 0) (gv 1)) (pA (gv 0) (gv 2)) Lj)) @EQ [.da @Ix,.da (.list (rows.map tupI)),.da (.list ((upTo n (mY rows) i k).map ao)),.da @S3,.da (.int k),u.val] 0=.ok (.list ((rows.filter λr=>decide (r.idxOf @S0 > r.idxOf (k:Int))).map λ_=>int 1)) 0:=by
      refine cf (l:=rows) (e:=tupI) (λr=>decide (r.idxOf @S0 > r.idxOf (k:Int))) (λ_=>int 1) rfl (@AT) λr hr=>⟨_,rfl,?_,λ_=>rfl⟩
      have hp:=hp r hr
      refine fB _ _ _ _ (aF (Bi (r:=r) (k:=i) rfl rfl (hp.mem_iff.mpr (bN.mpr ⟨@AT,@AT ⟩))) (Bi (r:=r) (k:=k) rfl rfl (hp.mem_iff.mpr (bN.mpr ⟨@AT,@AT ⟩))) ?_)
      show some (PyData.bool (decide (((r.idxOf @S0:Nat):Int) > ((r.idxOf (k:Int):Nat):Int))))=_
      congr 2
      rw[Qn,PL,PL]
      omega
     rw[az (env':=[.fz @Ix,@K_,.ow (.list ((upTo n (mY rows) i k).map ao)),.fz @S3,.fz (.int k),.fz (.list ((rows.filter λr=>decide (r.idxOf @S0 > r.idxOf (k:Int))).map λ_=>int 1))]) (β':=0) ?g]
     case g=>
      rw[bP]
      show toS (aM 1 [3,4] (.nm 0) (bC (gv 1)) (cm (f2 (pA (gv 0) (gv 1)) (pA (gv 0) (gv 2)) Lj)) @EQ [.da @Ix,.da (.list (rows.map tupI)),.da (.list ((upTo n (mY rows) i k).map ao)),.da @S3,.da (.int k),u.val] 0) _=_
      rw[ec];rfl
     generalize hL:(rows.filter λr=>decide (r.idxOf @S0 > r.idxOf (k:Int)))=L
     have et:yN (cm (f2 (gv 3) (gv 4) (cv true))) (cm (f2 (gv 5) (bt af) (cv false))) (vl @SM) 0=.ok (mY rows (@S0,(k:Int))) 0:=by
      have h1:cm (f2 (gv 5) (bt af) (cv false)) (vl @SM) 0=.ok L.isEmpty 0:=by
       refine fB _ _ _ _ (aF (x:=.list (L.map λ_=>int 1)) (y:=.list []) rfl (dU (ds:=[]) rfl @Go) ?_)
       have e9:(L.map λ_=>int 1)=(L.map λ_=>(1:Int)).map int:=by rw[QE];rfl
       rw[e9,show ([]:List D)=([]:@KF).map int from rfl,wU]
       congr 2
       cases L <;> simp
      have:=ze (fk (neg:=true) (fa:=gv 3) (fb:=gv 4) (vs:=vl @SM) (β:=0) (i:=i) (j:=k) rfl rfl) h1
      rw[this]
      unfold mY
      rw[hL];rfl
     cases c:mY rows (@S0,(k:Int)) with
     |true=>
      rw[c] at et
      refine⟨[.fz @Ix,@K_,.ow (.list ((upTo n (mY rows) i (k + 1)).map ao)),.fz @S3,.fz (.int k),.fz (.list (L.map λ_=>int 1))],0,?_,_,_,rfl,rfl⟩
      rw[ij et]
      have:=ot (i:=2) (L:=[3] ++ ([4] ++ [])) (env:=@SM) (ds:=(upTo n (mY rows) i k).map ao) (β:=0) @Tk (dB (fa:=gv 3) (fb:=gv 4) (a:=i) (b:=k) rfl rfl) @Tk (by rw[Py];have:=DC (mY rows) i k h8;omega)
      rw[uh _ hin hkn,Po c,Qk]
      exact this
     |false=>
      rw[c] at et
      refine⟨[.fz @Ix,@K_,.ow (.list ((upTo n (mY rows) i (k + 1)).map ao)),.fz @S3,.fz (.int k),.fz (.list (L.map λ_=>int 1))],0,?_,_,_,rfl,rfl⟩
      have e8:=uh (mY rows) hin hkn
      rw[Px (by rw[c];exact PR),Rl] at e8
      rw[gr et,e8];rfl)
   rw[gB,Qt,D9] at ef
   refine⟨[.fz @Ix,@K_,.ow (.list ((upTo n (mY rows) (i + 1) 0).map ao)),.fz @S3,t2,u2],0,?_,_,_,_,rfl,rfl⟩
   rw[dC (env:=[.fz @Ix,@K_,.ow (.list ((upTo n (mY rows) i 0).map ao)),.fz @S3,t,u]) (du (n:=n) rfl (@AT))]
   exact ef)
 rw[gB,Qt,Dh] at ef
 rw[az (env':=[.fz @Ix,@K_,.ow (.list (((OM.cn n).filter (mY rows)).map ao)),s,t,u]) (β':=0) ?g2]
 case g2=>
  rw[dC (env:=[.fz @Ix,@K_,.ow (.list []),.no,.no,.no]) (du (n:=n) rfl (@AT))]
  exact ef
 rw[cA,eN (x:=.list (((OM.cn n).filter (mY rows)).map ao)) (d:=.tuple (((OM.cn n).filter (mY rows)).map ao)) (β1:=0) rfl ?g3]
 case g3=>rfl
 rfl
def qP {rows:List (@KF)}{p:Pr}:mY rows p=true↔p.1≠p.2/\∀r,r∈rows->r.idxOf p.1<=r.idxOf p.2:=by
 unfold mY
 rw[PM,QG,Q9,List.isEmpty_iff,List.filter_eq_nil_iff]
 simp only[PL,Nat.not_lt,gt_iff_lt]
def DF {n:Nat}{rows:List (@KF)}(h1:1<=n)(h8:n<=8)(hne:rows≠ [])(hp:∀r,r∈rows->r.Perm (eB n)):OM.Ord n ((OM.cn n).filter (mY rows)):=by
 refine⟨h1,h8,λp hm=>OM.bo.mp (PH.mp hm).1,OM.cS _ (OM.fN n),λa h=>?_,λa b c hab hbc=>?_⟩
 ·exact (qP.mp (PH.mp h).2).1 rfl
 ·obtain⟨g1,t1⟩:=PH.mp hab
  obtain⟨g2,t2⟩:=PH.mp hbc
  have g1:=OM.bo.mp g1
  have g2:=OM.bo.mp g2
  obtain⟨n1,q1⟩:=qP.mp t1
  obtain⟨n2,q2⟩:=qP.mp t2
  refine PH.mpr ⟨OM.bo.mpr ⟨g1.1,g2.2⟩,qP.mpr ⟨λe=>?_,λr hr=>QA (q1 r hr) (q2 r hr)⟩⟩
  simp only at e n1 q1 q2
  subst e
  cases rows with
  |nil=>exact hne rfl
  |cons r rest=>
   have hr:r∈r :: rest:=Pz ..
   have pm:=hp r hr
   exact n1 (HX (pm.mem_iff.mpr (bN.mpr g1.1)) (pm.mem_iff.mpr (bN.mpr g1.2)) (Nat.le_antisymm (q1 r hr) (q2 r hr)))
noncomputable def wy:@SN:=o9 6 0 (iS b4 fw)
def O2 (ms:@KF)(m i:Nat)(ps:@Do):Prop:=ps.Nodup/\ps.length<=4 * i/\∀p,p∈ps->∃i' j:Nat,i' < i/\j < m/\ms[i']? =some p.1/\ms[m + j]? =some p.2
def Hk {ms:@KF}{m i:Nat}{ps:@Do}(h3:3<=m)(h4:m<=4)(hi:i<=m)(hp:ms.Perm (eB (2 * m)))(h:O2 ms m i ps):OM.Ord (2 * m) (OM.bW 8 @TV)/\ps.all Kl=true/\ps.length < 64:=by
 obtain⟨nd,hl,hc⟩:=h
 have ndm:ms.Nodup:=hp.nodup_iff.mpr (kf _)
 have wn:OM.Wn (2 * m) ps:=λp hm=>by
  obtain⟨i',j,_,_,e1,e2⟩:=hc p hm
  exact⟨bN.mp (hp.mem_iff.mp (PV e1)),bN.mp (hp.mem_iff.mp (PV e2))⟩
 rw[IA (@AT) wn]
 refine⟨⟨@AT,@AT,OM.qL _ _,OM.cK _ _,λa h=>?_,λa b c h k=>?_⟩,zO (@AT) wn,@AT ⟩
 ·obtain⟨i',j,hi',_,e1,e2⟩:=hc _ (OM.bc.mp h).2
  have:=jj ndm e1 e2
  omega
 ·obtain⟨i',j,hi',_,e1,e2⟩:=hc _ (OM.bc.mp h).2
  obtain⟨i2,j2,hi2,_,e3,e4⟩:=hc _ (OM.bc.mp k).2
  have:=jj ndm e2 e3
  omega
def Gf (β:Int):∃(n:Nat) (l:@Do) (β':Int),wy [] β=.ok (aA n l) false β'/\@S8:=by
 obtain⟨j,hj,ej⟩:=jq (m:=2) (@AT) (@AT) β
 show ∃(n:Nat) (l:@Do) (β':Int),wz (iS b4 fw [.bx,.no,.no,.no,.no,.no] β)=.ok (aA n l) false β'/\@S8
 unfold iS
 generalize hβ1:β / ((2:Nat):Int)=β1 at ej
 have e1:f2 (cst (.int 3)) (i5 0 b4 (aa @Tf af)) b8 [Nv.bx,.no,.no,.no,.no,.no] β=.ok (.int ((3 + j:Nat):Int)) β1:=by
  refine aF (x:=.int 3) rfl (fx @Tk rfl ej) ?_
  show some (int (3 + (j:Int)))=_
  rw[show ((3 + j:Nat):Int)=3 + (j:Int) by omega]
 rw[az (env':=[.bx,.fz (.int ((3 + j:Nat):Int)),.no,.no,.no,.no]) (β':=β1) ?g1]
 case g1=>
  show toS (f2 (cst (.int 3)) (i5 0 b4 (aa @Tf af)) b8 [Nv.bx,.no,.no,.no,.no,.no] β) _=_
  rw[e1];rfl
 have h3:3<=3 + j:=@AT
 have h4:3 + j<=4:=@AT
 generalize hm:3 + j=m at h3 h4
 obtain⟨ms,β2,em,hp⟩:=qN (eB (2 * m)) (by rw[cU];omega) β1
 have hml:ms.length=2 * m:=by rw[hp.length_eq,cU]
 have g2:cR (.int 2) (.int m)=some (.int ((2 * m:Nat):Int)):=by rw[nX ⟨@AT,@AT ⟩];congr 2
 have e2:i5 0 fw (aa (f1 (f2 @Tf (gv 1) cR) cC) af) [Nv.bx,.da (.int m),.no,.no,.no,.no] β1=.ok @E_ β2:=by
  refine fx (ds:=[.list ((eB (2 * m)).map int)]) (b:=true) (β1:=β1) @Tk ?_ em
  rw[bE,eN (x:=.int ((2 * m:Nat):Int)) (d:=.list ((eB (2 * m)).map int)) (β1:=β1) (aF rfl rfl g2) (mr (@AT))];rfl
 rw[az (env':=[.bx,.fz (.int m),.fz @E_,.no,.no,.no]) (β':=β2) ?g2]
 case g2=>
  show toS (i5 0 fw (aa (f1 (f2 @Tf (gv 1) cR) cC) af) [Nv.bx,.da (.int m),.no,.no,.no,.no] β1) _=_
  rw[e2];rfl
 rw[az (env':=[.bx,.fz (.int m),.fz @E_,.fz (.list []),.no,.no]) (β':=β2) ?g3]
 case g3=>rw[bP,dU (ds:=[]) rfl @Go];rfl
 have ndm:ms.Nodup:=hp.nodup_iff.mpr (kf _)
 obtain⟨env',β',ef,ps,s,t,rfl,rfl,hC⟩:=dz (t:=.nm 4) (m:=aK (a9 5 @Ev (aM 1 [4,2,1] (.nm 0) (bS (gv 1)) (cm (f2 (gv 0) (gv 1) (cv true))) (f2 (gv 2) (f2 (gv 3) (gv 0) b8) bu)))
   (a9 3 @TY (f2 (gv 3) (aM 1 [2,4] (.nm 0) (bC (gv 5)) lN (aQ (aa (f2 (gv 1) (gv 2) bu) @Is))) dt))) (ds:=cJ 0 m) (k:=0)
  (λi env β=>∃(ps:@Do) (s t:Sl),env= [.bx,.fz (.int m),.fz @E_,.fz @FS,s,t]/\β=β2/\O2 ms m i ps)
  (env:=[.bx,.fz (.int m),.fz @E_,.fz (.list []),.no,.no]) (β:=β2) ⟨[],.no,.no,rfl,rfl,RN,by simp,λp hp=>by cases hp⟩ (by
   rintro i d env β hi ⟨ps,s,t,rfl,rfl,nd,hl,hc⟩
   obtain⟨hin,rfl⟩:=jr hi
   refine⟨[.bx,.fz (.int m),.fz @E_,.fz @FS,.fz (.int (0 + @S0)),t],rfl,?_⟩
   rw[Qt,QT]
   rw[Qt] at hl hc
   have him:i < ms.length:=@AT
   have ec:aM 1 [4,2,1] (.nm 0) (bS (gv 1)) (cm (f2 (gv 0) (gv 1) (cv true))) (f2 (gv 2) (f2 (gv 3) (gv 0) b8) bu) [.bx,.da (.int m),.da @E_,.da @FS,.da @S3,t.val] β=.ok (.list ((((List.range m).filter λ(j:Nat)=> !decide ((j:Int)=@S0)).map λ(j:Nat)=>ms.getD (m + j) 0).map int)) β:=by
    rw[QE]
    refine cf (l:=List.range m) (e:=λ(k:Nat)=>int (0 + (k:Int))) (λ(j:Nat)=> !decide ((j:Int)=@S0)) (λj=>int (ms.getD (m + j) 0)) (du (n:=m) rfl (@AT)) (by rw[QO];omega) λj hj=>⟨_,rfl,?_,λ_=>?_⟩
    ·rw[QT];exact fk (neg:=true) (i:=j) (j:=i) rfl rfl
    ·have hj:=P4.mp hj
     have hjm:m + j < ms.length:=@AT
     refine aF (x:=.list (ms.map int)) (y:=.int ((m + j:Nat):Int)) rfl (aF (x:=.int m) (y:=.int (0 + (j:Int))) rfl rfl ?_) ?_
     ·show some (int ((m:Int) + (0 + (j:Int))))=_
      congr 2;omega
     ·show kq (ms.map int) ((m + j:Nat):Int)=_
      rw[jJ,nK hjm,P9,Pn hjm];rfl
   rw[az (env':=[.bx,.fz (.int m),.fz @E_,.fz @FS,.fz @S3,.fz (.list ((((List.range m).filter λ(j:Nat)=> !decide ((j:Int)=@S0)).map λ(j:Nat)=>ms.getD (m + j) 0).map int))]) (β':=β) ?g]
   case g=>
    rw[bP]
    show toS (aM 1 [4,2,1] (.nm 0) (bS (gv 1)) (cm (f2 (gv 0) (gv 1) (cv true))) (f2 (gv 2) (f2 (gv 3) (gv 0) b8) bu) [.bx,.da (.int m),.da @E_,.da @FS,.da @S3,t.val] β) _=_
    rw[ec];rfl
   generalize hO:((List.range m).filter λ(j:Nat)=> !decide ((j:Int)=@S0))=js
   have hjs:∀j,j∈js->j < m:=λj hj=>by rw[<-hO] at hj;exact P4.mp (PH.mp hj).1
   have hjn:js.Nodup:=by rw[<-hO];exact Rx.filter _
   have hjl:js.length<=m:=by rw[<-hO];have:=Qr (λ(j:Nat)=> !decide ((j:Int)=@S0)) (List.range m);rw[QO] at this;exact this
   have ed:aM 1 [2,4] (.nm 0) (bC (gv 5)) lN (aQ (aa (f2 (gv 1) (gv 2) bu) @Is)) [.bx,.da (.int m),.da @E_,.da @FS,.da @S3,.da (.list ((js.map λ(j:Nat)=>ms.getD (m + j) 0).map int))] β=.ok (.list ((js.map λ(j:Nat)=>((ms.getD i 0,ms.getD (m + j) 0):Pr)).map ao)) β:=by
    rw[QE,QE]
    refine cV (l:=js) (e:=λj=>int (ms.getD (m + j) 0)) (λj=>ao (ms.getD i 0,ms.getD (m + j) 0)) rfl (@AT) λj hj=>⟨_,rfl,?_⟩
    refine dB (aF (x:=.list (ms.map int)) (y:=.int i) rfl rfl ?_) rfl
    show kq (ms.map int) @S0=_
    rw[jJ,nK him,P9,Pn him];rfl
   refine⟨[.bx,.fz (.int m),.fz @E_,.fz (.list ((ps ++ js.map λ(j:Nat)=>((ms.getD i 0,ms.getD (m + j) 0):Pr)).map ao)),.fz @S3,.fz (.list ((js.map λ(j:Nat)=>ms.getD (m + j) 0).map int))],β,?_,_,_,_,rfl,rfl,?_,?_,?_⟩
   ·rw[bP]
    show toS (f2 (gv 3) (aM 1 [2,4] (.nm 0) (bC (gv 5)) lN (aQ (aa (f2 (gv 1) (gv 2) bu) @Is))) dt [.bx,.da (.int m),.da @E_,.da @FS,.da @S3,.da (.list ((js.map λ(j:Nat)=>ms.getD (m + j) 0).map int))] β) _=_
    rw[aF (x:=.list (ps.map ao)) rfl ed (fY (by rw[Py,Py,Py];omega)),<-Qk];rfl
   ·have hd:∀j,j < m->ms[m + j]? =some (ms.getD (m + j) 0):=λj hj=>by rw[P9,Pn (@AT)];rfl
    have hdi:ms[i]? =some (ms.getD i 0):=by rw[P9,Pn him];rfl
    refine R8.mpr ⟨nd,?_,λp hp q hq e=>?_⟩
    ·rw[QU,Qv]
     refine QP (λ{a b} ha hb h e=>?_) (QU.mp hjn)
     have e2:=(Prod.mk.inj e).2
     have:=jj ndm (hd a (hjs a ha)) (by rw[e2];exact hd b (hjs b hb))
     omega
    ·subst e
     obtain⟨j,hj,rfl⟩:=PD.mp hq
     obtain⟨i',j',h1,h2,h3,h4⟩:=hc _ hp
     have:=jj ndm h3 hdi
     omega
   ·rw[P5,Py];omega
   ·intro p hp
    rcases PQ.mp hp with hp |hp
    ·obtain⟨i',j',h1,h2,h3,h4⟩:=hc _ hp
     exact⟨i',j',@AT,h2,h3,h4⟩
    ·obtain⟨j,hj,rfl⟩:=PD.mp hp
     refine⟨i,j,@AT,hjs j hj,?_,?_⟩
     ·show ms[i]? =some (ms.getD i 0)
      rw[P9,Pn him];rfl
     ·have:=hjs j hj
      show ms[m + j]? =some (ms.getD (m + j) 0)
      rw[P9,Pn (@AT)];rfl)
 rw[gB,Qt] at hC
 rw[az (env':=[.bx,.fz (.int m),.fz @E_,.fz @FS,s,t]) (β':=β') ?g5]
 case g5=>
  rw[dC (env:=[.bx,.fz (.int m),.fz @E_,.fz (.list []),.no,.no]) (du (n:=m) rfl (@AT))]
  exact ef
 obtain⟨O,hsm,hl⟩:=Hk h3 h4 (Pt m) hp hC
 refine⟨2 * m,OM.bW 8 @TV,β',?_,O⟩
 have g9:i6 @FS=some (.list ((OM.bW 8 @TV).map ao)):=by
  unfold i6
  dsimp only
  rw[fm]
  dsimp only
  rw[Po ⟨hsm,hC.1,hl⟩]
 have e9:aQ (aa (f2 @Tf (gv 1) cR) (aa (f1 (f1 (gv 3) i6) gL) af)) [Nv.bx,.da (.int m),.da @E_,.da @FS,s.val,t.val] β'=.ok (aA (2 * m) (OM.bW 8 @TV)) β':=by
  refine iE (ds:=[.int ((2 * m:Nat):Int),.tuple ((OM.bW 8 @TV).map ao)]) ?_ @Go
  rw[bE,aF (x:=.int 2) (y:=.int m) rfl rfl g2]
  dsimp only[R.bnd]
  rw[bE,eN (eN (x:=.list (ps.map ao)) rfl g9) @Tk];rfl
 rw[cA]
 show wz (toS (aQ (aa (f2 @Tf (gv 1) cR) (aa (f1 (f1 (gv 3) i6) gL) af)) [Nv.bx,.da (.int m),.da @E_,.da @FS,s.val,t.val] β') _)=_
 rw[e9];rfl
noncomputable def anyF:@SN:=o9 5 1 (dQ xj b4 wy fw qH)
def CU {t:Tg}{fe:VF D}{vs vs0 vs1:List Nv}{d0 d1 x0 x1:D}{β β1 β2:Int}(h0:nr t d0 vs=some vs0)(e0:fe vs0 β=.ok x0 β1)(h1:nr t d1 vs=some vs1)(e1:fe vs1 β1=.ok x1 β2):fQ t lN fe vs [d0,d1] β=.ok [x0,x1] β2:=by
 have q1:fQ t lN fe vs [d1] β1=.ok [x1] β2:=by
  unfold fQ
  rw[h1]
  dsimp only[lN,R.okb]
  rw[Po rfl,e1];rfl
 unfold fQ
 rw[h0]
 dsimp only[lN,R.okb]
 rw[Po rfl,e0]
 dsimp only
 rw[q1]
def K5 {most:Nat}(hm1:1<=most)(hm8:most<=8)(β:Int):∃(n:Nat) (l:@Do) (β':Int),anyF [.int (most:Nat)] β=.ok (aA n l) false β'/\@S8:=by
 obtain⟨j,hj,ej⟩:=jq (m:=5) (@AT) (@AT) β
 show ∃(n:Nat) (l:@Do) (β':Int),wz (dQ xj b4 wy fw qH [.bx,.fz (.int (most:Nat)),.no,.no,.no] β)=.ok (aA n l) false β'/\@S8
 unfold dQ
 generalize hβ1:β / ((5:Nat):Int)=β1 at ej
 have e1:i5 0 b4 (aa (cst (.int 5)) af) [Nv.bx,.da (.int (most:Nat)),.no,.no,.no] β=.ok (.int j) β1:=fx @Tk rfl ej
 rw[az (env':=[.bx,.fz (.int (most:Nat)),.fz (.int j),.no,.no]) (β':=β1) ?g1]
 case g1=>
  show toS (i5 0 b4 (aa (cst (.int 5)) af) [Nv.bx,.da (.int (most:Nat)),.no,.no,.no] β) _=_
  rw[e1];rfl
 have t4:cm (f2 (gv 2) (cst (.int 4)) (cv false)) (vl [.bx,.fz (.int (most:Nat)),.fz (.int j),.no,.no]) β1=.ok (decide ((j:Int)=4)) β1:=fk (neg:=false) (i:=j) (j:=4) rfl rfl
 have t3:cm (f2 (gv 2) (cst (.int 3)) (cv false)) (vl [.bx,.fz (.int (most:Nat)),.fz (.int j),.no,.no]) β1=.ok (decide ((j:Int)=3)) β1:=fk (neg:=false) (i:=j) (j:=3) rfl rfl
 by_cases c4:(j:Int)=4
 ·rw[PF c4] at t4
  obtain⟨n,l,β',ec,O⟩:=Gf β1
  refine⟨n,l,β',?_,O⟩
  rw[eT (d:=aA n l) (b:=false) (β':=β') ?g]
  case g=>
   rw[ij t4,cA]
   show toS (i5 0 wy af [Nv.bx,.da (.int (most:Nat)),.da (.int j),.no,.no] β1) _=_
   rw[fx @Tk rfl ec];rfl
  rfl
 rw[PU c4] at t4
 rw[az (env':=[.bx,.fz (.int (most:Nat)),.fz (.int j),.no,.no]) (β':=β1) ?g2]
 case g2=>rw[gr t4];rfl
 by_cases c3:(j:Int)=3
 ·rw[PF c3] at t3
  obtain⟨q,hq,eq⟩:=jq (m:=most) hm1 (@AT) β1
  generalize hβ2:β1 / ((most:Nat):Int)=β2 at eq
  have e2:f2 @EQ (i5 0 b4 @L_) b8 [Nv.bx,.da (.int (most:Nat)),.da (.int j),.no,.no] β1=.ok (.int ((1 + q:Nat):Int)) β2:=by
   refine aF (x:=.int 1) rfl (fx @Tk rfl eq) ?_
   show some (int (1 + (q:Int)))=_
   rw[show ((1 + q:Nat):Int)=1 + (q:Int) by omega]
  have n1:1<=1 + q:=@AT
  have n8:1 + q<=8:=@AT
  generalize hn:1 + q=n at n1 n8 e2
  obtain⟨r0,β3,em0,hp0⟩:=qN (eB n) (by rw[cU];omega) β2
  obtain⟨r1,β4,em1,hp1⟩:=qN (eB n) (by rw[cU];omega) β3
  have hrow:∀(i:Int) (b b':Int) (r:@KF),fw [.list ((eB n).map int)] b=.ok (.list (r.map int)) true b'->f1 (i5 1 fw (aa (f1 (gv 2) cC) af)) gL [Nv.da @S3,.bx,.da @Ix] b=.ok (tupI r) b':=by
   intro i b b' r em
   refine eN (x:=.list (r.map int)) (fx (ds:=[.list ((eB n).map int)]) (b:=true) (β1:=b) @Tk ?_ em) @Tk
   rw[bE,eN (x:=.int n) (d:=.list ((eB n).map int)) (β1:=b) rfl (mr (@AT))];rfl
  have ec:aM 1 [0,3] (.nm 0) (bS @Tf) lN (f1 (i5 1 fw (aa (f1 (gv 2) cC) af)) gL) [Nv.bx,.da (.int (most:Nat)),.da (.int j),.da @Ix,.no] β2=.ok (.list ([r0,r1].map tupI)) β4:=by
   unfold aM
   rw[du (n:=2) (β1:=β2) rfl (@AT)]
   dsimp only[R.bnd]
   rw[Po (sz _ (by rw[gB];omega))]
   have q2:cJ 0 2= [.int 0,.int 1]:=rfl
   rw[q2,CU (vs0:=[.da (.int 0),.bx,.da @Ix]) (vs1:=[.da (.int 1),.bx,.da @Ix]) rfl (hrow 0 _ _ _ em0) rfl (hrow 1 _ _ _ em1)];rfl
  have hP:∀r,r∈ [r0,r1]->r.Perm (eB n):=λr hr=>by
   rcases Pu.mp hr with z |z
   ·rw[z];exact hp0
   ·rw[P6.mp z];exact hp1
  refine⟨n,(OM.cn n).filter (mY [r0,r1]),β4,?_,DF n1 n8 @Go hP⟩
  rw[eT (d:=aA n ((OM.cn n).filter (mY [r0,r1]))) (b:=false) (β':=β4) ?g]
  case g=>
   rw[ij t3]
   rw[az (env':=[.bx,.fz (.int (most:Nat)),.fz (.int j),.fz @Ix,.no]) (β':=β2) ?k1]
   case k1=>
    rw[bP]
    show toS (f2 @EQ (i5 0 b4 @L_) b8 [Nv.bx,.da (.int (most:Nat)),.da (.int j),.no,.no] β1) _=_
    rw[e2];rfl
   rw[az (env':=[.bx,.fz (.int (most:Nat)),.fz (.int j),.fz @Ix,.fz (.list ([r0,r1].map tupI))]) (β':=β4) ?k2]
   case k2=>
    rw[bP]
    show toS (aM 1 [0,3] (.nm 0) (bS @Tf) lN (f1 (i5 1 fw (aa (f1 (gv 2) cC) af)) gL) [Nv.bx,.da (.int (most:Nat)),.da (.int j),.da @Ix,.no] β2) _=_
    rw[ec];rfl
   rw[cA]
   show toS (aQ (aa (gv 3) (aa (ay xj (aa (gv 3) @Te)) af)) [Nv.bx,.da (.int (most:Nat)),.da (.int j),.da @Ix,.da (.list ([r0,r1].map tupI))] β4) _=_
   have a1:ay xj (aa (gv 3) @Te) [Nv.bx,.da (.int (most:Nat)),.da (.int j),.da @Ix,.da (.list ([r0,r1].map tupI))] β4=.ok (.tuple (((OM.cn n).filter (mY [r0,r1])).map ao)) β4:=aE rfl (Jn n8 @Go hP)
   rw[iE (ds:=[.int n,.tuple (((OM.cn n).filter (mY [r0,r1])).map ao)]) (β1:=β4) ?k3 @Go]
   case k3=>
    rw[bE]
    show (R.ok (int n) β4).bnd _=_
    dsimp only[R.bnd]
    rw[bE,a1];rfl
   rfl
  rfl
 rw[PU c3] at t3
 rw[az (env':=[.bx,.fz (.int (most:Nat)),.fz (.int j),.no,.no]) (β':=β1) ?g3]
 case g3=>rw[gr t3];rfl
 obtain⟨n,l,β',eo,O,_⟩:=Et hm1 hm8 β1
 refine⟨n,l,β',?_,O⟩
 rw[cA]
 show wz (toS (i5 0 qH @L_ [Nv.bx,.da (.int (most:Nat)),.da (.int j),.no,.no] β1) _)=_
 rw[fx @Tk rfl eo];rfl
structure WP (r:SO)(Q:SO->Prop):Prop where
 out:Q r
section
variable {m m' m1 m2:SF}{env env1:En}{β β1 β2 z:Int}{Q:SO->Prop}{f fa fb:VF D}{t:VF Bool}{d e:D}{L La Lb:@IO}{i j:Nat}{c:Bool}
def wp_at (env1:En)(e:env=env1)(k:WP (m env1 β) Q):WP (m env β) Q:=by rw[e];exact k
def wp_seq (h:m env β=.nx env1 β1)(k:WP (m' env1 β1) Q):WP (aK m m' env β) Q:=by rw[az h];exact k
def Br (q:Q (.nx env β)):WP (nR env β) Q:=⟨q⟩
def jX (h:f @Ps β=.ok d β1)(k:WP (m' ((a8 L env).set i (.fz d)) β1) Q):WP (aK (a9 i L f) m' env β) Q:=wp_seq (by unfold a9;rw[h];rfl) k
def HK (h:f @Ps β=.ok (.list [.int z]) β1)(k:WP (m' ((t8 @SX).set i .bx) z) Q):WP (aK (BE i L f) m' env β) Q:=wp_seq (by unfold BE;rw[h];rfl) k
def vd (h:f @Ps β=.ok d β1)(k:WP (m' @SX β1) Q):WP (aK (mD L f) m' env β) Q:=wp_seq (by unfold mD;rw[h];rfl) k
def Hh (h:t @Ps β=.ok false β1)(k:WP (m' @SX β1) Q):WP (aK (kr L t m1 nR) m' env β) Q:=wp_seq (by rw[gr h];rfl) k
def AK (h:t @Ps β=.ok true β1)(k:WP (aK m1 m' @SX β1) Q):WP (aK (kr L t m1 m2) m' env β) Q:=by
 have:aK (kr L t m1 m2) m' env β=aK m1 m' @SX β1:=by unfold aK;rw[ij h]
 rw[this];exact k
def N9 (h:t @Ps β=.ok true β1)(k:WP (m1 @SX β1) Q):WP (kr L t m1 m2 env β) Q:=by rw[ij h];exact k
def Hz (h:t @Ps β=.ok false β1)(k:WP (m2 @SX β1) Q):WP (kr L t m1 m2 env β) Q:=by rw[gr h];exact k
def D8 (h:f @Ps β=.ok d β1)(q:Q (.rt d false β1)):WP (bG f env β) Q:=⟨by unfold bG;rw[h];exact q⟩
def Bq (h:f @Ps β=.ok d β1)(q:Q (.rt d true β1)):WP (ml f env β) Q:=⟨by unfold ml;rw[h];exact q⟩
def pI {R:FR}(h:WP (m env β) λr=>fin r=R):fin (m env β)=R:=h.out
def zj {t:Tg}{fi:@Pi}{ds:List D}(I:Nat->En->Int->Prop)(hi:fi @Ps β=.ok ds β1)(h0:I 0 @SX β1)
  (hs:∀i d env β,ds[i]? =some d->I i env β->∃env1,hZ t d env=some env1/\WP (m env1 β) λr=>∃env2 β2,r=.nx env2 β2/\I (i + 1) env2 β2)
  (k:∀env β,I ds.length env β->WP (m' env β) Q):WP (aK (dY t L fi m) m' env β) Q:=by
 obtain⟨env',β',e,h⟩:=dz (t:=t) (m:=m) I (ds:=ds) (k:=0) h0 λi d env β hd h=>by
  rw[Qt] at h
  obtain⟨env1,e1,⟨env2,β2,e2,h2⟩⟩:=hs i d env β hd h
  exact⟨env1,e1,env2,β2,e2,by rw[Qt];exact h2⟩
 rw[Qt] at h
 exact wp_seq ((dC hi).trans e) (k _ _ h)
end
def DI (c:Int)(hc:0<=c/\c<=100)(ns:@KF)(vs:List Nv)(β:Int)(h:gv 0 vs β=.ok (dX ns) β):∃m:Nat,m<=101/\bS (f2 @EQ (f2 (f1 (gv 0) eS) (cst (.int c)) (yL λi j=>.int (if j < i then j else i))) (yL λi j=>.int (if j > i then j else i))) vs β=.ok (cJ 0 m) β:=by
 have e1:f2 @EQ (f2 (f1 (gv 0) eS) (cst (.int c)) (yL λi j=>.int (if j < i then j else i))) (yL λi j=>.int (if j > i then j else i)) vs β=.ok (.int (if (if c < ((ns.map int).length:Int) then c else ((ns.map int).length:Int)) > 1 then (if c < ((ns.map int).length:Int) then c else ((ns.map int).length:Int)) else 1)) β:=
  aF (x:=.int 1) rfl (aF (x:=.int (ns.map int).length) (y:=.int c) (eN h rfl) rfl rfl) rfl
 generalize ((ns.map int).length:Nat)=k at e1
 refine⟨(if (if c < (k:Int) then c else (k:Int)) > 1 then (if c < (k:Int) then c else (k:Int)) else 1).toNat,?_,du (e1.trans ?_) ?_⟩
 ·split <;> split <;> omega
 ·congr 2
  split <;> split <;> omega
 ·split <;> split <;> omega
def FN {ds:List D}{k:Nat}(h:k < ds.length):∃d,ds[k]? =some d/\d∈ds/\kq ds (k:Int)=some d:=⟨ds[k],Pn h,Q0 h,kU (Pn h)⟩
def Mr {fa fb:VF D}{vs:List Nv}{β β1 β2:Int}{a b:List D}(h1:@TX=.ok (.list a) β1)(h2:fb vs β1=.ok (.list b) β2)(hz:a.length + b.length<=1000):f2 fa fb dt vs β=.ok (.list (a ++ b)) β2:=aF h1 h2 (fY (@AT))
def lM (l:@Do)(x y:Int):Bool:=decide (x=y) || decide ((x,y)∈l)
def hJ {l:@Do}{x y:Int}:lM l x y=true↔x=y\/(x,y)∈l:=by unfold lM;simp
def we {n:Nat}{l:@Do}(O:@S8){x y z:Int}(h:lM l x y=true)(k:lM l y z=true):lM l x z=true:=by
 rw[hJ] at *
 rcases h with rfl |h
 ·exact k
 ·rcases k with rfl |k
  ·exact .inr h
  ·exact .inr (O.tr _ _ _ h k)
def putL (n:Nat)(l:@Do)(t:Pr):@Do:=(OM.cn n).filter λp=>decide (p∈l) || (lM l p.1 t.2 && lM l t.1 p.2)
def lY {n:Nat}{l:@Do}{t p:Pr}(h:@S1):p∈putL n l t↔p∈l\/(lM l p.1 t.2=true/\lM l t.1 p.2=true):=by
 unfold putL
 rw[PH,OM.bo,QY,PM,PL]
 exact⟨λh=>h.2,λk=>⟨h,k⟩⟩
def sr {n:Nat}{l:@Do}{t p:Pr}(h:p∈putL n l t):p∈l\/(lM l p.1 t.2=true/\lM l t.1 p.2=true):=by
 unfold putL at h
 have:=(PH.mp h).2
 rw[QY,PM,PL] at this
 exact this
def HS {n:Nat}{l:@Do}{t:Pr}(O:@S8)(h:lM l t.1 t.2=false):OM.Ord n (putL n l t):=by
 have hn:¬lM l t.1 t.2=true:=by rw[h];exact PR
 refine⟨O.lo,O.hi,λp hp=>OM.bo.mp (PH.mp hp).1,OM.cS _ (OM.fN n),λa ha=>?_,λa b c hab hbc=>?_⟩
 ·rcases sr ha with q | ⟨q1,q2⟩
  ·exact O.irr a q
  ·exact hn (we O q2 q1)
 ·have g1:=OM.bo.mp (PH.mp hab).1
  have g2:=OM.bo.mp (PH.mp hbc).1
  refine (lY (p:=(a,c)) ⟨g1.1,g2.2⟩).mpr ?_
  rcases sr hab with q | ⟨q1,q2⟩
  ·rcases sr hbc with r | ⟨r1,r2⟩
   ·exact .inl (O.tr _ _ _ q r)
   ·exact .inr ⟨we O (hJ.mpr (.inr q)) r1,r2⟩
  ·rcases sr hbc with r | ⟨r1,r2⟩
   ·exact .inr ⟨q1,we O q2 (hJ.mpr (.inr r))⟩
   ·exact .inr ⟨q1,r2⟩
def Hw {n:Nat}{l:@Do}{t p:Pr}(O:@S8)(h:p∈l):p∈putL n l t:=(lY (O.wn p h)).mpr (.inl h)
def Ah {n:Nat}{l:@Do}{t:Pr}(h:(0<=t.1/\t.1 < n)/\(0<=t.2/\t.2 < n)):(t.2,t.1)∈putL n l t:=(lY ⟨h.2,h.1⟩).mpr (.inr ⟨hJ.mpr (.inl rfl),hJ.mpr (.inl rfl)⟩)
def Jl:@Fk:=bg 3 3 (kx wW)
def ML {n:Nat}{l:@Do}{a b:Int}(h8:n<=8)(ha:0<=a/\a < n)(hb:0<=b/\b < n):Jl [cQ n (bD l),.int a,.int b]=.ok (.bool (decide ((a,b)∈l))) false:=by
 have ea:((a.toNat:Nat):Int)=a:=@AT
 have eb:((b.toNat:Nat):Int)=b:=@AT
 show fin (kx wW [@IN,.fz (.int a),.fz (.int b)] 0)=_
 unfold kx
 have em:f2 (gv 0) (gv 2) bu (vl [@IN,.fz (.int a),.fz (.int b)]) 0=.ok (mI (bD l b.toNat) n) 0:=by
  refine aF (x:=cQ n (bD l)) (y:=.int b) rfl rfl ?_
  have:=Di (n:=n) (M:=bD l) (b:=b.toNat) (@AT)
  rw[eb] at this
  exact this
 rw[cA,aF (x:=mI (iA (bD l b.toNat) a.toNat) n) (y:=mI (bD l b.toNat) n) (d:=.bool (decide ((a,b)∈l))) (β1:=0) (β2:=0) (aE (b:=false) (ds:=[mI (bD l b.toNat) n,.int (a.toNat:Int)]) (ac em (ac (by rw[ea];rfl) an)) (FH h8 (@AT))) em ?z]
 ·rfl
 case z=>
  unfold mI
  rw[oB,Px PR]
  congr 2
  rw[QK]
  constructor
  ·intro h
   have h:mk (iA (bD l b.toNat) a.toNat) n=mk (bD l b.toNat) n:=@AT
   have:=mk_eq.mp h a.toNat (@AT)
   unfold iA bD at this
   rw[ea,eb] at this
   simpa using this
  ·intro h
   have:mk (iA (bD l b.toNat) a.toNat) n=mk (bD l b.toNat) n:=mk_eq.mpr λi hi=>by
    unfold iA bD
    by_cases e:i=a.toNat
    ·rw[e,ea,eb];simp[h]
    ·simp[e]
   rw[this]
def Lo:@Fk:=bg 2 2 (jH Jl)
def NU {n:Nat}{l:@Do}{t:Pr}(h8:n<=8)(h:(0<=t.1/\t.1 < n)/\(0<=t.2/\t.2 < n)):Lo [cQ n (bD l),ao t]=.ok (.bool (decide (t∈l))) false:=by
 show fin (jH Jl [@IN,.fz (ao t)] 0)=_
 unfold jH
 rw[cA,aE (ds:=[cQ n (bD l),.int t.1,.int t.2]) (β1:=0) rfl (ML h8 h.1 h.2)];rfl
def K2 {f g:Nat->Bool}{n:Nat}:mk f n ||| mk g n=mk (λi=>f i || g i) n:=by
 apply Sh
 intro i
 rw[Nat.testBit_or,iw,iw,iw]
 by_cases h:i < n <;> simp[h]
noncomputable def LV:@Fk:=bg 4 2 (kW Jl wW)
def Og {n:Nat}{l:@Do}{t:Pr}(h8:n<=8)(h:(0<=t.1/\t.1 < n)/\(0<=t.2/\t.2 < n)):LV [cQ n (bD l),ao t]=.ok (cQ n (bD (putL n l t))) true:=by
 have e2:((t.2.toNat:Nat):Int)=t.2:=@AT
 show fin (kW Jl wW [@IN,.fz (ao t),.no,.no] 0)=_
 unfold kW
 have el:f1 (gv 0) eS (vl [@IN,.fz (ao t),.no,.no]) 0=.ok @Ix 0:=by
  rw[z0 (ds:=(@TR).map λb=>mI (bD l b) n) rfl,Py,QO]
 have ec:aM 1 [1,0] (.nm 0) (bS (f1 (gv 0) eS)) (nu (cm (f2 (gv 0) (f2 (gv 1) @Cl bu) (cv false))) (lG (ay Jl (aa (gv 2) (aa (f2 (gv 1) @Cl bu) @Is))))) (gv 0) (vl [@IN,.fz (ao t),.no,.no]) 0=.ok (@SZ) 0:=by
  refine cf (l:=eB n) (e:=int) (λx=>lM l t.1 x) int ?_ (by rw[cU];omega) λx hx=>⟨[.da (.int x),.da (ao t),.da (cQ n (bD l))],rfl,?_,λ_=>rfl⟩
  ·rw[<-mJ];exact du (n:=n) el (@AT)
  ·have hx:=bN.mp hx
   have:=GB (fk (neg:=false) (fa:=gv 0) (fb:=f2 (gv 1) @Cl bu) (vs:=[.da (.int x),.da (ao t),.da (cQ n (bD l))]) (β:=0) (i:=x) (j:=t.1) rfl rfl) (ju (aE (F:=Jl) (fr:=aa (gv 2) (aa (f2 (gv 1) @Cl bu) @Is)) (vs:=[.da (.int x),.da (ao t),.da (cQ n (bD l))]) (β:=0) (ds:=[cQ n (bD l),.int t.1,.int x]) rfl (ML h8 h.1 hx)))
   rw[this]
   congr 1
   unfold lM
   rw[Px PR]
   congr 1
   rw[QK];exact⟨Eq.symm,Eq.symm⟩
 rw[az (env':=[@IN,.fz (ao t),.fz (@SZ),.no]) (β':=0) (by rw[bP,ec];rfl)]
 have em:f2 (gv 0) (f2 (gv 1) @EQ bu) bu (vl [@IN,.fz (ao t),.fz (@SZ),.no]) 0=.ok (mI (bD l t.2.toNat) n) 0:=by
  refine aF (x:=cQ n (bD l)) (y:=.int t.2) rfl (aF rfl rfl rfl) ?_
  have:=Di (n:=n) (M:=bD l) (b:=t.2.toNat) (@AT)
  rw[e2] at this
  exact this
 rw[az (env':=[@IN,.fz (ao t),.fz (@SZ),.fz (mI (iA (bD l t.2.toNat) t.2.toNat) n)]) (β':=0) (by
  rw[bP,aE (b:=false) (ds:=[mI (bD l t.2.toNat) n,.int (t.2.toNat:Int)]) (β1:=0) (ac em (ac (by rw[e2];rfl) an)) (FH h8 (@AT))];rfl)]
 have ed:aM 2 [2,3] (.two 0 1) (GZ (gv 0)) lN (M9 (cm (f2 (gv 0) (gv 2) (pB false))) (f2 (gv 1) (gv 3) MX) (gv 1)) (vl [@IN,.fz (ao t),.fz (@SZ),.fz (mI (iA (bD l t.2.toNat) t.2.toNat) n)]) 0=.ok (cQ n (bD (putL n l t))) 0:=by
  unfold cQ
  refine cV (l:=@TR) (e:=λb=>.tuple [.int b,mI (bD l b) n]) (λb=>mI (bD (putL n l t) b) n) ?_ (by rw[QO];omega) λb hb=>⟨[.da (.int b),.da (mI (bD l b) n),.da (@SZ),.da (mI (iA (bD l t.2.toNat) t.2.toNat) n)],rfl,?_⟩
  ·show R.ok (jZ ((@TR).map λb=>mI (bD l b) n)) 0=_
   congr 1
   unfold jZ
   refine List.ext_getElem @Go λi h1 h2=>by simp
  ·have hbn:=P4.mp hb
   have hmem:decide ((b:Int)∈(eB n).filter λx=>lM l t.1 x)=lM l t.1 b:=by
    rw[Qn,PL,PH]
    exact⟨λh=>h.2,λh=>⟨bN.mpr ⟨@AT,@AT ⟩,h⟩⟩
   have et:cm (f2 (gv 0) (gv 2) (pB false)) [.da (.int b),.da (mI (bD l b) n),.da (@SZ),.da (mI (iA (bD l t.2.toNat) t.2.toNat) n)] 0=.ok (lM l t.1 b) 0:=by
    rw[<-hmem]
    exact fB _ _ _ _ (aF (x:=.int b) (y:=@SZ) rfl rfl (xJ false b _))
   rw[K7,et]
   show (if lM l t.1 b=true then _ else _)=_
   have key:∀a,a < n->bD (putL n l t) b a=(bD l b a || (lM l a t.2 && lM l t.1 b)):=λa ha=>by
    unfold bD
    rw[Qn,PL,lY ⟨⟨by simp only;omega,by simp only;omega⟩,⟨by simp only;omega,by simp only;omega⟩⟩,QY,PM,PL]
   by_cases c:lM l t.1 b=true
   ·rw[Po c]
    refine aF (x:=mI (bD l b) n) (y:=mI (iA (bD l t.2.toNat) t.2.toNat) n) rfl rfl ?_
    show some (int (Builtin.bitOr _ _))=_
    rw[ug,K2]
    unfold mI
    congr 3
    rw[mk_eq]
    intro a ha
    rw[key a ha,c,Bool.and_true]
    unfold iA lM bD
    rw[e2]
    congr 1
    rw[Bool.or_comm]
    congr 1
    rw[QK];omega
   ·rw[Px c]
    show R.ok (mI (bD l b) n) 0=_
    unfold mI
    congr 3
    rw[mk_eq]
    intro a ha
    rw[key a ha]
    have c:lM l t.1 b=false:=by simpa using c
    rw[c,Bool.and_false,Bool.or_false]
 rw[xE,ed];rfl
def JO {ps:@Do}(hl:ps.length<=100):Gt @FS:=⟨rfl,λds e=>by
 cases e
 refine⟨by rw[Py];exact hl,λe he=>?_⟩
 obtain⟨p,_,rfl⟩:=PD.mp he
 exact yQ (es:=[.int p.1,.int p.2]) @Go (G9 rfl rfl)⟩
def zZ (n:Int)(l:@Do)(d:D):Bool:=Je n d && match d with
 | .tuple [.int a,.int b]=>tQ l (a,b)
 |_=>false
def Fq {n:Int}{l:@Do}{p:Pr}(h:@S1):zZ n l (ao p)=tQ l p:=by
 show ((decide (0<=p.1/\p.1 < n) && decide (0<=p.2/\p.2 < n)) && tQ l (p.1,p.2))=tQ l p
 rw[PF h.1,PF h.2];rfl
noncomputable def Jp:@Fk:=bg 2 2 (mT M4 JM)
theorem KY {n:Nat}{l:@Do}{d:D}(h:Ge d):Jp [d,aA n l]=.ok (.bool (zZ n l d)) false:=by
 show fin (mT M4 JM [.fz d,@GT] 0)=_
 unfold mT
 have e1:ay M4 (aa (gv 0) (aa (f2 (gv 1) @Cl bu) af)) (vl [.fz d,@GT]) 0=.ok (.bool (Je n d)) 0:=aE (ds:=[d,.int n]) rfl (NR h)
 rw[cA]
 cases q:Je n d with
 |false=>rw[q] at e1;rw[IT e1];unfold zZ;rw[q];rfl
 |true=>
  rw[q] at e1
  obtain⟨p,rfl,hp⟩:=MB q
  rw[Fq hp,IQ e1 (aE (ds:=[aA n l,.int p.1,.int p.2]) rfl (Kf n l p.1 p.2))];rfl
def Ln (n:Int)(l:@Do):D->Bool
 | .list ds=>ds.all (zZ n l)
 |_=>false
noncomputable def Lw:@Fk:=bg 2 2 (jv Jp)
theorem Ml {n:Nat}{l:@Do}{d:D}(h:Gt d):Lw [d,aA n l]=.ok (.bool (Ln n l d)) false:=by
 show fin (jv Jp [.fz d,@GT] 0)=_
 unfold jv
 have e1:=Ms (fa:=gv 0) (vs:=vl [.fz d,@GT]) (β:=0) rfl h.1
 rw[cA]
 cases q:Ke d with
 |false=>rw[q] at e1;rw[IT e1];cases d <;> first |rfl |cases q
 |true=>
  rw[q] at e1
  obtain⟨ds,rfl⟩:=HC q
  have hd:=h.2 ds rfl
  have ec:aM 1 [1] (.nm 0) (bC (gv 0)) lN (ay Jp (aa (gv 0) @L_)) (vl [.fz (.list ds),@GT]) 0=.ok (.list (ds.map λe=>PyData.bool (zZ n l e))) 0:=
   uF (λe=>PyData.bool (zZ n l e)) rfl (@AT) λe he=>⟨_,rfl,aE (ds:=[e,aA n l]) rfl (KY (hd.2 e he))⟩
  rw[IQ e1 (BA ec)];rfl
def sP (l:@Do)(p q:Pr):Bool:=decide (p.1=q.2) || decide ((p.1,q.2)∈l)
def Hr:@Fk:=bg 3 3 lh
theorem MD (n:Nat)(l:@Do)(p q:Pr):Hr [aA n l,ao p,ao q]=.ok (.bool (sP l p q)) false:=by
 show fin (lh [@GT,.fz (ao p),.fz (ao q)] 0)=_
 unfold lh
 have i0:f2 (gv 1) @Cl bu (vl [@GT,.fz (ao p),.fz (ao q)]) 0=.ok (.int p.1) 0:=aF (x:=ao p) (y:=.int 0) rfl rfl rfl
 have i1:f2 (gv 2) @EQ bu (vl [@GT,.fz (ao p),.fz (ao q)]) 0=.ok (.int q.2) 0:=aF (x:=ao q) (y:=.int 1) rfl rfl rfl
 have e1:f2 (f2 (gv 1) @Cl bu) (f2 (gv 2) @EQ bu) (cv false) (vl [@GT,.fz (ao p),.fz (ao q)]) 0=.ok (.bool (decide (p.1=q.2))) 0:=aF i0 i1 (oB false p.1 q.2)
 have e2:f2 (aQ (aa (f2 (gv 1) @Cl bu) (aa (f2 (gv 2) @EQ bu) af))) (f2 (gv 0) @EQ bu) (pB false) (vl [@GT,.fz (ao p),.fz (ao q)]) 0=.ok (.bool (decide ((p.1,q.2)∈l))) 0:=aF (x:=ao (p.1,q.2)) (dB i0 i1) (Nf (n:=n) (l:=l) rfl) (vP false (p.1,q.2) l)
 rw[cA]
 unfold sP
 cases c:decide (p.1=q.2) with
 |true=>rw[c] at e1;rw[NW e1];rfl
 |false=>rw[c] at e1;rw[Ol e1 e2];rfl
theorem KG {n:Int}{l:@Do}{x y:D}(h:(qE x && qE y)=false):zZ n l (.tuple [x,y])=false:=by
 unfold zZ Je
 cases x with
 |int a=>
  cases y with
  |int b=>cases h
  |_=>simp[mC]
 |_=>simp[mC]
def MZ (l:@Do)(ps:@Do):Bool:=(List.range ps.length).all λi=>sP l (ps.getD (if i=0 then ps.length - 1 else i - 1) (0,0)) (ps.getD i (0,0))
noncomputable def Oa:@Fk:=bg 2 2 (fO Nh mK)
theorem OF {n:Nat}{l:@Do}{d:D}(O:@S8)(h:Ge d):Oa [aA n l,d]=.ok (.bool (zZ n l d)) false:=by
 show fin (fO Nh mK [@GT,.fz d] 0)=_
 unfold fO
 have g1:gv 1 (vl [@GT,.fz d]) 0=.ok d 0:=rfl
 have t1:=II g1 h.1
 cases hy:E7 d with
 |false=>
  rw[hy] at t1
  rw[eT (d:=.bool false) (b:=false) (β':=0) ?a]
  ·cases d <;> first |rfl |cases hy
  case a=>rw[ij (Ew (eG t1))];rfl
 |true=>
  obtain⟨es,rfl⟩:=AD hy
  rw[hy] at t1
  have t2:=D0 (k:=2) g1
  rcases rV (es:=es) with⟨q,z⟩ | ⟨x,y,rfl⟩
  ·rw[q] at t2
   rw[show zZ n l (.tuple es)=false by unfold zZ;rw[z];rfl,eT (d:=.bool false) (b:=false) (β':=0) (by rw[ij (oF (eG t1) (Ew t2))];rfl)];rfl
  ·have hs:=(h.2 _ rfl).2
   have ec:aM 1 [] (.nm 0) (bC (gv 1)) lN (ay Nh @Is) (vl [@GT,.fz (.tuple [x,y])]) 0=.ok (.list ([x,y].map λe=>PyData.bool (qE e))) 0:=
    uF (λe=>PyData.bool (qE e)) rfl @Go λe he=>⟨_,rfl,aE (ds:=[e]) rfl (N4 (hs e he))⟩
   have ea:=BA ec
   have e2: [x,y].all qE=(qE x && qE y):=by simp
   rw[e2] at ea
   cases hw:(qE x && qE y) with
   |false=>
    rw[hw] at ea
    rw[KG hw,eT (d:=.bool false) (b:=false) (β':=0) (by rw[ij (oF (eG t1) (oF t2 (eG (ju ea))))];rfl)];rfl
   |true=>
    rw[hw] at ea
    rw[PM] at hw
    cases x with
    |int a=>
     cases y with
     |int b=>
      rw[az (env':=[@GT,.fz (.tuple [.int a,.int b])]) (β':=0) (by rw[gr (oF (eG t1) (oF t2 (eG (ju ea))))];rfl)]
      have eg:f2 (gv 1) (ay mK @Is) (pB false) (vl [@GT,.fz (.tuple [.int a,.int b])]) 0=.ok (.bool (decide (((a,b):Pr)∈dZ n l))) 0:=aF (x:=ao (a,b)) (y:=.list ((dZ n l).map ao)) rfl (aE (ds:=[aA n l]) rfl (yE O)) (A7 false (a,b) (dZ n l))
      rw[cA,eg]
      show FR.ok (.bool (decide (((a,b):Pr)∈dZ n l))) false=.ok (.bool ((decide (0<=a/\a < (n:Int)) && decide (0<=b/\b < (n:Int))) && tQ l (a,b))) false
      congr 2
      rw[Qn,PL,dH,PM,PM,PL,PL]
     |_=>cases hw.2
    |_=>cases hw.1
def Gh {i:Nat}{L:@IO}{f:VF D}{env:En}{β β':Int}{ds es:List D}(hi:env[i]? =some (.ow (.list ds)))(hf:f @Ps β=.ok (.list es) β')(hL:(@SX)[i]? =some (.ow (.list ds)))(hz:ds.length + es.length<=10000) :
  Cc i L f env β=.nx ((a8 L env).set i (.ow (.list (ds ++ es)))) β':=by
 unfold Cc
 rw[Po (by rw[hi];rfl),hf]
 exact vU hL (Po (by rw[Qc];omega))
def putAll (n:Nat)(l:@Do)(put:@Do):@Do:=put.foldl (putL n) l
theorem rG {n:Nat}{U:Int->Prop}:∀{put l:@Do},(∀u v,(u,v)∈l->U u->U v)->(∀t,t∈put->U t.2->U t.1)->∀u v,(u,v)∈putAll n l put->U u->U v
 | [],l,h0,_=>h0
 |t :: put,l,h0,h1=>by
  have q:∀u v,lM l u v=true->U u->U v:=λu v h hu=>by
   rcases hJ.mp h with rfl |h
   ·exact hu
   ·exact h0 _ _ h hu
  refine rG (put:=put) (l:=putL n l t) (λu v h hu=>?_) (λx hx=>h1 x (Pw _ hx))
  rcases sr h with h | ⟨a,b⟩
  ·exact h0 _ _ h hu
  ·exact q _ _ b (h1 t (Pz ..) (q _ _ a hu))
def Np (l:@Do)(p:@Do):Prop:=∀i a b,p[i]? =some a->p[i + 1]? =some b->sP l a b=true
structure RI (l put:@Do)(t:Pr)(ph:List (@Do))(left:@Do)(at':Nat):Prop where
 pth:∀p,p∈ph->∃q,p=t :: q/\(∀x,x∈q->x∈put/\¬x∈left)/\p.Nodup/\Np l p
 lft:∀x,x∈left->x∈put
 rch:∀x,x∈put->x∈left\/∃p,p∈ph/\p.getLast? =some x
 fst:∃p,p∈ph/\p.getLast? =some t
 old:∀i p s,i < at'->ph[i]? =some p->p.getLast? =some s->sP l s t=false/\∀x,x∈left->sP l s x=false
 cnt:ph.length + left.length=put.length + 1
 le:at'<=ph.length
def RI.lt {n:Nat}{l put:@Do}{t:Pr}{ph:List (@Do)}{left:@Do}{k:Nat}(R:RI l put t ph left k)(O:@S8)(hb:t∈putAll n l put):k < ph.length:=by
 apply Classical.byContradiction
 intro hn
 have hk:k=ph.length:=by have:=R.le;omega
 have idx:∀p,p∈ph->∃i:Nat,i < k/\ph[i]? =some p:=λp hp=>by
  obtain⟨i,hi⟩:=Sf.mp hp
  exact⟨i,by rw[hk];exact (PN.mp hi).1,hi⟩
 have key:=rG (n:=n) (U:=λx=>∃s:Pr,(∃p,p∈ph/\p.getLast? =some s)/\lM l s.1 x=true) (put:=put) (l:=l) (by
  rintro u v h ⟨s,hs,hl⟩
  exact⟨s,hs,we O hl (hJ.mpr (.inr h))⟩) (by
  rintro x hx ⟨s,⟨p,hp,hs⟩,hl⟩
  rcases R.rch x hx with h |h
  ·obtain⟨i,hi,hpi⟩:=idx p hp
   have h2:sP l s x=false:=(R.old i p s hi hpi hs).2 x h
   have hl:sP l s x=true:=hl
   rw[h2] at hl;cases hl
  ·exact⟨x,h,hJ.mpr (.inl rfl)⟩) t.1 t.2 hb ⟨t,R.fst,hJ.mpr (.inl rfl)⟩
 obtain⟨s,⟨p,hp,hs⟩,hl⟩:=key
 obtain⟨i,hi,hpi⟩:=idx p hp
 have h2:sP l s t=false:=(R.old i p s hi hpi hs).1
 have hl:sP l s t=true:=hl
 rw[h2] at hl;cases hl
theorem Bj {α:Type}(f:α->Bool):∀L:List α,(L.filter f).length + (L.filter λx=> !f x).length=L.length
 | []=>rfl
 |x :: L=>by
  have:=Bj f L
  cases h:f x <;> simp[List.filter_cons,h] <;> omega
def Gi {l p:@Do}{s x:Pr}(h:Np l p)(hs:p.getLast? =some s)(hx:sP l s x=true):Np l (p ++ [x]):=by
 intro i a b ha hb
 have hl:p≠ []:=λe=>by rw[e] at hs;cases hs
 have hpos:=List.length_pos_iff.mpr hl
 by_cases c:i + 1 < p.length
 ·rw[Qb (@AT)] at ha
  rw[Qb c] at hb
  exact h i a b ha hb
 ·by_cases d:i + 1=p.length
  ·rw[Qb (@AT)] at ha
   rw[Qf (@AT),d,Nat.sub_self] at hb
   cases hb
   rw[Su,show p.length - 1=i by omega,ha] at hs
   cases hs
   exact hx
  ·rw[QZ (by rw[P5,Rj];omega)] at hb
   cases hb
def RI.step {l put:@Do}{t s:Pr}{ph:List (@Do)}{left p fr:@Do}{k:Nat}(R:RI l put t ph left k)(htp:¬t∈put)(hp:ph[k]? =some p)(hs:p.getLast? =some s)(hst:sP l s t=false)(hfr:left.filter (λx=>sP l s x)=fr):RI l put t (ph ++ fr.map λx=>p ++ [x]) (left.filter λx=> !decide (x∈fr)) (k + 1):=by
 have hpm:p∈ph:=Sf.mpr ⟨k,hp⟩
 have hk:k < ph.length:=(PN.mp hp).1
 have mfr:∀x,x∈fr↔x∈left/\sP l s x=true:=λx=>by rw[<-hfr];exact PH
 have mlf:∀x,x∈(left.filter λx=> !decide (x∈fr))↔x∈left/\¬x∈fr:=λx=>by rw[PH];simp
 refine⟨λr hr=>?_,λx hx=>R.lft x ((mlf x).mp hx).1,λx hx=>?_,?_,λi r s' hi hr hs'=>?_,?_,?_⟩
 ·rcases PQ.mp hr with hr |hr
  ·obtain⟨q,e,h1,h2,h3⟩:=R.pth r hr
   exact⟨q,e,λx hx=>⟨(h1 x hx).1,λhm=>(h1 x hx).2 ((mlf x).mp hm).1⟩,h2,h3⟩
  ·obtain⟨x,hx,rfl⟩:=PD.mp hr
   obtain⟨q,e,h1,h2,h3⟩:=R.pth p hpm
   have hxf:=(mfr x).mp hx
   refine⟨q ++ [x],by rw[e];rfl,λy hy=>?_,?_,Gi h3 hs hxf.2⟩
   ·rcases PQ.mp hy with hy |hy
    ·exact⟨(h1 y hy).1,λhm=>(h1 y hy).2 ((mlf y).mp hm).1⟩
    ·rw[P6] at hy;subst hy
     exact⟨R.lft _ hxf.1,λhm=>((mlf _).mp hm).2 hx⟩
   ·refine R8.mpr ⟨h2,by simp,λa ha b hb eab=>?_⟩
    rw[P6] at hb;subst hb;subst eab
    rw[e] at ha
    rcases Pu.mp ha with rfl |ha
    ·exact htp (R.lft _ hxf.1)
    ·exact (h1 _ ha).2 hxf.1
 ·rcases R.rch x hx with h | ⟨r,h1,h2⟩
  ·by_cases c:x∈fr
   ·exact .inr ⟨p ++ [x],PQ.mpr (.inr (PD.mpr ⟨x,c,rfl⟩)),by simp⟩
   ·exact .inl ((mlf x).mpr ⟨h,c⟩)
  ·exact .inr ⟨r,PQ.mpr (.inl h1),h2⟩
 ·obtain⟨r,h1,h2⟩:=R.fst
  exact⟨r,PQ.mpr (.inl h1),h2⟩
 ·rw[Qb (@AT)] at hr
  by_cases c:i=k
  ·subst c
   rw[hp] at hr;cases hr
   rw[hs] at hs';cases hs'
   refine⟨hst,λx hx=>?_⟩
   obtain⟨a,b⟩:=(mlf x).mp hx
   cases z:sP l s x with
   |false=>rfl
   |true=>exact absurd ((mfr x).mpr ⟨a,z⟩) b
  ·obtain⟨a,b⟩:=R.old i r s' (@AT) hr hs'
   exact⟨a,λx hx=>b x ((mlf x).mp hx).1⟩
 ·have h1:=Bj (λx=>sP l s x) left
  have h2:(left.filter λx=> !decide (x∈fr))=left.filter λx=> !sP l s x:=R6 λx hx=>by
   congr 1
   rw[Qn,PL,mfr x]
   exact⟨λh=>h.2,λh=>⟨hx,h⟩⟩
  rw[h2,P5,Py,<-hfr]
  have:=R.cnt
  omega
 ·rw[P5];omega
theorem DM:∀{q put:@Do},q.Nodup->(∀x,x∈q->x∈put)->q.length<=put.length
 | [],_,_,_=>Qp _
 |x :: q,put,nd,h=>by
  have nd:=Qh.mp nd
  have hx:=h x (Pz ..)
  have:=DM (q:=q) (put:=put.erase x) nd.2 λy hy=>(List.mem_erase_of_ne (λe=>nd.1 (by rw[<-e];exact hy))).mpr (h y (Pw _ hy))
  rw[RS hx] at this
  have:=List.length_pos_of_mem hx
  rw[P7];omega
abbrev pD (p:@Do):D:=.list (p.map ao)
def Fg {fs:@Do}{s:Pr}(h:fs.getLast? =some s):kq (fs.map ao) (-1)=some (ao s):=by
 have hl:fs≠ []:=λe=>by rw[e] at h;cases h
 have hpos:=List.length_pos_iff.mpr hl
 unfold kq wM
 rw[Px (@AT),Po (by simp;omega)]
 show (fs.map ao)[((-1:Int) + (((fs.map ao).length:Nat):Int)).toNat]? =_
 rw[show ((-1:Int) + (((fs.map ao).length:Nat):Int)).toNat=fs.length - 1 by simp;omega,PK,<-Su,h];rfl
def Ba {ph:List (@Do)}{p:@Do}{k:Nat}(h:ph[k]? =some p):kq (ph.map pD) (k:Int)=some (pD p):=by
 have hk:k < ph.length:=(PN.mp h).1
 rw[jJ,nK hk]
 have:ph[k]=p:=by rw[Pn hk] at h;exact Option.some.inj h
 rw[this];rfl
noncomputable def Ka:@Fk:=bg 7 3 (jw Hr)
def KO {l p:@Do}{s:Pr}(h:Np l p)(hs:p.getLast? =some s){t:Pr}{q:@Do}(e:p=t :: q)(hst:sP l s t=true):MZ l p=true:=by
 unfold MZ
 rw[Qm]
 intro i hi
 have hi:=P4.mp hi
 by_cases c:i=0
 ·subst c
  rw[Po rfl,P9,<-Su,hs,e]
  exact hst
 ·rw[Px c]
  refine h (i - 1) _ _ ?_ ?_
  ·rw[P9,Pn (@AT)];rfl
  ·rw[show i - 1 + 1=i by omega,P9,Pn hi];rfl
def NX {n:Nat}{l put:@Do}{t:Pr}(O:@S8)(hz:put.length<=100)(htp:¬t∈put)(hb:t∈putAll n l put):∃r,Ka [aA n l,.list (put.map ao),ao t]=.ok (.list (r.map ao)) false/\(∀x,x∈r->x=t\/x∈put)/\r.Nodup/\r≠ []/\MZ l r=true:=by
 show ∃r,fin (jw Hr [@GT,@TJ,.fz (ao t),.no,.no,.no,.no] 0)=_/\_
 unfold jw
 rw[az (env':=[@GT,@TJ,.fz (ao t),.ow (.list ([[t]].map pD)),.no,.no,.no]) (β':=0) (by
  rw[j8,lp (ds:=[pD [t]]) (ac (lp (ds:=[ao t]) (ac rfl an)) an)];rfl)]
 rw[az (env':=[@GT,@TJ,.fz (ao t),.ow (.list ([[t]].map pD)),@TJ,.no,.no]) (β':=0) @Tk]
 rw[az (env':=[@GT,@TJ,.fz (ao t),.ow (.list ([[t]].map pD)),@TJ,.fz (.int ((0:Nat):Int)),.no]) (β':=0) @Tk]
 obtain⟨env',β',ew,ph,left,k,p,s,s6,rfl,rfl,R,hp,hs,hst⟩:=jf (L:=[0] ++ ((@Ev ++ []) ++ ([2] ++ []))) (t:=uv (lG (ay Hr (aa (gv 0) (aa (f2 (f2 (gv 3) (gv 5) bu) (f1 @EQ pz) bu) (aa (gv 2) af))))))
  (m:=aK (a9 6 ([] ++ [0]) (aM 1 [0,3,5] (.nm 0) (bC (gv 4)) (lG (ay Hr (aa (gv 1) (aa (f2 (f2 (gv 2) (gv 3) bu) (f1 @EQ pz) bu) @Is)))) (gv 0)))
   (aK (a9 4 @Ev (aM 1 [6] (.nm 0) (bC (gv 4)) (cm (f2 (gv 0) (gv 1) (pB true))) (gv 0)))
   (aK (Cc 3 @Ev (aM 1 [3,5] (.nm 0) (bC (gv 6)) lN (f2 (f2 (gv 1) (gv 2) bu) (bt @Is) dt)))
   (a9 5 @Ev (f2 (gv 5) @EQ b8)))))
  (λm env b=>∃ph left k s6,env= @H_/\b=0/\RI l put t ph left k/\m=put.length + 1 - k)
  (λenv b=>∃ph left k p s s6,env= @H_/\b=0/\RI l put t ph left k/\ph[k]? =some p/\p.getLast? =some s/\sP l s t=true)
  (n:=1000) (k:=put.length + 1) (env:=[@GT,@TJ,.fz (ao t),.ow (.list ([[t]].map pD)),@TJ,.fz (.int ((0:Nat):Int)),.no]) (β:=0) (@AT)
  ⟨[[t]],put,0,.no,rfl,rfl,⟨λp hp=>by
    rw[P6] at hp;subst hp
    exact⟨[],rfl,(λx hx=>by cases hx),by simp,(λi a b _ hb=>by simp at hb)⟩,λx hx=>hx,λx hx=>.inl hx,⟨[t],by simp,rfl⟩,λi p s hi=>@AT,by simp;omega,@AT ⟩,@AT ⟩ (by
   rintro m env b ⟨ph,left,k,s6,rfl,rfl,R,rfl⟩
   have hk:=R.lt O hb
   obtain⟨p,hp⟩:∃p,ph[k]? =some p:=⟨_,Pn hk⟩
   have hpm:p∈ph:=Sf.mpr ⟨k,hp⟩
   obtain⟨q,eq,hq,hnd,hch⟩:=R.pth p hpm
   obtain⟨s,hs⟩:∃s,p.getLast? =some s:=⟨_,List.getLast?_eq_some_getLast (by rw[eq];exact List.cons_ne_nil _ _)⟩
   have hcnt:=R.cnt
   have hpl:p.length<=put.length + 1:=by
    have h1:q.length<=put.length:=by
     rw[eq] at hnd
     exact DM (Qh.mp hnd).2 λx hx=>(hq x hx).1
    rw[eq,P7];omega
   have el:∀s6:Sl,f2 (f2 (gv 3) (gv 5) bu) (f1 @EQ pz) bu (vl @H_) 0=.ok (ao s) 0:=λs6=>aF (x:=pD p) (y:=.int (-1)) (aF (x:=.list (ph.map pD)) (y:=.int k) rfl rfl (Ba hp)) rfl (Fg hs)
   have et:uv (lG (ay Hr (aa (gv 0) (aa (f2 (f2 (gv 3) (gv 5) bu) (f1 @EQ pz) bu) (aa (gv 2) af))))) (vl @H_) 0=.ok (!sP l s t) 0:=eG (ju (aE (F:=Hr) (ds:=[aA n l,ao s,ao t]) (b:=false) (ac rfl (ac (el s6) (ac rfl an))) (MD n l s t)))
   refine⟨_,_,et,?_⟩
   cases hst:sP l s t with
   |true=>exact .inl ⟨rfl,ph,left,k,p,s,s6,rfl,rfl,R,hp,hs,hst⟩
   |false=>
    refine .inr ⟨rfl,?_⟩
    show ∃env2 β2 k',aK _ _ @H_ 0=.nx env2 β2/\k' < put.length + 1 - k/\_
    generalize hfr:left.filter (λx=>sP l s x)=fr
    have hfl:fr.length<=left.length:=by rw[<-hfr];exact Qr _ _
    have e6:aM 1 [0,3,5] (.nm 0) (bC (gv 4)) (lG (ay Hr (aa (gv 1) (aa (f2 (f2 (gv 2) (gv 3) bu) (f1 @EQ pz) bu) @Is)))) (gv 0) (vl @H_) 0=.ok (.list (fr.map ao)) 0:=by
     rw[<-hfr]
     refine cf (l:=left) (e:=ao) (λx=>sP l s x) ao rfl (@AT) λx hx=>⟨[.da (ao x),.da (aA n l),.da (.list (ph.map pD)),.da (.int ((k:Nat):Int))],rfl,?_,λ_=>rfl⟩
     have e2:f2 (f2 (gv 2) (gv 3) bu) (f1 @EQ pz) bu [.da (ao x),.da (aA n l),.da (.list (ph.map pD)),.da (.int ((k:Nat):Int))] 0=.ok (ao s) 0:=aF (x:=pD p) (y:=.int (-1)) (aF (x:=.list (ph.map pD)) (y:=.int k) rfl rfl (Ba hp)) rfl (Fg hs)
     exact ju (aE (F:=Hr) (ds:=[aA n l,ao s,ao x]) (b:=false) (ac rfl (ac e2 (ac rfl an))) (MD n l s x))
    rw[az (env':=[@GT,@TJ,.fz (ao t),.ow (.list (ph.map pD)),.fz (.list (left.map ao)),.fz (.int ((k:Nat):Int)),.fz (.list (fr.map ao))]) (β':=0) (by rw[bP,e6];rfl)]
    have e4:aM 1 [6] (.nm 0) (bC (gv 4)) (cm (f2 (gv 0) (gv 1) (pB true))) (gv 0) (vl [@GT,@TJ,.fz (ao t),.ow (.list (ph.map pD)),.fz (.list (left.map ao)),.fz (.int ((k:Nat):Int)),.fz (.list (fr.map ao))]) 0=.ok (.list ((left.filter λx=> !decide (x∈fr)).map ao)) 0:=by
     refine cf (l:=left) (e:=ao) (λx=> !decide (x∈fr)) ao rfl (@AT) λx hx=>⟨_,rfl,?_,λ_=>rfl⟩
     exact fB _ _ _ _ (aF (x:=ao x) (y:=.list (fr.map ao)) rfl rfl (A7 true x fr))
    have R':=R.step htp hp hs hst hfr
    generalize hlf:(left.filter λx=> !decide (x∈fr))=left' at e4 R'
    rw[az (env':=[@GT,@TJ,.fz (ao t),.ow (.list (ph.map pD)),.fz (.list (left'.map ao)),.fz (.int ((k:Nat):Int)),.fz (.list (fr.map ao))]) (β':=0) (by rw[bP,e4];rfl)]
    have e3:aM 1 [3,5] (.nm 0) (bC (gv 6)) lN (f2 (f2 (gv 1) (gv 2) bu) (bt @Is) dt) (vl [@GT,@TJ,.fz (ao t),.ow (.list (ph.map pD)),.fz (.list (left'.map ao)),.fz (.int ((k:Nat):Int)),.fz (.list (fr.map ao))]) 0=.ok (.list ((fr.map λx=>p ++ [x]).map pD)) 0:=by
     rw[QE]
     refine cV (l:=fr) (e:=ao) (λx=>pD (p ++ [x])) rfl (@AT) λx hx=>⟨[.da (ao x),.da (.list (ph.map pD)),.da (.int ((k:Nat):Int))],rfl,?_⟩
     refine aF (x:=pD p) (y:=.list [ao x]) (aF (x:=.list (ph.map pD)) (y:=.int k) rfl rfl (Ba hp)) (lp (ds:=[ao x]) (ac rfl an)) ?_
     rw[fY (by rw[Py,Rj];omega)]
     show some (PyData.list (p.map ao ++ [x].map ao))=_
     rw[<-Qk]
    rw[az (env':=[@GT,@TJ,.fz (ao t),.ow (.list ((ph ++ fr.map λx=>p ++ [x]).map pD)),.fz (.list (left'.map ao)),.fz (.int ((k:Nat):Int)),.fz (.list (fr.map ao))]) (β':=0) ?g3]
    case g3=>
     rw[Gh (i:=3) (ds:=ph.map pD) @Tk e3 @Tk (by rw[Py,Py,Py];omega),<-Qk];rfl
    refine⟨[@GT,@TJ,.fz (ao t),.ow (.list ((ph ++ fr.map λx=>p ++ [x]).map pD)),.fz (.list (left'.map ao)),.fz (.int ((k + 1:Nat):Int)),.fz (.list (fr.map ao))],0,put.length + 1 - (k + 1),?_,@AT,_,_,_,_,rfl,rfl,R',rfl⟩
    rw[show ((k + 1:Nat):Int)=(k:Int) + 1 by omega];rfl)
 obtain⟨q,eq,hq,hnd,hch⟩:=R.pth p (Sf.mpr ⟨k,hp⟩)
 refine⟨p,?_,λx hx=>?_,hnd,by rw[eq];exact List.cons_ne_nil _ _,KO hch hs eq hst⟩
 ·rw[az ew,cA,aF (x:=.list (ph.map pD)) (y:=.int k) (d:=pD p) (β1:=0) (β2:=0) rfl rfl (Ba hp)];rfl
 ·rw[eq] at hx
  rcases Pu.mp hx with h |h
  ·exact .inl h
  ·exact .inr (hq x h).1
noncomputable abbrev qj:SF:=aK (kr ([2] ++ ([4] ++ [])) (lG (ay Lo (aa (gv 2) @Te)))
 (bG (aQ (aa (cst (.str "ring")) (aa (ay Ka (aa (gv 0) (aa (gv 3) @Te))) af))))
 nR)
 (aK (a9 2 ([2] ++ ([4] ++ [])) (ay LV (aa (gv 2) @Te)))
 (l0 3 [4] (gv 4)))
abbrev gE (n:Nat)(l ps put:@Do)(s4:Sl):En:=[@GT,.fz (pD ps),.fz (cQ n (bD (putAll n l put))),.ow (pD put),s4]
def OT (n:Nat)(l ps:@Do):Prop:=∃put t,(∀x,x∈put->x∈ps)/\t∈ps/\t∈putAll n l put
def OQ (l ps r:@Do):Prop:=(∀x,x∈r->x∈ps)/\r.Nodup/\r≠ []/\MZ l r=true
def rS (n:Nat)(l put:@Do)(t:Pr):putAll n l (put ++ [t])=putL n (putAll n l put) t:=by unfold putAll;rw[List.foldl_append];rfl
theorem MQ {n:Nat}{l ps:@Do}(O:@S8)(hz:ps.length<=100)(ht:∀p,p∈ps->p∈dZ n l):∀(rest put:@Do) (s4:Sl),ps=put ++ rest->OM.Ord n (putAll n l put)->(∀p,p∈put->(p.2,p.1)∈putAll n l put)->
  (∃r,lK (.nm 4) qj (rest.map ao) (gE n l ps put s4) 0=.rt (.tuple [.str "ring",pD r]) false 0/\OQ l ps r/\OT n l ps)\/(∃s4',lK (.nm 4) qj (rest.map ao) (gE n l ps put s4) 0=.nx (gE n l ps ps s4') 0/\OM.Ord n (putAll n l ps)/\∀p,p∈ps->(p.2,p.1)∈putAll n l ps)
 | [],put,s4,e,Op,hp=>by
  rw[Rl] at e
  subst e
  exact .inr ⟨s4,rfl,Op,hp⟩
 |t :: rest,put,s4,e,Op,hp=>by
  have htm:t∈ps:=by rw[e];simp
  have hpm:∀x,x∈put->x∈ps:=λx hx=>by rw[e];simp[hx]
  have hpl:put.length + rest.length + 1=ps.length:=by rw[e,P5,P7];omega
  obtain⟨hr,ha⟩:=dH.mp (ht t htm)
  have h8:=O.hi
  have eb:lG (ay Lo (aa (gv 2) @Te)) (vl (gE n l ps put (.fz (ao t)))) 0=.ok (decide (t∈putAll n l put)) 0:=ju (aE (ds:=[cQ n (bD (putAll n l put)),ao t]) rfl (NU h8 hr))
  have hbd:hZ (.nm 4) (ao t) (gE n l ps put s4)=some (gE n l ps put (.fz (ao t))):=rfl
  by_cases c:t∈putAll n l put
  ·rw[PF c] at eb
   have htp:¬t∈put:=λh=>Op.irr _ (Op.tr _ _ _ c (hp t h))
   obtain⟨r,er,h1,h2,h3,h4⟩:=NX O (@AT) htp c
   refine .inl ⟨r,?_,⟨λx hx=>?_,h2,h3,h4⟩,put,t,hpm,htm,c⟩
   ·have ef:aQ (aa (cst (.str "ring")) (aa (ay Ka (aa (gv 0) (aa (gv 3) @Te))) af)) (vl (gE n l ps put (.fz (ao t)))) 0=.ok (.tuple [.str "ring",pD r]) 0:=iE (ds:=[.str "ring",pD r]) (ac rfl (ac (aE (ds:=[aA n l,pD put,ao t]) rfl er) an)) @Go
    have e1:qj (gE n l ps put (.fz (ao t))) 0=.rt (.tuple [.str "ring",pD r]) false 0:=by
     unfold qj
     rw[eT (d:=.tuple [.str "ring",pD r]) (b:=false) (β':=0)]
     rw[ij eb,cA]
     show toS (aQ (aa (cst (.str "ring")) (aa (ay Ka (aa (gv 0) (aa (gv 3) @Te))) af)) (vl (gE n l ps put (.fz (ao t)))) 0) _=_
     rw[ef];rfl
    rw[P8]
    unfold lK
    rw[hbd]
    dsimp only
    rw[e1]
   ·rcases h1 x hx with rfl |h
    ·exact htm
    ·exact hpm x h
  ·rw[PU c] at eb
   have hn:lM (putAll n l put) t.1 t.2=false:=by
    cases z:lM (putAll n l put) t.1 t.2 with
    |false=>rfl
    |true=>
     rcases hJ.mp z with h |h
     ·unfold tQ at ha
      rw[h] at ha
      simp at ha
     ·exact absurd h c
   have Op':=HS Op hn
   rw[<-rS] at Op'
   have hp':∀p,p∈put ++ [t]->(p.2,p.1)∈putAll n l (put ++ [t]):=λp hpp=>by
    rw[rS]
    rcases PQ.mp hpp with h |h
    ·exact Hw Op (hp p h)
    ·rw[P6] at h;subst h
     exact Ah hr
   have e1:qj (gE n l ps put (.fz (ao t))) 0=.nx (gE n l ps (put ++ [t]) (.fz (ao t))) 0:=by
    unfold qj
    rw[az (env':=gE n l ps put (.fz (ao t))) (β':=0) (by rw[gr eb];rfl)]
    rw[az (env':=[@GT,.fz (pD ps),.fz (cQ n (bD (putAll n l (put ++ [t])))),.ow (pD put),.fz (ao t)]) (β':=0) (by rw[bP,aE (ds:=[cQ n (bD (putAll n l put)),ao t]) (β1:=0) rfl (Og h8 hr),<-rS];rfl)]
    rw[ot (i:=3) (ds:=put.map ao) (d:=ao t) (β':=0) @Tk rfl @Tk (by rw[Py];omega)]
    show SO.nx [@GT,.fz (pD ps),.fz (cQ n (bD (putAll n l (put ++ [t])))),.ow (.list (put.map ao ++ [t].map ao)),.fz (ao t)] 0=_
    rw[<-Qk]
   have:=MQ O hz ht rest (put ++ [t]) (.fz (ao t)) (by rw[e];simp) Op' hp'
   have e2:lK (.nm 4) qj ((t :: rest).map ao) (gE n l ps put s4) 0=lK (.nm 4) qj (rest.map ao) (gE n l ps (put ++ [t]) (.fz (ao t))) 0:=by
    rw[P8]
    conv=>lhs;unfold lK
    rw[hbd]
    dsimp only
    rw[e1]
   rw[e2]
   exact this
noncomputable def Ng:@Fk:=bg 5 2 (gu jE Lw Nu Lo Ka LV Lp)
def Tg (n:Nat)(l ps:@Do)(d:D):Prop:=(∃r,d=.tuple [.str "ring",pD r]/\OQ l ps r/\OT n l ps)\/∃r,d=.tuple [.str "row",tupI r]/\Row n l r/\∀p,p∈ps->r.idxOf p.2 < r.idxOf p.1
theorem Ar {n:Nat}:∀{put l:@Do} {p:Pr},(@S1)->p∈l->p∈putAll n l put
 | [],l,p,_,h=>h
 |t :: put,l,p,hr,h=>Ar (put:=put) (l:=putL n l t) hr ((lY hr).mpr (.inl h))
def Kk {n:Nat}{l ps:@Do}(ht:∀p,p∈ps->p∈dZ n l):Ln n l (pD ps)=true:=by
 show (ps.map ao).all (zZ n l)=true
 rw[Qm]
 intro d hd
 obtain⟨p,hp,rfl⟩:=PD.mp hd
 obtain⟨hr,ha⟩:=dH.mp (ht p hp)
 rw[Fq hr];exact ha
def Oq {n:Nat}{l ps:@Do}(O:@S8)(hz:ps.length<=100)(ht:∀p,p∈ps->p∈dZ n l):∃d,Ng [aA n l,pD ps]=.ok d false/\Tg n l ps d:=by
 show ∃d,fin (gu jE Lw Nu Lo Ka LV Lp [@GT,.fz (pD ps),.no,.no,.no] 0)=.ok d false/\_
 unfold gu
 rw[az (env':=[@GT,.fz (pD ps),.no,.no,.no]) (β':=0) (by rw[mE,aE (ds:=[aA n l]) (β1:=0) rfl (p0 O)];rfl)]
 have et:lG (ay Lw (aa (gv 1) @Is)) (vl [@GT,.fz (pD ps),.no,.no,.no]) 0=.ok true 0:=by
  rw[<-Kk ht]
  exact ju (aE (ds:=[pD ps,aA n l]) rfl (Ml (JO hz)))
 rw[az (env':=[@GT,.fz (pD ps),.no,.no,.no]) (β':=0) (by rw[gr (eG et)];rfl)]
 rw[az (env':=[@GT,.fz (pD ps),@IN,.no,.no]) (β':=0) (by rw[bP,aE (ds:=[aA n l]) (β1:=0) rfl (OJ O)];rfl)]
 rw[az (env':=gE n l ps [] .no) (β':=0) (by rw[j8,lp (ds:=[]) an];rfl)]
 rcases MQ O hz ht ps [] .no rfl O (λp hp=>by cases hp) with⟨r,e,h⟩ | ⟨s4,e,Op,hp⟩
 ·refine⟨_,?_,.inl ⟨r,rfl,h⟩⟩
  rw[eT (d:=.tuple [.str "ring",pD r]) (b:=false) (β':=0)]
  ·rfl
  rw[dC (env:=gE n l ps [] .no) (ds:=ps.map ao) (β1:=0) rfl]
  exact e
 ·obtain⟨r,er,hR,_⟩:=Oj (late:=[]) Op @Go
  refine⟨.tuple [.str "row",tupI r],?_,.inr ⟨r,rfl,⟨hR.1,?_⟩,λp hpp=>?_⟩⟩
  ·rw[az (env':=gE n l ps ps s4) (β':=0) (by
    rw[dC (env:=gE n l ps [] .no) (ds:=ps.map ao) (β1:=0) rfl]
    exact e)]
   rw[cA]
   have ef:aQ (aa (cst (.str "row")) (aa (ay Lp (aa (gv 2) (aa (bt af) af))) af)) (vl (gE n l ps ps s4)) 0=.ok (.tuple [.str "row",tupI r]) 0:=iE (ds:=[.str "row",tupI r]) (ac rfl (ac (aE (ds:=[cQ n (bD (putAll n l ps)),.list (([]:@KF).map int)]) (ac rfl (ac (lp (ds:=[]) an) an)) er) an)) @Go
   show fin (toS (aQ (aa (cst (.str "row")) (aa (ay Lp (aa (gv 2) (aa (bt af) af))) af)) (vl (gE n l ps ps s4)) 0) _)=_
   rw[ef];rfl
  ·have:=hR.2
   unfold JI at this ⊢
   rw[Qm] at this ⊢
   exact λp hp=>this p (Ar (O.wn p hp) hp)
  ·have:=hR.2
   unfold JI at this
   rw[Qm] at this
   exact R7 (this _ (hp p hpp))
def pf (ps:@Do):D:=.dict (ps.map λp=>(ao p,@TU))
theorem EZ:∀ps:@Do,F0 (ps.map λp=>PyData.tuple [ao p,@TU])=some (ps.map λp=>(p,PyData.bool true))
 | []=>rfl
 |p :: ps=>by
  rw[P8]
  unfold F0
  rw[EZ ps];rfl
theorem yj:∀{L acc:List (Pr×D)},((acc ++ L).map (·.1)).Nodup->L.foldl (λa x=>xC a x.1 x.2) acc=acc ++ L
 | [],acc,_=>by rw[Rl];rfl
 |x :: L,acc,h=>by
  rw[RE]
  have e:xC acc x.1 x.2=acc ++ [x]:=by
   unfold xC
   rw[Px]
   rw[Bool.not_eq_true,List.any_eq_false]
   intro y hy
   rw[PL]
   intro z
   rw[Qk,R8] at h
   exact h.2.2 y.1 (PD.mpr ⟨y,hy,rfl⟩) x.1 (PD.mpr ⟨x,Pz ..,rfl⟩) z
  rw[e,yj (by rw[QN];exact h),QN];rfl
def FG {ps:@Do}(nd:ps.Nodup):zo (.list (ps.map λp=>PyData.tuple [ao p,@TU]))=some (pf ps):=by
 show (F0 (ps.map λp=>PyData.tuple [ao p,@TU])).map _=_
 rw[EZ,Option.map_some,yj (by rw[nil_append,QE];simpa[Function.comp_def] using nd),nil_append,QE];rfl
theorem E5:∀ps:@Do,FF (ps.map λp=>(ao p,PyData.bool true))=some ps
 | []=>rfl
 |p :: ps=>by
  rw[P8]
  show (FF (ps.map λp=>(ao p,PyData.bool true))).map _=_
  rw[E5 ps];rfl
def BD (neg:Bool)(p:Pr)(ps:@Do):z7 neg (ao p) (pf ps)=some (.bool (if neg then !decide (p∈ps) else decide (p∈ps))):=by
 show (FF (ps.map λp=>(ao p,PyData.bool true))).map _=_
 rw[E5];rfl
noncomputable def M1:@Fk:=bg 1 1 (kJ zA)
def JA (n:Nat)(l:@Do):(dZ n l).Nodup:=OM.iX (AZ n l)
def OC {n:Nat}{l:@Do}(O:@S8):M1 [aA n l]=.ok (pf (dZ n l)) false:=by
 show fin (kJ zA [@GT] 0)=_
 have hz:(dZ n l).length<=64:=wq O.hi
 refine pI (D8 (β1:=0) (eN (β1:=0) (cV (l:=dZ n l) (e:=ao) (λp=>PyData.tuple [ao p,@TU]) ?_ (@AT) λp hp=>⟨[.da (ao p)],rfl,tp (ds:=[ao p,@TU]) rfl⟩) (FG (JA n l))) rfl)
 unfold bC
 rw[aE (ds:=[aA n l]) rfl (Iq O)];rfl
def NC (l:@Do)(p q:Pr):Bool:=if p.1=q.1/\p.2≠q.2 then !tQ l (p.2,q.2) else decide (p.2=q.2) && (!decide (p.1=q.1) && !tQ l (p.1,q.1))
def wO (n:Nat)(l:@Do)(p:Pr):@Do:=(dZ n l).filter (NC l p)
def oN (n:Nat)(l:@Do)(b:Int):@KF:=(eB n).filter λc=> !decide (c=b) && !decide (((b,c):Pr)∈dZ n l)
noncomputable def Ni:@Fk:=bg 8 3 gf
def Ej {n:Nat}{l:@Do}{b:Int}{i:Nat}{vs:List Nv}{β:Int}(h8:n<=8)(h1:gv 1 vs β=.ok @Ix β)(hi:vs[i]? =some (.da (.int b)))(h0:vs[0]? =some (.da (pf (dZ n l)))):aM 1 [i,0] (.nm 0) (bS (gv 1)) (yN (cm (f2 (gv 0) (gv 1) (cv true))) (cm (f2 (aQ (aa (gv 1) @Is)) (gv 2) (z7 true)))) (gv 0) vs β=.ok (.list ((oN n l b).map int)) β:=by
 have hb:gp 1 [i,0] vs= [.no,.da (.int b),.da (pf (dZ n l))]:=by simp[gp,hi,h0]
 refine cf (l:=eB n) (e:=int) _ int ?_ (by rw[cU];omega) λc hc=>⟨[.da (.int c),.da (.int b),.da (pf (dZ n l))],by rw[hb];rfl,ze (fk (neg:=true) (i:=c) (j:=b) rfl rfl) (fB _ _ _ _ (aF (dB (a:=b) (b:=c) rfl rfl) rfl (BD true (b,c) (dZ n l)))),λ_=>rfl⟩
 rw[<-mJ];exact du (n:=n) h1 (@AT)
def Bc {n:Nat}{l:@Do}{p q:Pr}:q∈wO n l p↔q∈dZ n l/\NC l p q=true:=PH
def og {n:Nat}{l:@Do}{b c:Int}(hb:0<=b/\b < n):c∈oN n l b↔(0<=c/\c < n)/\c≠b/\tQ l (b,c)=false:=by
 unfold oN
 rw[PH,bN,PM,QG,QG,Q9,Q9]
 constructor
 ·rintro⟨h1,h2,h3⟩
  refine⟨h1,h2,?_⟩
  cases e:tQ l (b,c) with
  |false=>rfl
  |true=>exact absurd (dH.mpr ⟨⟨hb,h1⟩,e⟩) h3
 ·rintro⟨h1,h2,h3⟩
  exact⟨h1,h2,λz=>by have:=(dH.mp z).2;rw[h3] at this;cases this⟩
def rl (n:Nat)(l:@Do)(p:Pr):@Do:=((oN n l p.2).map λc=>(p.1,c)) ++ (oN n l p.1).map λc=>(c,p.2)
def JR {n:Nat}{l:@Do}{p:Pr}(hp:p∈dZ n l):(rl n l p).Nodup:=by
 obtain⟨hr,_⟩:=dH.mp hp
 have nd:∀b,(oN n l b).Nodup:=λb=>(kf n).sublist List.filter_sublist
 unfold rl
 rw[R8]
 refine⟨List.Pairwise.map _ (λa b h z=>h (by cases z;rfl)) (nd _),List.Pairwise.map _ (λa b h z=>h (by cases z;rfl)) (nd _),λx hx y hy z=>?_⟩
 obtain⟨c,hc,rfl⟩:=PD.mp hx
 obtain⟨e,he,rfl⟩:=PD.mp hy
 exact ((og hr.2).mp hc).2.1 (congrArg Prod.snd z)
def Ha {n:Nat}{l:@Do}{p q:Pr}(hp:p∈dZ n l):(q∈rl n l p/\q∈dZ n l)↔q∈wO n l p:=by
 obtain⟨hr,_⟩:=dH.mp hp
 rw[Bc]
 unfold rl NC
 rw[PQ,PD,PD]
 constructor
 ·rintro⟨h |h,ht⟩
  ·obtain⟨c,hc,rfl⟩:=h
   obtain⟨_,h2,h3⟩:=(og hr.2).mp hc
   refine⟨ht,?_⟩
   rw[Po ⟨rfl,λz=>h2 z.symm⟩,h3];rfl
  ·obtain⟨c,hc,rfl⟩:=h
   obtain⟨_,h2,h3⟩:=(og hr.1).mp hc
   refine⟨ht,?_⟩
   rw[Px (λz=>h2 z.1.symm),h3]
   simp
   exact λz=>h2 z.symm
 ·rintro⟨ht,h⟩
  obtain⟨hq,_⟩:=dH.mp ht
  refine⟨?_,ht⟩
  split at h
  ·rename_i c
   rw[QG] at h
   exact .inl ⟨q.2,(og hr.2).mpr ⟨hq.2,λz=>c.2 z.symm,h⟩,by rw[c.1]⟩
  ·simp only[PM,PL,QG,Q9] at h
   exact .inr ⟨q.1,(og hr.1).mpr ⟨hq.1,λz=>h.2.1 z.symm,h.2.2⟩,by rw[h.1]⟩
def HN {n:Nat}{l:@Do}{p:Pr}(O:@S8)(hp:p∈dZ n l):i6 (.list (((rl n l p).filter λq=>decide (q∈dZ n l)).map ao))=some (.list ((wO n l p).map ao)):=by
 have hm:∀q,q∈(rl n l p).filter (λq=>decide (q∈dZ n l))↔q∈wO n l p:=λq=>by rw[PH,PL,Ha hp]
 have hw:∀q,q∈wO n l p->q∈dZ n l:=λq h=>(Bc.mp h).1
 rw[Cw (N:=n) O.lo O.hi (λq hq=>(dH.mp (hw q ((hm q).mp hq))).1) ((JR hp).sublist List.filter_sublist) (λa ha=>by
  have:=(dH.mp (hw _ ((hm _).mp ha))).2
  unfold tQ at this
  simp at this)]
 congr 3
 refine OM.fT (OM.cK _ _) (OM.cS _ (AZ n l)) λq=>?_
 rw[OM.bc]
 show (_/\OM.Mem _ q.1 q.2)↔q∈wO n l p
 rw[<-hm q]
 constructor
 ·exact λh=>h.2
 ·intro h
  have:=(dH.mp (hw q ((hm q).mp h))).1
  have h8:=O.hi
  exact⟨⟨⟨this.1.1,@AT ⟩,this.2.1,@AT ⟩,h⟩
def Oe {n:Nat}{l:@Do}{p:Pr}(O:@S8)(hp:p∈dZ n l):Ni [pf (dZ n l),.int n,ao p]=.ok (.list ((wO n l p).map ao)) true:=by
 have h8:=O.hi
 show fin (gf [.fz (pf (dZ n l)),.fz @Ix,.fz (ao p),.no,.no,.no,.no,.no] 0)=_
 refine pI ?_
 unfold gf
 have hsl:∀b,(oN n l b).length<=8:=λb=>QA (Qr ..) (by rw[cU];exact h8)
 have hfl:(rl n l p).length<=16:=by have h1:=hsl p.1;have h2:=hsl p.2;unfold rl;rw[P5,Py,Py];omega
 refine jX (d:=.int p.1) (β1:=0) rfl (jX (d:=.int p.2) (β1:=0) rfl (wp_at [.fz (pf (dZ n l)),.fz @Ix,.fz (ao p),.fz (.int p.1),.fz (.int p.2),.no,.no,.no] rfl ?_))
 refine jX (Ej (n:=n) (l:=l) (b:=p.2) h8 rfl rfl rfl) (wp_at [.fz (pf (dZ n l)),.fz @Ix,.fz (ao p),.fz (.int p.1),.fz (.int p.2),.fz (.list ((oN n l p.2).map int)),.no,.no] rfl ?_)
 refine jX (Ej (n:=n) (l:=l) (b:=p.1) h8 rfl rfl rfl) (wp_at [.fz (pf (dZ n l)),.fz @Ix,.fz (ao p),.fz (.int p.1),.fz (.int p.2),.fz (.list ((oN n l p.2).map int)),.fz (.list ((oN n l p.1).map int)),.no] rfl ?_)
 have e1:=hsl p.1
 have e2:=hsl p.2
 have hf:((rl n l p).map ao)=((oN n l p.2).map λc=>ao (p.1,c)) ++ (oN n l p.1).map λc=>ao (c,p.2):=by unfold rl;rw[Qk,QE,QE];rfl
 have hsr:=HN O hp
 generalize oN n l p.2=S at *
 generalize oN n l p.1=T at *
 refine jX (β1:=0) (Mr (β1:=0) (cV (l:=S) (e:=int) (λc=>ao (p.1,c)) rfl (@AT) λc hc=>⟨[.da (.int c),.da (.int p.1)],rfl,dB rfl rfl⟩) (cV (l:=T) (e:=int) (λc=>ao (c,p.2)) rfl (@AT) λc hc=>⟨[.da (.int c),.da (.int p.2)],rfl,dB rfl rfl⟩) (by rw[Py,Py];omega)) ?_
 rw[<-hf]
 exact Bq (β1:=0) (eN (β1:=0) (cf (l:=rl n l p) (e:=ao) (λq=>decide (q∈dZ n l)) ao rfl (@AT) λq hq=>⟨[.da (ao q),.da (pf (dZ n l))],rfl,fB _ _ _ _ (aF (x:=ao q) (y:=pf (dZ n l)) rfl rfl (BD false q (dZ n l))),λ_=>rfl⟩) hsr) rfl
def wp_raise {m':SF}{env:En}{β:Int}{Q:SO->Prop}{x c:Str}(q:Q (.exc c)):WP (aK (λenv β=>toS ((aa (cst (.str x)) af) @Ps β) λds _=>if ds.length<=sizeLine then SO.exc c else .bad) m' env β) Q:=by
 refine⟨?_⟩
 have e:(λ(env:En) (β:Int)=>toS ((aa (cst (.str x)) af) @Ps β) λds _=>if ds.length<=sizeLine then SO.exc c else .bad) env β=.exc c:=by
  show (if ([PyData.str x]:List D).length<=sizeLine then SO.exc c else .bad)=_
  exact Po (by show 1<=sizeLine;rw[Qc];omega)
 unfold aK
 rw[e];exact q
noncomputable def Nm:@Fk:=bg 2 2 (j4 jE Jp Ni M1)
section
variable {n:Nat}{l:@Do}{d:D}
def Ma (O:@S8)(h:Gt d)(hb:Ln n l d=false):Ng [aA n l,d]=.exc "NoTurns":=by
 have ea:=Ml (l:=l) (n:=n) h
 rw[hb] at ea
 show fin (gu jE Lw Nu Lo Ka LV Lp [@GT,.fz d,.no,.no,.no] 0)=_
 unfold gu
 exact pI (vd (aE (ds:=[aA n l]) rfl (p0 O)) (AK (β1:=0) (eG (a:=false) (ju (aE (ds:=[d,aA n l]) rfl ea))) (wp_raise rfl)))
def MM (O:@S8)(h:Ge d)(hb:zZ n l d=false):Nm [aA n l,d]=.exc "NoTurns":=by
 have ea:=KY (l:=l) (n:=n) h
 rw[hb] at ea
 show fin (j4 jE Jp Ni M1 [@GT,.fz d] 0)=_
 unfold j4
 exact pI (vd (aE (ds:=[aA n l]) rfl (p0 O)) (AK (β1:=0) (eG (a:=false) (ju (aE (ds:=[d,aA n l]) rfl ea))) (wp_raise rfl)))
def Bx (p:Pr):Ge (ao p):=yQ (es:=[.int p.1,.int p.2]) @Go λx hx=>by
 simp only[Pu,Qz,RF] at hx
 rcases hx with rfl |rfl <;> rfl
def Mw (O:@S8){p:Pr}(hp:p∈dZ n l):Nm [aA n l,ao p]=.ok (.list ((wO n l p).map ao)) true:=by
 have ea:=KY (n:=n) (l:=l) (Bx p)
 rw[Fq (dH.mp hp).1,(dH.mp hp).2] at ea
 show fin (j4 jE Jp Ni M1 [@GT,.fz (ao p)] 0)=_
 unfold j4
 exact pI (vd (aE (ds:=[aA n l]) rfl (p0 O)) (Hh (β1:=0) (eG (a:=true) (ju (aE (ds:=[ao p,aA n l]) rfl ea))) (Bq (yz (ds:=[pf (dZ n l),.int n,ao p]) (ac (aE (ds:=[aA n l]) rfl (OC O)) (ac (Nt (n:=n) (l:=l) rfl) (ac rfl an))) (Oe O hp)) rfl)))
end
def Ad:List (Str×Nat):=[("NoTurns",9)]
def LL:w9 Ad "NoTurns"=some "turns":=@I_
noncomputable def oo:@Fk:=bg 4 3 (qm (w9 Ad) Ng Nm)
noncomputable abbrev IZ:SF:=kr @Ev (cm (f2 (gv 0) @Cl (cv false))) (mD ([1] ++ ([2] ++ [])) (ay Ng (aa (gv 1) (aa (gv 2) af)))) (mD ([1] ++ ([2] ++ [])) (ay Nm (aa (gv 1) (aa (gv 2) af))))
def N5 (a b c:D):jR [.fz a,.fz b,.fz c,.no]=true:=rfl
def FC {k od d:D}{c s:Str}(h:IZ [.fz k,.fz od,.fz d,.no] 0=.exc c)(hs:w9 Ad c=some s):oo [k,od,d]=.ok (.str s) false:=by
 show fin (aK (qg (w9 Ad) IZ) (bG (cst (.str "told"))) [.fz k,.fz od,.fz d,.no] 0)=_
 rw[eT (d:=.str s) (b:=false) (β':=0)]
 ·rfl
 ·unfold qg
  rw[Po (N5 _ _ _),h]
  dsimp only
  rw[hs]
def ED {k od d:D}(h:IZ [.fz k,.fz od,.fz d,.no] 0=.nx [.fz k,.fz od,.fz d,.no] 0):oo [k,od,d]=.ok (.str "told") false:=by
 show fin (aK (qg (w9 Ad) IZ) (bG (cst (.str "told"))) [.fz k,.fz od,.fz d,.no] 0)=_
 rw[az (env':=[.fz k,.fz od,.fz d,.no]) (β':=0)]
 ·rfl
 ·unfold qg
  rw[Po (N5 _ _ _),h]
  exact Po (N5 _ _ _)
def u6 (k:Int)(a b:D):cm (f2 (gv 0) @Cl (cv false)) (vl [.fz (.int k),.fz a,.fz b,.no]) 0=.ok (decide (k=0)) 0:=fk (neg:=false) (i:=k) (j:=0) rfl rfl
section
variable {n:Nat}{l:@Do}{d:D}
def LQ (O:@S8)(h:Gt d)(hb:Ln n l d=false):oo [.int 0,aA n l,d]=.ok (.str "turns") false:=FC (c:="NoTurns") (by
 unfold IZ;rw[ij (u6 0 _ _),mE,uY (ds:=[aA n l,d]) (β1:=0) rfl (Ma O h hb)];rfl) LL
def Nz (O:@S8)(h:Ge d)(hb:zZ n l d=false):oo [.int 1,aA n l,d]=.ok (.str "turns") false:=FC (c:="NoTurns") (by
 unfold IZ;rw[gr (u6 1 _ _),mE,uY (ds:=[aA n l,d]) (β1:=0) rfl (MM O h hb)];rfl) LL
def OL (O:@S8):oo [.int 0,aA n l,.list ((dZ n l).map ao)]=.ok (.str "told") false:=by
 obtain⟨x,e,_⟩:=Oq (ps:=dZ n l) O (by have:=wq (l:=l) O.hi;omega) λp hp=>hp
 exact ED (by unfold IZ;rw[ij (u6 0 _ _),mE,aE (ds:=[aA n l,.list ((dZ n l).map ao)]) (β1:=0) rfl e];rfl)
def NY (O:@S8){p:Pr}(hp:p∈dZ n l):oo [.int 1,aA n l,ao p]=.ok (.str "told") false:=ED (by
 unfold IZ;rw[gr (u6 1 _ _),mE,aE (ds:=[aA n l,ao p]) (β1:=0) rfl (Mw O hp)];rfl)
end
def ne_str (x:Str)(h:cv true (.str x) (.str x)=some (.bool false)){F:@Fk}{fr:@Pi}{vs:List Nv}{β:Int}{ds:List D}(hf:fr vs β=.ok ds β)(e:F ds=.ok (.str x) false):cm (f2 (ay F fr) (cst (.str x)) (cv true)) vs β=.ok false β:=fB _ _ _ false (aF (aE hf e) rfl h)
def nt:cv true (.str "turns") (.str "turns")=some (.bool false):=@I_
def nd:cv true (.str "told") (.str "told")=some (.bool false):=@I_
noncomputable def JP:@Fk:=bg 8 1 (Be K6 mK Oa oo anyF HU)
def tG (n:Nat):List D:=[.tuple [.int 0,.int 0],.tuple [.int 0,.int n],.tuple [.int (-1),.int 0],.tuple [.int 0],.list [.int 0,.int 1],.tuple [.int 0,.int 1,.int 2],.none,.str "01",.tuple [.int 0,.none],.tuple [@TU,.bool false],.tuple [.tuple [.int 0,.int 1]]]
def MR {d:D}(h:cX d=false)(h2:∀es,d≠.tuple es):Ge d:=⟨h,λes e=>absurd e (h2 es)⟩
def GQ (n:Nat):∀d,d∈tG n->Ge d:=by
 intro d hd
 simp only[tG,Pu,Qz,RF] at hd
 have gt:∀es:List D,es.length<=100->(es.all λx=> !cX x)=true->Ge (.tuple es):=λes h1 h2=>yQ h1 λx hx=>by
  have:=Qm.mp h2 x hx
  simpa using this
 rcases hd with rfl |rfl |rfl |rfl |rfl |rfl |rfl |rfl |rfl |rfl |rfl <;> first |exact gt _ @Go rfl |exact MR rfl λes e=>by cases e
def things (n:Nat)(l:@Do)(o:D):List D:=tG n ++ (l.take 3).map ao ++ [o,ao ((n:Int),(n:Int))]
def BS {n:Nat}{l:@Do}{o:D}(ho:o∈l9):∀d,d∈things n l o->Ge d:=by
 intro d hd
 rcases PQ.mp hd with hd |hd
 ·rcases PQ.mp hd with hd |hd
  ·exact GQ n d hd
  ·obtain⟨p,_,rfl⟩:=PD.mp hd
   exact Bx p
 ·simp only[Pu,Qz,RF] at hd
  rcases hd with rfl |rfl
  ·exact (JD ho).1
  ·exact Bx _
abbrev By (ns:@KF)(k n:Nat)(l:@Do)(s6 s7:Sl):En:=[.fz (dX ns),.fz (.int k),.bx,@GT,.fz (.list ((dZ n l).map ao)),.fz @Ix,s6,s7]
def Pd {fa:VF D}{fr:@Pi}{vs:List Nv}{β β1 β2:Int}{d:D}{ds:List D}(h:@TX=.ok d β1)(h':fr vs β1=.ok ds β2):aa fa fr vs β=.ok (d :: ds) β2:=by rw[bE,h];dsimp only[R.bnd];rw[h']
def LJ (ns:@KF):JP [dX ns]=.ok (@TU) false:=by
 show fin (Be K6 mK Oa oo anyF HU [.fz (dX ns),.no,.no,.no,.no,.no,.no,.no] 0)=_
 refine pI ?_
 obtain⟨m,hm,em⟩:=DI 5 (@AT) ns (vl [.fz (dX ns),.no,.no,.no,.no,.no,.no,.no]) 0 rfl
 unfold Be
 refine zj (λ_ env _=>∃s1 s2 s3 s4 s5 s6 s7,env= [.fz (dX ns),s1,s2,s3,s4,s5,s6,s7]) em ⟨_,_,_,_,_,_,_,rfl⟩ ?_ λenv β ⟨s1,s2,s3,s4,s5,s6,s7,e⟩=>D8 (d:=@TU) rfl rfl
 rintro i d env β hi ⟨s1,s2,s3,s4,s5,s6,s7,rfl⟩
 obtain⟨_,rfl⟩:=jr hi
 rw[QT]
 refine⟨[.fz (dX ns),.fz @S3,s2,s3,s4,s5,s6,s7],rfl,?_⟩
 obtain⟨z,ez⟩:=Mn ns i
 obtain⟨t3,t4,t5,t6,t7,hcl⟩:∃t3 t4 t5 t6 t7:Sl,(t8 (a8 ([0] ++ ([1] ++ [])) [.fz (dX ns),.fz @S3,s2,s3,s4,s5,s6,s7])).set 2 .bx= [.fz (dX ns),.fz @S3,.bx,t3,t4,t5,t6,t7]:=⟨_,_,_,_,_,rfl⟩
 refine HK (yz (ds:=[dX ns,.int i]) rfl ez) (wp_at _ hcl ?_)
 obtain⟨n,l,β1,eo,O⟩:=K5 (most:=7) (@AT) (@AT) z
 refine jX (fx (ds:=[.int 7]) rfl rfl eo) (wp_at [.fz (dX ns),.fz @S3,.bx,@GT,t4,t5,t6,t7] rfl ?_)
 refine jX (aE (ds:=[aA n l]) rfl (yE O)) (wp_at [.fz (dX ns),.fz @S3,.bx,@GT,.fz (.list ((dZ n l).map ao)),t5,t6,t7] rfl ?_)
 refine jX (Nt (n:=n) (l:=l) rfl) (wp_at (By ns i n l t6 t7) rfl ?_)
 have hl:=vH O
 have ht:=wq (l:=l) O.hi
 refine jX (d:=.list (tG n)) (β1:=β1) rfl (wp_at (By ns i n l (.fz (.list (tG n))) t7) rfl ?_)
 obtain⟨o,β2,eod,ho⟩:=LR β1
 have e3:Cf (f2 (gv 3) @EQ bu) (λ_ β=>.ok none β) (G6 (cst (.int 3))) (vl (By ns i n l (.fz (.list (tG n))) t7)) β1=.ok (.tuple ((l.map ao).take 3)) β1:=EJ (i:=3) (aF (x:=aA n l) (y:=.int 1) rfl rfl rfl) rfl
 rw[<-List.map_take] at e3
 have e6:f2 (f2 (gv 6) (f1 (Cf (f2 (gv 3) @EQ bu) (λ_ β=>.ok none β) (G6 (cst (.int 3)))) AG) dt) (bt (aa (i5 2 HU af) (aa (aQ (aa (gv 5) (aa (gv 5) af))) af))) dt (vl (By ns i n l (.fz (.list (tG n))) t7)) β1=.ok (.list (things n l o)) β2:=by
  have lt:((l.take 3).map ao).length<=3:=by rw[Py,Qx];omega
  have lb:(tG n).length=11:=rfl
  refine aF (x:=.list (tG n ++ (l.take 3).map ao)) (y:=.list [o,ao ((n:Int),(n:Int))]) (aF (x:=.list (tG n)) (y:=.list ((l.take 3).map ao)) rfl (eN e3 rfl) (fY (@AT))) (dU (Pd (fx (ds:=[]) rfl rfl eod) (ac (tp (ds:=[.int n,.int n]) rfl) an)) @Go) ?_
  rw[fY (by rw[P5];simp only[P7,Ss];omega)];rfl
 refine jX e6 (wp_at (By ns i n l (.fz (.list (things n l o))) t7) rfl ?_)
 refine zj (ds:=things n l o) (β1:=β2) (λ_ env _=>∃s7,env=By ns i n l (.fz (.list (things n l o))) s7) rfl ⟨_,rfl⟩ ?_ ?_
 ·rintro k d env β hk ⟨s7,rfl⟩
  have hg:=BS (n:=n) (l:=l) ho d (PV hk)
  refine⟨By ns i n l (.fz (.list (things n l o))) (.fz d),rfl,?_⟩
  have el:=OF O hg
  cases c:zZ n l d with
  |true=>
   rw[c] at el
   exact Hz (β1:=β) (eG (a:=true) (ju (aE (ds:=[aA n l,d]) rfl el))) (Br ⟨_,_,rfl,_,rfl⟩)
  |false=>
   rw[c] at el
   have s1:=FE (fa:=gv 4) (fb:=cst (.int 3)) (vs:=vl (By ns i n l (.fz (.list (things n l o))) (.fz d))) (β:=β) (ds:=(dZ n l).map ao) (i:=3) rfl rfl
   have hG:Gt (.list (((dZ n l).map ao).take 3 ++ [d])):=⟨rfl,λes e=>by
    cases e
    refine⟨by rw[P5,Qx,Rj];omega,λx hx=>?_⟩
    rcases PQ.mp hx with hx |hx
    ·obtain⟨p,_,rfl⟩:=PD.mp (RL hx)
     exact Bx p
    ·rw[P6] at hx;rw[hx];exact hg⟩
   have hb:Ln n l (.list (((dZ n l).map ao).take 3 ++ [d]))=false:=by
    show List.all _ _=false
    rw[List.all_append,all_cons,c]
    simp
   refine N9 (β1:=β) (eG (a:=false) (ju (aE (ds:=[aA n l,d]) rfl el))) (Hz (β1:=β) (oF (ne_str "turns" nt (ds:=[.int 1,aA n l,d]) rfl (Nz O hg c)) (ne_str "turns" nt (ds:=[.int 0,aA n l,.list (((dZ n l).map ao).take 3 ++ [d])]) (ac rfl (ac rfl (ac (aF s1 (lp (ds:=[d]) rfl) (fY (by rw[Qx,Rj];omega))) an))) (LQ O hG hb))) (Br ⟨_,_,rfl,_,rfl⟩))
 rintro env β ⟨s7,rfl⟩
 have e2:bt (aa (f1 (gv 4) gL) (aa (cst .none) (aa (aQ (aa @Cl (aa @EQ af))) (aa (cst (.str "")) (aa (cst (.dict [])) af))))) (vl (By ns i n l (.fz (.list (things n l o))) s7)) β=.ok (.list [.tuple ((dZ n l).map ao),.none,.tuple [.int 0,.int 1],.str "",.dict []]) β:=lp (ds:=[.tuple ((dZ n l).map ao),.none,.tuple [.int 0,.int 1],.str "",.dict []]) rfl
 refine zj (ds:=[.tuple ((dZ n l).map ao),.none,.tuple [.int 0,.int 1],.str "",.dict []]) (β1:=β) (λ_ env _=>∃s7,env=By ns i n l (.fz (.list (things n l o))) s7) (by unfold bC;rw[e2];rfl) ⟨_,rfl⟩ ?_ ?_
 ·rintro k d env β hk ⟨s7,rfl⟩
  have hd:=PV hk
  have hG:Gt d/\Ln n l d=false:=by
   simp only[Pu,Qz,RF] at hd
   rcases hd with rfl |rfl |rfl |rfl |rfl <;> exact⟨⟨rfl,λds e=>by cases e⟩,rfl⟩
  refine⟨By ns i n l (.fz (.list (things n l o))) (.fz d),rfl,?_⟩
  exact Hz (β1:=β) (ne_str "turns" nt (ds:=[.int 0,aA n l,d]) rfl (LQ O hG.1 hG.2)) (Br ⟨_,_,rfl,_,rfl⟩)
 rintro env β ⟨s7,rfl⟩
 have x2:yN (cm (f2 (gv 4) (bt af) (cv true))) (cm (f2 (ay oo (aa @EQ (aa (gv 3) (aa (f2 (gv 4) @Cl bu) af)))) (cst (.str "told")) (cv true))) (vl (By ns i n l (.fz (.list (things n l o))) s7)) β=.ok false β:=by
  have g:=Eg true (dZ n l) []
  have t1:cm (f2 (gv 4) (bt af) (cv true)) (vl (By ns i n l (.fz (.list (things n l o))) s7)) β=.ok (!decide (dZ n l= [])) β:=fB _ _ _ _ (aF (x:=.list ((dZ n l).map ao)) rfl (lp (ds:=[]) an) (by simpa using g))
  rw[DZ,t1]
  dsimp only[R.bnd]
  cases c:dZ n l with
  |nil=>rfl
  |cons p ps=>
   rw[PU @Go]
   have ix:f2 (gv 4) @Cl bu (vl (By ns i n l (.fz (.list (things n l o))) s7)) β=.ok (ao p) β:=aF (x:=.list ((dZ n l).map ao)) (y:=.int 0) rfl rfl (by rw[c];show kq (List.map ao (p :: ps)) ((0:Nat):Int)=_;exact kU rfl)
   exact (Po rfl).trans (ne_str "told" nd (ds:=[.int 1,aA n l,ao p]) (ac rfl (ac rfl (ac ix an))) (NY O (by rw[c];exact Pz ..)))
 exact Hz (β1:=β) (oF (ne_str "told" nd (ds:=[.int 0,aA n l,.list ((dZ n l).map ao)]) rfl (OL O)) x2) (Br ⟨_,_,rfl,_,_,_,_,_,_,_,rfl⟩)
end RM
namespace RO
open PySem L2
abbrev kN:Stmt:=RQ.fL
abbrev oS:Stmt:=RQ.top 23
abbrev mB:Stmt:=RQ.top 59
abbrev Fn (K:Frag)(mg:@Fa)(x:Str)(st:Stmt)(ps:@KK)(f:Addr)(fd:FuncData):Prop:=i4 K mg x st ps f fd
abbrev Bt (mg:@Fa):Prop:=jh mg
end RO
section
namespace L2
open PySem PySem.Spec PyProof.Rows
section
variable {K:Frag}{H H':Hp}{a:Addr}
theorem aW.snoc {x y:Int}(q:gj K H a [.int x,.int y]):∀{vs:List V} {ps:List (Int×Int)},aW K H vs ps->aW K H (vs ++ [.ref a]) (ps ++ [(x,y)])
 |_,_,.nil=>.cons ⟨a,rfl,q⟩ .nil
 |_,_,.cons r t=>.cons r (aW.snoc q t)
def aW.len {vs:List V}{ps:List (Int×Int)}(h:aW K H vs ps):vs.length=ps.length:=Paired.length h
def aW.same {vs:List V}{ps:List (Int×Int)}(h:aW K H vs ps)(s:av H H'):aW K H' vs ps:=h.grow s.grow
def aW.at {vs:List V}{ps:List (Int×Int)}{i:Nat}{v:V}(h:aW K H vs ps)(e:vs[i]? =some v):∃p:Int×Int,ps[i]? =some p/\∃b,v=.ref b/\gj K H b [.int p.1,.int p.2]:=Paired.getP h e
def av.put {o:HO}(s:av H H')(h:H a=none)(hf:∀x y,H' a≠some (.a8 x y)):av H (L2.upd H' a o):=λb u e=>my (s b u e) (aL e h) hf
def I0 (h:H a=none):∀x y,H a≠some (.a8 x y):=λx y z=>by rw[h] at z;cases z
def Mb {xs:List V}(h:H a=some (.lst xs)):∀x y,H a≠some (.a8 x y):=λx y z=>by rw[h] at z;cases z
end
end L2
namespace RO
open PySem L2
def Dz (N:@KK)(sc:Scope)(NB:@KK)(own:Nat)(ixs:@IO)(scope:Scope):Bool:=
 decide (scope.kind=.function) && (scope.names.all λy=>decide (scope.names.lookup y.1=some y.2)) &&
 (scope.names.all λy=>decide (y.2=.free->(sc.names.lookup y.1=some .cell\/sc.names.lookup y.1=some .free))) && decide NB.Nodup && decide (NB.length=own + ixs.length) &&
 ((List.range ixs.length).all λk=>decide (NB[own + k]? =N[ixs.getD k 0]?) && (match NB[own + k]? with |some x=>decide ((x,NameKind.free)∈scope.names) |none=>true))
def pY {X:Cx}{NB:@KK}{own:Nat}{ixs:@IO}{scope:Scope}(h:Dz X.N X.env.scope NB own ixs scope=true):dE X NB own ixs scope:=by
 unfold Dz at h
 simp only[PM,Qm,PL,P4] at h
 obtain⟨⟨⟨⟨⟨h1,h3⟩,h4⟩,h5⟩,h6⟩,h7⟩:=h
 refine⟨h1,h3,h4,h5,h6,λk hk=>⟨(h7 k hk).1,λx hx=>?_⟩⟩
 have:=(h7 k hk).2
 rw[hx] at this
 simpa using this
section
variable {X:Cx}{tg l:Expr}{tl:TE}{K:Frag}{H H1:Hp}{a:Addr}{xs:List V}{σ:St}
def NJ (K:Frag)(tl:TE):TI:=λσ H R=>tl σ H λx H1=>∃a xs,x=.ref a/\((gk K H1 a xs/\R (Cz K a) H1)\/(gj K H1 a xs/\R (IH K a) H1))
end
def OS (K:Frag){X:Cx}(h:X.K=K:=by rfl):DN X (JK K):=by subst h;exact hW
def Kc (K:Frag)(i j:Nat){X:Cx}{x y:Str}{px py pos:Pos}{k:Nat}(hN:X.N.Nodup)(hi:X.N[i]? =some x)(hj:X.N[j]? =some y)(hx:X.env.scope.names.lookup x=some .local)(hy:X.env.scope.names.lookup y=some .local)(hc:X.calm=true)(hK:X.K=K) :
  PG X (.Tuple [.Name x px,.Name y py] k pos) (GW K 2 (se (nq i) (se (nq j) Hy))):=by
 subst hK
 exact sv hc (eO (di hN hi (Or.inl hx) (Or.inr hx)) (eO (di hN hj (Or.inl hy) (Or.inr hy)) oU))
section
open PySem.Spec PyProof.Rows
variable {X:Cx}{tg l:Expr}{tl:TE}
def J9 (hl:PE X l tl):PI X tg l (NJ X.K tl):=by
 intro pins s σ H R I h
 refine cG (hl pins s σ H _ I h) λv s1 ⟨x,H1,I1,r1,q1⟩=>?_
 obtain⟨a,xs,e,q⟩:=q1
 subst e
 cases r1
 rcases q with⟨hq,q⟩ | ⟨hq,q⟩
 ·obtain⟨its,rv,p,hz⟩:=I1.list hq
  refine RG p.isList ?_
  refine⟨s1.heap.objs.size,[s1.heap.objs.size],_,_,H1,rfl,I1.kept (t':=s1.toks) λb o e=>Pq _ e,pG a _,⟨_,PX _ rfl,rfl,rfl⟩,λb hb=>?_,q⟩
  have e:b=s1.heap.objs.size:=by simpa using hb
  subst e
  exact I1.fpOk (Pt _) (I1.hok.fresh (Pt _))
 ·obtain⟨its,rv,p,hz⟩:=I1.tuple hq
  refine wpAny_pyIter_tuple (show s1.heap.IsTuple a its.toArray from p) ?_
  refine⟨s1.heap.objs.size,[s1.heap.objs.size],_,_,H1,rfl,I1.kept (t':=s1.toks) λb o e=>Pq _ e,sg a _,⟨_,PX _ rfl,rfl,rfl⟩,λb hb=>?_,q⟩
  have e:b=s1.heap.objs.size:=by simpa using hb
  subst e
  exact I1.fpOk (Pt _) (I1.hok.fresh (Pt _))
end
section
variable {K:Frag}{H H1 H':Hp}{a:Addr}{xs:List V}{σ:St}
abbrev LB (J:It)(g:TG)(tb:TS)(D:Ends)(σ:St)(H:Hp):Prop:=∃W:Nat->Nat->@Q_,(∃m,W 0 m σ H)/\∀i m σ H,W i m σ H->
   (J.stop i H/\D.nx σ H)\/(J.go i H/\∃N:@Q_,(∀σ' H',N σ' H'->∃m',m' < m/\W (i + 1) m' σ' H')/\∀x H',J.yld i H x H'->g x σ H' λσ2 H2=>tb {D with nx:=N,ct:=N,bk:=D.nx} σ2 H2)
def Ip (s:av H1 H')(hq:gk K H1 a xs\/gj K H1 a xs):gk K H' a xs\/gj K H' a xs:=hq.elim (λq=>.inl (s.seq q)) λq=>.inr (q.grow s.grow)
def HJ {g:TG}{tb:TS}{D:Ends}(hq:gk K H1 a xs\/gj K H1 a xs)(Pv:Nat->@Q_)(h0:Pv 0 σ H)(hl:∀i σ H',Pv i σ H'->av H1 H')
  (hs:∀i x σ H,xs[i]? =some x->Pv i σ H->g x σ H λσ2 H2=>tb {D with nx:=Pv (i + 1),ct:=Pv (i + 1),bk:=D.nx} σ2 H2) (hd:∀σ H,Pv xs.length σ H->D.nx σ H) :
  (gk K H a xs/\LB (Cz K a) g tb D σ H)\/(gj K H a xs/\LB (IH K a) g tb D σ H):=
 hq.elim (λq=>.inl ⟨(hl _ _ _ h0).seq q,xB Pv h0 (λi σ H' _ p=>(hl i σ H' p).seq q) hs hd⟩) λq=>.inr ⟨q.grow (hl _ _ _ h0).grow,Ho Pv h0 (λi σ H' _ p=>q.grow (hl i σ H' p).grow) hs hd⟩
def Bw (J:It)(own:Nat)(ixs:@IO)(g:TG)(tt:TT)(te:TE)(Q:VK)(D:Addr)(σ:St)(H:Hp):Prop:=∃W:Nat->Nat->@Q_,(∃m,W 0 m (dD own ixs σ) (upd H D (.lst [])))/\∀i m σ' H',W i m σ' H'->
   (J.stop i H'/\(∃acc,H' D=some (.lst acc))/\Q @Tj H')\/
   (J.go i H'/\∃N:@Q_,(∀σ2 H2,N σ2 H2->∃m',m' < m/\W (i + 1) m' σ2 H2)/\∀x H2,J.yld i H' x H2->fV g tt te D x σ' H2 N)
structure yw (own:Nat)(ixs:@IO)(wi:TI)(g:TG)(tt:TT)(te:TE)(σ:St)(H:Hp)(Q:VK):Prop where
 out:wi σ H λJ H1=>∀D,H1 D=none->Bw J own ixs g tt te Q D σ H1
def Ai {own:Nat}{ixs:@IO}{wi:TI}{g:TG}{tt:TT}{te:TE}{Q:VK}(h:wi σ H λJ H1=>∀D,H1 D=none->Bw J own ixs g tt te Q D σ H1):yw own ixs wi g tt te σ H Q:=⟨h⟩
def wu {X:Cx}{NB:@KK}{own:Nat}{ixs:@IO}{scope:Scope}{tg iter elt:Expr}{ifs:@TH}{wi:TI}{g:TG}{tt:TT}{te:TE}{pos:Pos}(hc:X.calm=true)(S:dE X NB own ixs scope)(hi:PI X tg iter wi)
  (hg:∀C ex s3 H3 pn,PG @IR tg g) (ht:∀C ex s3 H3 pn,Fh @IR ifs tt) (he:∀C ex s3 H3 pn,PE @IR elt te)
  (hs:∀x,foldedSetIterable iter X.env x=pure x:=by intro _;rfl):PE X @N_ (yw own ixs wi g tt te):=
 λpins s σ H Q I h=>xQ hc S hi hg ht he hs pins s σ H Q I h.out
section
variable {own:Nat}{ixs:@IO}{g:TG}{tt:TT}{te:TE}{Q:VK}{D:Addr}
def GN (Pv:Nat->@Q_)(h0:Pv 0 (dD own ixs σ) (upd H D (.lst [])))(hl:∀i σ H,i<=xs.length->Pv i σ H->gk K H a xs)
  (hs:∀i x σ H,xs[i]? =some x->Pv i σ H->fV g tt te D x σ H (Pv (i + 1))) (hd:∀σ H,Pv xs.length σ H->(∃acc,H D=some (.lst acc))/\Q @Tj H):Bw (Cz K a) own ixs g tt te Q D σ H:=Ck Pv h0 hl hs hd
def yF {lo:Int}{n:Nat}(Pv:Nat->@Q_)(h0:Pv 0 (dD own ixs σ) (upd H D (.lst [])))
  (hs:∀i σ H,i < n->Pv i σ H->fV g tt te D (.int (lo + i)) σ H (Pv (i + 1))) (hd:∀σ H,Pv n σ H->(∃acc,H D=some (.lst acc))/\Q @Tj H):Bw (Co lo n) own ixs g tt te Q D σ H:=zT Pv h0 hs hd
end
def xI {i:Nat}{te:TE}{D:Addr}{x:V}{N:@Q_}(h:te (σ.set i (some x)) H λv H5=>∃acc,H5 D=some (.lst acc)/\acc.length < sizeLine/\N (σ.set i (some x)) (upd H5 D (.lst (acc ++ [v])))):fV (nq i) Ky te D x σ H N:=by
 unfold fV nq Ky
 exact tX h
def Ed {i j:Nat}{x y:V}{Q:@Q_}(h:gj K H a [x,y])(q:Q ((σ.set i (some x)).set j (some y)) H):GW K 2 (se (nq i) (se (nq j) Hy)) @S2 σ H Q:=⟨a,_,rfl,h,rfl,x,_,rfl,y,_,rfl,rfl,q⟩
def NN {c A B:Prop}[Decidable c](h:c)(a:A):if c then A else B:=by rw[Po h];exact a
def Oi {c A B:Prop}[Decidable c](h:¬c)(b:B):if c then A else B:=by rw[Px h];exact b
def take_snoc {α:Type}{l:List α}{i:Nat}{x:α}(h:l[i]? =some x):l.take (i + 1)=l.take i ++ [x]:=by
 rw[RH,h];rfl
def take_all {α:Type}(l:List α):l.take l.length=l:=Rf (Pt _)
end
def fW (n:Nat):(OM.cn n).length=n * n:=by unfold OM.cn;simp
def GO {n i:Nat}(h:i < n * n):(OM.cn n)[i]? =some (((i / n:Nat):Int),((i % n:Nat):Int)):=by
 unfold OM.cn
 rw[PK,RX h];rfl
def OZ {n:Nat}(h:n<=8):n * n<=64:=QV h h
section
variable {P:Program}{w:World}{K:Frag}{mg:@Fa}{base:Heap}
def AJ (K:Frag):Sp:=λvs H Q _=>∃n:Nat,vs= [.int n]/\1<=n/\n<=8/\∀H' l ws,av H H'->H l=none->H' l=some (.lst ws)->aW K H' ws (OM.cn n)->Q (.ref l) H'
def Gn:aG ["many"] ["many"] (aq kN):=@AC
def LU:(["number","many"]:@KK).Nodup:=@B_
def Eo {f:Addr}{fd:FuncData}(F:Fn K mg "every_pair" kN ["many"] f fd)(B:Bt mg):ie P w K mg base zy 1 f fd ["many"] (AJ K):=by
 refine F.F.ok Gn (λvs H Q E h=>?_) (λcdv A outer s H vs Q E hr h=>?_)
 ·obtain⟨n,rfl,_⟩:=h;rfl
 ·obtain⟨n,rfl,h1,h8,k⟩:=h
  refine⟨_,fg (jY (wu (NB:=["number","many"]) (own:=1) (ixs:=[0]) rfl (pY (@I_)) (mX rfl B.range (ax (qi jT (pv 0) (pv 0)) aR))
   (λC ex s3 H3 pn=>di (i:=0) LU rfl (@TM) (hf:=Or.inr rfl)) (λC ex s3 H3 pn=>wj)
   (λC ex s3 H3 pn=>zL (ax (qi oQ (pv 0) (pv 1)) (ax (qi nH (pv 0) (pv 1)) aR))))),?_⟩
  have hn:=OZ h8
  have e0:((n:Int) * (n:Int))=((n * n:Nat):Int):=by rw[Int.natCast_mul]
  refine Ai ⟨_,rfl,_,rfl,_,_,rfl,rfl,.inl ⟨@AT,@AT ⟩,_,rfl,by rw[e0];omega,by rw[e0];omega,λD hD=>?_⟩
  rw[e0,Qj]
  refine yF (λi σ' H'=>(∃v,σ'= [v,some @Ix])/\av H H'/\∃vs,H' D=some (.lst vs)/\aW K H' vs ((OM.cn n).take i)) ⟨⟨none,rfl⟩,(av.refl H).put hD (I0 hD),[],aw,.nil⟩ ?_ ?_
  ·rintro i σ' H' hi ⟨⟨v,rfl⟩,s1,vs,hv,hp⟩
   have hn0:(0:Int) < (n:Int):=@AT
   refine xI ⟨_,rfl,_,rfl,_,_,rfl,rfl,⟨hn0,@AT ⟩,_,rfl,_,rfl,_,_,rfl,rfl,hn0,by show 2<=sizeLine;rw[Qc];omega,λp hp0=>?_⟩
   have hpD:D≠p:=aL hv hp0
   have hl:=hp.len
   refine⟨vs,by rw[aC hpD];exact hv,?_,⟨_,rfl⟩,?_,vs ++ [.ref p],aw,?_⟩
   ·rw[hl,Qx,Qc];rw[fW];omega
   ·exact (s1.put (s1.free hp0) (I0 hp0)).put hD (Mb (xs:=vs) (by rw[aC hpD];exact hv))
   ·rw[take_snoc (GO hi)]
    have g1:je H' (upd H' p (.tup [.int ((0 + @S0) / n),.int ((0 + @S0) % n)])):=je.new hp0
    have g2:∀o,je (upd H' p (.tup [.int ((0 + @S0) / n),.int ((0 + @S0) % n)])) (upd (upd H' p (.tup [.int ((0 + @S0) / n),.int ((0 + @S0) % n)])) D o):=λo=>je.list (by rw[aC hpD];exact hv)
    refine aW.snoc ?_ (hp.grow (g1.trans (g2 _)))
    refine (gj.grow ?_ (g2 _))
    refine .inl (.inl ?_)
    rw[aw,QT];rfl
  ·rintro σ' H' ⟨_,s1,vs,hv,hp⟩
   refine⟨⟨_,hv⟩,k H' D vs s1 hD hv ?_⟩
   rw[<-fW n,take_all] at hp
   exact hp
end
end RO
end
namespace RO
open PySem L2
structure TabAt (n:Nat)(M:OM.Tb)(L:Addr)(r:Nat->Addr)(H:Hp):Prop where
 top:H L=some (.lst ((@TR).map λi=>V.ref (r i)))
 row:∀i,i < n->H (r i)=some (.lst ((@TR).map λj=>V.bl (M i j)))
 inj:∀i j,i < n->j < n->r i=r j->i=j
 ne:∀i,i < n->r i≠L
def AY {n x:Nat}(h:x < n):wM n (x:Int)=some x:=by
 unfold wM;rw[Po (@AT),Po (@AT)];simp
def FN {α:Type}{xs:List α}{x:Nat}(h:x < xs.length):kq xs (x:Int)=xs[x]?:=by
 unfold kq;rw[AY h];rfl
def ic {f:Nat->V}{n x:Nat}(h:x < n):kq ((@TR).map f) (x:Int)=some (f x):=by
 rw[FN (by simpa using h),PK,RX h];rfl
def uj {f:Nat->V}{n x:Nat}(h:x < n):wM ((@TR).map f).length (x:Int)=some x:=by
 rw[Py,QO];exact AY h
def CZ {f:Nat->V}{n y:Nat}{v:V}:((@TR).map f).set y v=(@TR).map λj=>if j=y then v else f j:=by
 apply SD
 intro i
 by_cases hi:i < n
 ·by_cases e:y=i
  ·subst e;simp[List.getElem?_set,hi]
  ·have e':¬i=y:=λz=>e z.symm
   simp[List.getElem?_set,hi,e,e']
 ·rw[QZ (by simp;omega),QZ (by simp;omega)]
section
variable {n:Nat}{M:OM.Tb}{L:Addr}{r:Nat->Addr}{H H':Hp}
def TabAt.set (T:TabAt n M L r H){x y:Nat}(hx:x < n):TabAt n (M.set x y) L r (upd H (r x) (.lst (((@TR).map λj=>V.bl (M x j)).set y (.bl true)))):=by
 refine⟨by rw[aC (T.ne x hx).symm];exact T.top,λi hi=>?_,T.inj,T.ne⟩
 by_cases e:i=x
 ·subst e
  rw[aw,CZ]
  refine congrArg _ (congrArg _ (Rb λj _=>?_))
  unfold OM.Tb.set
  by_cases c:j=y
  ·simp[c]
  ·simp[c]
 ·rw[aC (λz=>e (T.inj i x hi hx z)),T.row i hi]
  refine congrArg _ (congrArg _ (Rb λj _=>?_))
  unfold OM.Tb.set;simp[e]
def TabAt.same (T:TabAt n M L r H)(s:av H H'):TabAt n M L r H':=⟨s _ _ T.top,λi hi=>s _ _ (T.row i hi),T.inj,T.ne⟩
end
def vZ {n:Nat}{ps:List (Int×Int)}(w:OM.Wn n ps){p:Int×Int}(h:p∈ps):∃u v:Nat,p=((u:Int),(v:Int))/\u < n/\v < n:=by
 obtain⟨x,y⟩:=p
 have q:=w _ h
 simp only at q
 exact⟨x.toNat,y.toNat,by rw[Int.toNat_of_nonneg q.1.1,Int.toNat_of_nonneg q.2.1],@AT,@AT ⟩
def jL {M0 M:OM.Tb}{m:Nat}{D D':Nat->Nat->Prop}(P:OM.Phase M0 M m D)(h:∀a b,D a b↔D' a b):OM.Phase M0 M m D':=λa b=>by rw[P a b,h a b]
def mL {l:List (Int×Int)}{u v a b:Nat}:(((a:Int),(b:Int))∈l\/(a=u/\b=v))↔((a:Int),(b:Int))∈l ++ [((u:Int),(v:Int))]:=by
 rw[PQ,P6,Prod.mk.injEq]
 constructor
 ·rintro (h | ⟨h1,h2⟩)
  ·exact .inl h
  ·exact .inr ⟨@AT,@AT ⟩
 ·rintro (h | ⟨h1,h2⟩)
  ·exact .inl h
  ·exact .inr ⟨@AT,@AT ⟩
def Gs {M:OM.Tb}{u v a b:Nat}:M.set u v a b=true↔M a b=true\/(a=u/\b=v):=by
 unfold OM.Tb.set
 by_cases c:a=u/\b=v
 ·simp[c]
 ·rw[Px c];exact⟨.inl,λh=>h.resolve_right c⟩
def Mp (n:Nat)(x:V):(List.replicate n [x]).flatten=(@TR).map λ_=>x:=by
 rw[List.flatten_replicate_singleton,List.map_const',QO]
section
variable {P:Program}{w:World}{K:Frag}{mg:@Fa}{base:Heap}
def D5 (K:Frag):Sp:=λvs H Q _=>∃(n:Nat) (a:Addr) (xs:List V) (ps:List (Int×Int)),vs= [.int n,.ref a]/\1<=n/\n<=8/\(gk K H a xs\/gj K H a xs)/\aW K H xs ps/\OM.Wn n ps/\
 ∀H' t ws,av H H'->H t=none->H' t=some (.tup ws)->aW K H' ws (OM.bW n (OM.Tr @TV))->Q (.ref t) H'
def ig:aG ["many","pairs","corners","leads","a","b","middle"] ["many","pairs"] (aq oS):=@AC
def LN:(["start","many"]:@KK).Nodup:=@B_
def Jz:(["a","b","leads"]:@KK).Nodup:=@B_
set_option maxHeartbeats 1000000 in
theorem BL {f g:Addr}{fd gd:FuncData}(F:Fn K mg "closed" oS ["many","pairs"] f fd)(G:Fn K mg "every_pair" kN ["many"] g gd)(GE:ie P w K mg base zy 1 g gd ["many"] (AJ K))(B:Bt mg):ie P w K mg base zy 2 f fd ["many","pairs"] (D5 K):=by
 refine F.F.ok ig (λvs H Q E h=>?_) (λcdv A outer s H vs Q E hr h=>?_)
 ·obtain⟨n,a,xs,ps,rfl,_⟩:=h;rfl
 ·obtain⟨n,a,xs,ps,rfl,h1,h8,hq,hp,wn,k⟩:=h
  refine⟨_,cL (kZ (i:=2) ig.nd rfl (@TM) (qZ GE hr rfl G.mg G.F.kp G.b .nil ID (ax (pv 0) aR)))
   (cL (kZ (i:=3) ig.nd rfl (Or.inr rfl) (wu (NB:=["start","many"]) (own:=1) (ixs:=[0]) rfl (pY (@I_)) (mX rfl B.range (ax (pv 0) aR))
    (λC ex s3 H3 pn=>di (i:=0) LN rfl (@TM) (hf:=Or.inr rfl)) (λC ex s3 H3 pn=>wj) (λC ex s3 H3 pn=>qi E6 (pU (ax uC aR)) (pv 1))))
   (cL (vB PassesOwn.never rfl (J9 (pv 1)) (sv rfl (eO (di (i:=4) ig.nd rfl (@TM)) (eO (di (i:=5) ig.nd rfl (@TM)) oU)))
    (fg (rT uC (wm (lV hW (pv 3) (pv 4) @C_) (pv 5) set_list))))
   (cL (vB PassesOwn.never rfl (mX rfl B.range (ax (pv 0) aR)) (di (i:=6) ig.nd rfl (@TM))
    (fg (vB PassesOwn.never rfl (BF (pv 2)) (sv rfl (eO (di (i:=4) ig.nd rfl (@TM)) (eO (di (i:=5) ig.nd rfl (@TM)) oU)))
     (fg (Bb (PW.pt (E1 (sE (lV hW (lV hW (pv 3) (pv 4) @C_) (pv 6) @C_)) (BB (sE (lV hW (lV hW (pv 3) (pv 6) @C_) (pv 5) @C_)))))
      (fg (rT uC (wm (lV hW (pv 3) (pv 4) @C_) (pv 5) set_list))) qO)))))
   (fg (jY (ki cD rfl B.tuple (@B_) (ax (wu (NB:=["a","b","leads"]) (own:=2) (ixs:=[3]) rfl (pY (@I_)) (BF (pv 2))
    (λC ex s3 H3 pn=>Kc K 0 1 Jz rfl rfl rfl rfl rfl rfl)
    (λC ex s3 H3 pn=>Bl (sE (lV (OS K) (lV (OS K) (pv 2) (pv 0) @C_) (pv 1) @C_))) (λC ex s3 H3 pn=>zL (ax (pv 0) (ax (pv 1) aR)))) aR))))))),?_⟩
  have hn:=OZ h8
  have hn0:(0:Int)<=(n:Int):=@AT
  refine⟨_,rfl,n,rfl,h1,h8,λH1 c ws s1 hc0 hc hw=>?_⟩
  have hwl:ws.length=n * n:=by rw[hw.len,fW]
  have gw:OM.Wn n (OM.cn n):=λp hp=>OM.bo.mp hp
  refine Ai ?_
  refine⟨_,rfl,n,rfl,@AT,@AT,λD hD=>?_⟩
  rw[Qj]
  refine yF (λi σ' H'=>(∃v,σ'= [v,some @Ix])/\av H1 H'/\∃r:Nat->Addr,H' D=some (.lst ((List.range i).map λk=>V.ref (r k)))/\
   (∀k,k < i->H' (r k)=some (.lst ((@TR).map λ_=>V.bl false))/\H1 (r k)=none/\r k≠D)/\∀j k,j < i->k < i->r j=r k->j=k)
   ?_ ?_ ?_
  ·exact⟨⟨none,rfl⟩,(av.refl H1).put hD (I0 hD),λ_=>0,aw,λk hk=>absurd hk (Nat.not_lt_zero _),λj k hj=>absurd hj (Nat.not_lt_zero _)⟩
  ·rintro i σ' H' hi ⟨⟨v,rfl⟩,s2,r,hr0,hr1,hr2⟩
   refine xI ⟨by show 1<=sizeLine;rw[Qc];omega,λp hp0=>⟨_,rfl,p,n,[.bl false],rfl,rfl,aw,@AT,@AT,by show 1 * (n:Int).toNat<=sizeLine;rw[Qc];omega,λq hq0=>?_⟩⟩
   have hqp:q≠p:=by intro e;subst e;rw[aw] at hq0;cases hq0
   have hq1:H' q=none:=by rw[aC hqp] at hq0;exact hq0
   have hDp:D≠p:=aL hr0 hp0
   have hDq:D≠q:=aL hr0 hq1
   rw[Qj,Mp]
   refine⟨_,by rw[aC hDq,aC hDp];exact hr0,by rw[Py,QO,Qc];omega,⟨_,rfl⟩,((s2.put (s2.free hp0) (I0 hp0)).put (s2.free hq1) (I0 hq0)).put hD (Mb (by rw[aC hDq,aC hDp];exact hr0)),λk=>if k=i then q else r k,?_,λk hk=>?_,λj k hj hk e=>?_⟩
   ·have e:(List.range i).map (λk=>V.ref (r k))=(List.range i).map (λk=>V.ref (if k=i then q else r k)):=Rb λk hk=>by
     have:=P4.mp hk
     rw[Px (@AT)]
    rw[aw,List.range_succ,Qk,e]
    simp
   ·dsimp only
    by_cases e:k=i
    ·rw[Po e]
     exact⟨by rw[aC hDq.symm,aw],s2.free hq1,hDq.symm⟩
    ·rw[Px e]
     obtain⟨a1,a2,a3⟩:=hr1 k (@AT)
     exact⟨by rw[aC a3,aC (aL a1 hq1),aC (aL a1 hp0)];exact a1,a2,a3⟩
   ·dsimp only at e
    by_cases ej:j=i
    ·by_cases ek:k=i
     ·omega
     ·rw[Po ej,Px ek] at e
      exact absurd e.symm (aL (hr1 k (@AT)).1 hq1)
    ·by_cases ek:k=i
     ·rw[Px ej,Po ek] at e
      exact absurd e (aL (hr1 j (@AT)).1 hq1)
     ·rw[Px ej,Px ek] at e
      exact hr2 j k (@AT) (@AT) e
  rintro σ2 H2 ⟨_,s2,r,hr0,hr1,hr2⟩
  refine⟨⟨_,hr0⟩,?_⟩
  have sep:∀i,i < n->H1 (r i)=none:=λi hi=>(hr1 i hi).2.1
  have T0:TabAt n (λ_ _=>false) D r H2:=⟨hr0,λi hi=>(hr1 i hi).1,hr2,λi hi=>(hr1 i hi).2.2⟩
  refine⟨_,rfl,a,xs,rfl,HJ (H1:=H1) (Ip s1 hq) (λi σ' H'=>(∃x y,σ'= [some @Ix,some @S2,some (.ref c),some @Tj,x,y,none])/\av H1 H'/\∃M,TabAt n M D r H'/\∀u v:Nat,M u v=true↔((u:Int),(v:Int))∈ps.take i)
   ⟨⟨none,none,rfl⟩,s2,_,T0,λu v=>by simp⟩ (λi σ' H' q=>q.2.1) ?_ ?_⟩
  ·rintro i x σ' H' hx ⟨⟨_,_,rfl⟩,s3,M,T,hM⟩
   obtain⟨p,hpi,b,rfl,hb⟩:=(hp.same (s1.trans s3)).at hx
   obtain⟨u,v,rfl,hu,hv⟩:=vZ wn (PV hpi)
   refine Ed hb ?_
   refine⟨_,rfl,_,rfl,D,_,u,_,rfl,rfl,.inl (.inl T.top),ic hu,_,rfl,r u,_,v,v,rfl,rfl,T.row u hu,uj hv,⟨_,_,rfl⟩,s3.put (sep u hu) (Mb (T.row u hu)),_,T.set hu,λx y=>?_⟩
   rw[take_snoc hpi,<-mL,Gs,hM]
  rintro σ3 H3 ⟨⟨x3,y3,rfl⟩,s3,M3,T3,hM3⟩
  rw[hp.len,take_all] at hM3
  refine⟨_,rfl,n,rfl,@AT,@AT,?_⟩
  rw[Qj]
  refine BU (λm σ' H'=>(∃x y z,σ'= [some @Ix,some @S2,some (.ref c),some @Tj,x,y,z])/\av H1 H'/\∃M,TabAt n M D r H'/\OM.Tab n ps M/\OM.Gd M m)
   ⟨⟨_,_,_,rfl⟩,s3,M3,T3,⟨λa b h=>by have:=wn _ ((hM3 a b).mp h);simp only at this;omega,λa b h=>(hM3 a b).mpr h,λa b h=>.one ((hM3 a b).mp h)⟩,λk a b hk=>absurd hk (Nat.not_lt_zero _)⟩ ?_ ?_
  ·rintro m σ' H' hm ⟨⟨_,_,_,rfl⟩,s4,M,T,TT,Th⟩
   rw[QT]
   refine⟨_,rfl,c,rfl,⟨ws,.inl (.inl (s4 _ _ hc))⟩,xB (xs:=ws) (λi σ' H'=>(∃x y,σ'= [some @Ix,some @S2,some (.ref c),some @Tj,x,y,some (.int m)])/\av H1 H'/\∃M',TabAt n M' D r H'/\OM.Phase M M' m λu v=>((u:Int),(v:Int))∈(OM.cn n).take i)
    ⟨⟨_,_,rfl⟩,s4,M,T,jL (OM.Phase.start M m) λa b=>by simp⟩ (λi σ' H' _ q=>.inl (.inl (q.2.1 _ _ hc))) ?_ ?_⟩
   ·rintro i x σ' H' hx ⟨⟨_,_,rfl⟩,s5,M',T',Ph⟩
    obtain⟨p,hpi,b,rfl,hb⟩:=(hw.same s5).at hx
    obtain⟨u,v,rfl,hu,hv⟩:=vZ gw (PV hpi)
    refine Ed hb ?_
    have st:=Ph.step u v
    refine⟨_,rfl,_,rfl,D,_,u,_,rfl,rfl,.inl (.inl T'.top),ic hu,_,rfl,r u,_,m,_,rfl,rfl,.inl (.inl (T'.row u hu)),ic hm,_,rfl,?_⟩
    by_cases c1:M' u m=true
    ·refine NN c1 ?_
     refine⟨_,rfl,_,rfl,D,_,m,_,rfl,rfl,.inl (.inl T'.top),ic hm,_,rfl,r m,_,v,_,rfl,rfl,.inl (.inl (T'.row m hm)),ic hv,_,rfl,?_⟩
     by_cases c2:M' m v=true
     ·refine NN c2 ?_
      rw[Po ⟨c1,c2⟩] at st
      refine⟨_,rfl,_,rfl,D,_,u,_,rfl,rfl,.inl (.inl T'.top),ic hu,_,rfl,r u,_,v,v,rfl,rfl,T'.row u hu,uj hv,⟨_,_,rfl⟩,s5.put (sep u hu) (Mb (T'.row u hu)),_,T'.set hu,jL st λa b=>?_⟩
      rw[take_snoc hpi];exact mL
     ·refine Oi c2 ?_
      rw[Px λz=>c2 z.2] at st
      refine⟨⟨_,_,rfl⟩,s5,_,T',jL st λa b=>?_⟩
      rw[take_snoc hpi];exact mL
    ·refine Oi c1 ?_
     rw[Px λz=>c1 z.1] at st
     refine p5 ⟨⟨_,_,rfl⟩,s5,_,T',jL st λa b=>?_⟩
     rw[take_snoc hpi];exact mL
   ·rintro σ' H' ⟨⟨_,_,rfl⟩,s5,M',T',Ph⟩
    rw[hw.len,take_all] at Ph
    have dn:=Ph.done (n:=n) (λa b ha hb=>OM.bo.mpr ⟨⟨by simp,by simp;omega⟩,by simp,by simp;omega⟩) TT.inn Th
    exact⟨⟨_,_,_,rfl⟩,s5,M',T',TT.phase Ph,dn.1⟩
  rintro σ4 H4 ⟨⟨x4,y4,z4,rfl⟩,s4,M,T,TT,Th⟩
  refine Ai ⟨_,rfl,c,rfl,⟨ws,.inl (.inl (s4 _ _ hc))⟩,λD' hD'=>GN (xs:=ws) (λi σ' H'=>(∃x y,σ'= [x,y,some @Tj])/\av H4 H'/\∃vs,H' D'=some (.lst vs)/\aW K H' vs (((OM.cn n).take i).filter λp=>M p.1.toNat p.2.toNat))
   ⟨⟨_,_,rfl⟩,(av.refl H4).put hD' (I0 hD'),[],aw,.nil⟩ (λi σ' H' _ q=>.inl (.inl (q.2.1 _ _ (s4 _ _ hc)))) ?_ ?_⟩
  ·rintro i x σ' H' hx ⟨⟨_,_,rfl⟩,s5,vs,hv,hpv⟩
   obtain⟨p,hpi,b,rfl,hb⟩:=(hw.same (s4.trans s5)).at hx
   obtain⟨u,v,rfl,hu,hv'⟩:=vZ gw (PV hpi)
   refine Ed hb ?_
   have T':=T.same s5
   refine⟨_,rfl,_,rfl,D,_,u,_,rfl,rfl,.inl (.inl T'.top),ic hu,_,rfl,r u,_,v,_,rfl,rfl,.inl (.inl (T'.row u hu)),ic hv',_,rfl,?_⟩
   by_cases c1:M u v=true
   ·refine NN c1 ?_
    refine⟨_,rfl,_,rfl,by show 2<=sizeLine;rw[Qc];omega,λp hp0=>?_⟩
    have hpD:D'≠p:=aL hv hp0
    refine⟨vs,by rw[aC hpD];exact hv,?_,⟨_,_,rfl⟩,(s5.put (s5.free hp0) (I0 hp0)).put hD' (Mb (by rw[aC hpD];exact hv)),_,aw,?_⟩
    ·rw[hpv.len]
     refine Nat.lt_of_le_of_lt (Qr ..) ?_
     rw[Qx,fW,Qc];omega
    ·rw[take_snoc hpi,List.filter_append,List.filter_cons_of_pos (by simpa using c1),List.filter_nil]
     have g1:je H' (upd H' p (.tup [.int u,.int v])):=je.new hp0
     have g2:∀o,je (upd H' p (.tup [.int u,.int v])) (upd (upd H' p (.tup [.int u,.int v])) D' o):=λo=>je.list (by rw[aC hpD];exact hv)
     refine aW.snoc ?_ (hpv.grow (g1.trans (g2 _)))
     exact gj.grow (.inl (.inl aw)) (g2 _)
   ·refine Oi c1 ?_
    refine⟨⟨_,_,rfl⟩,s5,vs,hv,?_⟩
    rw[take_snoc hpi,List.filter_append,List.filter_cons_of_neg (by simpa using c1),List.filter_nil,Rl]
    exact hpv
  ·rintro σ' H' ⟨_,s5,vs,hv,hpv⟩
   rw[hw.len,take_all] at hpv
   refine⟨⟨_,hv⟩,D',vs,rfl,.inl ⟨.inl (.inl hv),λt ht=>?_⟩⟩
   have sA:av H H':=(s1.trans s4).trans s5
   refine k _ t vs (sA.put (sA.free ht) (I0 ht)) (sA.free ht) aw ?_
   have e:((OM.cn n).filter λp=>M p.1.toNat p.2.toNat)=OM.bW n (OM.Tr @TV):=by
    unfold OM.bW
    refine R6 λp hp=>?_
    obtain⟨u,v,rfl,hu,hv⟩:=vZ gw hp
    have:=TT.all wn Th u v
    simp only[Qj]
    rw[Qn,this]
    simp
   rw[e] at hpv
   exact hpv.grow (je.new ht)
end
end RO
namespace RO
open PySem L2 RM
section
variable {P:Program}{w:World}{K:Frag}{mg:@Fa}{base:Heap}{ca:Str->Addr}
def O6 {k:Nat}{f:Addr}{fd:FuncData}{ps:@KK}{sp:Sp}(F:ie P w K mg base zy k f fd ps sp):ie P w K mg base (o5 P w) k f fd ps sp:=
 ⟨F.len,λA outer s H args us vs Q E hr he hb hv hs=>Sa (F.run A outer s H args us vs Q E hr he hb hv hs) λr s' h=>by
  cases r with
  |ok x=>cases x <;> exact h
  |error e=>exact h.elim⟩
def yW {G H:Hp}(s:av G H){ws:List V}{ps:@Do}(h:aW K H ws ps):aW K (oH G H) ws ps:=Paired.mapP h λv p ⟨a,e,q⟩=>⟨a,e,ou s q⟩
def sx {ds:List D}(h:dF ds≠.bad):∃(n:Nat) (d:D) (ps:@Do),ds= [.int n,d]/\nJ d=some (ps.map ao)/\1<=n/\n<=8/\OM.Wn n ps/\dF ds=.ok (.tuple ((OM.bW n (OM.Tr @TV)).map ao)) false:=by
 unfold dF at h
 split at h
 ·rename_i n d
  cases q:nJ d with
  |none=>rw[q] at h;exact absurd rfl h
  |some es=>
   rw[q] at h
   dsimp only at h
   cases q2:gQ es with
   |none=>rw[q2] at h;exact absurd rfl h
   |some ps=>
    rw[q2] at h
    dsimp only at h
    by_cases c:1<=n/\n<=8/\OM.Wn n.toNat ps
    ·have e:((n.toNat:Nat):Int)=n:=@AT
     refine⟨n.toNat,d,ps,by rw[e],by rw[q,j7 q2],@AT,@AT,c.2.2,?_⟩
     unfold dF
     dsimp only
     rw[q]
     dsimp only
     rw[q2]
     dsimp only
     rw[Po c]
    ·rw[Px c] at h;exact absurd rfl h
 ·exact absurd rfl h
def za {f g:Addr}{fd gd:FuncData}(F:i4 K mg "closed" oS ["many","pairs"] f fd)(E:i4 K mg "every_pair" kN ["many"] g gd)(B:jh mg):cB P w K mg base ca "closed" ["many","pairs"] 3 dF:=by
 refine⟨⟨f,fd,F.mg,F.F.kp,F.b,((O6 (BL F E (Eo E B) B)).mono @A_).imp ?_⟩,λds h=>?_⟩
 ·rintro vs H Q X ⟨G,ds,s,hl,r,h⟩
  have hb:dF ds≠.bad:=λz=>by rw[z] at h;exact h
  obtain⟨n,d,ps,rfl,hd,h1,h8,wn,e⟩:=sx hb
  rw[e] at h
  cases r with
  |cons r1 r=>
   cases r with
   |cons r2 r=>
    cases r
    cases r1
    obtain⟨a,xs,rfl,hq,hr⟩:=(nV.seq (B:=none) (G:=G) (H:=G) (.inl r2) hd (av.refl _))
    refine⟨n,a,xs,ps,rfl,h1,h8,hq.elim (λq=>.inl (s.seq q)) (λq=>.inr (q.grow s.grow)),(hr.pairs).grow s.grow,wn,λH' t ws hh ht ht' hp=>?_⟩
    have s2:=s.trans hh
    refine h (.ref t) (oH G H') H' hh uS (wY s2) (λb m hb=>by rw[Bh hh m];exact hb) ?_
    exact .tup (ou s2 (.inl (.inl ht'))) (aW.rps (yW s2 hp))
 ·obtain⟨n,d,ps,rfl,_⟩:=sx h
  rfl
end
end RO
namespace RO
open PySem L2
def strsOf:@TH->Option (@KK)
 | []=>some []
 | .Constant (.str i) _ _ :: es=>(strsOf es).map λr=>i :: r
 |_=>none
theorem A1 {X:Cx}:∀{es:@TH} {ns:@KK},strsOf es=some ns->PA X es λ_ H Q=>Q (ns.map V.str) H
 | [],ns,h=>by
  have e:ns= []:=by unfold strsOf at h;exact (Option.some.inj h).symm
  subst e
  exact aR
 |e :: es,ns,h=>by
  unfold strsOf at h
  split at h
  ·cases ‹_ :: _= []›
  ·next i a b es' heq=>
   cases heq
   cases q:strsOf es with
   |none=>rw[q] at h;cases h
   |some r=>
    rw[q] at h
    have e2:i :: r=ns:=Option.some.inj h
    subst e2
    exact ax sU (A1 q) rfl
  ·cases h
open RM (kT)
structure Er (mg:@Fa)(R c0 c1 c2 c3 c4 c5 c6 c7 c8 c9 c10 c11:Addr):Prop where
 mR:mg "RankError"=some (.ref R)
 m0:mg "NoOrder"=some (.ref c0)
 m1:mg "NoMany"=some (.ref c1)
 m2:mg "NoPairs"=some (.ref c2)
 m3:mg "Ring"=some (.ref c3)
 m4:mg "NoThing"=some (.ref c4)
 m5:mg "NoRow"=some (.ref c5)
 m6:mg "NoRows"=some (.ref c6)
 m7:mg "NoNumber"=some (.ref c7)
 m8:mg "NoChain"=some (.ref c8)
 m9:mg "NoTurns"=some (.ref c9)
 m10:mg "NoPoints"=some (.ref c10)
 m11:mg "NoText"=some (.ref c11)
structure G8 (K:Frag)(D R c0 c1 c2 c3 c4 c5 c6 c7 c8 c9 c10 c11:Addr)(j:Nat):Prop where
 ex:xu K D
 R:PySem.W.kitOne K @Tj (.ref R)=some true
 V:PySem.W.kitOne K @Tj (.type "ValueError")=some true
 k0:PySem.W.kitOne K @Tj (.ref c0)=some (decide (0=j))
 k1:PySem.W.kitOne K @Tj (.ref c1)=some (decide (1=j))
 k2:PySem.W.kitOne K @Tj (.ref c2)=some (decide (2=j))
 k3:PySem.W.kitOne K @Tj (.ref c3)=some (decide (3=j))
 k4:PySem.W.kitOne K @Tj (.ref c4)=some (decide (4=j))
 k5:PySem.W.kitOne K @Tj (.ref c5)=some (decide (5=j))
 k6:PySem.W.kitOne K @Tj (.ref c6)=some (decide (6=j))
 k7:PySem.W.kitOne K @Tj (.ref c7)=some (decide (7=j))
 k8:PySem.W.kitOne K @Tj (.ref c8)=some (decide (8=j))
 k9:PySem.W.kitOne K @Tj (.ref c9)=some (decide (9=j))
 k10:PySem.W.kitOne K @Tj (.ref c10)=some (decide (10=j))
 k11:PySem.W.kitOne K @Tj (.ref c11)=some (decide (11=j))
 j12:j < 12
section
variable {P:Program}{w:World}{K:Frag}{mg:@Fa}{base:Heap}
def A2 (K:Frag)(R c0 c1 c2 c3 c4 c5 c6 c7 c8 c9 c10 c11:Addr):Sp:=λvs H Q _=>∃(ea D:Addr) (j:Nat),vs= [.ref ea]/\H ea=some (.ext (km ea @Tj))/\G8 K D R c0 c1 c2 c3 c4 c5 c6 c7 c8 c9 c10 c11 j/\∀H',av H H'->Q (.str (kT.getD j "")) H'
def oM:aG ["e","found","words"] ["e"] (aq mB):=@AC
def yn:∃(es:@TH) (p1 p2 p3:Pos),cj mB=(cj mB).take 5 ++ .Assign [.Name "words" p1] (.List es p2) p3 :: (cj mB).drop 6/\strsOf es=some kT:=⟨_,_,_,_,rfl,@I_ ⟩
def E2 (j:Nat):List Bool:=[decide (0=j),decide (1=j),decide (2=j),decide (3=j),decide (4=j),decide (5=j),decide (6=j),decide (7=j),decide (8=j),decide (9=j),decide (10=j),decide (11=j)]
def Fd:∀j,j < 12->(E2 j).count true=1:=@B_
def JX:∀j,j < 12->(E2 j).idxOf true=j:=@B_
def K3:∀j,j < 12->true∈E2 j:=@B_
def EC (j:Nat)(h:j < 12):kq (kT.map V.str) (j:Int)=some (.str (kT.getD j "")):=by
 have:j=0\/j=1\/j=2\/j=3\/j=4\/j=5\/j=6\/j=7\/j=8\/j=9\/j=10\/j=11:=@AT
 rcases this with rfl |rfl |rfl |rfl |rfl |rfl |rfl |rfl |rfl |rfl |rfl |rfl <;> rfl
def iB {n:Nat}(h:n<=100):n<=sizeLine:=by rw[Qc];omega
set_option maxHeartbeats 2000000 in
theorem FI {f R c0 c1 c2 c3 c4 c5 c6 c7 c8 c9 c10 c11:Addr}{fd:FuncData}(F:Fn K mg "_law_marks" mB ["e"] f fd)(e:Er mg R c0 c1 c2 c3 c4 c5 c6 c7 c8 c9 c10 c11)(B:Bt mg)(hv:mg "ValueError"=none):uw P w K mg base zy 1 f fd ["e"] (A2 K R c0 c1 c2 c3 c4 c5 c6 c7 c8 c9 c10 c11):=by
 refine F.F.okH oM (λvs H Q E h=>?_) (λcdv A outer s H vs Q E hr h=>?_)
 ·obtain⟨ea,D,j,rfl,_⟩:=h;rfl
 ·obtain⟨ea,D,j,rfl,hx,kt,k⟩:=h
  obtain⟨es,p1,p2,p3,hb,hes⟩:=yn
  rw[hb]
  refine⟨_,cL (Bb (PW.pt (IK (Al (sE (bB bL rfl B.isinstance (@B_) (ax (pv 0) (ax (dk rfl e.mR (show RelV (.ref R) _ from rfl)) aR))) λ_=>rfl)) (EI (Al (sE (bB bL rfl B.isinstance (@B_) (ax (pv 0) (ax (BC rfl hv (@B_) (show RelV (.ty "ValueError") _ from rfl)) aR))) λ_=>rfl))))) (fg (jY sU)) qO)
   (cL (kZ (i:=1) oM.nd rfl (@TM) (pU (ax (bB bL rfl B.isinstance (@B_) (ax (pv 0) (ax (dk rfl e.m0 (show RelV (.ref c0) _ from rfl)) aR))) (ax (bB bL rfl B.isinstance (@B_) (ax (pv 0) (ax (dk rfl e.m1 (show RelV (.ref c1) _ from rfl)) aR))) (ax (bB bL rfl B.isinstance (@B_) (ax (pv 0) (ax (dk rfl e.m2 (show RelV (.ref c2) _ from rfl)) aR))) (ax (bB bL rfl B.isinstance (@B_) (ax (pv 0) (ax (dk rfl e.m3 (show RelV (.ref c3) _ from rfl)) aR))) aR))))))
   (cL (kZ (i:=1) oM.nd rfl (@TM) (qi E9 (pv 1) (pU (ax (bB bL rfl B.isinstance (@B_) (ax (pv 0) (ax (dk rfl e.m4 (show RelV (.ref c4) _ from rfl)) aR))) (ax (bB bL rfl B.isinstance (@B_) (ax (pv 0) (ax (dk rfl e.m5 (show RelV (.ref c5) _ from rfl)) aR))) (ax (bB bL rfl B.isinstance (@B_) (ax (pv 0) (ax (dk rfl e.m6 (show RelV (.ref c6) _ from rfl)) aR))) (ax (bB bL rfl B.isinstance (@B_) (ax (pv 0) (ax (dk rfl e.m7 (show RelV (.ref c7) _ from rfl)) aR))) aR)))))))
   (cL (kZ (i:=1) oM.nd rfl (@TM) (qi E9 (pv 1) (pU (ax (bB bL rfl B.isinstance (@B_) (ax (pv 0) (ax (dk rfl e.m8 (show RelV (.ref c8) _ from rfl)) aR))) (ax (bB bL rfl B.isinstance (@B_) (ax (pv 0) (ax (dk rfl e.m9 (show RelV (.ref c9) _ from rfl)) aR))) (ax (bB bL rfl B.isinstance (@B_) (ax (pv 0) (ax (dk rfl e.m10 (show RelV (.ref c10) _ from rfl)) aR))) (ax (bB bL rfl B.isinstance (@B_) (ax (pv 0) (ax (dk rfl e.m11 (show RelV (.ref c11) _ from rfl)) aR))) aR)))))))
   (cL (Bb (A9 LC (t9 Q8 PySem.F.slot_list_count PySem.F.type_list_count BK (pv 1) (ax uC aR)) ra (bh _)) (fg (jY sU)) qO)
   (cL (kZ (i:=2) oM.nd rfl (@TM) (pU (A1 hes)))
   (fg (jY (lV hW (pv 2) (t9 Q8 PySem.F.slot_list_index PySem.F.type_list_index CD (pv 1) (ax uC aR)) @C_)))))))),?_⟩
  refine⟨_,rfl,ea,D,_,_,true,rfl,λu r=>r,hx,kt.ex,kt.R,_,rfl,p5 ?_⟩
  refine⟨_,rfl,ea,D,_,_,true,rfl,λu r=>r,hx,kt.ex,kt.V,_,rfl,p5 ?_⟩
  refine⟨_,rfl,ea,D,_,_,_,rfl,λu r=>r,hx,kt.ex,kt.k0,_,rfl,ea,D,_,_,_,rfl,λu r=>r,hx,kt.ex,kt.k1,_,rfl,ea,D,_,_,_,rfl,λu r=>r,hx,kt.ex,kt.k2,_,rfl,ea,D,_,_,_,rfl,λu r=>r,hx,kt.ex,kt.k3,iB (by show 4<=100;omega),λq1 h1=>?_⟩
  have s1:=av.new (o:=.lst [.bl (decide (0=j)),.bl (decide (1=j)),.bl (decide (2=j)),.bl (decide (3=j))]) h1
  refine⟨_,rfl,_,rfl,ea,D,_,_,_,rfl,λu r=>r,s1 _ _ hx,kt.ex,kt.k4,_,rfl,ea,D,_,_,_,rfl,λu r=>r,s1 _ _ hx,kt.ex,kt.k5,_,rfl,ea,D,_,_,_,rfl,λu r=>r,s1 _ _ hx,kt.ex,kt.k6,_,rfl,ea,D,_,_,_,rfl,λu r=>r,s1 _ _ hx,kt.ex,kt.k7,iB (by show 4<=100;omega),λq2 h2=>?_⟩
  refine⟨q1,q2,_,_,rfl,rfl,av.new h2 _ _ aw,aw,iB (by show 8<=100;omega),λq3 h3=>?_⟩
  have s2:=s1.trans (av.new (o:=.lst [.bl (decide (4=j)),.bl (decide (5=j)),.bl (decide (6=j)),.bl (decide (7=j))]) h2)
  have s3:=s2.trans (av.new (o:=.lst ([.bl (decide (0=j)),.bl (decide (1=j)),.bl (decide (2=j)),.bl (decide (3=j))] ++ [.bl (decide (4=j)),.bl (decide (5=j)),.bl (decide (6=j)),.bl (decide (7=j))])) h3)
  refine⟨_,rfl,_,rfl,ea,D,_,_,_,rfl,λu r=>r,s3 _ _ hx,kt.ex,kt.k8,_,rfl,ea,D,_,_,_,rfl,λu r=>r,s3 _ _ hx,kt.ex,kt.k9,_,rfl,ea,D,_,_,_,rfl,λu r=>r,s3 _ _ hx,kt.ex,kt.k10,_,rfl,ea,D,_,_,_,rfl,λu r=>r,s3 _ _ hx,kt.ex,kt.k11,iB (by show 4<=100;omega),λq4 h4=>?_⟩
  refine⟨q3,q4,_,_,rfl,rfl,av.new h4 _ _ aw,aw,iB (by show 12<=100;omega),λq5 h5=>?_⟩
  have s5:=(s3.trans (av.new (o:=.lst [.bl (decide (8=j)),.bl (decide (9=j)),.bl (decide (10=j)),.bl (decide (11=j))]) h4)).trans (av.new (o:=.lst ([.bl (decide (0=j)),.bl (decide (1=j)),.bl (decide (2=j)),.bl (decide (3=j))] ++ [.bl (decide (4=j)),.bl (decide (5=j)),.bl (decide (6=j)),.bl (decide (7=j))] ++ [.bl (decide (8=j)),.bl (decide (9=j)),.bl (decide (10=j)),.bl (decide (11=j))])) h5)
  refine⟨_,rfl,.inl ⟨rfl,_,.inl (.inl aw)⟩,q5,E2 j,true,rfl,rfl,.inl (.inl aw),?_⟩
  rw[Fd j kt.j12]
  refine⟨rfl,_,rfl,p5 ?_⟩
  refine⟨iB (by show 12<=100;decide),λq6 h6=>?_⟩
  have n56:q5≠q6:=aL aw h6
  refine⟨_,rfl,_,rfl,.inl ⟨rfl,_,.inl (.inl ((aC n56).trans aw))⟩,q5,E2 j,true,rfl,rfl,.inl (.inl ((aC n56).trans aw)),K3 j kt.j12,?_⟩
  rw[JX j kt.j12]
  exact⟨q6,_,_,_,rfl,rfl,.inl (.inl aw),EC j kt.j12,k _ (s5.trans (av.new h6))⟩
end
def JF {P:Program}{w:World}{K:Frag}{mg:@Fa}{base:Heap}{ca:Str->Addr}{f R c0 c1 c2 c3 c4 c5 c6 c7 c8 c9 c10 c11:Addr}{fd:FuncData}{tbl:List (Str×Nat)}(F:i4 K mg "_law_marks" mB ["e"] f fd)(e:Er mg R c0 c1 c2 c3 c4 c5 c6 c7 c8 c9 c10 c11)(B:jh mg)(hv:mg "ValueError"=none)
  (ha:∀c j,tbl.lookup c=some j->Mt K (.ref (ca c)) R/\G8 K (ca c) R c0 c1 c2 c3 c4 c5 c6 c7 c8 c9 c10 c11 j):G7 P w K mg base ca "RankError" "_law_marks" (RM.w9 tbl):=by
 have O:uw P w K mg base zy 1 f fd ["e"] (A2 K R c0 c1 c2 c3 c4 c5 c6 c7 c8 c9 c10 c11):=FI F e B hv
 refine⟨f,R,fd,λD x=>∃j,G8 K D R c0 c1 c2 c3 c4 c5 c6 c7 c8 c9 c10 c11 j/\x=kT.getD j "",?_,F.mg,F.F.kp,F.b,e.mR,λc z h=>?_⟩
 ·exact⟨λvs H Q E q=>by obtain⟨ea,D,x,rfl,_⟩:=q;rfl,λA outer s H args us vs Q E hr he hb hv' hs=>O.run A outer s H args us vs Q E hr he hb hv' (by
   obtain⟨ea,D,x,rfl,hx,⟨j,kj,rfl⟩,q⟩:=hs
   exact⟨ea,D,j,rfl,hx,kj,q⟩)⟩
 ·unfold RM.w9 at h
  cases q:tbl.lookup c with
  |none=>rw[q] at h;cases h
  |some j=>
   rw[q] at h
   cases h
   exact⟨(ha c j q).1,j,(ha c j q).2,rfl⟩
end RO
namespace HD
open PySem PySem.W
noncomputable abbrev Ec:=@PySem.W.Fast.tw10156331382660048174
noncomputable abbrev JY:=@PySem.W.Fast.tw11892475500146522536
noncomputable abbrev Oc:=@PySem.W.Fast.tw6613529449190102663
noncomputable abbrev Kz:=@PySem.W.Fast.tw14364793385576792824
noncomputable abbrev Jb:=@PySem.W.Fast.tw17154629097778926822
noncomputable abbrev D1:=@PySem.W.Fast.tw12822647523644345616
noncomputable def DB (p:Program):Thread:=
 ⟨do
  let code <-Jb p.main
  let frame <-D1 code mainNs mainNs
  let _ <-run (.body (behindTheImports p) {scope:=p.main.scope,locals:=mainNs,globals:=mainNs,cells:=[],code,frame:=some frame})
  ret .none,
  .builtin "claim.caller" {},default,[]⟩
def Fl (p:Program):topStub p=DB p:=by
 unfold topStub DB Jb D1
 rw[<-PySem.W.Fast.te17154629097778926822,<-PySem.W.Fast.te12822647523644345616]
noncomputable def qU (p:Program)(w:World)(n₀:Nat)(ann:Option Value):Nat->SharedT->Thread->Option SharedT
 | 0,_,_=>none
 |n + 1,s,t=>match through t with
  |true=>some s
  |false=>match Oc n₀ ann t with
   |false=>none
   |true=>match Ec (JY Kz) p w s t with
    |some (s',t')=>qU p w n₀ ann n s' t'
    |none=>none
theorem uL {p:Program}{w:World}{n₀:Nat}{ann:Option Value}:∀{n:Nat} {s s':SharedT} {t:Thread},qU p w n₀ ann n s t=some s'->topRun treeTable p w n₀ ann n s.abs t=some s'.abs
 | 0,_,_,_,h=>by cases h
 |n + 1,s,s',t,h=>by
  unfold qU at h
  unfold topRun
  cases ht:through t with
  |true=>rw[ht] at h;cases h;rfl
  |false=>
   rw[ht] at h
   have hq:Oc n₀ ann t=stepOk n₀ ann t:=by unfold Oc;rw[<-PySem.W.Fast.te6613529449190102663]
   dsimp only at h
   rw[hq] at h
   cases hk:stepOk n₀ ann t with
   |false=>rw[hk] at h;cases h
   |true=>
    rw[hk] at h
    have hq:Ec (JY Kz) p w s t=stepT (denote treeTable) p w s t:=by unfold Ec JY Kz;rw[<-PySem.W.Fast.te10156331382660048174,<-PySem.W.Fast.te11892475500146522536,<-PySem.W.Fast.te14364793385576792824]
    dsimp only at h
    rw[hq] at h
    cases hs:stepT (denote treeTable) p w s t with
    |none=>rw[hs] at h;cases h
    |some r=>obtain⟨s₂,t₂⟩:=r;rw[hs] at h;rw[stepT_spec hs];exact uL h
def treeOf (l:List Obj):BT:=(l.foldl (λ(x:BT×Nat) o=>(x.1.ins x.2 o,x.2 + 1)) (.nil,0)).1
noncomputable def Dj (P:Params):BT:=treeOf (boot_heap P).objs.toList
abbrev yg:Nat:=11
abbrev EH:Life:={}
def boot_abs (P:Params):absHeap (Dj P) yg EH=boot_heap P:=@I_
def C2 (w:World):((boot_heap w.params).isNs mainGlobals && (Array.mk ([]:List GenState)).size == 0,(boot_heap w.params).objs.size,(boot_heap w.params).nsMap mainGlobals "__annotations__")=(true,yg,some (.ref 6)):=@I_
noncomputable def Fc (w:World)(os:OsState):SharedT:=⟨Dj w.params,yg,EH,Array.mk [],boot_drawn,boot_toks,os⟩
noncomputable def IC (p:Program)(w:World)(s:Shared):Bool:=staticsOk (importedModules p.main.body) (boot_heap w.params) s.heap && namesBound p s.heap && gensDone s && laidKept (boot_heap w.params) s.heap
def Gr {p q:Program}{loose:@KK}{Xt:Shared->Bool}{α:Type}{Yf:Shared->α}{Ya:World->α}{N:Nat}{g0:Bool}
  (e:opening p=plainProg p.main.scope.names) (hN:Nat.ble 600 N=true) (f:∀s,fenceModules? p s=some s)
  (run:∀(w:World) (os:OsState),(qU p w yg (some (.ref 6)) N (Fc w os) (DB p)).map (λs=>(IC p w s.abs,openSeen q loose (importedModules p.main.body) Xt g0 s.abs,Yf s.abs))=some (true,openGood q loose,Ya w)):LeftO p q loose Xt Yf Ya N g0:=λw=>by
 obtain⟨⟨h,gs,d,k,os⟩,e,e'⟩:=Option.map_eq_some_iff.mp (boot_open e hN f w)
 obtain⟨rfl,rfl,rfl,rfl⟩:h=boot_heap w.params/\gs=Array.mk []/\d=boot_drawn/\k=boot_toks:=by simpa using e'
 obtain⟨z1,z2,z3⟩:_/\_/\_:=by simpa only [Prod.mk.injEq] using C2 w
 obtain⟨s',r,ls⟩:=Option.map_eq_some_iff.mp (run w os)
 obtain⟨l1,l2,l3⟩:_/\_/\_:=by simpa only [Prod.mk.injEq] using ls
 have r:=uL r
 have ha:(Fc w os).abs=⟨boot_heap w.params,Array.mk [],boot_drawn,boot_toks,os⟩:=by
  show Shared.mk (absHeap (Dj w.params) yg EH) _ _ _ _=_
  rw[boot_abs]
  rfl
 rw[ha,<-Fl] at r
 have t:topFrom treeTable p w N ⟨boot_heap w.params,Array.mk [],boot_drawn,boot_toks,os⟩=some s'.abs:=by
  unfold topFrom
  dsimp only
  rw[z1,z2,z3,r]
  show (match IC p w s'.abs with |true=>_ |false=>_)=_
  rw[l1]
 unfold openEnds
 rw[e]
 show (topFrom treeTable p w N _).map _=_
 rw[t]
 exact congrArg some (Prod.ext l2 l3)
end HD
section
namespace RO
open PySem L2 RM
def AH (K:Frag):Sp:=λvs H Q _=>∃(a:Addr) (ns:@KF),vs= [.ref a]/\gk K H a (ns.map V.int)/\∀H',av H H'->Q (.bl true) H'
def JC {K:Frag}{ca:Str->Addr}(vs:List V)(H:Hp)(Q:VK)(E:XK)(h:AH K vs H Q E):FY K ca 1 JP vs H Q E:=by
 obtain⟨a,ns,rfl,hS,q⟩:=h
 refine⟨H,[dX ns],av.refl _,rfl,.cons (.scr hS) .nil,?_⟩
 rw[LJ]
 intro v G' H' s1 s2 s3 s4 fv
 have fv:Rp K G' v (@TU):=fv
 cases fv
 exact q H' s1
def wH:aX "_law_marks" mB ["e"]:=@SJ
def zY:aX "is_whole" RQ.lA @Tl:=@SJ
def zl:aX "is_below" RQ.kC ["thing","bound"]:=@Id
def CS:aX "is_many" RQ.mM @Tl:=@SJ
def CH:aX "is_pair" RQ.mP ["thing","many"]:=@Id
def vj:aX "every_pair" RQ.fL ["many"]:=@SJ
def EG:aX "closed" oS ["many","pairs"]:=@Id
def yY:aX "has_ring" RQ.lq ["pairs"]:=@SJ
def zS:aX "is_order" RQ.lF @Tl:=@SJ
def wa:aX "need_order" RQ.iO @Tl:=@SJ
def xc:aX "are_apart" RQ.jz ["order","a","b"]:=λ_ _ _ _ _ _=>JH λ_ _ _=>rfl
def wc:aX "with_thing" RQ.iH ["placed","thing"]:=@Id
def tR:aX "masks_ahead" RQ.g8 ["order"]:=@SJ
def td:aX "free_things" RQ.gX ["masks","placed"]:=@Id
def ym:aX "row_along" RQ.jI ["masks","late"]:=@Id
def HI:aX "turns" RQ.qW ["order"]:=@SJ
def CB:aX "is_turn" RQ.mS ["thing","order"]:=@Id
def xD:aX "are_turns" RQ.jA ["thing","order"]:=@Id
def zc:aX "leads_on" RQ.kF ["order","turn","other"]:=λ_ _ _ _ _ _=>JH λ_ _ _=>rfl
def zG:aX "is_ahead" RQ.kY ["masks","a","b"]:=λ_ _ _ _ _ _=>JH λ_ _ _=>rfl
def xV:aX "is_barred" RQ.jO ["masks","turn"]:=@Id
def zN:aX "put_turn" RQ.lE ["masks","turn"]:=@Id
def yC:aX "ring_with" RQ.jB ["order","put","turn"]:=λ_ _ _ _ _ _=>JH λ_ _ _=>rfl
def zH:aX "together" RQ.kS ["order","some"]:=@Id
def sN:aX "forced_among" RQ.fR ["table","many","turn"]:=λ_ _ _ _ _ _=>JH λ_ _ _=>rfl
def vc:aX "turn_table" RQ.iP ["order"]:=@SJ
def FD:aX "forced" RQ.nZ ["order","turn"]:=@Id
def xf:aX "_law_cell" RQ.jy ["script","k"]:=@Id
def yZ:aX "_law_mix" RQ.gR ["cell","k"]:=@Id
def zU:aX "_law_box" RQ.kQ ["script","k"]:=@Id
def yH:aX "_law_take" RQ.jx ["box","many"]:=@Id
def vv:aX "_law_whole" RQ.iJ @Tl:=@SJ
def y1:aX "_law_odd" RQ.lr ["box"]:=@SJ
def qA:aX "_law_mixed_up" RQ.eY ["box","some"]:=@Id
def tE:aX "_law_closed" RQ.g7 ["pairs"]:=@SJ
def v7:aX "_law_order" RQ.iU ["box","most"]:=@Id
def vO:aX "_law_apart" RQ.iR ["order","a","b"]:=λ_ _ _ _ _ _=>JH λ_ _ _=>rfl
def vE:aX "_law_turns" RQ.iK ["order"]:=@SJ
def yf:aX "_law_told" RQ.jC ["many","rows"]:=@Id
def sC:aX "_law_is_turn" RQ.fZ ["order","thing"]:=@Id
def wI:aX "_law_crown" RQ.iN ["box"]:=@SJ
def pV:aX "_law_any_order" RQ.dM ["box","most"]:=@Id
def xP:aX "_law_said" RQ.jD ["kind","order","thing"]:=λ_ _ _ _ _ _=>JH λ_ _ _=>rfl
def all_mk {l:PySem.W.OpenLaw}{w:World}{K:Frag}{h:Heap}{mg:@Fa}{fa f44 R q0 q1 q2 q3 q4 q5 q6 q7 q8 q9 q10 q11:Addr}(X:K.In h)(G:h.Ns mainGlobals mg)(hfa:mg "law"=some (.ref fa))
  {od44 an44:@J_} {sl44:Array (Option Value)} {oc44 kV44 dc44 pm44 cd44 ct44:Value} {tMOST_THINGS:Tok}
  (F1:Fo K mg "_law_marks" mB ["e"])
  (F2:Fo K mg "is_whole" RQ.lA @Tl)
  (F3:Fo K mg "is_below" RQ.kC ["thing","bound"])
  (F4:Fo K mg "is_many" RQ.mM @Tl)
  (F5:Fo K mg "is_pair" RQ.mP ["thing","many"])
  (F6:Fo K mg "every_pair" RQ.fL ["many"])
  (F7:Fo K mg "closed" oS ["many","pairs"])
  (F8:Fo K mg "has_ring" RQ.lq ["pairs"])
  (F9:Fo K mg "is_order" RQ.lF @Tl)
  (F10:Fo K mg "need_order" RQ.iO @Tl)
  (F11:Fo K mg "are_apart" RQ.jz ["order","a","b"])
  (F12:Fo K mg "with_thing" RQ.iH ["placed","thing"])
  (F13:Fo K mg "masks_ahead" RQ.g8 ["order"])
  (F14:Fo K mg "free_things" RQ.gX ["masks","placed"])
  (F15:Fo K mg "row_along" RQ.jI ["masks","late"])
  (F16:Fo K mg "turns" RQ.qW ["order"])
  (F17:Fo K mg "is_turn" RQ.mS ["thing","order"])
  (F18:Fo K mg "are_turns" RQ.jA ["thing","order"])
  (F19:Fo K mg "leads_on" RQ.kF ["order","turn","other"])
  (F20:Fo K mg "is_ahead" RQ.kY ["masks","a","b"])
  (F21:Fo K mg "is_barred" RQ.jO ["masks","turn"])
  (F22:Fo K mg "put_turn" RQ.lE ["masks","turn"])
  (F23:Fo K mg "ring_with" RQ.jB ["order","put","turn"])
  (F24:Fo K mg "together" RQ.kS ["order","some"])
  (F25:Fo K mg "forced_among" RQ.fR ["table","many","turn"])
  (F26:Fo K mg "turn_table" RQ.iP ["order"])
  (F27:Fo K mg "forced" RQ.nZ ["order","turn"])
  (F28:Fo K mg "_law_cell" RQ.jy ["script","k"])
  (F29:Fo K mg "_law_mix" RQ.gR ["cell","k"])
  (F30:Fo K mg "_law_box" RQ.kQ ["script","k"])
  (F31:Fo K mg "_law_take" RQ.jx ["box","many"])
  (F32:Fo K mg "_law_whole" RQ.iJ @Tl)
  (F33:Fo K mg "_law_odd" RQ.lr ["box"])
  (F34:Fo K mg "_law_mixed_up" RQ.eY ["box","some"])
  (F35:Fo K mg "_law_closed" RQ.g7 ["pairs"])
  (F36:Fo K mg "_law_order" RQ.iU ["box","most"])
  (F37:Fo K mg "_law_apart" RQ.iR ["order","a","b"])
  (F38:Fo K mg "_law_turns" RQ.iK ["order"])
  (F39:Fo K mg "_law_told" RQ.jC ["many","rows"])
  (F40:Fo K mg "_law_is_turn" RQ.fZ ["order","thing"])
  (F41:Fo K mg "_law_crown" RQ.iN ["box"])
  (F42:Fo K mg "_law_any_order" RQ.dM ["box","most"])
  (F43:Fo K mg "_law_said" RQ.jD ["kind","order","thing"])
  (a44:PySem.W.nsIn K mainGlobals "law"=some (some (.ref f44))) (l44:K.lookup f44=some ⟨oc44,od44,.func (PySem.W.fnOf "law" "law" (jG RQ.ni) (cj RQ.ni) (aq RQ.ni) .none kV44 dc44 pm44 an44 cd44 ct44),sl44⟩) (c44:PySem.W.codeIn K cd44 "law"=true) (k44:PySem.W.keepIn K (.ref f44)=true)
  (zB:Of K=true)
  (yMOST_THINGS:PySem.W.nsIn K mainGlobals "MOST_THINGS"=some (some (.int 8 tMOST_THINGS)))
  (mR:PySem.W.nsIn K mainGlobals "RankError"=some (some (.ref R)))
  (n0:PySem.W.nsIn K mainGlobals "NoOrder"=some (some (.ref q0)))
  (n1:PySem.W.nsIn K mainGlobals "NoMany"=some (some (.ref q1)))
  (n2:PySem.W.nsIn K mainGlobals "NoPairs"=some (some (.ref q2)))
  (n3:PySem.W.nsIn K mainGlobals "Ring"=some (some (.ref q3)))
  (n4:PySem.W.nsIn K mainGlobals "NoThing"=some (some (.ref q4)))
  (n5:PySem.W.nsIn K mainGlobals "NoRow"=some (some (.ref q5)))
  (n6:PySem.W.nsIn K mainGlobals "NoRows"=some (some (.ref q6)))
  (n7:PySem.W.nsIn K mainGlobals "NoNumber"=some (some (.ref q7)))
  (n8:PySem.W.nsIn K mainGlobals "NoChain"=some (some (.ref q8)))
  (n9:PySem.W.nsIn K mainGlobals "NoTurns"=some (some (.ref q9)))
  (n10:PySem.W.nsIn K mainGlobals "NoPoints"=some (some (.ref q10)))
  (n11:PySem.W.nsIn K mainGlobals "NoText"=some (some (.ref q11)))
  (zV:PySem.W.nsIn K mainGlobals "ValueError"=some none)
  (eR:PySem.W.excIn K R @S6 "ValueError.__new__"=true)
  (e0:PySem.W.excIn K q0 @S6 "ValueError.__new__"=true)
  (e1:PySem.W.excIn K q9 @S6 "ValueError.__new__"=true)
  (up9:(L2.mroIn K q9).contains (.ref R)=true)
  (g1_9:(PySem.W.clsIn K q9).isSome=true)
  (g2_9:PySem.W.findIn K (.ref q9) "__getattribute__"=some (some (.builtin "BaseException.__getattribute__")))
  (g3_9:PySem.W.findIn K (.ref q9) "__getattr__"=some none)
  (g4_9:PySem.W.findIn K (.ref q9) "__class__"=some (some (.builtin "object.__class__")))
  (g7_9:PySem.W.mroIn K q9 (.type "object")=some true)
  (g8_9:PySem.W.mroIn K q9 (.type "BaseException")=some true)
  (kR9:PySem.W.kitOne K (.ref q9) (.ref R)=some true)
  (kV9:PySem.W.kitOne K (.ref q9) (.type "ValueError")=some true)
  (kt9_0:PySem.W.kitOne K (.ref q9) (.ref q0)=some false)
  (kt9_1:PySem.W.kitOne K (.ref q9) (.ref q1)=some false)
  (kt9_2:PySem.W.kitOne K (.ref q9) (.ref q2)=some false)
  (kt9_3:PySem.W.kitOne K (.ref q9) (.ref q3)=some false)
  (kt9_4:PySem.W.kitOne K (.ref q9) (.ref q4)=some false)
  (kt9_5:PySem.W.kitOne K (.ref q9) (.ref q5)=some false)
  (kt9_6:PySem.W.kitOne K (.ref q9) (.ref q6)=some false)
  (kt9_7:PySem.W.kitOne K (.ref q9) (.ref q7)=some false)
  (kt9_8:PySem.W.kitOne K (.ref q9) (.ref q8)=some false)
  (kt9_9:PySem.W.kitOne K (.ref q9) (.ref q9)=some true)
  (kt9_10:PySem.W.kitOne K (.ref q9) (.ref q10)=some false)
  (kt9_11:PySem.W.kitOne K (.ref q9) (.ref q11)=some false)
  (g5:PySem.W.specialIn K (.builtin "object.__class__") "__get__"=some (some (.builtin "getset_descriptor.__get__")))
  (g6:PySem.W.takesIn K (.builtin "object.__class__")=some true)
  (np:yy K=true)
  :∃fd:FuncData,(∀(s:Shared) (v:Value),BindsTo s fd ⟨[v],[]⟩ [("script",v)])/\∀base:Heap,K.In base->base.Ns mainGlobals mg->ie l.prog w K mg base (o5 l.prog w) 10 fa fd ["script"] (AH K):=by
 have e:=hfa.symm.trans (Qs X G a44)
 cases e
 have B:jh mg:=MO X G zB
 have jU:=Qs X G yMOST_THINGS
 obtain⟨f1,d1,va⟩:=F1.ex
 obtain⟨f2,d2,cc⟩:=F2.ex
 obtain⟨f3,d3,fq⟩:=F3.ex
 obtain⟨f4,d4,iV⟩:=F4.ex
 obtain⟨f5,d5,cx⟩:=F5.ex
 obtain⟨f6,d6,cT⟩:=F6.ex
 obtain⟨f7,d7,kg⟩:=F7.ex
 obtain⟨f8,d8,gF⟩:=F8.ex
 obtain⟨f9,d9,gC⟩:=F9.ex
 obtain⟨f10,d10,a7⟩:=F10.ex
 obtain⟨f11,d11,bJ⟩:=F11.ex
 obtain⟨f12,d12,aI⟩:=F12.ex
 obtain⟨f13,d13,cZ⟩:=F13.ex
 obtain⟨f14,d14,df⟩:=F14.ex
 obtain⟨f15,d15,fH⟩:=F15.ex
 obtain⟨f16,d16,mO⟩:=F16.ex
 obtain⟨f17,d17,cO⟩:=F17.ex
 obtain⟨f18,d18,fG⟩:=F18.ex
 obtain⟨f19,d19,fo⟩:=F19.ex
 obtain⟨f20,d20,cg⟩:=F20.ex
 obtain⟨f21,d21,fF⟩:=F21.ex
 obtain⟨f22,d22,gG⟩:=F22.ex
 obtain⟨f23,d23,fE⟩:=F23.ex
 obtain⟨f24,d24,gW⟩:=F24.ex
 obtain⟨f25,d25,cM⟩:=F25.ex
 obtain⟨f26,d26,dG⟩:=F26.ex
 obtain⟨f27,d27,kh⟩:=F27.ex
 obtain⟨f28,d28,fJ⟩:=F28.ex
 obtain⟨f29,d29,gM⟩:=F29.ex
 obtain⟨f30,d30,gS⟩:=F30.ex
 obtain⟨f31,d31,aH⟩:=F31.ex
 obtain⟨f32,d32,dI⟩:=F32.ex
 obtain⟨f33,d33,gA⟩:=F33.ex
 obtain⟨f34,d34,aN⟩:=F34.ex
 obtain⟨f35,d35,dc⟩:=F35.ex
 obtain⟨f36,d36,dN⟩:=F36.ex
 obtain⟨f37,d37,dJ⟩:=F37.ex
 obtain⟨f38,d38,bA⟩:=F38.ex
 obtain⟨f39,d39,fI⟩:=F39.ex
 obtain⟨f40,d40,cP⟩:=F40.ex
 obtain⟨f41,d41,dO⟩:=F41.ex
 obtain⟨f42,d42,b7⟩:=F42.ex
 obtain⟨f43,d43,b6⟩:=F43.ex
 have U44:=zF (st:=RQ.ni) l44 c44 k44
 have L6:i4 K mg "law" RQ.ni ["script"] fa _:=⟨Qs X G a44,U44,U44.binds (ps:=["script"]) @SJ ⟩
 obtain⟨ca,hca⟩:∃ca:Str->Addr,ca "NoOrder"=q0/\ca "NoTurns"=q9:=⟨λs=>if s="NoOrder" then q0 else if s="NoTurns" then q9 else 0,by first |rfl |decide |simp,by first |rfl |decide |simp⟩
 have ke:Exc K mg ca "NoOrder":=⟨by rw[hca.1];exact Qs X G n0,by rw[hca.1];exact e0⟩
 have de:Exc K mg ca "NoTurns":=⟨by rw[hca.2];exact Qs X G n9,by rw[hca.2];exact e1⟩
 refine⟨PySem.W.fnOf "law" "law" (jG RQ.ni) (cj RQ.ni) (aq RQ.ni) .none kV44 dc44 pm44 an44 cd44 ct44,λs v=>.of_eq rfl,λbase _ _=>?_⟩
 have er:Er mg R q0 q1 q2 q3 q4 q5 q6 q7 q8 q9 q10 q11:=⟨Qs X G mR,Qs X G n0,Qs X G n1,Qs X G n2,Qs X G n3,Qs X G n4,Qs X G n5,Qs X G n6,Qs X G n7,Qs X G n8,Qs X G n9,Qs X G n10,Qs X G n11⟩
 have kt9:G8 K q9 R q0 q1 q2 q3 q4 q5 q6 q7 q8 q9 q10 q11 9:=⟨⟨g1_9,g2_9,g3_9,g4_9,g5,g6,g7_9,g8_9⟩,kR9,kV9,kt9_0,kt9_1,kt9_2,kt9_3,kt9_4,kt9_5,kt9_6,kt9_7,kt9_8,kt9_9,kt9_10,kt9_11,by decide⟩
 have mt9:Mt K (.ref q9) R:=Ls e1 eR @A_ up9
 have MK:G7 l.prog w K mg base ca "RankError" "_law_marks" (RM.w9 Ad):=by
  refine JF va er B (PySem.W.mg_none_of X G zV) λc j h=>?_
  unfold Ad at h
  by_cases z9:c="NoTurns"
  ·subst z9
   cases h
   rw[hca.2];exact⟨mt9,kt9⟩
  simp only[Rz,List.lookup_nil,beq_false_of_ne z9] at h
  cases h
 have gH:=(RQ.wK (P:=l.prog) (w:=w) (base:=base) (ca:=ca) cc B).imp AR
 have jl:=(RQ.vG (P:=l.prog) (w:=w) (base:=base) (ca:=ca) fq B gH).imp Gj
 have pP:=(RQ.yd (P:=l.prog) (w:=w) (base:=base) (ca:=ca) iV B gH jU).imp K8
 have zC:=RQ.qr (P:=l.prog) (w:=w) (base:=base) (ca:=ca) cx B jl
 have kl:=(RQ.qr (P:=l.prog) (w:=w) (base:=base) (ca:=ca) cx B jl).imp KL
 have lB:=RQ.rJ (P:=l.prog) (w:=w) (base:=base) (ca:=ca) cT B
 have rR:=za (P:=l.prog) (w:=w) (base:=base) (ca:=ca) kg cT B
 have nW:=(RQ.vA (P:=l.prog) (w:=w) (base:=base) (ca:=ca) gF B).imp Jf
 have nI:=(RQ.vk (P:=l.prog) (w:=w) (base:=base) (ca:=ca) gC B pP kl rR nW).imp zz
 have bX:=(RQ.rA (P:=l.prog) (w:=w) (base:=base) (ca:=ca) a7 B nI ke).imp Hm
 have fD:=RQ.tV (P:=l.prog) (w:=w) (base:=base) (ca:=ca) bJ B
 have bf:=RQ.sF (P:=l.prog) (w:=w) (base:=base) (ca:=ca) aI B
 have jS:=RQ.qx (P:=l.prog) (w:=w) (base:=base) (ca:=ca) cZ B bf
 have jP:=RQ.qu (P:=l.prog) (w:=w) (base:=base) (ca:=ca) df B bf
 have lP:=RQ.tq (P:=l.prog) (w:=w) (base:=base) (ca:=ca) fH B jP bf
 have vD:=RQ.Cn (P:=l.prog) (w:=w) (base:=base) (ca:=ca) mO B bX lB fD
 have iW:=RQ.yB (P:=l.prog) (w:=w) (base:=base) (ca:=ca) cO B zC fD
 have lT:=RQ.tK (P:=l.prog) (w:=w) (base:=base) (ca:=ca) fG B iW
 have lg:=RQ.vI (P:=l.prog) (w:=w) (base:=base) (ca:=ca) fo B
 have gJ:=RQ.vL (P:=l.prog) (w:=w) (base:=base) (ca:=ca) cg B bf
 have mf:=RQ.tu (P:=l.prog) (w:=w) (base:=base) (ca:=ca) fF B gJ
 have nQ:=RQ.u4 (P:=l.prog) (w:=w) (base:=base) (ca:=ca) gG B gJ bf
 have mn:=RQ.tO (P:=l.prog) (w:=w) (base:=base) (ca:=ca) fE B lg
 have nS:=RQ.vJ (P:=l.prog) (w:=w) (base:=base) (ca:=ca) gW B bX lT jS mf mn nQ lP de
 have i7:=RQ.pw (P:=l.prog) (w:=w) (base:=base) (ca:=ca) cM B np
 have kH:=RQ.sy (P:=l.prog) (w:=w) (base:=base) (ca:=ca) dG B vD np
 have so:=RQ.Ag (P:=l.prog) (w:=w) (base:=base) (ca:=ca) kh B bX iW i7 kH de
 have lR:=RQ.tP (P:=l.prog) (w:=w) (base:=base) (ca:=ca) fJ B
 have nM:=RQ.v3 (P:=l.prog) (w:=w) (base:=base) (ca:=ca) gM B
 have nv:=RQ.vW (P:=l.prog) (w:=w) (base:=base) (ca:=ca) gS B lR nM
 have aZ:=RQ.tW (P:=l.prog) (w:=w) (base:=base) aH B
 have kO:=RQ.rb (P:=l.prog) (w:=w) (base:=base) (ca:=ca) dI B
 have nY:=RQ.wx (P:=l.prog) (w:=w) (base:=base) gA B aZ
 have bz:=RQ.oV (P:=l.prog) (w:=w) (base:=base) aN B aZ
 have jV:=RQ.qG (P:=l.prog) (w:=w) (base:=base) (ca:=ca) dc B
 have kz:=RQ.rh (P:=l.prog) (w:=w) (base:=base) (ca:=ca) dN B jV aZ bz
 have lu:=RQ.r6 (P:=l.prog) (w:=w) (base:=base) (ca:=ca) dJ B
 have dR:=RQ.rB (P:=l.prog) (w:=w) (base:=base) (ca:=ca) bA B lu
 have mw:=RQ.tL (P:=l.prog) (w:=w) (base:=base) (ca:=ca) fI B
 have jb:=RQ.pH (P:=l.prog) (w:=w) (base:=base) (ca:=ca) cP B kO dR
 have ly:=RQ.rZ (P:=l.prog) (w:=w) (base:=base) dO B aZ bz
 have gx:=RQ.nN (P:=l.prog) (w:=w) (base:=base) (ca:=ca) b7 B mw aZ ly bz kz
 have dA:=RQ.tH (P:=l.prog) (w:=w) (base:=base) (ca:=ca) b6 B nS so MK
 have MA:=RQ.Gz (P:=l.prog) (w:=w) (base:=base) (ca:=ca) L6 B nv dR jb dA gx nY
 exact ie.imp (sp:=FY K ca 1 JP) MA JC
def walk {l:PySem.W.OpenLaw}{q:Program}{loose:@KK}{XP:(@Fa)->Heap->Prop}{YP:World->Heap->Prop}{d:DefRec}{K:Params->Frag}(hn:l.most=some 63)(hdf:d.params.defaults= [])(hi:PyProof.Rows.importsNone q=true)
  (hY:∀(w:World) (h:Heap),YP w h->(K w.params).In h)
  (F:∀(w:World) (mg:@Fa) (fa:Addr) (h:Heap),(K w.params).In h->h.Ns mainGlobals mg->mg d.name=some (.ref fa)->
   ∃fd:FuncData,(∀(s:Shared) (u:Value),BindsTo s fd ⟨[u],[]⟩ [("script",u)])/\∀base:Heap,(K w.params).In base->base.Ns mainGlobals mg->ie l.prog w (K w.params) mg base (o5 l.prog w) 10 fa fd ["script"] (AH (K w.params))) :
  PySem.W.WalkO q loose XP YP l.row.toRowW d [] (λf vs=>PySem.call f vs):=
 L2.Gp (n:=63) (k:=10) (x:="script") (CX:=λw=>o5 l.prog w) (sp:=λw=>AH (K w.params)) hn @A_ hdf hi ⟨rfl,by decide,by decide,rfl⟩ hY F (λ_ _ a ns hl _ hS=>⟨a,ns,rfl,hS,λ_ _=>rfl⟩) λ_ _ _ _ _ z=>by
  obtain⟨_,_,_,_,_,_,_,_,_,z⟩:=z
  exact z
end RO
namespace HD
noncomputable def vw:PySem.Program:=PySem.W.view PySem.Challenge.pw_rowsorder_k26_what_are_no_turns [1,2,3,4,5,6,8,9,10,11,12,13,14,15,16,17,18,19,20,22,23,24,25,26,28,29,30,31,33,34,35,36,37,38,39,40,41,43,44,45,47,48,49,50,51,52,53,54,55,56,57,58,59,60,61,62,63,64]
def Mh:PySem.Challenge.rw_rowsorder_k26_what_are_no_turns.wellSaid=true:=@I_
end HD
set_option hygiene false
local macro_rules|`(tactic|k_go0)=>`(tactic|((case a=>k_is);(case l=>k_is);(case c=>k_is);(case k=>k_is)))
set_option hygiene true
local macro_rules | `(tactic|o_head $H)=>`(tactic| (
 refine PySem.W.holds_open (q:=HD.vw) (loose:=[]) (Xt:=λs=>PySem.W.xlAt HD.vw [] s && PySem.W.recOk (PySem.W.RowW.records _) s) (XP:=PySem.W.XL HD.vw []) (Yf:=PySem.W.Hook.obs $H) (Ya:=PySem.W.Hook.val $H) (YP:=PySem.W.Hook.says $H) (N:=8386) ?hl (PySem.W.Hook.of $H) (PySem.W.Hook.keeps $H) (λs e=>PySem.W.xl_of s (Bool.and_eq_true_iff.mp e).1) PySem.W.XL.keeps @Tk @Tk @Tk (λs e=>PySem.W.recFacts_of (Bool.and_eq_true_iff.mp e).2) @Tk (by first |assumption |decide +kernel) (@B_) ⟨rfl,rfl,rfl,rfl,rfl,@B_ ⟩ ?hw ?hc
 case hl=>exact HD.Gr (@I_) (@I_) (λs=>@I_) (λw os=>@I_)))
open PySem PySem.W PyProof.Rows L2
set_option maxRecDepth 100000 in
set_option maxHeartbeats 0 in
theorem PySem.Challenge.cw_rowsorder_k26_what_are_no_turns_holds : PySem.Challenge.rw_rowsorder_k26_what_are_no_turns.Holds := by
 w_on;(refine holds_law HD.Mh λMh=>?_);k_head;(case hw=>w_witness2)
 k_fill
 refine RO.walk (l:=PySem.Challenge.rw_rowsorder_k26_what_are_no_turns) rfl rfl ?hi (λw h Y=>PySem.W.kIn_of Y) ?F
 case hi=>kernel_rfl
 case F=>
  intro w mg fa h KX G hmg
  refine' RO.all_mk KX G hmg ?F1 ?F2 ?F3 ?F4 ?F5 ?F6 ?F7 ?F8 ?F9 ?F10 ?F11 ?F12 ?F13 ?F14 ?F15 ?F16 ?F17 ?F18 ?F19 ?F20 ?F21 ?F22 ?F23 ?F24 ?F25 ?F26 ?F27 ?F28 ?F29 ?F30 ?F31 ?F32 ?F33 ?F34 ?F35 ?F36 ?F37 ?F38 ?F39 ?F40 ?F41 ?F42 ?F43 ?a44 ?l44 ?c44 ?k44 ?zB ?yMOST_THINGS ?mR ?n0 ?n1 ?n2 ?n3 ?n4 ?n5 ?n6 ?n7 ?n8 ?n9 ?n10 ?n11 ?zV ?eR ?e0 ?e1 ?up9 ?g1_9 ?g2_9 ?g3_9 ?g4_9 ?g7_9 ?g8_9 ?kR9 ?kV9 ?kt9_0 ?kt9_1 ?kt9_2 ?kt9_3 ?kt9_4 ?kt9_5 ?kt9_6 ?kt9_7 ?kt9_8 ?kt9_9 ?kt9_10 ?kt9_11 ?g5 ?g6 ?np
  case F1=>refine' bw KX G RO.wH ?a ?l ?c ?k;k_go0
  case F2=>refine' bw KX G RO.zY ?a ?l ?c ?k;k_go0
  case F3=>refine' bw KX G RO.zl ?a ?l ?c ?k;k_go0
  case F4=>refine' bw KX G RO.CS ?a ?l ?c ?k;k_go0
  case F5=>refine' bw KX G RO.CH ?a ?l ?c ?k;k_go0
  case F6=>refine' bw KX G RO.vj ?a ?l ?c ?k;k_go0
  case F7=>refine' bw KX G RO.EG ?a ?l ?c ?k;k_go0
  case F8=>refine' bw KX G RO.yY ?a ?l ?c ?k;k_go0
  case F9=>refine' bw KX G RO.zS ?a ?l ?c ?k;k_go0
  case F10=>refine' bw KX G RO.wa ?a ?l ?c ?k;k_go0
  case F11=>refine' bw KX G RO.xc ?a ?l ?c ?k;k_go0
  case F12=>refine' bw KX G RO.wc ?a ?l ?c ?k;k_go0
  case F13=>refine' bw KX G RO.tR ?a ?l ?c ?k;k_go0
  case F14=>refine' bw KX G RO.td ?a ?l ?c ?k;k_go0
  case F15=>refine' bw KX G RO.ym ?a ?l ?c ?k;k_go0
  case F16=>refine' bw KX G RO.HI ?a ?l ?c ?k;k_go0
  case F17=>refine' bw KX G RO.CB ?a ?l ?c ?k;k_go0
  case F18=>refine' bw KX G RO.xD ?a ?l ?c ?k;k_go0
  case F19=>refine' bw KX G RO.zc ?a ?l ?c ?k;k_go0
  case F20=>refine' bw KX G RO.zG ?a ?l ?c ?k;k_go0
  case F21=>refine' bw KX G RO.xV ?a ?l ?c ?k;k_go0
  case F22=>refine' bw KX G RO.zN ?a ?l ?c ?k;k_go0
  case F23=>refine' bw KX G RO.yC ?a ?l ?c ?k;k_go0
  case F24=>refine' bw KX G RO.zH ?a ?l ?c ?k;k_go0
  case F25=>refine' bw KX G RO.sN ?a ?l ?c ?k;k_go0
  case F26=>refine' bw KX G RO.vc ?a ?l ?c ?k;k_go0
  case F27=>refine' bw KX G RO.FD ?a ?l ?c ?k;k_go0
  case F28=>refine' bw KX G RO.xf ?a ?l ?c ?k;k_go0
  case F29=>refine' bw KX G RO.yZ ?a ?l ?c ?k;k_go0
  case F30=>refine' bw KX G RO.zU ?a ?l ?c ?k;k_go0
  case F31=>refine' bw KX G RO.yH ?a ?l ?c ?k;k_go0
  case F32=>refine' bw KX G RO.vv ?a ?l ?c ?k;k_go0
  case F33=>refine' bw KX G RO.y1 ?a ?l ?c ?k;k_go0
  case F34=>refine' bw KX G RO.qA ?a ?l ?c ?k;k_go0
  case F35=>refine' bw KX G RO.tE ?a ?l ?c ?k;k_go0
  case F36=>refine' bw KX G RO.v7 ?a ?l ?c ?k;k_go0
  case F37=>refine' bw KX G RO.vO ?a ?l ?c ?k;k_go0
  case F38=>refine' bw KX G RO.vE ?a ?l ?c ?k;k_go0
  case F39=>refine' bw KX G RO.yf ?a ?l ?c ?k;k_go0
  case F40=>refine' bw KX G RO.sC ?a ?l ?c ?k;k_go0
  case F41=>refine' bw KX G RO.wI ?a ?l ?c ?k;k_go0
  case F42=>refine' bw KX G RO.pV ?a ?l ?c ?k;k_go0
  case F43=>refine' bw KX G RO.xP ?a ?l ?c ?k;k_go0
  case a44=>k_is
  case l44=>k_is
  case c44=>k_is
  case k44=>k_is
  case zB=>kernel_rfl
  case yMOST_THINGS=>k_is
  case mR=>k_is
  case n0=>k_is
  case n1=>k_is
  case n2=>k_is
  case n3=>k_is
  case n4=>k_is
  case n5=>k_is
  case n6=>k_is
  case n7=>k_is
  case n8=>k_is
  case n9=>k_is
  case n10=>k_is
  case n11=>k_is
  case zV=>k_is
  case eR=>kernel_rfl
  case e0=>kernel_rfl
  case e1=>kernel_rfl
  case up9=>kernel_rfl
  case g1_9=>kernel_rfl
  case g2_9=>kernel_rfl
  case g3_9=>kernel_rfl
  case g4_9=>kernel_rfl
  case g7_9=>kernel_rfl
  case g8_9=>kernel_rfl
  case kR9=>kit_is
  case kV9=>kit_is
  case kt9_0=>kit_is
  case kt9_1=>kit_is
  case kt9_2=>kit_is
  case kt9_3=>kit_is
  case kt9_4=>kit_is
  case kt9_5=>kit_is
  case kt9_6=>kit_is
  case kt9_7=>kit_is
  case kt9_8=>kit_is
  case kt9_9=>kit_is
  case kt9_10=>kit_is
  case kt9_11=>kit_is
  case g5=>kernel_rfl
  case g6=>kernel_rfl
  case np=>kernel_rfl
end
