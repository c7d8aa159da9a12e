import PyProof.Rows.All
import KE.RegKIsAll
import KE.KSortTup
import KE.KDictOf
import KE.KNestM
import KE.KFromBytes
import KE.KLam
import KE.KMinKey
import KE.KStateDown
import Wide.FinOn
import PySem.Challenge.RW_rowsorder_k46_fewest_refused
set_option Elab.async false
set_option linter.all false
set_option maxRecDepth 100000
set_option maxHeartbeats 1000000
set_option hygiene false
local macro_rules|`(@AC)=>`(⟨rfl,rfl,rfl,by decide +kernel,rfl,by decide +kernel,by decide +kernel⟩)|`(@AT)=>`(by omega)|`(@At)=>`(Inv X pins σ H s)|`(@A_)=>`((hr.mono (by decide)))|`(@B_)=>`(List (Addr×Obj))|`(@Ch)=>`((cst (.int 1)))|`(@Cl)=>`((model X.prog X.w))|`(@C_)=>`(List Pr)|`(@Db)=>`(Value->Shared->Prop)|`(@Do)=>`(List D->FR)|`(@D_)=>`((λ_ _=>rfl))|`(@EQ)=>`(([] ++ []))|`(@Ev)=>`(by decide +kernel)|`(@E_)=>`(.fz (aA n l))|`(@FM)=>`(Str->Option Value)|`(@FS)=>`((x == ("__debug__":Str))=false)|`(@Fa)=>`((cst (.int 0)))|`(@Fk)=>`((eV X NB scope C ex s3 H3 pn))|`(@Fr)=>`(envOfC qual scope s0.heap.objs.size f cd)|`(@F_)=>`([@E_,.fz left,.fz (dR n l pts),.fz (.int (i:Int)),.fz (aB t),.fz (cm n (bC (putAll n l put))),.fz (.tuple (put.map aB))])|`(@GM)=>`(List Value)|`(@GT)=>`(SR Γ B G H σ env β)|`(@Go)=>`((by decide))|`(@G_)=>`(List Nat)|`(@H_)=>`(List Str)|`(@IN)=>`((by simp))|`(@IO)=>`((.ListComp elt [⟨tg,iter,ifs,0⟩] scope pos))|`(@IR)=>`(.fz (cm n (bC l)))|`(@Id)=>`(.fz (.list (rows.map tupI)))|`(@Is)=>`(if b=true then te σ3 H4 λv H5=>∃acc,H5 D=some (.lst acc)/\acc.length < sizeLine/\N σ3 (upd H5 D (.lst (acc ++ [v]))) else N σ3 H4)
local macro_rules|`(@Ix)=>`(Option Addr)|`(@I_)=>`(λ_ _ _ _ _ _=>ln2 λ_ _=>rfl)|`(@J_)=>`((ae (gv 1) ag))
def Ot:=@List.getElem?_eq_getElem
def Ou:=@PySem.wpAny_bind
def Ov:=@if_pos
def Ow:=@PySem.Heap.get?_push_of_some
def Ox:=@Nat.le_refl
def Oy:=@List.getElem?_eq_some_iff
def Oz:=@PySem.Heap.lt_size
def OA:=@if_neg
def OB:=@List.length_map
def OC:=@List.mem_cons
def OD:=@List.size_toArray
def OE:=@decide_eq_true
def OF:=@List.mem_cons_of_mem
def OG:=@List.mem_filter
def OH:=@List.mem_cons_self
def OI:=@Bool.false_ne_true
def OJ:=@List.getElem?_set_self
def OK:=@List.getElem?_map
def OL:=@List.getElem?_set_ne
def ON:=@decide_eq_false
def OO:=@Nat.lt_of_lt_of_le
def OP:=@decide_eq_true_eq
def OQ:=@PySem.Heap.get?_push_size
def OR:=@List.mem_append
def OS:=@List.mem_append_right
def OT:=@List.length_append
def OU:=@Nat.lt_irrefl
def OV:=@List.mem_of_getElem?
def OW:=@Bool.and_eq_true
def OX:=@Nat.ne_of_lt
def OY:=@List.mem_singleton
def OZ:=@PySem.wpAny_pure
def O0:=@List.getElem?_append_left
def O1:=@PySem.W.mg_of
def O2:=@List.getElem?_append_right
def O3:=@Bool.eq_iff_iff
def O4:=@PySem.sizeLine_eq
def O5:=@List.length_cons
def O6:=@List.getD_eq_getElem?_getD
def O7:=@Nat.zero_le
def O8:=@Int.toNat_natCast
def O9:=@List.all_eq_true
def Pa:=@List.length_filter_le
def Pb:=@List.map_append
def Pe:=@List.length_replicate
def Pf:=@List.length_singleton
def Pg:=@PySem.mem_of_lookup
def Pj:=@List.mem_map
def Pk:=@PySem.W.kia_one
def Pl:=@PySem.wpAny_mono
def Pn:=@Bool.false_eq_true
def Po:=@List.mem_range
def Pp:=@PySem.boot_len
def Pq:=@List.replicate_succ
def Pu:=@List.length_take
def Pw:=@Nat.le_trans
def Px:=@PySem.wpAny_truthy_bool
def Py:=@PySem.Heap.get?_update_other
def Pz:=@List.nodup_cons
def PB:=@List.not_mem_nil
def PD:=@List.eq_of_mem_replicate
def PF:=@List.mem_iff_getElem?
def PH:=@List.getElem?_replicate
def PJ:=@decide_eq_decide
def PL:=@if_true
def PM:=@List.map_cons
def PN:=@Int.zero_add
def PQ:=@List.length_set
def PR:=@PySem.F.plain_min_loop
def PU:=@List.length_range
def PV:=@List.map_congr_left
def PX:=@Bool.or_eq_true
def PY:=@List.getElem?_eq_none
def PZ:=@if_false
def P0:=@List.getElem_mem
def P2:=@PySem.Heap.size_push
def P4:=@List.flatten_cons
def P5:=@Bool.not_eq_true'
def P6:=@PySem.SeqAt.canLay_of_shaped
def P7:=@Nat.zero_add
def P8:=@PySem.wpAny_holding
def P9:=@List.mem_append_left
def Qa:=@List.append_nil
def Qb:=@Option.isSome_iff_exists
def Qc:=@Nat.lt_or_ge
def Qd:=@List.set_eq_of_length_le
def Qe:=@List.append_assoc
def Qf:=@decide_eq_false_iff_not
def Qg:=@Array.toList_append
def Qh:=@Nat.mul_le_mul
def Qi:=@PySem.W.cellsFrom_some
def Qj:=@PyProof.Rows.callWith_type1
def Qk:=@List.mem_filterMap
def Ql:=@PySem.wpAny_Call_Name_kw
def Qm:=@Array.getD_eq_getD_getElem?
def Qn:=@PySem.wpAny_passesOwn
def Qo:=@List.any_cons
def Qp:=@Array.getElem?_eq_some_iff
def Qq:=@List.nodup_iff_pairwise_ne
def Qr:=@PySem.Value.isInt_shape
def Qs:=@of_decide_eq_true
def Qt:=@List.mem_iff_getElem
def Qu:=@List.drop_eq_getElem_cons
def Qv:=@PySem.wpAny_field
def Qw:=@List.length_drop
def Qx:=@List.lookup_cons
def Qy:=@Nat.lt_trans
def Qz:=@or_false
def QB:=@List.getElem?_range
def QC:=@PySem.F.plainAttrs_list
def QD:=@Int.emod_nonneg
def QE:=@Int.emod_lt_of_pos
def QF:=@PySem.wpAny_pyIter_list
def QG:=@Nat.le_of_lt
def QH:=@PySem.Heap.get?_update_self
def QI:=@PySem.wpAny_tryCatch
def QJ:=@List.drop_length
def QL:=@PySem.Around.under_plainId
def QM:=@Nat.eq_of_testBit_eq
def QN:=@PySem.wpAny_newFunctionEnv_cells
def QO:=@PySem.wpAny_execs_nil
def QP:=@List.of_mem_zip
def QQ:=@List.pairwise_iff_getElem
def QR:=@List.getLast?_eq_getElem?
def QS:=@PySem.codeAny_mono
def QT:=@PySem.F.args_tuple_add_2
def QU:=@List.length_erase_of_mem
def QV:=@List.lookup_append
def QW:=@PySem.wpAny_comprehension_free
def QX:=@List.map_map
def QY:=@PySem.call_meets
def QZ:=@List.pairwise_map
def Q0:=@List.filter_congr
def Q1:=@List.idxOf_append
open List (length_nil set_set)
open PySem.W (Frag)
open PySem.PyData (int)
namespace HD
open PySem PySem.W
noncomputable abbrev DU:=@PySem.W.Fast.tw10156331382660048174
noncomputable abbrev Jv:=@PySem.W.Fast.tw11892475500146522536
noncomputable abbrev MG:=@PySem.W.Fast.tw6613529449190102663
noncomputable abbrev Ih:=@PySem.W.Fast.tw14364793385576792824
noncomputable abbrev Hv:=@PySem.W.Fast.tw17154629097778926822
noncomputable abbrev Dy:=@PySem.W.Fast.tw12822647523644345616
noncomputable def wZ (p:Program):Thread:=
 ⟨do
  let code <-Hv p.main
  let frame <-Dy code mainNs mainNs
  let _ <-run (.body (behindTheImports p) {scope:=p.main.scope,locals:=mainNs,globals:=mainNs,cells:=[],code,frame:=some frame})
  ret .none,
  .builtin "claim.caller" {},default,[]⟩
def CG (p:Program):topStub p=wZ p:=by
 unfold topStub wZ Hv Dy
 rw[<-PySem.W.Fast.te17154629097778926822,<-PySem.W.Fast.te12822647523644345616]
noncomputable def mn (p:Program)(w:World)(n₀:Nat)(ann:Option Value):Nat->SharedT->Thread->Option SharedT
 | 0,_,_=>none
 |n + 1,s,t=>match through t with
  |true=>some s
  |false=>match MG n₀ ann t with
   |false=>none
   |true=>match DU (Jv Ih) p w s t with
    |some (s',t')=>mn p w n₀ ann n s' t'
    |none=>none
theorem uv {p:Program}{w:World}{n₀:Nat}{ann:Option Value}:∀{n:Nat} {s s':SharedT} {t:Thread},mn p w n₀ ann n s t=some s'->topRun treeTable p w n₀ ann n s.abs t=some s'.abs
 | 0,_,_,_,h=>by cases h
 |n + 1,s,s',t,h=>by
  unfold mn at h
  unfold topRun
  cases ht:through t with
  |true=>rw[ht] at h;cases h;rfl
  |false=>
   rw[ht] at h
   have hq:MG n₀ ann t=stepOk n₀ ann t:=by unfold MG;rw[<-PySem.W.Fast.te6613529449190102663]
   dsimp only at h
   rw[hq] at h
   cases hk:stepOk n₀ ann t with
   |false=>rw[hk] at h;cases h
   |true=>
    rw[hk] at h
    have hq:DU (Jv Ih) p w s t=stepT (denote treeTable) p w s t:=by unfold DU Jv Ih;rw[<-PySem.W.Fast.te10156331382660048174,<-PySem.W.Fast.te11892475500146522536,<-PySem.W.Fast.te14364793385576792824]
    dsimp only at h
    rw[hq] at h
    cases hs:stepT (denote treeTable) p w s t with
    |none=>rw[hs] at h;cases h
    |some r=>obtain⟨s₂,t₂⟩:=r;rw[hs] at h;rw[stepT_spec hs];exact uv h
def treeOf (l:List Obj):BT:=(l.foldl (λ(x:BT×Nat) o=>(x.1.ins x.2 o,x.2 + 1)) (.nil,0)).1
noncomputable def Dq (P:Params):BT:=treeOf (boot_heap P).objs.toList
abbrev qq:Nat:=11
abbrev B6:Life:={}
def boot_abs (P:Params):absHeap (Dq P) qq B6=boot_heap P:=by kernel_rfl
def Bj (w:World):((boot_heap w.params).isNs mainGlobals && (Array.mk ([]:List GenState)).size == 0,(boot_heap w.params).objs.size,(boot_heap w.params).nsMap mainGlobals "__annotations__")=(true,qq,some (.ref 6)):=by kernel_rfl
noncomputable def vJ (w:World)(os:OsState):SharedT:=⟨Dq w.params,qq,B6,Array.mk [],boot_drawn,boot_toks,os⟩
noncomputable def zJ (p:Program)(w:World)(s:Shared):Bool:=staticsOk (importedModules p.main.body) (boot_heap w.params) s.heap && namesBound p s.heap && gensDone s && laidKept (boot_heap w.params) s.heap
def FU {p q:Program}{loose:@H_}{Xt:Shared->Bool}{α:Type}{Yf:Shared->α}{Ya:World->α}{N:Nat}{g0:Bool}
  (e:opening p=plainProg p.main.scope.names) (hN:Nat.ble 600 N=true) (f:∀s,fenceModules? p s=some s)
  (run:∀(w:World) (os:OsState),(mn p w qq (some (.ref 6)) N (vJ w os) (wZ p)).map (λs=>(zJ p w s.abs,openSeen q loose (importedModules p.main.body) Xt g0 s.abs,Yf s.abs))=some (true,openGood q loose,Ya w)):LeftO p q loose Xt Yf Ya N g0:=λw=>by
 obtain⟨⟨h,gs,d,k,os⟩,e,e'⟩:=Option.map_eq_some_iff.mp (boot_open e hN f w)
 obtain⟨rfl,rfl,rfl,rfl⟩:h=boot_heap w.params/\gs=Array.mk []/\d=boot_drawn/\k=boot_toks:=by simpa using e'
 obtain⟨z1,z2,z3⟩:_/\_/\_:=by simpa only [Prod.mk.injEq] using Bj w
 obtain⟨s',r,ls⟩:=Option.map_eq_some_iff.mp (run w os)
 obtain⟨l1,l2,l3⟩:_/\_/\_:=by simpa only [Prod.mk.injEq] using ls
 have r:=uv r
 have ha:(vJ w os).abs=⟨boot_heap w.params,Array.mk [],boot_drawn,boot_toks,os⟩:=by
  show Shared.mk (absHeap (Dq w.params) qq B6) _ _ _ _=_
  rw[boot_abs]
  rfl
 rw[ha,<-CG] at r
 have t:topFrom treeTable p w N ⟨boot_heap w.params,Array.mk [],boot_drawn,boot_toks,os⟩=some s'.abs:=by
  unfold topFrom
  dsimp only
  rw[z1,z2,z3,r]
  show (match zJ p w s'.abs with |true=>_ |false=>_)=_
  rw[l1]
 unfold openEnds
 rw[e]
 show (topFrom treeTable p w N _).map _=_
 rw[t]
 exact congrArg some (Prod.ext l2 l3)
theorem map_two {α β γ:Type}{o:Option α}{f:α->β}{g:α->γ}{b:β}{c:γ}(h:o.map f=some b)(k:o.map g=some c):o.map (λs=>(f s,g s))=some (b,c):=by
 cases o with
 |none=>cases h
 |some x=>cases h;cases k;rfl
noncomputable abbrev DV (p:Program)(N:Nat)(w:World)(os:OsState):Option SharedT:=mn p w qq (some (.ref 6)) N (vJ w os) (wZ p)
def Gu {p q:Program}{loose:@H_}{Xt:Shared->Bool}{α:Type}{Yf:Shared->α}{Ya:World->α}{N:Nat}{g0:Bool}
  (e:opening p=plainProg p.main.scope.names) (hN:Nat.ble 600 N=true) (f:∀s,fenceModules? p s=some s)
  (r1:∀w os,(DV p N w os).map (λs=>(zJ p w s.abs,(openSeen q loose (importedModules p.main.body) Xt g0 s.abs).1,Yf s.abs))=some (true,(openGood q loose).1,Ya w))
  (r2:∀w os,(DV p N w os).map (λs=>(openSeen q loose (importedModules p.main.body) Xt g0 s.abs).2)=some (openGood q loose).2):LeftO p q loose Xt Yf Ya N g0:=
 FU e hN f λw os=>by
  have h:=map_two (r1 w os) (r2 w os)
  unfold DV at h
  cases z:mn p w qq (some (.ref 6)) N (vJ w os) (wZ p) with
  |none=>rw[z] at h;cases h
  |some x=>
   rw[z] at h
   simp only[Option.map_some,Option.some.injEq,Prod.mk.injEq] at h ⊢
   exact⟨h.1.1,Prod.ext h.1.2.1 h.2,h.1.2.2⟩
end HD
section
set_option Elab.async false
namespace L2
open PySem PySem.Spec PyProof.Rows
abbrev Key:=Sum Int Str
def tM:Key->Value->Bool
 | .inl k,v=>Value.isInt k v
 | .inr x,v=>Value.isStrOf x v
def Mr (w:World):Key->Int
 | .inl k=>hashInt k
 | .inr x=>hashStr w x
theorem cI:∀{k:Key} {v:Value},tM k v=true->(∃i t,k=Sum.inl i/\v=Value.int i t)\/(∃x t,k=Sum.inr x/\v=Value.str x t)
 | .inl i,v,h=>by
  obtain⟨t,e⟩:=Qr (k:=i) (v:=v) h
  exact .inl ⟨i,t,rfl,e⟩
 | .inr x,v,h=>by
  obtain⟨t,e⟩:=Value.isStrOf_shape (x:=x) (v:=v) h
  exact .inr ⟨x,t,rfl,e⟩
def BB (i:Int)(t:Tok):tM (.inl i) (.int i t)=true:=by simp[tM,Value.isInt]
def BH (x:Str)(t:Tok):tM (.inr x) (.str x t)=true:=by simp[tM,Value.isStrOf]
def HK (a b:Int):decide ((Sum.inl a:Key)=Sum.inl b)=(a == b):=by
 by_cases e:a=b
 ·subst e;simp
 ·have h:¬(Sum.inl a:Key)=Sum.inl b:=λq=>e (Sum.inl.inj q)
  rw[ON h]
  exact (beq_eq_false_iff_ne.mpr e).symm
def Ip (a b:Str):decide ((Sum.inr a:Key)=Sum.inr b)=decide (a=b):=by
 by_cases e:a=b
 ·subst e;simp
 ·have h:¬(Sum.inr a:Key)=Sum.inr b:=λq=>e (Sum.inr.inj q)
  rw[ON h,ON e]
def IC (a:Int)(b:Str):decide ((Sum.inl a:Key)=Sum.inr b)=false:=ON (λq=>nomatch q)
def IB (a:Str)(b:Int):decide ((Sum.inr a:Key)=Sum.inl b)=false:=ON (λq=>nomatch q)
def fK (prog:Program)(w:World):PySem.KeyKind prog w Key where
 is:=tM
 hash:=Mr w
 inj:=λv a b ha hb=>by
  rcases cI ha with⟨i,t,rfl,rfl⟩ | ⟨x,t,rfl,rfl⟩
  ·rcases cI hb with⟨j,u,rfl,e⟩ | ⟨y,u,rfl,e⟩
   ·injection e with e1 _;rw[e1]
   ·exact nomatch e
  ·rcases cI hb with⟨j,u,rfl,e⟩ | ⟨y,u,rfl,e⟩
   ·exact nomatch e
   ·injection e with e1 _;rw[e1]
 byValue:=λk v h=>by
  rcases cI h with⟨i,t,rfl,rfl⟩ | ⟨x,t,rfl,rfl⟩ <;> rfl
 pyHash:=λhv h=>by
  rcases cI hv with⟨i,t,rfl,rfl⟩ | ⟨x,t,rfl,rfl⟩
  ·exact wpAny_pyHash_int h
  ·exact wpAny_pyHash_str h
 eqBool:=λhu hv h=>by
  rcases cI hu with⟨i,t,rfl,rfl⟩ | ⟨x,t,rfl,rfl⟩
  ·rcases cI hv with⟨j,u,rfl,rfl⟩ | ⟨y,u,rfl,rfl⟩
   ·rw[HK] at h;exact wpAny_eqBool_int h
   ·rw[IC] at h;exact SeqAt.EqAt.int_str i t y u _ _ _ _ h
  ·rcases cI hv with⟨j,u,rfl,rfl⟩ | ⟨y,u,rfl,rfl⟩
   ·rw[IB] at h;exact SeqAt.EqAt.str_int x t j u _ _ _ _ h
   ·rw[Ip] at h;exact wpAny_eqBool_str h
 «strs»:=λk x t v h=>by
  rcases cI h with⟨i,u,rfl,e⟩ | ⟨y,u,rfl,e⟩
  ·exact nomatch e
  ·injection e with e1 _
   subst e1
   cases v <;> rfl
def vZ (prog:Program)(w:World)(i:Int)(t:Tok):(fK prog w).is (.inl i) (.int i t)=true:=BB i t
def wO (prog:Program)(w:World)(x:Str)(t:Tok):(fK prog w).is (.inr x) (.str x t)=true:=BH x t
inductive V where
 |non |bl (b:Bool) |int (i:Int) |str (x:Str) |byt (b:Array UInt8) |flt (b:UInt64) |ref (a:Addr) |ty (n:String)
 deriving DecidableEq
def RelV:V->Value->Prop
 | .non,u=>u=Value.none
 | .bl b,u=>u=Value.bool b
 | .int i,u=>∃t,u=Value.int i t
 | .str x,u=>∃t,u=Value.str x t
 | .byt b,u=>∃t,u=Value.bytes b t
 | .flt b,u=>∃t,u=Value.float b t
 | .ref a,u=>u=Value.ref a
 | .ty n,u=>u=Value.type n
abbrev Vals:List V->@GM->Prop:=Paired RelV
def Vals.length {xs:List V}{us:@GM}(r:Vals xs us):xs.length=us.length:=Paired.length r
theorem Vals.get:∀{xs:List V} {us:@GM} {i:Nat} {x:V},Vals xs us->xs[i]? =some x->∃u,us[i]? =some u/\RelV x u
 |_,_,_,_,.nil,e=>by simp at e
 |_,_,0,_,.cons r _,e=>by simp at e;subst e;exact⟨_,rfl,r⟩
 |_,_,i + 1,x,.cons _ t,e=>by
  obtain⟨u,h1,h2⟩:=Vals.get (i:=i) (x:=x) t (by simpa using e)
  exact⟨u,by simpa using h1,h2⟩
theorem Vals.set {x:V}{u:Value}(r:RelV x u):∀{xs:List V} {us:@GM} (i:Nat),Vals xs us->Vals (xs.set i x) (us.set i u)
 |_,_,_,.nil=>.nil
 |_,_,0,.cons _ t=>.cons r t
 |_,_,i + 1,.cons q t=>.cons q (Vals.set r i t)
theorem Vals.append:∀{xs ys:List V} {us ws:@GM},Vals xs us->Vals ys ws->Vals (xs ++ ys) (us ++ ws)
 |_,_,_,_,.nil,s=>s
 |_,_,_,_,.cons r t,s=>.cons r (Vals.append t s)
theorem Vals.take:∀{xs:List V} {us:@GM} (n:Nat),Vals xs us->Vals (xs.take n) (us.take n)
 |_,_,0,_=>.nil
 |_,_,_ + 1,.nil=>.nil
 |_,_,n + 1,.cons r t=>.cons r (Vals.take n t)
theorem Vals.drop:∀{xs:List V} {us:@GM} (n:Nat),Vals xs us->Vals (xs.drop n) (us.drop n)
 |_,_,0,r=>r
 |_,_,_ + 1,.nil=>.nil
 |_,_,n + 1,.cons _ t=>Vals.drop n t
def II:Option V->Option Value->Prop
 |some v,some u=>RelV v u
 |none,none=>True
 |_,_=>False
def KV {κ:Type}:List (κ×V)->List (κ×Value)->Prop:=Paired λ(p:κ×V) (q:κ×Value)=>p.1=q.1/\RelV p.2 q.2
def kV:Key->V
 | .inl i=>.int i
 | .inr x=>.str x
inductive HO where
 |lst (xs:List V)
 |tup (xs:List V)
 |dK (kvs:List (Key×V)) |dT (kvs:List (List Key×V))
 |set (S:Int->Bool) (n:Nat)
 |ins (C dx:Addr) (fs:List (Str×V))
 |own (x:Addr)
 |xd (fs:List (Str×V))
 |met (f x:Addr)
 |iE (lo hi:Int)
 |aY (o:Obj) (u:HO)
 |tbl (ps:Array Value)
 |ext (φ:Heap->Prop)
abbrev Hp:=Addr->Option HO
def upd (H:Hp)(a:Addr)(o:HO):Hp:=λb=>if b=a then some o else H b
def az {H:Hp}{a:Addr}{o:HO}:upd H a o a=some o:=by unfold upd;rw[Ov rfl]
def aE {H:Hp}{a b:Addr}{o:HO}(h:b≠a):upd H a o b=H b:=by unfold upd;rw[OA h]
def EK {H:Hp}{a:Addr}{o u:HO}:upd (upd H a o) a u=upd H a u:=by
 funext b;unfold upd;split <;> rfl
def Hm {H:Hp}{a b:Addr}{o u:HO}(h:H a=some o)(h':H b=some u)(d:o≠u):a≠b:=by
 intro e;subst e;rw[h] at h';exact d (Option.some.inj h')
def aM {H:Hp}{a b:Addr}{o:HO}(h:H a=some o)(h':H b=none):a≠b:=by
 intro e;subst e;rw[h] at h';cases h'
section
variable (P:Program)(w:World)
def vp (h:Heap)(a:Addr)(items:Array Value):Prop:=∃o,h.get? a=some o/\o.cls=.type "tuple"/\∃n,o.data=.seq items n/\o.dict=none
def vp.isTup {h:Heap}{a:Addr}{items:Array Value}(x:vp h a items):IsTup h a items:=let ⟨o,e,c,n,d,_⟩:=x;⟨o,e,c,n,d⟩
def vp.new (h:Heap)(items:Array Value):vp (h.push {cls:=.type "tuple",data:=.seq items}) h.objs.size items:=⟨_,OQ _ rfl,rfl,_,rfl,rfl⟩
def cw (H:Hp)(h:Heap)(a:Addr):HO->Prop
 | .lst xs=>xs.length<=sizeLine/\∃(its:@GM) (n:Nat),Vals xs its/\h.get? a=some {cls:=.type "list",data:=.seq its.toArray n}
 | .tup xs=>xs.length<=sizeLine/\∃its:@GM,Vals xs its/\vp h a its.toArray
 | .dK kvs=>kvs.length<=sizeLine/\(a == sysModules)=false/\∃vs,KV kvs vs/\h.DictOf (fK P w) a vs
 | .dT kvs=>kvs.length<=sizeLine/\(a == sysModules)=false/\∃xs:List (List Key×Addr×Value),
   Paired (λ(p:List Key×V) (q:List Key×Addr×Value)=>p.1=q.1/\(H q.2.1=some (.tup (p.1.map kV))\/∃o,H q.2.1=some (.aY o (.tup (p.1.map kV))))/\RelV p.2 q.2.2) kvs xs/\
   ∃o es ep,h.get? a=some o/\o.ExactDict/\o.data=.dict es ep/\es.toList=xs.map (entryOfKey (tupleKind (fK P w)))/\(xs.map (·.1)).Nodup
 | .set S n=>h.SetOf (intKind P w) a S n
 | .ins C dx fs=>H dx=some (.own a)/\fs.length<=1000/\dx≠a/\h.get? a=some (PySem.W.instObj C dx)/\
   ∃mA,h.Ns1 dx mA/\(∀f,II (fs.lookup f) (mA f))/\PySem.Within mA (fs.map (·.1))
 | .own _=>∃o,h.get? a=some o
 | .xd fs=>∃mA,h.Ns1 a mA/\∀f,II (fs.lookup f) (mA f)
 | .iE lo hi=>∃t u v,h.get? a=some {cls:=.type "range",data:=.fields #[.int lo t,.int hi u,.int 1 v]}
 | .aY o u=>h.get? a=some o/\cw H h a u
 | .tbl ps=>h.get? a=some {cls:=.none,data:=.fields ps}
 | .met f x=>h.get? a=some (PySem.W.methodObj (.ref f) (.ref x))
 | .ext φ=>φ h/\(∃o,h.get? a=some o)/\∀h1 h2:Heap,φ h1->(∀o,h1.get? a=some o->h2.get? a=some o)->φ h2
def lq (H:Hp)(h:Heap):Prop:=∀a o,H a=some o->cw P w H h a o
end
section
variable {P:Program}{w:World}{H H':Hp}{h h':Heap}{a:Addr}{o:HO}
theorem cw.lt (x:cw P w H h a o):a < h.objs.size:=by
 cases o with
 |lst xs=>obtain⟨_,_,_,_,e⟩:=x;exact Oz e
 |tup xs=>obtain⟨_,_,_,p⟩:=x;exact p.isTup.lt
 |dK kvs=>obtain⟨_,_,_,_,o,_,_,e,_⟩:=x;exact Oz e
 |dT kvs=>obtain⟨_,_,_,_,o,_,_,e,_⟩:=x;exact Oz e
 |set S n=>obtain⟨o,_,_,_,e,_⟩:=x;exact Oz e
 |ins C dx fs=>obtain⟨_,_,_,e,_⟩:=x;exact Oz e
 |own y=>obtain⟨_,e⟩:=x;exact Oz e
 |xd fs=>obtain⟨_,⟨_,_,_,e,_⟩,_⟩:=x;exact Oz e
 |iE lo hi=>obtain⟨_,_,_,e⟩:=x;exact Oz e
 |aY ob u=>obtain⟨e,_⟩:=x;exact Oz e
 |tbl ps=>exact Oz (show h.get? a=some _ from x)
 |met f y=>exact Oz (show h.get? a=some _ from x)
 |ext φ=>obtain⟨_,⟨_,e⟩,_⟩:=x;exact Oz e
theorem Paired.mapP {α β:Type}{F G:α->β->Prop}:∀{l₁:List α} {l₂:List β},Paired F l₁ l₂->(∀a b,F a b->G a b)->Paired G l₁ l₂
 |_,_,.nil,_=>.nil
 |_,_,.cons r t,f=>.cons (f _ _ r) (Paired.mapP t f)
theorem cw.stay (x:cw P w H h a o)(k:∀b u,(b=a\/H b=some (.own a))->h.get? b=some u->h'.get? b=some u)
  (ho:∀b,H b=some (.own a)->H' b=some (.own a)) (ht:∀b xs,(H b=some (.tup xs)\/∃o,H b=some (.aY o (.tup xs)))->(H' b=some (.tup xs)\/∃o,H' b=some (.aY o (.tup xs)))):cw P w H' h' a o:=by
 induction o with
 |lst xs=>obtain⟨z,its,n,r,e⟩:=x;exact⟨z,its,n,r,k _ _ (.inl rfl) e⟩
 |tup xs=>obtain⟨z,its,r,ob,e,c⟩:=x;exact⟨z,its,r,ob,k _ _ (.inl rfl) e,c⟩
 |dK kvs=>obtain⟨z,y,vs,r,ob,es,ep,e,c⟩:=x;exact⟨z,y,vs,r,ob,es,ep,k _ _ (.inl rfl) e,c⟩
 |dT kvs=>
  obtain⟨z,y,xs,r,ob,es,ep,e,c⟩:=x
  exact⟨z,y,xs,Paired.mapP r λp q z=>⟨z.1,ht _ _ z.2.1,z.2.2⟩,ob,es,ep,k _ _ (.inl rfl) e,c⟩
 |set S n=>obtain⟨ob,es,ep,t,e,c⟩:=x;exact⟨ob,es,ep,t,k _ _ (.inl rfl) e,c⟩
 |ins C dx fs=>
  obtain⟨d,z,ne,e,mA,⟨od,es,ep,e2,c⟩,r⟩:=x
  exact⟨ho _ d,z,ne,k _ _ (.inl rfl) e,mA,⟨od,es,ep,k _ _ (.inr d) e2,c⟩,r⟩
 |own y=>obtain⟨ob,e⟩:=x;exact⟨ob,k _ _ (.inl rfl) e⟩
 |xd fs=>obtain⟨mA,⟨od,es,ep,e,c⟩,r⟩:=x;exact⟨mA,⟨od,es,ep,k _ _ (.inl rfl) e,c⟩,r⟩
 |iE lo hi=>obtain⟨t,u,v,e⟩:=x;exact⟨t,u,v,k _ _ (.inl rfl) e⟩
 |aY ob u ih=>obtain⟨e,q⟩:=x;exact⟨k _ _ (.inl rfl) e,ih q⟩
 |tbl ps=>
  have e:h.get? a=some {cls:=.none,data:=.fields ps}:=x
  show h'.get? a=some {cls:=.none,data:=.fields ps}
  exact k a _ (.inl rfl) e
 |met f y=>
  have e:h.get? a=some (PySem.W.methodObj (.ref f) (.ref y)):=x
  show h'.get? a=some (PySem.W.methodObj (.ref f) (.ref y))
  exact k a _ (.inl rfl) e
 |ext φ=>obtain⟨p,⟨o,e⟩,st⟩:=x;exact⟨st _ _ p λo q=>k _ _ (.inl rfl) q,⟨o,k _ _ (.inl rfl) e⟩,st⟩
def lq.lt (x:lq P w H h)(e:H a=some o):a < h.objs.size:=(x a o e).lt
theorem lq.fresh (x:lq P w H h)(e:h.objs.size<=a):H a=none:=by
 cases q:H a with
 |none=>rfl
 |some u=>exact absurd (OO (x.lt q) e) (OU _)
def lq.kept (x:lq P w H h)(k:∀b u,h.get? b=some u->h'.get? b=some u):lq P w H h':=λa o e=>
 (x a o e).stay (λb u _ q=>k b u q) (λ_ q=>q) λ_ _ q=>q
def lq.laid (x:lq P w H h)(k:∀b u,h.get? b=some u->h'.get? b=some u)(hp:h.objs.size<=a)(new:cw P w (upd H a o) h' a o):lq P w (upd H a o) h':=λb u e=>by
 have hn:=x.fresh hp
 by_cases hb:b=a
 ·subst hb;rw[az] at e;cases e;exact new
 ·rw[aE hb] at e
  exact (x b u e).stay (λc v _ q=>k c v q) (λc q=>by rw[aE (aM q hn)];exact q) λc xs q=>q.imp (λq=>by rw[aE (aM q hn)];exact q) λ⟨o,q⟩=>⟨o,by rw[aE (aM q hn)];exact q⟩
end
def Rd (H:Hp)(a:Addr)(u:HO):Prop:=H a=some u\/∃o,H a=some (.aY o u)
def Rd.ok {P:Program}{w:World}{H:Hp}{h:Heap}{a:Addr}{u:HO}(r:Rd H a u)(x:lq P w H h):cw P w H h a u:=by
 rcases r with r | ⟨o,r⟩
 ·exact x a u r
 ·obtain⟨_,q⟩:=x a _ r
  exact q
def Kr:Option HO->Prop
 |some (.lst _)=>True
 |some (.dK _)=>True
 |some (.dT _)=>True
 |some (.set _ _)=>True
 |some (.ins _ _ _)=>True
 |some (.ext _)=>True
 |_=>False
section
variable {P:Program}{w:World}{H:Hp}{h h':Heap}{x e:Addr}{o':HO}
def lq.write (ok:lq P w H h)(mu:Kr (H x))(he:e=x\/H e=some (.own x))(k:∀b u,b≠e->h.get? b=some u->h'.get? b=some u)(heo:∃u,h'.get? e=some u)
  (new:cw P w (upd H x o') h' x o'):lq P w (upd H x o') h':=λb u q=>by
 have nown:∀c y,H c=some (.own y)->c≠x:=λc y r z=>by subst z;rw[r] at mu;exact mu
 have ntup:∀c xs,H c=some (.tup xs)->c≠x:=λc xs r z=>by subst z;rw[r] at mu;exact mu
 by_cases hb:b=x
 ·subst hb;rw[az] at q;cases q;exact new
 ·rw[aE hb] at q
  by_cases hbe:b=e
  ·have q':H b=some (.own x):=by
    rcases he with z |z
    ·exact absurd (hbe.trans z) hb
    ·rw[hbe];exact z
   rw[q] at q';cases q'
   obtain⟨v,hv⟩:=heo
   exact⟨v,by rw[hbe];exact hv⟩
  ·refine (ok b u q).stay (λc v hc r=>k c v ?_ r) (λc r=>by rw[aE (nown c b r)];exact r) λc xs r=>r.imp (λr=>by rw[aE (ntup c xs r)];exact r) λ⟨o,r⟩=>⟨o,by rw[aE (λz=>by subst z;rw[r] at mu;exact mu)];exact r⟩
   rcases hc with rfl |hc
   ·exact hbe
   ·rintro rfl
    rcases he with z |z
    ·exact nown c b hc z
    ·rw[hc] at z;cases z;exact hb rfl
end
structure Un (fs ex:List Addr)(H H':Hp)(h h':Heap):Prop where
 keep:∀b o,h.get? b=some o->H b=none->b∉fs->b∉ex->h'.get? b=some o
 slot:∀b o,h.get? b=some o->H b=none->b∈fs->b∉ex->∃sl,h'.get? b=some {o with slots:=sl}
 free:∀b o,h.get? b=some o->H b=none->b∉ex->H' b=none
 there:∀b o,h.get? b=some o->b∉ex->∃o',h'.get? b=some o'
 tups:∀b xs,H b=some (.tup xs)->H' b=some (.tup xs)
 frzs:∀b o u,H b=some (.aY o u)->H' b=some (.aY o u)
 tbls:∀b ps,H b=some (.tbl ps)->∃more,H' b=some (.tbl (ps ++ more))
section
variable {fs fs' ex ex':List Addr}{H H1 H2:Hp}{h h1 h2 h':Heap}{a x e:Addr}{o:HO}
def Un.any (u:Un fs ex H H1 h h1){b:Addr}{ob:Obj}(q:h.get? b=some ob)(n:H b=none)(hx:b∉ex):∃sl,h1.get? b=some {ob with slots:=sl}:=by
 by_cases hb:b∈fs
 ·exact u.slot b ob q n hb hx
 ·exact⟨ob.slots,u.keep b ob q n hb hx⟩
def Un.kept (k:∀b u,h.get? b=some u->h'.get? b=some u):Un fs ex H H h h':=
 ⟨λb ob q _ _ _=>k b ob q,λb ob q _ _ _=>⟨ob.slots,k b ob q⟩,λ_ _ _ n _=>n,λb ob q _=>⟨ob,k b ob q⟩,λ_ _ q=>q,λ_ _ _ q=>q,λ_ ps q=>⟨#[],by rw[q];simp⟩⟩
def Un.refl:Un fs ex H H h h:=Un.kept λ_ _ q=>q
def Un.laid (k:∀b u,h.get? b=some u->h'.get? b=some u)(hp:h.objs.size<=a)(hn:H a=none):Un fs ex H (upd H a o) h h' where
 keep:=λb u q _ _ _=>k b u q
 slot:=λb u q _ _ _=>⟨u.slots,k b u q⟩
 free:=λb u q n _=>by rw[aE (OX (OO (Oz q) hp))];exact n
 there:=λb u q _=>⟨u,k b u q⟩
 tups:=λb xs q=>by rw[aE (aM q hn)];exact q
 frzs:=λb u xs q=>by rw[aE (aM q hn)];exact q
 tbls:=λb ps q=>⟨#[],by rw[aE (aM q hn),q];simp⟩
def Un.write (mu:Kr (H x))(he:e=x\/H e=some (.own x))(k:∀b u,b≠e->h.get? b=some u->h'.get? b=some u)(heo:∃u,h'.get? e=some u):Un fs ex H (upd H x o) h h':=by
 have hx:∀b,H b=none->b≠x:=λb n z=>by subst z;rw[n] at mu;exact mu
 have hb:∀b,H b=none->b≠e:=λb n z=>by
  subst z
  rcases he with r |r
  ·exact hx b n r
  ·rw[n] at r;cases r
 have hm:∀b u,H b=some u->¬Kr (some u)->b≠x:=λb u q nm z=>by subst z;rw[q] at mu;exact nm mu
 refine⟨λb u q n _ _=>k b u (hb b n) q,λb u q n _ _=>⟨u.slots,k b u (hb b n) q⟩,λb u q n _=>by rw[aE (hx b n)];exact n,λb u q _=>?_,
  λb xs q=>by rw[aE (hm b _ q λz=>z)];exact q,λb u xs q=>by rw[aE (hm b _ q λz=>z)];exact q,λb ps q=>⟨#[],by rw[aE (hm b _ q λz=>z),q];simp⟩⟩
 by_cases hbe:b=e
 ·subst hbe;exact heo
 ·exact⟨u,k b u hbe q⟩
end
def L7 (h:Heap)(H:Hp):List Addr:=(List.range h.objs.size).filter λa=>(H a).isSome
def sF (h:Heap)(H:Hp):Heap:=PySem.W.hideAll h (L7 h H)
def AJ (h:Heap)(H:Hp):(sF h H).objs.size=h.objs.size:=PySem.W.hideAll_size _ _
def CW {h:Heap}{H:Hp}{b:Addr}{o:Obj}(e:h.get? b=some o)(n:H b=none):(sF h H).get? b=some o:=
 PySem.W.hideAll_get _ e λhm=>by
  have q:(H b).isSome=true:=(OG.mp hm).2
  rw[n] at q;simp at q
theorem GY {h:Heap}{H:Hp}{b:Addr}{o:Obj}(e:(sF h H).get? b=some o):h.get? b=some o/\H b=none:=by
 have e':h.get? b=some o:=PySem.W.of_hideAll (L7 h H) e
 refine⟨e',?_⟩
 cases q:H b with
 |none=>rfl
 |some x=>
  have hm:b∈L7 h H:=OG.mpr ⟨Po.mpr (Oz e'),by simp[q]⟩
  have z:(sF h H).get? b=none:=PySem.W.hideAll_none (L7 h H) hm
  rw[z] at e;cases e
def FI (g h:Heap)(L:Addr):@B_:=(List.range h.objs.size).filterMap λa=>if a=L\/(g.get? a).isSome=true then none else (h.get? a).map λo=>(a,o)
def rest (g h:Heap)(L d:Addr):@B_:=(FI g h L).filter λp=>decide (p.1≠d)
structure Mod (K:Frag)(mg:@FM)(base:Heap):Prop where
 kin:K.In base
 glob:base.Ns mainGlobals mg
 blt:∃mb,base.Ns builtinsNs mb/\∀x:Str,x≠"__name__"->mb x=bootBuiltins x
 nolimit:base.NoLimit
 sys:∃mm,base.Ns sysModules mm
structure Cx where
 prog:Program
 w:World
 K:Frag
 mg:@FM
 base:Heap
 A:Around
 N:@H_
 s₀:Shared
 H₀:Hp
 env:Env
 outer:List Env
 stack:List Env
 ex:List Addr
 fn:Str->Bool
 calm:Bool
 pn:@B_
 xe:@Db
def fG (l:List Env):List Addr:=l.filterMap (·.frame)
abbrev Cx.fs (X:Cx):List Addr:=fG X.outer
def vS (sc:Scope)(x:Str):Prop:=sc.names.lookup x=some .local\/sc.names.lookup x=some .cell\/sc.names.lookup x=some .free
def Loc (sc:Scope)(x:Str):Prop:=sc.names.lookup x=some .local\/sc.names.lookup x=some .cell
def Look (env:Env)(h:Heap)(m:@FM)(x:Str)(u:Value):Prop:=
 (env.kindOf x=some .local/\m x=some u)\/((env.kindOf x=some .cell\/env.kindOf x=some .free)/\∃c,env.cells.lookup x=some c/\h.IsCell c (some u))
structure Cx.Ok (X:Cx):Prop where
 mod:Mod X.K X.mg X.base
 kind:X.env.scope.kind=.function
 glob:X.env.globals=mainGlobals
 blt:X.env.builtins=builtinsNs
 above:X.s₀.heap.objs.size<=X.env.locals
 inj:∀x y c,X.env.cells.lookup x=some c->X.env.cells.lookup y=some c->x=y
 has:∀x,(X.env.kindOf x=some .cell\/X.env.kindOf x=some .free)->∃c,X.env.cells.lookup x=some c
 cab:∀x c,X.fn x=true->X.env.cells.lookup x=some c->X.s₀.heap.objs.size<=c
 hd:X.calm=true->X.A.handled=none
 frames:X.A.frames=some X.stack
 stk:X.stack=X.outer\/(X.stack=X.env :: X.outer/\X.env.frame=some X.env.locals)
 exf:∀b∈X.ex,b≠X.env.locals/\∀x c,X.env.cells.lookup x=some c->c≠b
 bs:∀b o,X.base.get? b=some o->X.s₀.heap.get? b=some o/\X.H₀ b=none
 bsz:X.base.objs.size<=X.s₀.heap.objs.size
 noex:∀b o,X.base.get? b=some o->b∉X.ex
 exfs:∀b∈X.ex,b∉X.fs
 funs:X.s₀.heap.FunFrames X.base X.outer
 frf:∀b∈X.fs,X.H₀ b=none
structure Inv (X:Cx)(pins:@B_)(σ:List (Option V))(H:Hp)(s:Shared):Prop where
 ok:X.Ok
 os:s.os=X.s₀.os
 bare:AllBare s.gens
 base:Un X.fs X.ex X.H₀ H X.s₀.heap s.heap
 loc:∃m,s.heap.Ns X.env.locals m/\∀(i:Nat) (x:Str) (v:V),X.N[i]? =some x->σ[i]? =some (some v)->vS X.env.scope x->∃u,RelV v u/\Look X.env s.heap m x u
 cell:∀x c,X.env.cells.lookup x=some c->∃v,s.heap.IsCell c v
 free:H X.env.locals=none
 freeC:∀x c,X.env.cells.lookup x=some c->H c=none
 pin:∀p∈X.pn ++ pins,s.heap.get? p.1=some p.2/\H p.1=none/\p.1≠X.env.locals/\p.1∉X.fs/\∀v,p.2.data≠.cell v
 hok:lq X.prog X.w H s.heap
 len:σ.length=X.N.length
section
variable {X:Cx}{pins:@B_}{σ:List (Option V)}{H H':Hp}{s:Shared}{h':Heap}
def Cx.Ok.nofr (ok:X.Ok){b:Addr}{o:Obj}(e:X.base.get? b=some o):b∉X.fs:=λhb=>by
 have:=(ok.funs.mem hb).1
 rw[e] at this;cases this
def Inv.bs (I:@At):∀b o,X.base.get? b=some o->s.heap.get? b=some o/\H b=none:=λb o e=>
 ⟨I.base.keep b o (I.ok.bs b o e).1 (I.ok.bs b o e).2 (I.ok.nofr e) (I.ok.noex b o e),I.base.free b o (I.ok.bs b o e).1 (I.ok.bs b o e).2 (I.ok.noex b o e)⟩
def Inv.bk (I:@At):∀b o,X.base.get? b=some o->s.heap.get? b=some o:=λb o e=>(I.bs b o e).1
def Inv.mod (I:@At):Mod X.K X.mg X.base:=I.ok.mod
def Inv.kIn (I:@At):X.K.In s.heap:=I.ok.mod.kin.keeps I.bk
def Inv.lt (I:@At):X.env.locals < s.heap.objs.size:=let ⟨_,hn,_⟩:=I.loc;hn.lt
def Inv.sz (I:@At):X.s₀.heap.objs.size<=s.heap.objs.size:=Pw I.ok.above (QG I.lt)
def Inv.nofs (I:@At){a:Addr}(h:s.heap.objs.size<=a):a∉X.fs:=λhb=>by
 obtain⟨_,o,ho,_⟩:=I.ok.funs.mem hb
 exact absurd (OO (Oz ho) (Pw I.sz h)) (OU _)
def Inv.cne (I:@At):∀x c,X.env.cells.lookup x=some c->c≠X.env.locals:=λx c e z=>by
 obtain⟨v,o,ho,hd⟩:=I.cell x c e
 obtain⟨m,⟨o',es,ep,ho',hd',_⟩,_⟩:=I.loc
 rw[z,ho'] at ho;cases ho;rw[hd'] at hd;cases hd
def Inv.funs (I:@At):s.heap.FunFrames X.base X.outer:=by
 have all:∀(l:List Env),(∀b∈fG l,b∈X.fs)->X.s₀.heap.FunFrames X.base l->s.heap.FunFrames X.base l:=by
  intro l
  induction l with
  |nil=>intro _ _;trivial
  |cons env r ih=>
   intro hs hl
   obtain⟨hk,⟨L,o,hf,hn,ho,hd⟩,hr⟩:=hl
   have hL:L∈X.fs:=hs L (by unfold fG;rw[List.filterMap_cons,hf];exact OH)
   obtain⟨sl,e⟩:=I.base.slot L o ho (I.ok.frf L hL) hL λz=>I.ok.exfs L z hL
   exact⟨hk,⟨L,_,hf,hn,e,hd⟩,ih (λb hb=>hs b (by unfold fG;rw[List.filterMap_cons,hf];exact OF _ hb)) hr⟩
 exact all X.outer (λ_ hb=>hb) I.ok.funs
def Inv.stack (I:@At):s.heap.FunFrames X.base X.stack:=by
 rcases I.ok.stk with e | ⟨e,hf⟩
 ·rw[e];exact I.funs
 ·rw[e]
  obtain⟨m,hn,_⟩:=I.loc
  refine .cons (by rw[I.ok.kind];decide) hf hn ?_ I.funs
  exact Heap.get?_none_of_le (Pw I.ok.bsz I.ok.above)
def Inv.stkSub (I:@At):∀b∈fG X.stack,b∈X.env.locals :: X.fs:=λb hb=>by
 rcases I.ok.stk with e | ⟨e,hf⟩
 ·rw[e] at hb;exact OF _ hb
 ·rw[e] at hb
  unfold fG at hb
  rw[List.filterMap_cons,hf] at hb
  exact hb
def Inv.stkFree (I:@At):∀b∈fG X.stack,H b=none:=λb hb=>by
 rcases OC.mp (I.stkSub b hb) with e |hb
 ·rw[e];exact I.free
 ·obtain⟨_,o,ho,_⟩:=I.ok.funs.mem hb
  exact I.base.free b o ho (I.ok.frf b hb) λz=>I.ok.exfs b z hb
def Inv.step {g':Array GenState}{t':Nat}{d':Drawn}{ch:List Addr}(I:@At)
  (hch:∀b∈ch,(b∈X.ex\/X.s₀.heap.objs.size<=b)/\b≠X.env.locals/\(∀x c,X.env.cells.lookup x=some c->c≠b)/\∀p∈X.pn ++ pins,p.1≠b)
  (keep:∀b o,b≠X.env.locals->b∉X.fs->b∉ch->s.heap.get? b=some o->H b=none->h'.get? b=some o)
  (slot:∀b o,b≠X.env.locals->b∈X.fs->b∉ch->s.heap.get? b=some o->H b=none->∃sl,h'.get? b=some {o with slots:=sl}) (free:∀b o,b∉ch->s.heap.get? b=some o->H b=none->H' b=none)
  (there:∀b o,b∉ch->s.heap.get? b=some o->∃o',h'.get? b=some o')
  (tups:∀b xs,H b=some (.tup xs)->H' b=some (.tup xs)) (frzs:∀b o u,H b=some (.aY o u)->H' b=some (.aY o u)) (tbls:∀b ps,H b=some (.tbl ps)->∃more,H' b=some (.tbl (ps ++ more)))
  (ns:∀m,s.heap.Ns X.env.locals m->h'.Ns X.env.locals m) (hok:lq X.prog X.w H' h') (hg:AllBare g') :
  Inv X pins σ H' {s with heap:=h',gens:=g',drawn:=d',toks:=t'}:=by
 have neL:∀b o,X.s₀.heap.get? b=some o->b≠X.env.locals:=λb o e=>OX (OO (Oz e) I.ok.above)
 have neC:∀b o,X.s₀.heap.get? b=some o->b∉X.ex->b∉ch:=λb o e hx hb=>by
  rcases (hch b hb).1 with z |z
  ·exact hx z
  ·exact absurd (OO (Oz e) z) (OU _)
 have cellK:∀x c,X.env.cells.lookup x=some c->∀v,s.heap.IsCell c v->h'.IsCell c v:=λx c e v ⟨o,ho,hd⟩=>by
  have nch:c∉ch:=λz=>(hch c z).2.2.1 x c e rfl
  by_cases hc:c∈X.fs
  ·obtain⟨sl,q⟩:=slot c o (I.cne x c e) hc nch ho (I.freeC x c e)
   exact⟨_,q,hd⟩
  ·exact⟨o,keep c o (I.cne x c e) hc nch ho (I.freeC x c e),hd⟩
 refine⟨I.ok,I.os,hg,⟨λb o e n hb hx=>?_,λb o e n hb hx=>?_,λb o e n hx=>?_,λb o e hx=>?_,λb xs e=>tups b xs (I.base.tups b xs e),λb o xs e=>frzs b o xs (I.base.frzs b o xs e),λb ps e=>?_⟩,?_,λx c e=>?_,?_,λx c e=>?_,λp hp=>?_,hok,I.len⟩
 ·exact keep b o (neL b o e) hb (neC b o e hx) (I.base.keep b o e n hb hx) (I.base.free b o e n hx)
 ·obtain⟨sl,e1⟩:=I.base.slot b o e n hb hx
  obtain⟨sl',e2⟩:=slot b _ (neL b o e) hb (neC b o e hx) e1 (I.base.free b o e n hx)
  exact⟨sl',e2⟩
 ·obtain⟨o',e1⟩:=I.base.there b o e hx
  exact free b o' (neC b o e hx) e1 (I.base.free b o e n hx)
 ·obtain⟨o',e1⟩:=I.base.there b o e hx
  exact there b o' (neC b o e hx) e1
 ·obtain⟨m1,e1⟩:=I.base.tbls b ps e
  obtain⟨m2,e2⟩:=tbls b _ e1
  exact⟨m1 ++ m2,by rw[e2,Array.append_assoc]⟩
 ·obtain⟨m,hn,hl⟩:=I.loc
  refine⟨m,ns m hn,λi x v e1 e2 e3=>?_⟩
  obtain⟨u,r,l⟩:=hl i x v e1 e2 e3
  refine⟨u,r,?_⟩
  rcases l with l | ⟨k,c,e,z⟩
  ·exact .inl l
  ·exact .inr ⟨k,c,e,cellK x c e _ z⟩
 ·obtain⟨v,z⟩:=I.cell x c e
  exact⟨v,cellK x c e v z⟩
 ·obtain⟨m,⟨o,_,_,ho,_⟩,_⟩:=I.loc
  exact free _ o (λz=>(hch _ z).2.1 rfl) ho I.free
 ·obtain⟨v,o,ho,hd⟩:=I.cell x c e
  exact free c o (λz=>(hch c z).2.2.1 x c e rfl) ho (I.freeC x c e)
 ·obtain⟨e,n,ne,nf,d⟩:=I.pin p hp
  have nch:p.1∉ch:=λz=>(hch p.1 z).2.2.2 p hp rfl
  exact⟨keep p.1 p.2 ne nf nch e n,free p.1 p.2 nch e n,ne,nf,d⟩
def Inv.un {t':Nat}(I:@At)(u:Un X.fs [] H H' s.heap h')(hok:lq X.prog X.w H' h'):Inv X pins σ H' {s with heap:=h',toks:=t'}:=by
 obtain⟨m,⟨o,es,ep,ho,r⟩,_⟩:=id I.loc
 obtain⟨sl,hL⟩:=u.any ho I.free @IN
 exact I.step (g':=s.gens) (d':=s.drawn) (ch:=[]) (λ_ z=>nomatch z) (λb o _ hb _ e n=>u.keep b o e n hb @IN) (λb o _ hb _ e n=>u.slot b o e n hb @IN) (λb o _ e n=>u.free b o e n @IN) (λb o _ e=>u.there b o e @IN) u.tups u.frzs u.tbls (λm' hm=>by
  obtain⟨o',es',ep',ho',r'⟩:=hm
  rw[ho] at ho';cases ho'
  exact⟨_,es',ep',hL,r'⟩) hok I.bare
def Inv.call {g':Array GenState}{t':Nat}{d':Drawn}{ch:List Addr}(I:@At)(u:Un (fG X.stack) ch H H' s.heap h')(hok:lq X.prog X.w H' h')(hg:AllBare g')
  (hch:∀b∈ch,(b∈X.ex\/X.s₀.heap.objs.size<=b)/\b≠X.env.locals/\(∀x c,X.env.cells.lookup x=some c->c≠b)/\∀p∈X.pn ++ pins,p.1≠b) :
  Inv X pins σ H' {s with heap:=h',gens:=g',drawn:=d',toks:=t'}:=by
 obtain⟨m,⟨o,es,ep,ho,r⟩,_⟩:=id I.loc
 obtain⟨sl,hL⟩:=u.any ho I.free λz=>(hch _ z).2.1 rfl
 exact I.step (ch:=ch) hch (λb o hL hb hc e n=>u.keep b o e n (λz=>(OC.mp (I.stkSub b z)).elim hL hb) hc) (λb o _ _ hc e n=>u.any e n hc) (λb o hc e n=>u.free b o e n hc) (λb o hc e=>u.there b o e hc) u.tups u.frzs u.tbls (λm' hm=>by
  obtain⟨o',es',ep',ho',r'⟩:=hm
  rw[ho] at ho';cases ho'
  exact⟨_,es',ep',hL,r'⟩) hok hg
def Inv.turned {t':Nat}{it:Addr}(I:@At)(k:∀b o,b≠it->s.heap.get? b=some o->h'.get? b=some o)(hn:H it=none)(hL:it≠X.env.locals)
  (h1:it∈X.ex\/X.s₀.heap.objs.size<=it) (h2:∀x c,X.env.cells.lookup x=some c->c≠it) (h3:∀p∈X.pn ++ pins,p.1≠it):Inv X pins σ H {s with heap:=h',toks:=t'}:=by
 have nit:∀b u,H b=some u->b≠it:=λb u e z=>by rw[z,hn] at e;cases e
 refine I.step (g':=s.gens) (d':=s.drawn) (ch:=[it]) (λb hb=>?_) (λb o _ _ hc e _=>k b o (λz=>hc (by simp[z])) e) (λb o _ _ hc e _=>⟨o.slots,k b o (λz=>hc (by simp[z])) e⟩) (λ_ _ _ _ n=>n)
  (λb o hc e=>⟨o,k b o (λz=>hc (by simp[z])) e⟩) (λ_ _ e=>e) (λ_ _ _ e=>e) (λb ps e=>⟨#[],by rw[e];simp⟩) (λm hm=>?_) (λb u e=>?_) I.bare
 ·have e:b=it:=by simpa using hb
  subst e
  exact⟨h1,hL,h2,h3⟩
 ·obtain⟨o,es,ep,ho,r⟩:=hm
  exact⟨o,es,ep,k _ o (Ne.symm hL) ho,r⟩
 ·refine (I.hok b u e).stay (λc v hc q=>k c v ?_ q) (λ_ q=>q) λ_ _ q=>q
  rcases hc with z |z
  ·rw[z];exact nit b u e
  ·exact nit c _ z
def Inv.tok (I:@At)(t:Nat):Inv X pins σ H {s with toks:=t}:=I.un (h':=s.heap) (t':=t) Un.refl I.hok
def Inv.kept {t':Nat}(I:@At)(k:∀b u,s.heap.get? b=some u->h'.get? b=some u):Inv X pins σ H {s with heap:=h',toks:=t'}:=I.un (Un.kept k) (I.hok.kept k)
def Inv.laid {a:Addr}{o:HO}{t':Nat}(I:@At)(k:∀b u,s.heap.get? b=some u->h'.get? b=some u)(hp:s.heap.objs.size<=a)(new:cw X.prog X.w (upd H a o) h' a o) :
  Inv X pins σ (upd H a o) {s with heap:=h',toks:=t'}:=I.un (Un.laid k hp (I.hok.fresh hp)) (I.hok.laid k hp new)
def Inv.write {x e:Addr}{o:HO}{t':Nat}(I:@At)(mu:Kr (H x))(he:e=x\/H e=some (.own x))(k:∀b u,b≠e->s.heap.get? b=some u->h'.get? b=some u)(heo:∃u,h'.get? e=some u)
  (new:cw X.prog X.w (upd H x o) h' x o):Inv X pins σ (upd H x o) {s with heap:=h',toks:=t'}:=I.un (Un.write mu he k heo) (I.hok.write mu he k heo new)
def Inv.pins_of {pins':@B_}(I:@At)(h:∀p∈pins',s.heap.get? p.1=some p.2/\H p.1=none/\p.1≠X.env.locals/\p.1∉X.fs/\∀v,p.2.data≠.cell v):Inv X pins' σ H s:=
 ⟨I.ok,I.os,I.bare,I.base,I.loc,I.cell,I.free,I.freeC,λp hp=>(OR.mp hp).elim (λz=>I.pin p (P9 _ z)) (h p),I.hok,I.len⟩
def oK {N:@H_}(hN:N.Nodup){i j:Nat}{x:Str}(a:N[i]? =some x)(b:N[j]? =some x):i=j:=by
 obtain⟨h1,e1⟩:=Oy.mp a
 obtain⟨h2,e2⟩:=Oy.mp b
 exact (List.getElem_inj hN).mp (e1.trans e2.symm)
def tD {M:Model}{A:Around}{E:@Db}{i:Nat}{x:Str}{v:V}{u:Value}{Q:Unit->Shared->Prop}(I:@At)(hN:X.N.Nodup)(hi:X.N[i]? =some x)(hx:Loc X.env.scope x)(r:RelV v u)
  (h:∀s',Inv X pins (σ.set i (some v)) H s'->(∃a,Heap.SameBut a s.heap s'.heap/\(a=X.env.locals\/X.env.cells.lookup x=some a))->Q () s') (hf:X.fn x=true\/X.env.scope.names.lookup x=some .local:=by first |exact .inl rfl |exact .inr rfl |assumption):wpAny M A (storeName X.env x u) Q E s:=by
 obtain⟨m,hn,hl⟩:=id I.loc
 have hcls:(X.env.scope.kind == .class || (X.env.scope.kind == .module && X.env.locals != X.env.globals))=false:=by rw[I.ok.kind];rfl
 have hiσ:i < σ.length:=by rw[I.len];exact (Oy.mp hi).1
 have cne:=I.cne
 have tracked:∀{a:Addr} {h':Heap},(∃o,s.heap.get? a=some o/\H a=none)->Heap.SameBut a s.heap h'->lq X.prog X.w H h':=λ{a h'} ha hs b ob e=>by
  obtain⟨_,_,hfree⟩:=ha
  refine (I.hok b ob e).stay (λc w' hc q=>(hs.2 c ?_).trans q) (λ_ q=>q) λ_ _ q=>q
  rintro rfl
  rcases hc with rfl |hc
  ·rw[hfree] at e;cases e
  ·rw[hfree] at hc;cases hc
 rcases hx with hk |hk
 ·refine wpAny_storeName_local hk hn (λh' hn' hs=>?_) hcls
  obtain⟨oL,_,_,hoL,_⟩:=id hn
  refine h _ ⟨I.ok,I.os,I.bare,⟨λb o e n hb hx=>?_,λb o e n hb hx=>?_,I.base.free,λb o e hx=>?_,I.base.tups,I.base.frzs,I.base.tbls⟩,⟨_,hn',λj y v' e1 e2 e3=>?_⟩,λy c e=>?_,I.free,I.freeC,λp hp=>?_,tracked ⟨oL,hoL,I.free⟩ hs,by simpa using I.len⟩ ⟨_,hs,.inl rfl⟩
  ·exact (hs.2 b (OX (OO (Oz e) I.ok.above))).trans (I.base.keep b o e n hb hx)
  ·obtain⟨sl,e1⟩:=I.base.slot b o e n hb hx
   exact⟨sl,(hs.2 b (OX (OO (Oz e) I.ok.above))).trans e1⟩
  ·obtain⟨o',e1⟩:=I.base.there b o e hx
   exact⟨o',(hs.2 b (OX (OO (Oz e) I.ok.above))).trans e1⟩
  ·by_cases hj:j=i
   ·subst hj
    rw[hi] at e1;cases e1
    rw[OJ hiσ] at e2
    cases e2
    exact⟨u,r,.inl ⟨hk,by simp⟩⟩
   ·rw[OL (Ne.symm hj)] at e2
    obtain⟨u',r',q⟩:=hl j y v' e1 e2 e3
    refine⟨u',r',?_⟩
    rcases q with⟨k,e⟩ | ⟨k,c,e,z⟩
    ·refine .inl ⟨k,?_⟩
     have:y≠x:=λe=>hj (oK hN e1 (e▸hi))
     simp[this,e]
    ·exact .inr ⟨k,c,e,z.sameBut hs (cne y c e)⟩
  ·obtain⟨w',z⟩:=I.cell y c e
   exact⟨w',z.sameBut hs (cne y c e)⟩
  ·obtain⟨e,n,ne,nf,d⟩:=I.pin p hp
   exact⟨(hs.2 p.1 ne).trans e,n,ne,nf,d⟩
 ·have hfn:X.fn x=true:=by
   rcases hf with z |z
   ·exact z
   ·rw[z] at hk;cases hk
  obtain⟨c,hc⟩:=I.ok.has x (.inl hk)
  obtain⟨w',z⟩:=I.cell x c hc
  refine wpAny_storeName_cell I.ok.kind hk hc z (λh' hc' hs=>?_)
  obtain⟨oc,hoc,hocd⟩:=id z
  refine h {s with heap:=h'} ⟨I.ok,I.os,I.bare,⟨λb o e n hb hx=>?_,λb o e n hb hx=>?_,I.base.free,λb o e hx=>?_,I.base.tups,I.base.frzs,I.base.tbls⟩,⟨m,hn.sameBut hs (Ne.symm (cne x c hc)),λj y v' e1 e2 e3=>?_⟩,λy c' e=>?_,I.free,I.freeC,λp hp=>?_,tracked ⟨oc,hoc,I.freeC x c hc⟩ hs,by simpa using I.len⟩ ⟨c,hs,.inr hc⟩
  ·exact (hs.2 b (OX (OO (Oz e) (I.ok.cab x c hfn hc)))).trans (I.base.keep b o e n hb hx)
  ·obtain⟨sl,e1⟩:=I.base.slot b o e n hb hx
   exact⟨sl,(hs.2 b (OX (OO (Oz e) (I.ok.cab x c hfn hc)))).trans e1⟩
  ·obtain⟨o',e1⟩:=I.base.there b o e hx
   exact⟨o',(hs.2 b (OX (OO (Oz e) (I.ok.cab x c hfn hc)))).trans e1⟩
  ·by_cases hj:j=i
   ·subst hj
    rw[hi] at e1;cases e1
    rw[OJ hiσ] at e2
    cases e2
    exact⟨u,r,.inr ⟨.inl hk,c,hc,hc'⟩⟩
   ·rw[OL (Ne.symm hj)] at e2
    obtain⟨u',r',q⟩:=hl j y v' e1 e2 e3
    refine⟨u',r',?_⟩
    rcases q with q | ⟨k,c',e,z'⟩
    ·exact .inl q
    ·refine .inr ⟨k,c',e,z'.sameBut hs ?_⟩
     rintro rfl
     exact hj (oK hN e1 (I.ok.inj _ _ _ e hc▸hi))
  ·by_cases hcc:c'=c
   ·subst hcc;exact⟨_,hc'⟩
   ·obtain⟨w2,z2⟩:=I.cell y c' e
    exact⟨w2,z2.sameBut hs hcc⟩
  ·obtain⟨e,n,ne,nf,d⟩:=I.pin p hp
   refine⟨(hs.2 p.1 ?_).trans e,n,ne,nf,d⟩
   intro q
   rw[q,hoc] at e
   have q':oc=p.2:=Option.some.inj e
   exact d w' (by rw[<-q'];exact hocd)
def oM {M:Model}{A:Around}{E:@Db}{i:Nat}{x:Str}{v:V}{u:Value}{Q:Unit->Shared->Prop}(I:@At)(hN:X.N.Nodup)(hi:X.N[i]? =some x)(hx:Loc X.env.scope x)(r:RelV v u)
  (h:∀s',Inv X pins (σ.set i (some v)) H s'->Q () s') (hf:X.fn x=true\/X.env.scope.names.lookup x=some .local:=by first |exact .inl rfl |exact .inr rfl |assumption):wpAny M A (storeName X.env x u) Q E s:=
 tD I hN hi hx r (λs' I' _=>h s' I') hf
def Inv.call' {s':Shared}{ch:List Addr}(I:@At)(ho:s'.os=s.os)(u:Un (fG X.stack) ch H H' s.heap s'.heap)(hok:lq X.prog X.w H' s'.heap)(hg:AllBare s'.gens)
  (hch:∀b∈ch,(b∈X.ex\/X.s₀.heap.objs.size<=b)/\b≠X.env.locals/\(∀x c,X.env.cells.lookup x=some c->c≠b)/\∀p∈X.pn ++ pins,p.1≠b):Inv X pins σ H' s':=by
 obtain⟨h',g',d',t',o'⟩:=s'
 have e:o'=s.os:=ho
 subst e
 exact I.call (g':=g') (t':=t') (d':=d') u hok hg hch
end
abbrev XK:=Value->@Ix->Hp->Prop
abbrev St:=List (Option V)
abbrev VK:=V->Hp->Prop
abbrev TE:=St->Hp->VK->Prop
abbrev TT:=St->Hp->(Bool->Hp->Prop)->Prop
abbrev TA:=St->Hp->(List V->Hp->Prop)->Prop
structure Ends where
 nx:St->Hp->Prop
 rt:VK
 bk:St->Hp->Prop:=λ_ _=>False
 ct:St->Hp->Prop:=λ_ _=>False
abbrev TS:=Ends->St->Hp->Prop
def EP (X:Cx)(pins:@B_)(σ:St)(Q:VK)(u:Value)(s':Shared):Prop:=∃v H',Inv X pins σ H' s'/\RelV v u/\Q v H'
def TP (X:Cx)(pins:@B_)(σ:St)(Q:Bool->Hp->Prop)(b:Bool)(s':Shared):Prop:=∃H',Inv X pins σ H' s'/\Q b H'
def AP (X:Cx)(pins:@B_)(σ:St)(Q:List V->Hp->Prop)(us:@GM)(s':Shared):Prop:=∃vs H',Inv X pins σ H' s'/\Vals vs us/\Q vs H'
def SP (X:Cx)(pins:@B_)(D:Ends)(f:Flow)(s':Shared):Prop:=
 match f with
 | .next=>∃σ' H',Inv X pins σ' H' s'/\D.nx σ' H'
 | .brk=>∃σ' H',Inv X pins σ' H' s'/\D.bk σ' H'
 | .cont=>∃σ' H',Inv X pins σ' H' s'/\D.ct σ' H'
 | .ret u=>∃v σ' H',Inv X pins σ' H' s'/\RelV v u/\D.rt v H'
def PE (X:Cx)(e:Expr)(t:TE):Prop:=
 ∀(pins:@B_) (s:Shared) (σ:St) (H:Hp) (Q:VK),@At->t σ H Q->wpAny @Cl X.A (eval e X.env) (EP X pins σ Q) X.xe s
def PT (X:Cx)(e:Expr)(t:TT):Prop:=
 ∀(pins:@B_) (s:Shared) (σ:St) (H:Hp) (Q:Bool->Hp->Prop),@At->t σ H Q->wpAny @Cl X.A (isTrue e X.env (eval e X.env)) (TP X pins σ Q) X.xe s
def PW (X:Cx)(e:Expr)(t:TT):Prop:=
 ∀(whole:Sem Value) (pins:@B_) (s:Shared) (σ:St) (H:Hp) (Q:Bool->Hp->Prop),@At->t σ H Q->wpAny @Cl X.A (isTrue e X.env whole) (TP X pins σ Q) X.xe s
def PW.pt {X:Cx}{e:Expr}{t:TT}(h:PW X e t):PT X e t:=h _
def PA (X:Cx)(es:List Expr)(t:TA):Prop:=
 ∀(pos:Pos) (pins:@B_) (s:Shared) (σ:St) (H:Hp) (Q:List V->Hp->Prop),@At->t σ H Q->wpAny @Cl X.A (spliced (backTo pos (starEach es X.env))) (AP X pins σ Q) X.xe s
def PS (X:Cx)(st:Stmt)(t:TS):Prop:=
 ∀(pins:@B_) (s:Shared) (σ:St) (H:Hp) (D:Ends),@At->t D σ H->wpAny @Cl X.A (exec st X.env) (SP X pins D) X.xe s
def pw (X:Cx)(st:List Stmt)(t:TS):Prop:=
 ∀(pins:@B_) (s:Shared) (σ:St) (H:Hp) (D:Ends),@At->t D σ H->wpAny @Cl X.A (execs st X.env) (SP X pins D) X.xe s
def cc {α:Type}{t:Sem α}{Q Q':α->Shared->Prop}{M:Model}{A:Around}{E:@Db}{s:Shared}(h:wpAny M A t Q E s)(hQ:∀a s,Q a s->Q' a s):wpAny M A t Q' E s:=Pl h hQ λ_ _ x=>x
section
variable {X:Cx}
def bin {a b:Expr}{ta tb:TE}(ha:PE X a ta)(hb:PE X b tb){pins:@B_}{s:Shared}{σ:St}{H:Hp}{R:V->V->Hp->Prop}(I:@At)(h:ta σ H λx H1=>tb σ H1 λy H2=>R x y H2)
  {α:Type} {Q:α->Shared->Prop} {f:Value->Value->Sem α}
  (hf:∀v u s2 x y H2,Inv X pins σ H2 s2->RelV x v->RelV y u->R x y H2->wpAny @Cl X.A (f v u) Q X.xe s2) :
  wpAny @Cl X.A (eval a X.env) (λv s₁=>wpAny @Cl X.A (eval b X.env) (λu s₂=>wpAny @Cl X.A (f v u) Q X.xe s₂) X.xe s₁) X.xe s:=by
 refine cc (ha pins s σ H _ I h) λv s1 ⟨x,H1,I1,r1,q1⟩=>?_
 refine cc (hb pins s1 σ H1 _ I1 q1) λu s2 ⟨y,H2,I2,r2,q2⟩=>?_
 exact hf v u s2 x y H2 I2 r1 r2 q2
def AZ (i:Nat):TE:=λσ H Q=>∃v,σ[i]? =some (some v)/\Q v H
def tC (v:V):TE:=λ_ H Q=>Q v H
def ip {i:Nat}{x:Str}{pos:Pos}(hN:X.N[i]? =some x)(hv:vS X.env.scope x)(hd:@FS:=by decide)(hcd:(x == ("__classdict__":Str))=false:=by decide):PE X (.Name x pos) (AZ i):=by
 intro pins s σ H Q I h
 obtain⟨v,e,h⟩:=h
 obtain⟨m,hn,hl⟩:=I.loc
 obtain⟨u,r,l⟩:=hl i x v hN e hv
 have fin:EP X pins σ Q u s:=⟨v,H,I,r,h⟩
 rcases l with⟨hk,hm⟩ | ⟨hk,c,hc,hcell⟩
 ·exact wpAny_Name (wpAny_loadName_local I.ok.kind hk hn hm fin) hd
 ·rcases hk with hk |hk
  ·exact wpAny_Name (wpAny_loadName_cell I.ok.kind hk hc hcell fin) hd
  ·exact wpAny_Name (wpAny_loadName_free I.ok.kind hk hc hcell fin hcd) hd
def pB {i j pos}:PE X (.Constant (.int i) j pos) (tC (.int i)):=λ_ _ _ H _ I h=>wpAny_Constant_int ⟨.int i,H,I.tok _,⟨_,rfl⟩,h⟩
def vW {b j pos}:PE X (.Constant (.bool b) j pos) (tC (.bl b)):=λ_ _ _ H _ I h=>Constant_bool ⟨.bl b,H,I,rfl,h⟩
def JM {j pos}:PE X (.Constant .none j pos) (tC .non):=λ_ _ _ H _ I h=>Constant_none ⟨.non,H,I,rfl,h⟩
def Cd {x j pos}:PE X (.Constant (.str x) j pos) (tC (.str x)):=λ_ _ _ H _ I h=>Calls.Constant_str ⟨.str x,H,I.tok _,⟨_,rfl⟩,h⟩
def Gl (X:Cx)(x:Str):Prop:=X.env.kindOf x=some .globalImplicit
def mE {E:@Db}{pins:@B_}{s:Shared}{σ:St}{H:Hp}{x:Str}{u:Value}{pos:Pos}{Q:@Db}(I:@At)(hg:Gl X x)(hm:X.mg x=some u)(h:Q u s)
  (hd:@FS:=by decide):wpAny @Cl X.A (eval (.Name x pos) X.env) Q E s:=
 Calls.Name_function_global I.ok.kind hg (Calls.loadGlobal_global (by rw[I.ok.glob];exact I.mod.glob.keeps I.bk) hm h) hd
def nu {E:@Db}{pins:@B_}{s:Shared}{σ:St}{H:Hp}{x:Str}{u:Value}{pos:Pos}{Q:@Db}(I:@At)(hg:Gl X x)(hm:X.mg x=none)(hv:bootBuiltins x=some u)(h:Q u s)
  (hn:x≠"__name__":=by decide) (hd:@FS:=by decide):wpAny @Cl X.A (eval (.Name x pos) X.env) Q E s:=by
 obtain⟨mb,h1,h2⟩:=I.mod.blt
 exact Calls.Name_function_global I.ok.kind hg (Calls.loadGlobal_builtin (by rw[I.ok.glob];exact I.mod.glob.keeps I.bk) hm (by rw[I.ok.blt];exact h1.keeps I.bk) ((h2 x hn).trans hv) h) hd
def cz {x:Str}{v:V}{u:Value}{pos:Pos}(hg:Gl X x)(hm:X.mg x=some u)(r:RelV v u)(hd:@FS:=by decide):PE X (.Name x pos) (tC v):=
 λ_ _ _ H _ I h=>mE I hg hm ⟨v,H,I,r,h⟩ hd
def zL {x:Str}{v:V}{u:Value}{pos:Pos}(hg:Gl X x)(hm:X.mg x=none)(hv:bootBuiltins x=some u)(r:RelV v u)(hn:x≠"__name__":=by decide)(hd:@FS:=by decide):PE X (.Name x pos) (tC v):=
 λ_ _ _ H _ I h=>nu I hg hm hv ⟨v,H,I,r,h⟩ hn hd
variable {a b:Expr}{ta tb:TE}{pos:Pos}
def PC (X:Cx)(op:CmpOp)(a b:Expr)(t:TE):Prop:=
 ∀(pins:@B_) (s:Shared) (σ:St) (H:Hp) (Q:VK),@At->t σ H Q->
  wpAny @Cl X.A (eval a X.env) (λv s₁=>wpAny @Cl X.A (eval b X.env) (λu s₂=>wpAny @Cl X.A (compareOp op v u) (EP X pins σ Q) X.xe s₂) X.xe s₁) X.xe s
def tB (t:TE):TT:=λσ H Q=>t σ H λx H1=>∃c,x=.bl c/\Q c H1
def Mq {op:CmpOp}{t:TE}(h:PC X op a b t)(h1:behindInMarks op b=false:=by first |exact nobehind _ @Go @Go |rfl):PT X (.Compare a [op] [b] pos) (tB t):=by
 intro pins s σ H Q I hw
 refine wpAny_isTrue_Compare1 (cc (h pins s σ H _ I hw) λv s1 h1=>cc h1 λu s2 h2=>cc h2 λc s3 ⟨x,H1,I1,r1,q1⟩=>?_) h1
 obtain⟨d,rfl,q⟩:=q1
 cases r1
 exact Px ⟨H1,I1,q⟩
def o8 {e:Expr}{t:TE}(h:PE X e t)(he:∀whole,isTrue e X.env whole=(do let v <-whole;standAt e.pos;holding [v] (truthy v)):=by intro _;rfl):PT X e (tB t):=by
 intro pins s σ H Q I hw
 refine isTrue_plain (cc (h pins s σ H _ I hw) λv s1 ⟨x,H1,I1,r1,q1⟩=>?_) (he _)
 obtain⟨d,rfl,q⟩:=q1
 cases r1
 exact Px ⟨H1,I1,q⟩
variable {tA tB':TT}{rest:List Expr}
def Nu (t u:TT):TT:=λσ H Q=>t σ H λc H1=>if c=true then u σ H1 Q else Q false H1
def Oe (t u:TT):TT:=λσ H Q=>t σ H λc H1=>if c=true then Q true H1 else u σ H1 Q
def Nx (t:TT):TT:=λσ H Q=>t σ H λc H1=>Q (!c) H1
theorem Aw (ha:PT X a tA):PW X (.BoolOp .And [a] pos) tA:=by
 intro wh pins s σ H Q I h
 refine isTrue_and (cc (ha pins s σ H Q I h) λc s1 e=>?_)
 cases c with
 |true=>exact isTrue_and_nil e
 |false=>exact e
theorem CM (ha:PT X a tA):PW X (.BoolOp .Or [a] pos) tA:=by
 intro wh pins s σ H Q I h
 refine isTrue_or (cc (ha pins s σ H Q I h) λc s1 e=>?_)
 cases c with
 |false=>exact isTrue_or_nil e
 |true=>exact e
theorem Cm (ha:PT X a tA)(hb:PW X (.BoolOp .And (b :: rest) pos) tB'):PW X (.BoolOp .And (a :: b :: rest) pos) (Nu tA tB'):=by
 intro wh pins s σ H Q I h
 refine isTrue_and (cc (ha pins s σ H _ I h) λc s1 ⟨H1,I1,q1⟩=>?_)
 cases c with
 |true=>exact hb wh pins s1 σ H1 Q I1 q1
 |false=>exact⟨H1,I1,q1⟩
theorem Hn (ha:PT X a tA)(hb:PW X (.BoolOp .Or (b :: rest) pos) tB'):PW X (.BoolOp .Or (a :: b :: rest) pos) (Oe tA tB'):=by
 intro wh pins s σ H Q I h
 refine isTrue_or (cc (ha pins s σ H _ I h) λc s1 ⟨H1,I1,q1⟩=>?_)
 cases c with
 |true=>exact⟨H1,I1,q1⟩
 |false=>exact hb wh pins s1 σ H1 Q I1 q1
def yn (ha:PT X a tA):PT X (.UnaryOp .Not a pos) (Nx tA):=by
 intro pins s σ H Q I h
 exact isTrue_not (ha pins s σ H (λc H1=>Q (!c) H1) I h)
def Lp (ta tb:TE):TE:=λσ H Q=>ta σ H λx H1=>∃c,x=.bl c/\if c=true then tb σ H1 Q else Q (.bl false) H1
def MR (ta tb:TE):TE:=λσ H Q=>ta σ H λx H1=>∃c,x=.bl c/\if c=true then Q (.bl true) H1 else tb σ H1 Q
def LS (ta:TE):TE:=λσ H Q=>ta σ H λx H1=>∃c,x=.bl c/\Q (.bl (!c)) H1
def HY {op}{t:TE}(h:PE X a t):PE X (.BoolOp op [a] pos) t:=λpins s σ H Q I hw=>BoolOp_one (h pins s σ H Q I hw)
theorem Iw (ha:PE X a ta)(hb:PE X (.BoolOp .And (b :: rest) pos) tb):PE X (.BoolOp .And (a :: b :: rest) pos) (Lp ta tb):=by
 intro pins s σ H Q I h
 refine BoolOp_and (cc (ha pins s σ H _ I h) λv s1 ⟨x,H1,I1,r1,q1⟩=>?_)
 obtain⟨c,rfl,q1⟩:=q1
 cases r1
 refine Px ?_
 cases c with
 |true=>exact hb pins s1 σ H1 Q I1 q1
 |false=>exact⟨.bl false,H1,I1,rfl,q1⟩
theorem Lz (ha:PE X a ta)(hb:PE X (.BoolOp .Or (b :: rest) pos) tb):PE X (.BoolOp .Or (a :: b :: rest) pos) (MR ta tb):=by
 intro pins s σ H Q I h
 refine BoolOp_or (cc (ha pins s σ H _ I h) λv s1 ⟨x,H1,I1,r1,q1⟩=>?_)
 obtain⟨c,rfl,q1⟩:=q1
 cases r1
 refine Px ?_
 cases c with
 |false=>exact hb pins s1 σ H1 Q I1 q1
 |true=>exact⟨.bl true,H1,I1,rfl,q1⟩
def Ic (ha:PE X a ta):PE X (.UnaryOp .Not a pos) (LS ta):=by
 intro pins s σ H Q I h
 refine UnaryOp_ (cc (ha pins s σ H _ I h) λv s1 ⟨x,H1,I1,r1,q1⟩=>?_)
 obtain⟨c,rfl,q1⟩:=q1
 cases r1
 exact not_of (Px ⟨.bl (!c),H1,I1,rfl,q1⟩)
def Oi (t:TT)(ta tb:TE):TE:=λσ H Q=>t σ H λc H1=>if c=true then ta σ H1 Q else tb σ H1 Q
theorem C1 {c:Expr}(hc:PT X c tA)(ha:PE X a ta)(hb:PE X b tb):PE X (.IfExp c a b pos) (Oi tA ta tb):=by
 intro pins s σ H Q I h
 refine wpAny_IfExp (cc (hc pins s σ H _ I h) λd s1 ⟨H1,I1,q1⟩=>?_)
 cases d with
 |true=>exact ha pins s1 σ H1 Q I1 q1
 |false=>exact hb pins s1 σ H1 Q I1 q1
end
def iY (K:Frag)(H:Hp)(a:Addr)(xs:List V):Prop:=
 Rd H a (.lst xs)\/
  ∃(o:Obj) (its:Array Value) (n:Nat),K.lookup a=some o/\o.cls=.type "list"/\o.dict=none/\o.data=.seq its n/\its.size<=sizeLine/\Vals xs its.toList
def hW (K:Frag)(H:Hp)(a:Addr)(xs:List V):Prop:=
 Rd H a (.tup xs)\/
  ∃(o:Obj) (its:Array Value) (n:Nat),K.lookup a=some o/\o.cls=.type "tuple"/\o.data=.seq its n/\its.size<=sizeLine/\Vals xs its.toList/\o.dict=none
def ME:Value->Option V
 | .none=>some .non
 | .bool b=>some (.bl b)
 | .int i _=>some (.int i)
 | .str x _=>some (.str x)
 | .bytes b _=>some (.byt b)
 | .float b _=>some (.flt b)
 | .ref a=>some (.ref a)
 | .type n=>some (.ty n)
 |_=>none
theorem RelV.abs {x:V}{u:Value}(r:RelV x u):ME u=some x:=by
 cases x with
 |non=>cases r;rfl
 |bl _=>cases r;rfl
 |int _=>obtain⟨t,rfl⟩:=r;rfl
 |str _=>obtain⟨t,rfl⟩:=r;rfl
 |byt _=>obtain⟨t,rfl⟩:=r;rfl
 |flt _=>obtain⟨t,rfl⟩:=r;rfl
 |ref _=>cases r;rfl
 |ty _=>cases r;rfl
def RelV.inj {x y:V}{u:Value}(r:RelV x u)(q:RelV y u):x=y:=Option.some.inj (r.abs.symm.trans q.abs)
theorem Vals.inj:∀{xs ys:List V} {us:@GM},Vals xs us->Vals ys us->xs=ys
 |_,_,_,.nil,.nil=>rfl
 |_,_,_,.cons r t,.cons r' t'=>by rw[r.inj r',Vals.inj t t']
section
variable {X:Cx}{pins:@B_}{σ:St}{H:Hp}{s:Shared}{a:Addr}{xs ys:List V}
def Inv.list (I:@At)(h:iY X.K H a xs):∃its:@GM,Vals xs its/\PlainL s.heap a its.toArray/\xs.length<=sizeLine:=by
 rcases h with h | ⟨o,its,n,hk,hc,hd,hs,hz,r⟩
 ·obtain⟨z,its,n,r,e⟩:=h.ok I.hok
  exact⟨its,r,⟨_,n,e,rfl,rfl,rfl⟩,z⟩
 ·refine⟨its.toList,r,⟨o,n,I.kIn a o hk,hc,hd,by simpa using hs⟩,?_⟩
  have e:=r.length
  simp only[Array.length_toList] at e
  omega
def Inv.tuple (I:@At)(h:hW X.K H a xs):∃its:@GM,Vals xs its/\IsTup s.heap a its.toArray/\xs.length<=sizeLine:=by
 rcases h with h | ⟨o,its,n,hk,hc,hs,hz,r,_⟩
 ·obtain⟨z,its,r,p⟩:=h.ok I.hok
  exact⟨its,r,p.isTup,z⟩
 ·refine⟨its.toList,r,⟨o,I.kIn a o hk,hc,n,by simpa using hs⟩,?_⟩
  have e:=r.length
  simp only[Array.length_toList] at e
  omega
def Inv.list_inj (I:@At)(h:iY X.K H a xs)(h':iY X.K H a ys):xs=ys:=by
 obtain⟨its,r,⟨o,n,e,_,_,d⟩,_⟩:=I.list h
 obtain⟨its',r',⟨o',n',e',_,_,d'⟩,_⟩:=I.list h'
 rw[e] at e';cases e'
 rw[d] at d'
 injection d' with d1 _
 have:its=its':=by simpa using congrArg Array.toList d1
 subst this
 exact r.inj r'
def Inv.tuple_inj (I:@At)(h:hW X.K H a xs)(h':hW X.K H a ys):xs=ys:=by
 obtain⟨its,r,⟨o,e,_,n,d⟩,_⟩:=I.tuple h
 obtain⟨its',r',⟨o',e',_,n',d'⟩,_⟩:=I.tuple h'
 rw[e] at e';cases e'
 rw[d] at d'
 injection d' with d1 _
 have:its=its':=by simpa using congrArg Array.toList d1
 subst this
 exact r.inj r'
end
abbrev Cx.wish (X:Cx)(E:@Db):Cx:={X with xe:=E}
abbrev Cx.nox (X:Cx):Cx:=X.wish λ_ _=>False
def Cx.Ok.wish {X:Cx}(ok:X.Ok)(E:@Db):(X.wish E).Ok:=
 ⟨ok.mod,ok.kind,ok.glob,ok.blt,ok.above,ok.inj,ok.has,ok.cab,ok.hd,ok.frames,ok.stk,ok.exf,ok.bs,ok.bsz,ok.noex,ok.exfs,ok.funs,ok.frf⟩
def Cx.Ok.unwish {X:Cx}{E:@Db}(ok:(X.wish E).Ok):X.Ok:=
 ⟨ok.mod,ok.kind,ok.glob,ok.blt,ok.above,ok.inj,ok.has,ok.cab,ok.hd,ok.frames,ok.stk,ok.exf,ok.bs,ok.bsz,ok.noex,ok.exfs,ok.funs,ok.frf⟩
section
variable {X:Cx}{pins:@B_}{σ:St}{H:Hp}{s:Shared}{E:@Db}
def Inv.wish (I:@At)(E:@Db):Inv (X.wish E) pins σ H s:=⟨I.ok.wish E,I.os,I.bare,I.base,I.loc,I.cell,I.free,I.freeC,I.pin,I.hok,I.len⟩
def Inv.unwish (I:Inv (X.wish E) pins σ H s):@At:=⟨I.ok.unwish,I.os,I.bare,I.base,I.loc,I.cell,I.free,I.freeC,I.pin,I.hok,I.len⟩
theorem SP.unwish {D:Ends}{f:Flow}{s':Shared}(h:SP (X.wish E) pins D f s'):SP X pins D f s':=by
 cases f with
 |next=>obtain⟨σ',H',I,q⟩:=h;exact⟨σ',H',I.unwish,q⟩
 |brk=>obtain⟨σ',H',I,q⟩:=h;exact⟨σ',H',I.unwish,q⟩
 |cont=>obtain⟨σ',H',I,q⟩:=h;exact⟨σ',H',I.unwish,q⟩
 |ret u=>obtain⟨v,σ',H',I,r,q⟩:=h;exact⟨v,σ',H',I.unwish,r,q⟩
def pw.nox {st:List Stmt}{t:TS}(h:pw X.nox st t):pw X st t:=λpins s σ H D I hw=>
 Pl (h pins s σ H D (I.wish _) hw) (λ_ _ q=>q.unwish) λ_ _ z=>False.elim z
end
section
variable {X:Cx}{st:Stmt}{rest:List Stmt}{t u:TS}{e:Expr}{te:TE}{pos:Pos}
def Kn:TS:=λD σ H=>D.nx σ H
def NI (t u:TS):TS:=λD σ H=>t {D with nx:=u D} σ H
def uz:pw X [] Kn:=λ_ _ σ H _ I h=>QO ⟨σ,H,I,h⟩
theorem dz (h1:PS X st t)(h2:pw X rest u):pw X (st :: rest) (NI t u):=by
 intro pins s σ H D I h
 refine wpAny_execs_cons (cc (h1 pins s σ H {D with nx:=u D} I h) λf s1 q=>?_)
 cases f with
 |next=>
  obtain⟨σ',H',I',q⟩:=q
  exact h2 pins s1 σ' H' D I' q
 |ret v=>exact q
 |brk=>exact q
 |cont=>exact q
theorem eM (h1:PS X st t):pw X [st] t:=by
 intro pins s σ H D I h
 refine wpAny_execs_cons (cc (h1 pins s σ H D I h) λf s1 q=>?_)
 cases f with
 |next=>exact QO q
 |ret v=>exact q
 |brk=>exact q
 |cont=>exact q
def Inv.quiet {pins:@B_}{σ:St}{H:Hp}{s:Shared}(I:@At):interactive X.env=false:=by simp[interactive,I.ok.kind]
def KN (te:TE):TS:=λD σ H=>te σ H λ_ H1=>D.nx σ H1
def p8 (he:PE X e te)(hs:swapsWith e none pos.line X.env=pure false:=by rfl):PS X (.Expr e pos) (KN te):=by
 intro pins s σ H D I h
 exact wpAny_Expr_any (cc (he pins s σ H _ I h) λv s1 ⟨x,H1,I1,r1,q1⟩=>⟨σ,H1,I1,q1⟩) I.quiet hs
def M6 (te:TE):TS:=λD σ H=>te σ H D.rt
def jD (he:PE X e te):PS X (.Return (some e) pos) (M6 te):=by
 intro pins s σ H D I h
 exact wpAny_Return_some (cc (he pins s σ H _ I h) λv s1 ⟨x,H1,I1,r1,q1⟩=>⟨x,σ,H1,I1,r1,q1⟩)
def Ng (c:TT)(t u:TS):TS:=λD σ H=>c σ H λb H1=>if b=true then t D σ H1 else u D σ H1
theorem Dl {c:Expr}{a b:List Stmt}{tc:TT}(hc:PT X c tc)(ha:pw X a t)(hb:pw X b u):PS X (.If c a b pos) (Ng tc t u):=by
 intro pins s σ H D I h
 refine wpAny_If (cc (hc pins s σ H _ I h) λd s1 ⟨H1,I1,q1⟩=>?_)
 cases d with
 |true=>exact ha pins s1 σ H1 D I1 q1
 |false=>exact hb pins s1 σ H1 D I1 q1
end
abbrev TG:=V->St->Hp->(St->Hp->Prop)->Prop
abbrev IP:=List V->St->Hp->(St->Hp->Prop)->Prop
def PG (X:Cx)(target:Expr)(t:TG):Prop:=
 ∀(pins:@B_) (s:Shared) (σ:St) (H:Hp) (v:V) (u:Value) (Q:St->Hp->Prop),@At->RelV v u->t v σ H Q->
  wpAny @Cl X.A (assign target X.env u) (λ_ s'=>∃σ' H',Inv X pins σ' H' s'/\Q σ' H') X.xe s
def Mi (X:Cx)(ts:List Expr)(t:IP):Prop:=
 ∀(pins:@B_) (s:Shared) (σ:St) (H:Hp) (vs:List V) (us:@GM) (Q:St->Hp->Prop),@At->Vals vs us->t vs σ H Q->
  wpAny @Cl X.A (assignInOrder ((assignEach ts X.env).map (·.2)) us) (λ_ s'=>∃σ' H',Inv X pins σ' H' s'/\Q σ' H') X.xe s
abbrev Jn:=V->V->V->Hp->(Hp->Prop)->Prop
def Kv (X:Cx)(t:Jn):Prop:=
 ∀(pins:@B_) (s:Shared) (σ:St) (H:Hp) (o i v:V) (ov iv u:Value) (Q:Hp->Prop),@At->RelV o ov->RelV i iv->RelV v u->t o i v H Q->
  wpAny @Cl X.A (setItem ov iv u) (λ_ s'=>∃H',Inv X pins σ H' s'/\Q H') X.xe s
section
variable {X:Cx}{pos:Pos}
def la (i:Nat):TG:=λv σ H Q=>Q (σ.set i (some v)) H
def cS {i:Nat}{x:Str}(hN:X.N.Nodup)(hi:X.N[i]? =some x)(hx:Loc X.env.scope x)(hf:X.fn x=true\/X.env.scope.names.lookup x=some .local:=by first |exact .inl rfl |exact .inr rfl |assumption):PG X (.Name x pos) (la i):=by
 intro pins s σ H v u Q I r h
 exact wpAny_assign_Name (oM I hN hi hx r (λs' I'=>⟨_,H,I',h⟩) hf)
def Ga:IP:=λvs σ H Q=>vs= []/\Q σ H
def qp (t:TG)(u:IP):IP:=λvs σ H Q=>∃v r,vs=v :: r/\t v σ H λσ' H'=>u r σ' H' Q
def og:Mi X [] Ga:=by
 intro pins s σ H vs us Q I r h
 obtain⟨e,h⟩:=h
 subst e
 cases r
 exact assignInOrder_nil ⟨σ,H,I,h⟩
theorem dW {e:Expr}{es:List Expr}{t:TG}{u:IP}(h1:PG X e t)(h2:Mi X es u)
  (hs:(assignEach (e :: es) X.env).map (·.2)=assign e X.env :: (assignEach es X.env).map (·.2):=by rfl):Mi X (e :: es) (qp t u):=by
 intro pins s σ H vs us Q I r h
 obtain⟨v,vr,e1,h⟩:=h
 subst e1
 cases r with
 |cons r rr=>
  rw[hs]
  refine assignInOrder_cons (cc (h1 pins s σ H _ _ _ I r h) λ_ s1 ⟨σ1,H1,I1,q1⟩=>?_)
  exact h2 pins s1 σ1 H1 _ _ Q I1 rr q1
def Gn (K:Frag)(n:Nat)(t:IP):TG:=λv σ H Q=>∃a xs,v=.ref a/\hW K H a xs/\xs.length=n/\t xs σ H Q
def rG {es:List Expr}{k:Nat}{t:IP}{n:Nat}(hc:X.calm=true)(h:Mi X es t)
  (hn:(assignEach es X.env).length=n:=by rfl) (hst:(assignEach es X.env).findIdx? (·.1)=none:=by rfl):PG X (.Tuple es k pos) (Gn X.K n t):=by
 intro pins s σ H v u Q I r hw
 obtain⟨a,xs,e1,hq,hl,hw⟩:=hw
 subst e1
 cases r
 obtain⟨its,rv,ht,hz⟩:=I.tuple hq
 refine assign_Tuple_tuple (I.ok.hd hc) ht (by simp[hn,<-hl,rv.length]) hst λh' hx=>?_
 have I1:Inv X pins σ H {s with heap:=h'}:=I.kept (t':=s.toks) λb o e=>hx b o (OX (Oz e)) e
 exact h pins _ σ H xs _ Q I1 (by simpa using rv) hw
def Mp (to ti:TE)(t:Jn):TG:=λv σ H Q=>to σ H λo H1=>ti σ H1 λi H2=>t o i v H2 λH3=>Q σ H3
def uI {o i:Expr}{to ti:TE}{t:Jn}(ho:PE X o to)(hi:PE X i ti)(hs:Kv X t)
  (ha:∀v,assign (.Subscript o i pos) X.env v=(do
   let ov <-holding [v] (eval o X.env)
   let iv <-holding [v,ov] (eval i X.env)
   standAt pos
   holding [v,ov,iv] (setItem ov iv v)
   release [v,ov,iv] []):=by intro _;rfl):PG X (.Subscript o i pos) (Mp to ti t):=by
 intro pins s σ H v u Q I r h
 rw[ha]
 refine Ou (P8 (cc (ho pins s σ H _ I h) λov s1 ⟨x,H1,I1,r1,q1⟩=>?_))
 refine Ou (P8 (cc (hi pins s1 σ H1 _ I1 q1) λiv s2 ⟨y,H2,I2,r2,q2⟩=>?_))
 refine Ou (wpAny_standAt (Ou (P8 (cc (hs pins s2 σ H2 x y v ov iv u _ I2 r1 r2 r q2) λ_ s3 ⟨H3,I3,q3⟩=>?_))))
 exact wpAny_release ⟨σ,H3,I3,q3⟩
def KC (te:TE)(g:TG):TS:=λD σ H=>te σ H λx H1=>g x σ H1 D.nx
def qB {tg e:Expr}{te:TE}{g:TG}(he:PE X e te)(hg:PG X tg g)(hs:swapsWithSole [tg] e pos.line X.env=pure false:=by rfl)(hw:swappedStores [tg] e X.env=pure none:=by rfl)
  (h1:(assignEach [tg] X.env).map (·.2)= [assign tg X.env]:=by rfl):PS X (.Assign [tg] e pos) (KC te g):=by
 intro pins s σ H D I h
 refine wpAny_Assign_stores (cc (he pins s σ H _ I h) λv s1 ⟨x,H1,I1,r1,q1⟩=>?_) hs hw
 rw[h1]
 exact cc (hg pins s1 σ H1 x v _ I1 r1 q1) λ_ s2 q=>q
def lP {i:Nat}{x:Str}{e:Expr}{te:TE}{pos':Pos}(hN:X.N.Nodup)(hi:X.N[i]? =some x)(hx:Loc X.env.scope x)(he:PE X e te)(hs:swapsWith e (some (.Name x pos')) pos.line X.env=pure false:=by rfl)(hf:X.fn x=true\/X.env.scope.names.lookup x=some .local:=by first |exact .inl rfl |exact .inr rfl |assumption) :
  PS X (.Assign [.Name x pos'] e pos) (KC te (la i)):=by
 intro pins s σ H D I h
 refine wpAny_Assign_Name (cc (he pins s σ H _ I h) λv s1 ⟨y,H1,I1,r1,q1⟩=>?_) hs
 exact oM I1 hN hi hx r1 (λs2 I2=>⟨_,H1,I2,q1⟩) hf
end
section
variable {X:Cx}{pos:Pos}
def ID (c:TT)(tb:TS):TS:=λD σ H=>∃W:Nat->St->Hp->Prop,(∃m,W m σ H)/\∀m σ H,W m σ H->
 c σ H λb H1=>if b=true then ∃N:St->Hp->Prop,(∀σ' H',N σ' H'->∃m',m' < m/\W m' σ' H')/\tb {D with nx:=N,ct:=N,bk:=D.nx} σ H1 else D.nx σ H1
theorem C7 {c:Expr}{body:List Stmt}{tc:TT}{tb:TS}(hp:PassesOwn @Cl X.A X.env X.xe)(hc:PT X c tc)(hb:pw X body tb):PS X (.While c body [] pos) (ID tc tb):=by
 intro pins s σ H D I h
 obtain⟨W,⟨m0,w0⟩,turn⟩:=h
 refine wpAny_While (codeAny_whileLoop (λn s'=>∃σ' H',Inv X pins σ' H' s'/\W n σ' H') ?_ m0 ⟨σ,H,I,w0⟩)
 rintro n s1 ⟨σ1,H1,I1,w1⟩
 refine Qn hp (cc (hc pins s1 σ1 H1 _ I1 (turn n σ1 H1 w1)) λb s2 ⟨H2,I2,q2⟩=>?_)
 cases b with
 |true=>
  obtain⟨N,hN,q2⟩:=q2
  rw[Ov rfl]
  refine Qn hp (cc (hb pins s2 σ1 H2 _ I2 q2) λf s3 q3=>?_)
  cases f with
  |next=>
   obtain⟨σ3,H3,I3,n3⟩:=q3
   obtain⟨m',hm,w3⟩:=hN σ3 H3 n3
   exact⟨m',hm,σ3,H3,I3,w3⟩
  |cont=>
   obtain⟨σ3,H3,I3,n3⟩:=q3
   obtain⟨m',hm,w3⟩:=hN σ3 H3 n3
   exact⟨m',hm,σ3,H3,I3,w3⟩
  |brk=>exact q3
  |ret v=>exact q3
 |false=>
  rw[OA OI]
  exact QO ⟨σ1,H2,I2,q2⟩
end
structure It where
 go:Nat->Hp->Prop
 yld:Nat->Hp->V->Hp->Prop
 stop:Nat->Hp->Prop
def g9 (X:Cx)(pins:@B_)(H:Hp)(b:Addr):Prop:=
 H b=none/\b≠X.env.locals/\b∉X.fs/\(b∈X.ex\/X.s₀.heap.objs.size<=b)/\(∀x c,X.env.cells.lookup x=some c->c≠b)/\∀p∈X.pn ++ pins,p.1≠b
def Inv.fpOk {X:Cx}{pins:@B_}{σ:St}{H H':Hp}{s:Shared}{b:Addr}(I:@At)(hb:s.heap.objs.size<=b)(hn:H' b=none):g9 X pins H' b:=by
 refine⟨hn,Nat.ne_of_gt (OO I.lt hb),I.nofs hb,.inr (Pw I.sz hb),λx c e z=>?_,λp hp z=>?_⟩
 ·obtain⟨v,q⟩:=I.cell x c e
  exact absurd (OO q.lt (by rw[z];exact hb)) (OU _)
 ·exact absurd (OO (Oz (I.pin p hp).1) (by rw[z];exact hb)) (OU _)
structure Turn (P:Program)(w:World)(K:Frag)(tg:Expr)(J:It)(fp:List Addr)(it:Addr)(tn:Nat->Heap->Prop):Prop where
 mem:it∈fp
 obj:∀i h,tn i h->∀b∈fp,∃o,h.get? b=some o/\∀v,o.data≠.cell v
 keep:∀i h h',tn i h->(∀b∈fp,∀o,h.get? b=some o->h'.get? b=some o)->tn i h'
 item:∀(X:Cx),X.prog=P->X.w=w->X.K=K->X.calm=true->∀(i:Nat) (pins:@B_) (s:Shared) (σ:St) (H:Hp) (E:@Db),@At->(∀b∈fp,g9 X pins H b)->tn i s.heap->J.go i H->
  wpAny (model P w) X.A (pyNext (.ref it)) (λr s1=>∃u,r=some u/\
   wpAny (model P w) X.A (letOwnedTupleGo tg (.ref it) u) (λ_ s2=>∃x H',Inv X pins σ H' s2/\RelV x u/\J.yld i H x H'/\tn (i + 1) s2.heap/\∀b∈fp,H' b=none) E s1) E s
 done:∀(X:Cx),X.prog=P->X.w=w->X.K=K->X.calm=true->∀(i:Nat) (pins:@B_) (s:Shared) (σ:St) (H:Hp) (E:@Db),@At->(∀b∈fp,g9 X pins H b)->tn i s.heap->J.stop i H->
  wpAny (model P w) X.A (pyNext (.ref it)) (λr s1=>r=none/\Inv X pins σ H s1) E s
 self:∀(A:Around) (i:Nat) (s:Shared) (Q:@Db) (E:@Db),tn i s.heap->Q (.ref it) s->wpAny (model P w) A (pyIter (.ref it)) Q E s
abbrev TI:=St->Hp->(It->Hp->Prop)->Prop
def NR (X:Cx)(pins:@B_)(σ:St)(tg:Expr)(R:It->Hp->Prop)(itv:Value)(s2:Shared):Prop:=
 ∃(it:Addr) (fp:List Addr) (tn:Nat->Heap->Prop) (J:It) (H':Hp),itv=.ref it/\Inv X pins σ H' s2/\Turn X.prog X.w X.K tg J fp it tn/\tn 0 s2.heap/\(∀b∈fp,g9 X pins H' b)/\R J H'
def PI (X:Cx)(tg iter:Expr)(wi:TI):Prop:=
 ∀(pins:@B_) (s:Shared) (σ:St) (H:Hp) (R:It->Hp->Prop),@At->wi σ H R->
  wpAny @Cl X.A (eval iter X.env) (λv s1=>wpAny @Cl X.A (pyIter v) (NR X pins σ tg R) X.xe s1) X.xe s
def zu {M:Model}{A:Around}{E:@Db}{s:Shared}{tg:Expr}{it:Addr}{u:Value}{o:Obj}{n:String}{vs:Array Value}{Q:Unit->Shared->Prop}(ho:s.heap.get? it=some o)(hc:o.cls=.type n)(hd:o.data=.fields vs)
  (hn: ["enumerate","zip","dict_itemiterator","dict_reverseitemiterator","odict_iterator","itertools.zip_longest","itertools.pairwise"].contains n=false) (hQ:Q () s):wpAny M A (letOwnedTupleGo tg (.ref it) u) Q E s:=by
 unfold letOwnedTupleGo
 cases tg <;> first
  |exact OZ hQ
  | (cases u <;> first
    |exact OZ hQ
    | (refine Ou (wpAny_load ho ?_)
       rw[hc,hd]
       show wpAny M A (if (["enumerate","zip","dict_itemiterator","dict_reverseitemiterator","odict_iterator","itertools.zip_longest","itertools.pairwise"].contains n && vs[0]? == some (rawInt _))=true then _ else _) Q E s
       rw[OA (by intro h;rw[hn,Bool.false_and] at h;cases h)]
       exact OZ hQ))
def Bv (K:Frag)(a:Addr):It:=
 ⟨λi H=>∃xs x,iY K H a xs/\xs[i]? =some x,λi H x H'=>H'=H/\∀xs,iY K H a xs->xs[i]? =some x,λi H=>∃xs,iY K H a xs/\xs.length<=i⟩
def Hy (K:Frag)(a:Addr):It:=
 ⟨λi H=>∃xs x,hW K H a xs/\xs[i]? =some x,λi H x H'=>H'=H/\∀xs,hW K H a xs->xs[i]? =some x,λi H=>∃xs,hW K H a xs/\xs.length<=i⟩
def Bm (lo:Int)(n:Nat):It:=⟨λi _=>i < n,λi H x H'=>H'=H/\x=.int (lo + i),λi _=>n<=i⟩
def oV {P:Program}{w:World}{K:Frag}{tg:Expr}(a it:Addr):Turn P w K tg (Bv K a) [it] it (λi h=>h.IsListIter it a i) where
 mem:=by simp
 obj:=λi h st b hb=>by
  have e:b=it:=by simpa using hb
  subst e
  obtain⟨o,e,c,d⟩:=st
  exact⟨o,e,λv z=>by rw[d] at z;cases z⟩
 keep:=λi h h' st k=>st.at λo e=>k it @IN o e
 item:=by
  intro X hP hw hK hc i pins s σ H E I hf st hg
  subst hP hw hK
  obtain⟨xs,x,hq,hx⟩:=hg
  obtain⟨its,rv,p,hz⟩:=I.list hq
  obtain⟨u,hu,ru⟩:=rv.get hx
  obtain⟨f0,f1,f2,f3,f4,f5⟩:=hf it @IN
  refine wpAny_pyNext_list_item st p.isList (x:=u) (by simpa using hu) λh' st' sb=>?_
  have I1:Inv X pins σ H {s with heap:=h'}:=I.turned (t':=s.toks) (λb o hb e=>(sb.2 b hb).trans e) f0 f1 f3 f4 f5
  obtain⟨o,e,c,d⟩:=id st'
  exact⟨u,rfl,zu (s:={s with heap:=h'}) e c d @Go ⟨x,H,I1,ru,⟨rfl,λys hy=>by rw[I.list_inj hy hq];exact hx⟩,st',λb hb=>(hf b hb).1⟩⟩
 done:=by
  intro X hP hw hK hc i pins s σ H E I hf st hg
  subst hP hw hK
  obtain⟨xs,hq,hx⟩:=hg
  obtain⟨its,rv,p,hz⟩:=I.list hq
  obtain⟨f0,f1,f2,f3,f4,f5⟩:=hf it @IN
  have hl:=rv.length
  exact wpAny_pyNext_list_end (I.ok.hd hc) st p.isList (by simp;omega) λh' eb=>⟨rfl,I.turned (t':=s.toks) (λb o hb e=>eb b o hb e) f0 f1 f3 f4 f5⟩
 self:=λ_ _ _ _ _ st h=>wpAny_pyIter_listiter st h
def se {P:Program}{w:World}{K:Frag}{tg:Expr}(a it:Addr):Turn P w K tg (Hy K a) [it] it (λi h=>h.IsTupleIter it a i) where
 mem:=by simp
 obj:=λi h st b hb=>by
  have e:b=it:=by simpa using hb
  subst e
  obtain⟨o,e,c,d⟩:=st
  exact⟨o,e,λv z=>by rw[d] at z;cases z⟩
 keep:=λi h h' st k=>st.at λo e=>k it @IN o e
 item:=by
  intro X hP hw hK hc i pins s σ H E I hf st hg
  subst hP hw hK
  obtain⟨xs,x,hq,hx⟩:=hg
  obtain⟨its,rv,p,hz⟩:=I.tuple hq
  obtain⟨u,hu,ru⟩:=rv.get hx
  obtain⟨f0,f1,f2,f3,f4,f5⟩:=hf it @IN
  refine wpAny_pyNext_tuple_item st (show s.heap.IsTuple a its.toArray from p) (x:=u) (by simpa using hu) λh' st' sb=>?_
  have I1:Inv X pins σ H {s with heap:=h'}:=I.turned (t':=s.toks) (λb o hb e=>(sb.2 b hb).trans e) f0 f1 f3 f4 f5
  obtain⟨o,e,c,d⟩:=id st'
  exact⟨u,rfl,zu (s:={s with heap:=h'}) e c d @Go ⟨x,H,I1,ru,⟨rfl,λys hy=>by rw[I.tuple_inj hy hq];exact hx⟩,st',λb hb=>(hf b hb).1⟩⟩
 done:=by
  intro X hP hw hK hc i pins s σ H E I hf st hg
  subst hP hw hK
  obtain⟨xs,hq,hx⟩:=hg
  obtain⟨its,rv,p,hz⟩:=I.tuple hq
  obtain⟨f0,f1,f2,f3,f4,f5⟩:=hf it @IN
  have hl:=rv.length
  exact wpAny_pyNext_tuple_end (I.ok.hd hc) st (show s.heap.IsTuple a its.toArray from p) (by simp;omega) λh' eb=>⟨rfl,I.turned (t':=s.toks) (λb o hb e=>eb b o hb e) f0 f1 f3 f4 f5⟩
 self:=λ_ _ _ _ _ st h=>wpAny_pyIter_tupleiter st h
def y7 {P:Program}{w:World}{K:Frag}{tg:Expr}(it:Addr)(lo:Int)(n:Nat):Turn P w K tg (Bm lo n) [it] it (λi h=>IsRangeIter h it (lo + (i:Nat) * 1) ((n:Int) - (i:Nat)) 1) where
 mem:=by simp
 obj:=λi h st b hb=>by
  have e:b=it:=by simpa using hb
  subst e
  exact⟨_,st,λv z=>by
   have z':Data.fields _=Data.cell v:=z
   cases z'⟩
 keep:=λi h h' st k=>k it @IN _ st
 item:=by
  intro X hP hw hK hc i pins s σ H E I hf st hg
  subst hP hw hK
  obtain⟨f0,f1,f2,f3,f4,f5⟩:=hf it @IN
  have W:=Walks.range (prog:=X.prog) (w:=X.w) (I.ok.hd hc) it lo 1 n
  refine W.item i s _ _ hg st λv h' tk hv st' kk=>?_
  obtain⟨t,rfl⟩:=hv
  have I1:Inv X pins σ H {s with heap:=h',toks:=tk}:=I.turned (λb o hb e=>kk b o (by simpa using hb) e) f0 f1 f3 f4 f5
  refine⟨_,rfl,zu (s:={s with heap:=h',toks:=tk}) (n:="range_iterator") st' rfl rfl @Go ⟨.int (lo + i),H,I1,⟨t,?_⟩,⟨rfl,rfl⟩,st',λb hb=>(hf b hb).1⟩⟩
  rw[Int.mul_one]
 done:=by
  intro X hP hw hK hc i pins s σ H E I hf st hg
  subst hP hw hK
  obtain⟨f0,f1,f2,f3,f4,f5⟩:=hf it @IN
  exact wpAny_pyNext_range_end (I.ok.hd hc) st (by have:n<=i:=hg;omega) λh' eb=>⟨rfl,I.turned (t':=s.toks) (λb o hb e=>eb b o hb e) f0 f1 f3 f4 f5⟩
 self:=λ_ _ _ _ _ st h=>wpAny_pyIter_rangeiter st h
section
variable {X:Cx}{tg:Expr}
def LC (K:Frag)(tl:TE):TI:=λσ H R=>tl σ H λx H1=>∃a,x=.ref a/\(∃xs,iY K H1 a xs)/\R (Bv K a) H1
def As {l:Expr}{tl:TE}(hl:PE X l tl):PI X tg l (LC X.K tl):=by
 intro pins s σ H R I h
 refine cc (hl pins s σ H _ I h) λv s1 ⟨x,H1,I1,r1,q1⟩=>?_
 obtain⟨a,e,⟨xs,hq⟩,q⟩:=q1
 subst e
 cases r1
 obtain⟨its,rv,p,hz⟩:=I1.list hq
 refine QF p.isList ?_
 refine⟨s1.heap.objs.size,[s1.heap.objs.size],_,_,H1,rfl,I1.kept (t':=s1.toks) λb o e=>Ow _ e,oV a _,⟨_,OQ _ rfl,rfl,rfl⟩,λb hb=>?_,q⟩
 have e:b=s1.heap.objs.size:=by simpa using hb
 subst e
 exact I1.fpOk (Ox _) (I1.hok.fresh (Ox _))
def Dw {pins:@B_}{σ:St}{H:Hp}{s:Shared}{R:It->Hp->Prop}{E:@Db}{lo hi:Int}{t u v:Tok}{tk:Nat}(I:@At)(h1: -(2 ^ 62)<=lo)(h2:lo < 2 ^ 62)(h3: -(2 ^ 62)<=hi)(h4:hi < 2 ^ 62)
  (q:R (Bm lo (hi - lo).toNat) H):wpAny @Cl X.A (pyIter (.ref s.heap.objs.size)) (NR X pins σ tg R) E {s with heap:=s.heap.push {cls:=.type "range",data:=.fields #[.int lo t,.int hi u,.int 1 v]},toks:=tk}:=by
 refine wpAny_pyIter_range (IsRange.new ..) (small_one h1 h2 h3 h4) ?_
 have I1:Inv X pins σ H {s with heap:=s.heap.push {cls:=.type "range",data:=.fields #[.int lo t,.int hi u,.int 1 v]},toks:=tk}:=I.kept λb o e=>Ow _ e
 refine⟨(s.heap.push {cls:=.type "range",data:=.fields #[.int lo t,.int hi u,.int 1 v]}).objs.size,[(s.heap.push {cls:=.type "range",data:=.fields #[.int lo t,.int hi u,.int 1 v]}).objs.size],_,_,H,rfl,
  I1.kept (t':=tk) λb o e=>Ow _ e,y7 _ lo (hi - lo).toNat,?_,λb hb=>?_,q⟩
 ·have e1:lo + ((0:Nat):Int) * 1=lo:=by simp
  have e2:(((hi - lo).toNat:Nat):Int) - ((0:Nat):Int)=Builtin.Range.rangeSize lo hi 1:=by rw[rangeSize_one];split <;> omega
  show IsRangeIter _ _ (lo + ((0:Nat):Int) * 1) ((((hi - lo).toNat:Nat):Int) - ((0:Nat):Int)) 1
  rw[e1,e2]
  exact OQ _ rfl
 ·have e:b=(s.heap.push {cls:=.type "range",data:=.fields #[.int lo t,.int hi u,.int 1 v]}).objs.size:=by simpa using hb
  subst e
  exact I1.fpOk (Ox _) (I1.hok.fresh (Ox _))
def Hh (ta:TA):TI:=λσ H R=>ta σ H λvs H1=>∃j:Int,vs= [.int j]/\ -(2 ^ 62)<=j/\j < 2 ^ 62/\R (Bm 0 j.toNat) H1
theorem l8 {a:Expr}{ta:TA}{p pos:Pos}(hg:Gl X "range")(hm:X.mg "range"=none)(ha:PA X [a] ta)(hs:starEach [a] X.env= [(false,eval a X.env)]:=by rfl):PI X tg (.Call (.Name "range" p) [a] [] pos) (Hh ta):=by
 intro pins s σ H R I h
 refine Call_ (nu I hg hm boot_range (Qj (cc (ha pos pins s σ H _ I h) λus s1 ⟨vs,H1,I1,r1,q1⟩=>?_) hs rfl))
 obtain⟨j,e,q1,q2,q⟩:=q1
 subst e
 cases r1 with
 |cons r rr=>
  cases rr
  obtain⟨t,rfl⟩:=r
  exact call_range_1 (Dw I1 (@AT) (@AT) q1 q2 (by simpa using q))
def My (wi:TI)(g:TG)(tb:TS):TS:=λD σ H=>wi σ H λJ H1=>∃W:Nat->Nat->St->Hp->Prop,(∃m,W 0 m σ H1)/\∀i m σ H,W i m σ H->
 (J.stop i H/\D.nx σ H)\/(J.go i H/\∃N:St->Hp->Prop,(∀σ' H',N σ' H'->∃m',m' < m/\W (i + 1) m' σ' H')/\∀x H',J.yld i H x H'->g x σ H' λσ2 H2=>tb {D with nx:=N,ct:=N,bk:=D.nx} σ2 H2)
def pk (fp:List Addr)(h:Heap):@B_:=fp.filterMap λb=>(h.get? b).map λo=>(b,o)
def gj {fp:List Addr}{h:Heap}{b:Addr}{o:Obj}(hb:b∈fp)(e:h.get? b=some o):(b,o)∈pk fp h:=Qk.mpr ⟨b,hb,by rw[e];rfl⟩
theorem BI {fp:List Addr}{h:Heap}{p:Addr×Obj}(hp:p∈pk fp h):p.1∈fp/\h.get? p.1=some p.2:=by
 obtain⟨b,hb,e⟩:=Qk.mp hp
 cases q:h.get? b with
 |none=>rw[q] at e;cases e
 |some o=>
  rw[q] at e
  have e':(b,o)=p:=Option.some.inj e
  subst e'
  exact⟨hb,q⟩
def Inv.pinned {pins:@B_}{σ:St}{H:Hp}{s:Shared}{fp:List Addr}(I:@At)(hf:∀b∈fp,g9 X pins H b)(ho:∀b∈fp,∃o,s.heap.get? b=some o/\∀v,o.data≠.cell v):Inv X (pins ++ pk fp s.heap) σ H s:=
 I.pins_of λp hp=>(OR.mp hp).elim (λz=>I.pin p (OS _ z)) λz=>by
  obtain⟨hb,e⟩:=BI z
  obtain⟨f0,f1,f2,_⟩:=hf p.1 hb
  obtain⟨o,e',d⟩:=ho p.1 hb
  rw[e] at e';cases e'
  exact⟨e,f0,f1,f2,d⟩
def Inv.unpinned {pins pl:@B_}{σ:St}{H:Hp}{s:Shared}(I:Inv X (pins ++ pl) σ H s):@At:=I.pins_of λp hp=>I.pin p (OS _ (P9 _ hp))
def va {iter:Expr}{body:List Stmt}{wi:TI}{g:TG}{tb:TS}{pos:Pos}(hp:PassesOwn @Cl X.A X.env X.xe)(hc:X.calm=true)(hi:PI X tg iter wi)(hg:PG X tg g)(hb:pw X body tb)
  (hs:∀x,foldedSetIterable iter X.env x=pure x:=by intro _;rfl):PS X (.For tg iter body [] pos) (My wi g tb):=by
 intro pins s σ H D I h
 refine wpAny_For (cc (hi pins s σ H _ I h) λv s1 h1=>cc h1 λitv s2 h2=>?_) hs
 obtain⟨it,fp,tn,J,H2,e,I2,T,st2,f2,W,⟨m0,w0⟩,turn⟩:=h2
 subst e
 have stat:∀{H':Hp},(∀b∈fp,H' b=none)->∀b∈fp,g9 X pins H' b:=λhn b hb=>⟨hn b hb,(f2 b hb).2⟩
 refine codeAny_forLoop_any (λn s'=>∃i σ' H',Inv X pins σ' H' s'/\tn i s'.heap/\(∀b∈fp,H' b=none)/\W i n σ' H') ?_ m0 ⟨0,σ,H2,I2,st2,λb hb=>(f2 b hb).1,w0⟩
 rintro n s3 ⟨i,σ3,H3,I3,st3,fr3,w3⟩
 rcases turn i n σ3 H3 w3 with⟨stop,qn⟩ | ⟨go,N,hN,step⟩
 ·refine Qn hp (cc (T.done X rfl rfl rfl hc i pins s3 σ3 H3 X.xe I3 (stat fr3) st3 stop) λr s4 ⟨hr,I4⟩=>?_)
  subst hr
  exact QO ⟨σ3,H3,I4,qn⟩
 ·refine Qn hp (cc (T.item X rfl rfl rfl hc i pins s3 σ3 H3 X.xe I3 (stat fr3) st3 go) λr s4 ⟨u,hr,h4⟩=>?_)
  subst hr
  refine Qn hp (cc h4 λ_ s5 ⟨x,H5,I5,r5,y5,st5,fr5⟩=>?_)
  have I5':=I5.pinned (stat fr5) (T.obj _ _ st5)
  refine Qn hp (cc (hg _ s5 σ3 H5 x u _ I5' r5 (step x H5 y5)) λ_ s6 ⟨σ6,H6,I6,q6⟩=>?_)
  refine Qn hp (cc (hb _ s6 σ6 H6 _ I6 q6) λf s7 q7=>?_)
  have again:∀{σ7:St} {H7:Hp},Inv X (pins ++ pk fp s5.heap) σ7 H7 s7->N σ7 H7->∃m,m < n/\∃i σ' H',Inv X pins σ' H' s7/\tn i s7.heap/\(∀b∈fp,H' b=none)/\W i m σ' H':=λ{σ7 H7} I7 n7=>by
   obtain⟨m',hm,w7⟩:=hN σ7 H7 n7
   refine⟨m',hm,i + 1,σ7,H7,I7.unpinned,T.keep _ _ _ st5 λb hb o e=>(I7.pin (b,o) (OS _ (OS _ (gj hb e)))).1,λb hb=>?_,w7⟩
   obtain⟨o,e,d⟩:=T.obj _ _ st5 b hb
   exact (I7.pin (b,o) (OS _ (OS _ (gj hb e)))).2.1
  cases f with
  |next=>obtain⟨σ7,H7,I7,n7⟩:=q7;exact again I7 n7
  |cont=>obtain⟨σ7,H7,I7,n7⟩:=q7;exact again I7 n7
  |brk=>obtain⟨σ7,H7,I7,q7⟩:=q7;exact⟨σ7,H7,I7.unpinned,q7⟩
  |ret v=>obtain⟨x7,σ7,H7,I7,r7,q7⟩:=q7;exact⟨x7,σ7,H7,I7.unpinned,r7,q7⟩
end
def wx {K:Frag}{a:Addr}{xs:List V}{g:TG}{tb:TS}{D:Ends}{σ:St}{H:Hp}(Pv:Nat->St->Hp->Prop)(h0:Pv 0 σ H)(hl:∀i σ H,i<=xs.length->Pv i σ H->iY K H a xs)
  (hs:∀i x σ H,xs[i]? =some x->Pv i σ H->g x σ H λσ2 H2=>tb {D with nx:=Pv (i + 1),ct:=Pv (i + 1),bk:=D.nx} σ2 H2) (hd:∀σ H,Pv xs.length σ H->D.nx σ H) :
  ∃W:Nat->Nat->St->Hp->Prop,(∃m,W 0 m σ H)/\∀i m σ H,W i m σ H->
   ((Bv K a).stop i H/\D.nx σ H)\/((Bv K a).go i H/\∃N:St->Hp->Prop,(∀σ' H',N σ' H'->∃m',m' < m/\W (i + 1) m' σ' H')/\∀x H',(Bv K a).yld i H x H'->g x σ H' λσ2 H2=>tb {D with nx:=N,ct:=N,bk:=D.nx} σ2 H2):=by
 refine⟨λi m σ H=>m=xs.length - i/\i<=xs.length/\Pv i σ H,⟨xs.length,by simp,O7 _,h0⟩,?_⟩
 rintro i m σ H ⟨rfl,hi,p⟩
 have q:=hl i σ H hi p
 by_cases hlt:i < xs.length
 ·refine .inr ⟨⟨xs,xs[i],q,by simp[hlt]⟩,Pv (i + 1),λσ' H' p'=>⟨xs.length - (i + 1),@AT,rfl,hlt,p'⟩,λx H' y=>?_⟩
  obtain⟨e,y⟩:=y
  subst e
  exact hs i x σ _ (y xs q) p
 ·have e:i=xs.length:=@AT
  subst e
  exact .inl ⟨⟨xs,q,Ox _⟩,hd σ H p⟩
def Gr {K:Frag}{a:Addr}{xs:List V}{g:TG}{tb:TS}{D:Ends}{σ:St}{H:Hp}(Pv:Nat->St->Hp->Prop)(h0:Pv 0 σ H)(hl:∀i σ H,i<=xs.length->Pv i σ H->hW K H a xs)
  (hs:∀i x σ H,xs[i]? =some x->Pv i σ H->g x σ H λσ2 H2=>tb {D with nx:=Pv (i + 1),ct:=Pv (i + 1),bk:=D.nx} σ2 H2) (hd:∀σ H,Pv xs.length σ H->D.nx σ H) :
  ∃W:Nat->Nat->St->Hp->Prop,(∃m,W 0 m σ H)/\∀i m σ H,W i m σ H->
   ((Hy K a).stop i H/\D.nx σ H)\/((Hy K a).go i H/\∃N:St->Hp->Prop,(∀σ' H',N σ' H'->∃m',m' < m/\W (i + 1) m' σ' H')/\∀x H',(Hy K a).yld i H x H'->g x σ H' λσ2 H2=>tb {D with nx:=N,ct:=N,bk:=D.nx} σ2 H2):=by
 refine⟨λi m σ H=>m=xs.length - i/\i<=xs.length/\Pv i σ H,⟨xs.length,by simp,O7 _,h0⟩,?_⟩
 rintro i m σ H ⟨rfl,hi,p⟩
 have q:=hl i σ H hi p
 by_cases hlt:i < xs.length
 ·refine .inr ⟨⟨xs,xs[i],q,by simp[hlt]⟩,Pv (i + 1),λσ' H' p'=>⟨xs.length - (i + 1),@AT,rfl,hlt,p'⟩,λx H' y=>?_⟩
  obtain⟨e,y⟩:=y
  subst e
  exact hs i x σ _ (y xs q) p
 ·have e:i=xs.length:=@AT
  subst e
  exact .inl ⟨⟨xs,q,Ox _⟩,hd σ H p⟩
def AV {lo:Int}{n:Nat}{g:TG}{tb:TS}{D:Ends}{σ:St}{H:Hp}(Pv:Nat->St->Hp->Prop)(h0:Pv 0 σ H)
  (hs:∀i σ H,i < n->Pv i σ H->g (.int (lo + i)) σ H λσ2 H2=>tb {D with nx:=Pv (i + 1),ct:=Pv (i + 1),bk:=D.nx} σ2 H2) (hd:∀σ H,Pv n σ H->D.nx σ H) :
  ∃W:Nat->Nat->St->Hp->Prop,(∃m,W 0 m σ H)/\∀i m σ H,W i m σ H->
   ((Bm lo n).stop i H/\D.nx σ H)\/((Bm lo n).go i H/\∃N:St->Hp->Prop,(∀σ' H',N σ' H'->∃m',m' < m/\W (i + 1) m' σ' H')/\∀x H',(Bm lo n).yld i H x H'->g x σ H' λσ2 H2=>tb {D with nx:=N,ct:=N,bk:=D.nx} σ2 H2):=by
 refine⟨λi m σ H=>m=n - i/\i<=n/\Pv i σ H,⟨n,by simp,O7 _,h0⟩,?_⟩
 rintro i m σ H ⟨rfl,hi,p⟩
 by_cases hlt:i < n
 ·refine .inr ⟨hlt,Pv (i + 1),λσ' H' p'=>⟨n - (i + 1),@AT,rfl,hlt,p'⟩,λx H' y=>?_⟩
  obtain⟨e,y⟩:=y
  subst e y
  exact hs i σ _ hlt p
 ·have e:i=n:=@AT
  subst e
  exact .inl ⟨Ox _,hd σ H p⟩
abbrev R2:=V->V->Hp->VK->Prop
def kW (X:Cx)(f:Value->Value->Sem Value)(r:R2):Prop:=
 ∀(pins:@B_) (s:Shared) (σ:St) (H:Hp) (x y:V) (v u:Value) (Q:VK),@At->RelV x v->RelV y u->r x y H Q->
  wpAny @Cl X.A (f v u) (EP X pins σ Q) X.xe s
def Mh (X:Cx)(f:Value->Sem Value)(r:V->Hp->VK->Prop):Prop:=
 ∀(pins:@B_) (s:Shared) (σ:St) (H:Hp) (x:V) (v:Value) (Q:VK),@At->RelV x v->r x H Q->
  wpAny @Cl X.A (f v) (EP X pins σ Q) X.xe s
def fA (X:Cx)(f:Value)(r:List V->Hp->VK->Prop):Prop:=
 ∀(pins:@B_) (s:Shared) (σ:St) (H:Hp) (xs:List V) (us:@GM) (Q:VK),@At->Vals xs us->r xs H Q->
  wpAny @Cl X.A (call f us) (EP X pins σ Q) X.xe s
def M8 (X:Cx)(r:V->Hp->(Bool->Hp->Prop)->Prop):Prop:=
 ∀(pins:@B_) (s:Shared) (σ:St) (H:Hp) (x:V) (v:Value) (Q:Bool->Hp->Prop),@At->RelV x v->r x H Q->
  wpAny @Cl X.A (truthy v) (TP X pins σ Q) X.xe s
def LZ (r:R2)(ta tb:TE):TE:=λσ H Q=>ta σ H λx H1=>tb σ H1 λy H2=>r x y H2 Q
def N8 (r:V->Hp->VK->Prop)(ta:TE):TE:=λσ H Q=>ta σ H λx H1=>r x H1 Q
def rI (C:Int->Int->Prop)(g:Int->Int->V):R2:=λx y H Q=>∃i j,x=.int i/\y=.int j/\C i j/\Q (g i j) H
def xR (g:Int->Int->V):R2:=λx y H Q=>∃i j,x=.int i/\y=.int j/\Q (g i j) H
def rU (g:Int->V):V->Hp->VK->Prop:=λx H Q=>∃i,x=.int i/\Q (g i) H
section
variable {X:Cx}{a b c:Expr}{ta tb tc:TE}{pos:Pos}
def IT (ha:PE X a ta)(hb:PE X b tb){pins:@B_}{s:Shared}{σ:St}{H:Hp}{R:V->V->Hp->Prop}(I:@At)
  (h:ta σ H λx H1=>tb σ H1 λy H2=>R x y H2) {Q:@Db} {f:Value->Value->Sem Value}
  (hf:∀v u s2 x y H2,Inv X pins σ H2 s2->RelV x v->RelV y u->R x y H2->wpAny @Cl X.A (f v u) Q X.xe s2) :
  wpAny @Cl X.A (eval a X.env) (λv s₁=>wpAny @Cl X.A (eval b X.env) (λu s₂=>wpAny @Cl X.A (f v u) Q X.xe s₂) X.xe s₁) X.xe s:=by
 refine cc (ha pins s σ H _ I h) λv s1 ⟨x,H1,I1,r1,q1⟩=>?_
 refine cc (hb pins s1 σ H1 _ I1 q1) λu s2 ⟨y,H2,I2,r2,q2⟩=>?_
 exact hf v u s2 x y H2 I2 r1 r2 q2
def oF {op:Operator}{r:R2}(ho:kW X (binaryOp op) r)(ha:PE X a ta)(hb:PE X b tb):PE X (.BinOp a op b pos) (LZ r ta tb):=by
 intro pins s σ H Q I h
 exact wpAny_BinOp (IT ha hb I h λv u s2 x y H2 I2 rx ry q=>ho pins s2 σ H2 x y v u Q I2 rx ry q)
def KZ {op:UnaryOp}{r:V->Hp->VK->Prop}(ho:Mh X (unaryOp op) r)(ha:PE X a ta):PE X (.UnaryOp op a pos) (N8 r ta):=by
 intro pins s σ H Q I h
 exact UnaryOp_ (cc (ha pins s σ H _ I h) λv s1 ⟨x,H1,I1,r1,q1⟩=>ho pins s1 σ H1 x v Q I1 r1 q1)
def LR {f:Value->Value->Sem Value}{C:Int->Int->Prop}{g:Int->Int->Int}
  (rule:∀(i j:Int) (t u:Tok) (s:Shared) (Q:@Db) (E:@Db),C i j->Q (.int (g i j) s.toks) {s with toks:=s.toks + 1}->wpAny @Cl X.A (f (.int i t) (.int j u)) Q E s) :
  kW X f (rI C λi j=>.int (g i j)):=by
 intro pins s σ H x y v u Q I rx ry h
 obtain⟨i,j,rfl,rfl,hc,q⟩:=h
 obtain⟨t,rfl⟩:=rx
 obtain⟨t',rfl⟩:=ry
 exact rule i j t t' s _ _ hc ⟨.int (g i j),H,I.tok _,⟨_,rfl⟩,q⟩
def FY {f:Value->Value->Sem Value}{g:Int->Int->Int}
  (rule:∀(i j:Int) (t u:Tok) (s:Shared) (Q:@Db) (E:@Db),Q (.int (g i j) s.toks) {s with toks:=s.toks + 1}->wpAny @Cl X.A (f (.int i t) (.int j u)) Q E s) :
  kW X f (xR λi j=>.int (g i j)):=by
 intro pins s σ H x y v u Q I rx ry h
 obtain⟨i,j,rfl,rfl,q⟩:=h
 obtain⟨t,rfl⟩:=rx
 obtain⟨t',rfl⟩:=ry
 exact rule i j t t' s _ _ ⟨.int (g i j),H,I.tok _,⟨_,rfl⟩,q⟩
def HN {f:Value->Value->Sem Value}{g:Int->Int->Bool}
  (rule:∀(i j:Int) (t u:Tok) (s:Shared) (Q:@Db) (E:@Db),Q (.bool (g i j)) s->wpAny @Cl X.A (f (.int i t) (.int j u)) Q E s) :
  kW X f (xR λi j=>.bl (g i j)):=by
 intro pins s σ H x y v u Q I rx ry h
 obtain⟨i,j,rfl,rfl,q⟩:=h
 obtain⟨t,rfl⟩:=rx
 obtain⟨t',rfl⟩:=ry
 exact rule i j t t' s _ _ ⟨.bl (g i j),H,I,rfl,q⟩
def ER (i j:Int):Prop:=0 < j/\j < 1073741824
def Co (i j:Int):Prop:=0<=j/\j<=1000000/\i.natAbs < 2 ^ 64
def CY (i j:Int):Prop:=(-(2 ^ 64) < i/\i < 2 ^ 64)\/(-(2 ^ 64) < j/\j < 2 ^ 64)
def CY.ok {i j:Int}(h:CY i j):IntMulOk i j:=by
 rcases h with⟨h1,h2⟩ | ⟨h1,h2⟩
 ·exact .of_left (intBits_le_64 h1 h2)
 ·exact .of_right (intBits_le_64 h1 h2)
def g7:kW X (binaryOp .Add) (xR λi j=>.int (i + j)):=FY λ_ _ _ _ _ _ _ q=>add_int q
def Ja:kW X (binaryOp .Sub) (xR λi j=>.int (i - j)):=FY λ_ _ _ _ _ _ _ q=>sub_int q
def lR:kW X (binaryOp .Mult) (rI CY λi j=>.int (i * j)):=LR λ_ _ _ _ _ _ _ hc q=>mul_int q hc.ok
def uD:kW X (binaryOp .FloorDiv) (rI ER λi j=>.int (i / j)):=LR λi j _ _ _ _ _ hc q=>by
 have h1:(0:Int) < j:=hc.1
 have h2:j < 1073741824:=hc.2
 exact floordiv_int (@AT) (by rw[Int.fdiv_eq_ediv_of_nonneg i (@AT)];exact q) (.inl (PyProof.noPylong_small (@AT)))
def nI:kW X (binaryOp .Mod) (rI (λ_ j=>0 < j) λi j=>.int (i % j)):=LR λi j _ _ _ _ _ hc q=>by
 have h1:(0:Int) < j:=hc
 exact mod_int' (@AT) (by rw[Int.fmod_eq_emod_of_nonneg i (@AT)];exact q)
def Cg:kW X (binaryOp .Pow) (rI Co λi j=>.int (i ^ j.toNat)):=LR λ_ _ _ _ _ _ _ hc q=>pow_int_small hc.1 hc.2.1 hc.2.2 q
def JE:kW X (binaryOp .LShift) (rI Co λi j=>.int (i * 2 ^ j.toNat)):=LR λ_ _ _ _ _ _ _ hc q=>lshift_int_small hc.1 hc.2.1 hc.2.2 q
def Ie:kW X (binaryOp .BitAnd) (xR λi j=>.int (Builtin.bitAnd i j)):=FY λ_ _ _ _ _ _ _ q=>and_int q
def HG:kW X (binaryOp .BitOr) (xR λi j=>.int (Builtin.bitOr i j)):=FY λ_ _ _ _ _ _ _ q=>or_int q
def Od {f:Value->Sem Value}{g:Int->Int}
  (rule:∀(i:Int) (t:Tok) (s:Shared) (Q:@Db) (E:@Db),Q (.int (g i) s.toks) {s with toks:=s.toks + 1}->wpAny @Cl X.A (f (.int i t)) Q E s) :
  Mh X f (rU λi=>.int (g i)):=by
 intro pins s σ H x v Q I rx h
 obtain⟨i,rfl,q⟩:=h
 obtain⟨t,rfl⟩:=rx
 exact rule i t s _ _ ⟨.int (g i),H,I.tok _,⟨_,rfl⟩,q⟩
def qF:Mh X (unaryOp .USub) (rU λi=>.int (-i)):=Od λ_ _ _ _ _ q=>neg_int q
end
def Nf:V->V->Bool
 | .non,.non=>true | .non,.int _=>true | .int _,.non=>true | .non,.bl _=>true | .bl _,.non=>true | .non,.str _=>true | .str _,.non=>true
 | .int _,.int _=>true | .bl _,.bl _=>true | .str _,.str _=>true | .byt _,.byt _=>true
 | .int _,.str _=>true | .str _,.int _=>true | .bl _,.str _=>true | .str _,.bl _=>true
 |_,_=>false
def Oj:R2:=λx y H Q=>Nf x y=true/\Q (.bl (decide (x=y))) H
def Aj {i j:Int}:decide (V.int i=V.int j)=(i == j):=by
 rw[O3]
 simp
def Im {i j:Bool}:decide (V.bl i=V.bl j)=(i == j):=by
 rw[O3]
 simp
def FA {i j:Str}:decide (V.str i=V.str j)=(i == j):=by
 rw[O3]
 simp
def FN {i j:Array UInt8}:decide (V.byt i=V.byt j)=(i.toList == j.toList):=by
 rw[O3]
 cases i
 cases j
 simp
section
variable {X:Cx}{a b c:Expr}{ta tb tc:TE}{pos:Pos}
def fg {pins:@B_}{σ:St}{H:Hp}{s:Shared}{Q:VK}{k k':Bool}(I:@At)(q:Q (.bl k) H)(e:k=k'):EP X pins σ Q (.bool k') s:=by
 subst e
 exact⟨.bl k,H,I,rfl,q⟩
theorem K4:kW X (compareOp .Eq) Oj:=by
 intro pins s σ H x y v u Q I rx ry h
 obtain⟨hs,q⟩:=h
 cases x with
 |non=>
  cases rx
  cases y with
  |non=>cases ry;exact PySem.EqNone.eq_none_none (fg I q @IN)
  |bl j=>cases ry;exact PySem.EqNone.eq_none_bool (fg I q @IN)
  |int j=>obtain⟨t',rfl⟩:=ry;exact PySem.EqNone.eq_none_int (fg I q @IN)
  |str j=>obtain⟨t',rfl⟩:=ry;exact PySem.EqNone.eq_none_str (fg I q @IN)
  |_=>exact absurd (show false=true from hs) OI
 |bl i=>
  cases rx
  cases y with
  |non=>cases ry;exact PySem.EqNone.eq_bool_none (fg I q @IN)
  |bl j=>cases ry;exact eq_bool (fg I q Im)
  |str j=>obtain⟨t',rfl⟩:=ry;exact PySem.EqMixed.eq_bool_str (fg I q @IN)
  |_=>exact absurd (show false=true from hs) OI
 |int i=>
  obtain⟨t,rfl⟩:=rx
  cases y with
  |non=>cases ry;exact PySem.EqNone.eq_int_none (fg I q @IN)
  |int j=>obtain⟨t',rfl⟩:=ry;exact eq_int (fg I q Aj)
  |str j=>obtain⟨t',rfl⟩:=ry;exact PySem.EqMixed.eq_int_str (fg I q @IN)
  |_=>exact absurd (show false=true from hs) OI
 |str i=>
  obtain⟨t,rfl⟩:=rx
  cases y with
  |non=>cases ry;exact PySem.EqNone.eq_str_none (fg I q @IN)
  |bl j=>cases ry;exact PySem.EqMixed.eq_str_bool (fg I q @IN)
  |int j=>obtain⟨t',rfl⟩:=ry;exact PySem.EqMixed.eq_str_int (fg I q @IN)
  |str j=>obtain⟨t',rfl⟩:=ry;exact eq_str (fg I q FA)
  |_=>exact absurd (show false=true from hs) OI
 |byt i=>
  obtain⟨t,rfl⟩:=rx
  cases y with
  |byt j=>obtain⟨t',rfl⟩:=ry;exact PySem.W.eq_bytes (fg I q FN)
  |_=>exact absurd (show false=true from hs) OI
 |_=>cases y <;> exact absurd (show false=true from hs) OI
def vU:kW X (compareOp .Lt) (xR λi j=>.bl (decide (i < j))):=HN λ_ _ _ _ _ _ _ q=>lt_int q
def xB:kW X (compareOp .LtE) (xR λi j=>.bl (decide (i<=j))):=HN λ_ _ _ _ _ _ _ q=>le_int q
def K0:kW X (compareOp .Gt) (xR λi j=>.bl (decide (j < i))):=HN λ_ _ _ _ _ _ _ q=>gt_int q
def bf (b:Expr){op:CmpOp}(h:op≠.In:=by decide)(h2:op≠.NotIn:=by decide):behindInMarks op b=false:=by
 have e1:(op == CmpOp.In)=false:=by cases op <;> first |rfl |exact absurd rfl h
 have e2:(op == CmpOp.NotIn)=false:=by cases op <;> first |rfl |exact absurd rfl h2
 cases b <;> simp[behindInMarks,e1,e2]
def u4 {op:CmpOp}{r:R2}(ho:kW X (compareOp op) r)(ha:PE X a ta)(hb:PE X b tb)(hm:behindInMarks op b=false):PE X (.Compare a [op] [b] pos) (LZ r ta tb):=by
 intro pins s σ H Q I h
 exact wpAny_Compare1 (IT ha hb I h λv u s2 x y H2 I2 rx ry q=>ho pins s2 σ H2 x y v u Q I2 rx ry q) hm
def HC (t:TE):TT:=λσ H Q=>t σ H λx H'=>∃k,x=.bl k/\Q k H'
def GH {op:CmpOp}{r:R2}(ho:kW X (compareOp op) r)(ha:PE X a ta)(hb:PE X b tb)(hm:behindInMarks op b=false):PT X (.Compare a [op] [b] pos) (HC (LZ r ta tb)):=by
 intro pins s σ H Q I h
 refine wpAny_isTrue_Compare1 (cc (ha pins s σ H _ I h) λv s1 ⟨x,H1,I1,r1,q1⟩=>cc (hb pins s1 σ H1 _ I1 q1) λu s2 ⟨y,H2,I2,r2,q2⟩=>
  cc (ho pins s2 σ H2 x y v u _ I2 r1 r2 q2) λc s3 ⟨z,H3,I3,r3,k,e,q3⟩=>?_) hm
 subst e
 cases r3
 exact Px ⟨H3,I3,q3⟩
def Ds (r r':R2)(ta tb tc:TE):TE:=λσ H Q=>ta σ H λx H1=>tb σ H1 λy H2=>r x y H2 λz H3=>∃k,z=.bl k/\
 (if k=true then tc σ H3 λw' H4=>r' y w' H4 Q else Q (.bl false) H3)
theorem Df {op op':CmpOp}{r r':R2}(ho:kW X (compareOp op) r)(ho':kW X (compareOp op') r')(ha:PE X a ta)(hb:PE X b tb)(hc:PE X c tc)
  (hm:lastMarks [op,op'] [b,c]=false:=by with_unfolding_all rfl):PE X (.Compare a [op,op'] [b,c] pos) (Ds r r' ta tb tc):=by
 intro pins s σ H Q I h
 refine Compare_chain (cc (ha pins s σ H _ I h) λv s1 ⟨x,H1,I1,r1,q1⟩=>chain_link (cc (hb pins s1 σ H1 _ I1 q1) λu s2 ⟨y,H2,I2,r2,q2⟩=>
  cc (ho pins s2 σ H2 x y v u _ I2 r1 r2 q2) λd s3 ⟨z,H3,I3,r3,k,e,q3⟩=>?_)) hm
 subst e
 cases r3
 refine Px ?_
 cases k with
 |false=>exact ite_ff ⟨.bl false,H3,I3,rfl,q3⟩
 |true=>exact ite_tt (chain_last (cc (hc pins s3 σ H3 _ I3 q3) λw' s4 ⟨z',H4,I4,r4,q4⟩=>ho' pins s4 σ H4 y z' u w' Q I4 r2 r4 q4))
theorem CK {op op':CmpOp}{r r':R2}(ho:kW X (compareOp op) r)(ho':kW X (compareOp op') r')(ha:PE X a ta)(hb:PE X b tb)(hc:PE X c tc)
  (hm:lastMarks [op,op'] [b,c]=false:=by with_unfolding_all rfl):PT X (.Compare a [op,op'] [b,c] pos) (HC (Ds r r' ta tb tc)):=by
 intro pins s σ H Q I h
 refine isTrue_chain (cc (ha pins s σ H _ I h) λv s1 ⟨x,H1,I1,r1,q1⟩=>test_link (cc (hb pins s1 σ H1 _ I1 q1) λu s2 ⟨y,H2,I2,r2,q2⟩=>
  cc (ho pins s2 σ H2 x y v u _ I2 r1 r2 q2) λd s3 ⟨z,H3,I3,r3,k,e,q3⟩=>?_)) hm
 subst e
 cases r3
 refine Px ?_
 cases k with
 |false=>
  obtain⟨k',e',q'⟩:=q3
  cases e'
  exact ite_ff ⟨H3,I3,q'⟩
 |true=>
  refine ite_tt (test_last (cc (hc pins s3 σ H3 _ I3 q3) λw' s4 ⟨z',H4,I4,r4,q4⟩=>cc (ho' pins s4 σ H4 y z' u w' _ I4 r2 r4 q4) λd' s5 ⟨z2,H5,I5,r5,k2,e2,q5⟩=>?_))
  subst e2
  cases r5
  exact Px ⟨H5,I5,q5⟩
def LB (K:Frag)(x:V)(H:Hp)(k:Bool):Prop:=
 match x with
 | .non=>k=false
 | .bl b=>k=b
 | .int i=>k=(i != 0)
 | .str y=>y.length<=sizeLine/\k=((y.length:Int) != 0)
 | .byt y=>y.size<=sizeLine/\k=((y.size:Int) != 0)
 | .ref p=>(∃xs,iY K H p xs/\k= !xs.isEmpty)\/(∃xs,hW K H p xs/\k= !xs.isEmpty)\/∃kvs,H p=some (.dK kvs)/\k= !kvs.isEmpty
 |_=>False
def yI {κ:Type}{kvs:List (κ×V)}{vs:List (κ×Value)}(r:KV kvs vs):(!vs.isEmpty)= !kvs.isEmpty:=by
 cases r <;> rfl
def rV {xs:List V}{its:@GM}(r:Vals xs its):(!its.toArray.isEmpty)= !xs.isEmpty:=by
 cases r <;> simp
def oO:(sizeLine:Nat) < 2 ^ 63:=by rw[O4];decide
theorem Jo:M8 X (λx H Q=>∃k,LB X.K x H k/\Q k H):=by
 intro pins s σ H x v Q I rx h
 obtain⟨k,e,q⟩:=h
 have hl:=oO
 have hs:sizeLine=16777216:=O4
 cases x with
 |non=>
  cases rx
  have e':k=false:=e
  subst e'
  exact truthy_none ⟨H,I,q⟩
 |bl b=>
  cases rx
  have e':k=b:=e
  subst e'
  exact Px ⟨H,I,q⟩
 |int i=>
  obtain⟨t,rfl⟩:=rx
  have e':k=(i != 0):=e
  subst e'
  exact PySem.P.truthy_int ⟨H,I,q⟩
 |str y=>
  obtain⟨t,rfl⟩:=rx
  obtain⟨hy,e'⟩:y.length<=sizeLine/\k=((y.length:Int) != 0):=e
  subst e'
  exact PySem.P.truthy_str (@AT) ⟨H,I.tok _,q⟩
 |byt y=>
  obtain⟨t,rfl⟩:=rx
  obtain⟨hy,e'⟩:y.size<=sizeLine/\k=((y.size:Int) != 0):=e
  subst e'
  exact PySem.W.truthy_bytes (@AT) ⟨H,I.tok _,q⟩
 |ref p=>
  cases rx
  have e':(∃xs,iY X.K H p xs/\k= !xs.isEmpty)\/(∃xs,hW X.K H p xs/\k= !xs.isEmpty)\/∃kvs,H p=some (.dK kvs)/\k= !kvs.isEmpty:=e
  rcases e' with⟨xs,hx,e'⟩ | ⟨xs,hx,e'⟩ | ⟨kvs,hx,e'⟩
  ·subst e'
   obtain⟨its,r,pl,hz⟩:=I.list hx
   have hlen:=r.length
   exact wpAny_truthy_list pl.isList (by simp only[OD];omega) ⟨H,I.tok _,by rw[rV r];exact q⟩
  ·subst e'
   obtain⟨its,r,pl,hz⟩:=I.tuple hx
   have hlen:=r.length
   exact truthy_tuple pl (by simp only[OD];omega) ⟨H,I.tok _,by rw[rV r];exact q⟩
  ·subst e'
   obtain⟨hz,hS,vs,r,m⟩:kvs.length<=sizeLine/\(p == sysModules)=false/\∃vs,KV kvs vs/\s.heap.DictOf (fK X.prog X.w) p vs:=I.hok p _ hx
   have hlen:kvs.length=vs.length:=Paired.length r
   exact wpAny_truthy_dict hS m (@AT) ⟨H,I.tok _,by rw[yI r];exact q⟩
 |_=>exact (show False from e).elim
def DS (ha:PE X a ta)(he:∀whole,isTrue a X.env whole=(do let v <-whole;standAt a.pos;holding [v] (truthy v))) :
  PT X a (λσ H Q=>ta σ H λx H'=>∃k,LB X.K x H' k/\Q k H'):=by
 intro pins s σ H Q I h
 exact isTrue_plain (cc (ha pins s σ H _ I h) λv s1 ⟨x,H1,I1,r1,q1⟩=>Jo pins s1 σ H1 x v Q I1 r1 q1) (he _)
theorem vals1 {x:V}{us:@GM}(r:Vals [x] us):∃u,us= [u]/\RelV x u:=by
 cases r with
 |cons r1 r2=>cases r2;exact⟨_,rfl,r1⟩
theorem vals2 {x y:V}{us:@GM}(r:Vals [x,y] us):∃u w',us= [u,w']/\RelV x u/\RelV y w':=by
 cases r with
 |cons r1 r2=>
  cases r2 with
  |cons r3 r4=>cases r4;exact⟨_,_,rfl,r1,r3⟩
def Bw (hc:X.calm=true):fA X (.builtin "max") (λxs H Q=>∃i j,xs= [.int i,.int j]/\Q (.int (if j > i then j else i)) H):=by
 intro pins s σ H xs us Q I r h
 obtain⟨i,j,rfl,q⟩:=h
 obtain⟨u,w',rfl,⟨t,rfl⟩,⟨t',rfl⟩⟩:=vals2 r
 refine max_two_ints (I.ok.hd hc) λh' tk k=>⟨_,H,I.kept k,?_,q⟩
 by_cases hj:j > i
 ·rw[Ov hj,Ov hj];exact⟨_,rfl⟩
 ·rw[OA hj,OA hj];exact⟨_,rfl⟩
def Bb (hc:X.calm=true):fA X (.builtin "min") (λxs H Q=>∃i j,xs= [.int i,.int j]/\Q (.int (if j < i then j else i)) H):=by
 intro pins s σ H xs us Q I r h
 obtain⟨i,j,rfl,q⟩:=h
 obtain⟨u,w',rfl,⟨t,rfl⟩,⟨t',rfl⟩⟩:=vals2 r
 refine min_two_ints (I.ok.hd hc) λh' tk k=>⟨_,H,I.kept k,?_,q⟩
 by_cases hj:j < i
 ·rw[Ov hj,Ov hj];exact⟨_,rfl⟩
 ·rw[OA hj,OA hj];exact⟨_,rfl⟩
def BM:fA X (.type "int") (λxs H Q=>(∃i,xs= [.int i]/\Q (.int i) H)\/∃k,xs= [.bl k]/\Q (.int (if k then 1 else 0)) H):=by
 intro pins s σ H xs us Q I r h
 rcases h with⟨i,rfl,q⟩ | ⟨k,rfl,q⟩
 ·obtain⟨u,rfl,t,rfl⟩:=vals1 r
  exact call_int_int ⟨.int i,H,I,⟨_,rfl⟩,q⟩
 ·obtain⟨u,rfl,r1⟩:=vals1 r
  cases r1
  exact call_int_bool ⟨.int (if k then 1 else 0),H,I.tok _,⟨_,rfl⟩,q⟩
def Lu (K:Frag)(x:V)(H:Hp)(n:Nat):Prop:=
 match x with
 | .str y=>y.length<=sizeLine/\n=y.length
 | .byt y=>y.size<=sizeLine/\n=y.size
 | .ref p=>(∃xs,iY K H p xs/\n=xs.length)\/∃xs,hW K H p xs/\n=xs.length
 |_=>False
theorem cy:fA X (.builtin "len") (λxs H Q=>∃x n,xs= [x]/\Lu X.K x H n/\Q (.int n) H):=by
 intro pins s σ H xs us Q I r h
 obtain⟨x,n,rfl,e,q⟩:=h
 obtain⟨u,rfl,rx⟩:=vals1 r
 have hl:=oO
 have hs:sizeLine=16777216:=O4
 cases x with
 |str y=>
  obtain⟨t,rfl⟩:=rx
  obtain⟨hy,e'⟩:y.length<=sizeLine/\n=y.length:=e
  subst e'
  exact len_str (@AT) ⟨.int _,H,I.tok _,⟨_,rfl⟩,q⟩
 |byt y=>
  obtain⟨t,rfl⟩:=rx
  obtain⟨hy,e'⟩:y.size<=sizeLine/\n=y.size:=e
  subst e'
  exact PySem.W.len_bytes (@AT) ⟨.int _,H,I.tok _,⟨_,rfl⟩,q⟩
 |ref p=>
  cases rx
  have e':(∃xs,iY X.K H p xs/\n=xs.length)\/∃xs,hW X.K H p xs/\n=xs.length:=e
  rcases e' with⟨xs,hx,e'⟩ | ⟨xs,hx,e'⟩
  ·subst e'
   obtain⟨its,r',pl,hz⟩:=I.list hx
   have hlen:=r'.length
   exact Calls.call_len_list pl.isList (by simp only[OD];omega) ⟨.int xs.length,H,I.tok _,⟨_,by simp only[OD];rw[hlen]⟩,q⟩
  ·subst e'
   obtain⟨its,r',pl,hz⟩:=I.tuple hx
   have hlen:=r'.length
   exact len_tuple pl (by simp only[OD];omega) ⟨.int xs.length,H,I.tok _,⟨_,by simp only[OD];rw[hlen]⟩,q⟩
 |_=>exact (show False from e).elim
def wY:fA X (.builtin "divmod") (λxs H Q=>∃i j,xs= [.int i,.int j]/\ER i j/\∀p,H p=none->Q (.ref p) (upd H p (.tup [.int (i / j),.int (i % j)]))):=by
 intro pins s σ H xs us Q I r h
 obtain⟨i,j,rfl,⟨h1,h2⟩,q⟩:=h
 obtain⟨u,w',rfl,⟨t,rfl⟩,⟨t',rfl⟩⟩:=vals2 r
 refine divmod_int (@AT) ?_ (.inl (PyProof.noPylong_small (@AT)))
 rw[Int.fdiv_eq_ediv_of_nonneg i (@AT),Int.fmod_eq_emod_of_nonneg i (@AT)]
 have hn:H s.heap.objs.size=none:=I.hok.fresh (Ox _)
 refine⟨.ref s.heap.objs.size,_,?_,rfl,q _ hn⟩
 refine I.laid (λb o e=>Ow _ e) (Ox _) ⟨by simp only[O5,length_nil];rw[O4];decide,[.int (i / j) s.toks,.int (i % j) (s.toks + 1)],.cons ⟨_,rfl⟩ (.cons ⟨_,rfl⟩ .nil),?_⟩
 exact⟨_,OQ s.heap rfl,rfl,0,rfl,rfl⟩
end
structure HU (h:Heap)(x dx C:Addr)(mA:@FM):Prop where
 obj:h.get? x=some (PySem.W.instObj C dx)
 ns:h.Ns1 dx mA
 ne:dx≠x
def A5 {h:Heap}{dx:Addr}{mA:@FM}(n:h.Ns1 dx mA):∃od,h.get? dx=some od/\∀name,PySem.W.lookIn name od=some (mA name):=by
 obtain⟨o,es,ep,ho,hd,hk,_,hm⟩:=n
 refine⟨o,ho,λname=>?_⟩
 have e:=hm name
 unfold nsFind findBy at e
 rw[<-Array.find?_toList] at e
 unfold PySem.W.lookIn
 rw[hd]
 dsimp only
 split
 ·rename_i y q
  rw[q] at e
  exact congrArg some e
 ·rename_i q
  rw[q] at e
  have a:es.toList.any (·.refKey)=false:=by
   rw[List.any_eq_false]
   intro y hy
   obtain⟨z,t,hkey⟩:=hk y (Array.mem_toList_iff.mp hy)
   simp[DictEntry.refKey,hkey]
  have a':¬es.toList.any (·.refKey)=true:=by rw[a];exact OI
  rw[OA a']
  exact congrArg some e
def HU.look {h:Heap}{x dx C:Addr}{mA:@FM}(I:HU h x dx C mA):∃od,PySem.W.InstAt h x (PySem.W.instObj C dx) C (some od)/\∀name,PySem.W.lookIn name od=some (mA name):=
 let ⟨od,ho,hl⟩:=A5 I.ns
 ⟨od,⟨I.obj,rfl,rfl,ho⟩,hl⟩
section
variable {P:Program}{w:World}{H H':Hp}{h h':Heap}{a C dx:Addr}{fs fs':List (Str×V)}
def E6 (hok:lq P w H h)(e:H a=some (.ins C dx fs)):∃mA,HU h a dx C mA/\(∀f,II (fs.lookup f) (mA f))/\PySem.Within mA (fs.map (·.1))/\fs.length<=1000/\H dx=some (.own a):=by
 obtain⟨d,z,ne,ob,mA,n,r,q⟩:=(show cw P w H h a (.ins C dx fs) from hok a _ e)
 exact⟨mA,⟨ob,n,ne⟩,r,q,z,d⟩
end
structure MM (K:Frag)(C:Addr):Prop where
 pg:PySem.W.plainGet K C Str.empty=true
 hd:PySem.W.hasDictIn K C=true
 po:PySem.W.plainOver K C=true
 sa:PySem.W.findIn K (.ref C) "__setattr__"=some (some (.builtin "object.__setattr__"))
def MM.get {K:Frag}{C:Addr}(c:MM K C)(f:Str):PySem.W.plainGet K C f=true:=c.pg
section
variable {X:Cx}{pins:@B_}{σ:St}{H:Hp}{s:Shared}{A:Around}{E:@Db}{Q:@Db}{c:Value}{b:Bool}
inductive pS (K:Frag)(H:Hp):V->Value->Prop where
 |non:pS K H .non (.type "NoneType")
 |bl (x:Bool):pS K H (.bl x) (.type "bool")
 |int (i:Int):pS K H (.int i) (.type "int")
 |str (x:Str):pS K H (.str x) (.type "str")
 |flt (x:UInt64):pS K H (.flt x) (.type "float")
 |lst {a:Addr} {xs:List V} (e:H a=some (.lst xs)):pS K H (.ref a) (.type "list")
 |aY {a:Addr} {o:Obj} {xs:List V} (e:H a=some (.aY o (.lst xs))):pS K H (.ref a) (.type "list")
 |tup {a:Addr} {xs:List V} (e:H a=some (.tup xs)):pS K H (.ref a) (.type "tuple")
 |dK {a:Addr} {kvs:List (Key×V)} (e:H a=some (.dK kvs)):pS K H (.ref a) (.type "dict")
 |dT {a:Addr} {kvs:List (List Key×V)} (e:H a=some (.dT kvs)):pS K H (.ref a) (.type "dict")
 |ins {a C dx:Addr} {fs:List (Str×V)} (e:H a=some (.ins C dx fs)) (cl:MM K C) (ha:PySem.W.findIn K (.ref C) "__class__"=some (some (.builtin "object.__class__")))
   (hn:PySem.W.specialIn K (.builtin "object.__class__") "__get__"=some (some (.builtin "getset_descriptor.__get__"))) (htk:PySem.W.takesIn K (.builtin "object.__class__")=some true)
   (hm:PySem.W.mroIn K C (.type "object")=some true):pS K H (.ref a) (.ref C)
theorem jX {x:V}{u t:Value}(I:@At)(rx:RelV x u)(ty:pS X.K H x t)(e:PySem.W.kitOne X.K t c=some b)(h:∀tk,Q (.bool b) {s with toks:=tk}) :
  wpAny @Cl A (call (.builtin "isinstance") [u,c]) Q E s:=by
 cases ty with
 |non=>cases (show u=Value.none from rx);exact Pk PySem.W.kitx_none I.kIn True.intro e (λz=>nomatch z) h
 |bl y=>cases (show u=Value.bool y from rx);exact Pk PySem.W.kitx_bool I.kIn True.intro e (λz=>nomatch z) h
 |int i=>obtain⟨t,q⟩:=(show ∃t,u=Value.int i t from rx);cases q;exact Pk PySem.W.kitx_int I.kIn True.intro e (λz=>nomatch z) h
 |str y=>obtain⟨t,q⟩:=(show ∃t,u=Value.str y t from rx);cases q;exact Pk PySem.W.kitx_str I.kIn True.intro e (λz=>nomatch z) h
 |flt y=>obtain⟨t,q⟩:=(show ∃t,u=Value.float y t from rx);cases q;exact Pk PySem.W.kitx_float I.kIn True.intro e (λz=>nomatch z) h
 | @lst a xs ea=>
  cases (show u=Value.ref a from rx)
  obtain⟨_,_,n,_,h1⟩:=(show cw X.prog X.w H s.heap a (.lst xs) from I.hok a _ ea)
  exact Pk PySem.W.kitx_list I.kIn ⟨_,h1,rfl⟩ e (λz=>nomatch z) h
 | @aY a ob xs ea=>
  cases (show u=Value.ref a from rx)
  obtain⟨_,_,_,n,_,h1⟩:=(show cw X.prog X.w H s.heap a (.aY ob (.lst xs)) from I.hok a _ ea)
  exact Pk PySem.W.kitx_list I.kIn ⟨_,h1,rfl⟩ e (λz=>nomatch z) h
 | @tup a xs ea=>
  cases (show u=Value.ref a from rx)
  obtain⟨_,_,_,p⟩:=(show cw X.prog X.w H s.heap a (.tup xs) from I.hok a _ ea)
  obtain⟨o,h1,h2,_⟩:=p
  exact Pk PySem.W.kitx_tuple I.kIn ⟨o,h1,h2⟩ e (λz=>nomatch z) h
 | @dK a kvs ea=>
  cases (show u=Value.ref a from rx)
  obtain⟨_,_,vs,_,p⟩:=(show cw X.prog X.w H s.heap a (.dK kvs) from I.hok a _ ea)
  obtain⟨o,es,ep,h1,h2,_⟩:=p
  exact Pk PySem.W.kitx_dict I.kIn ⟨o,h1,h2.1⟩ e (λz=>nomatch z) h
 | @dT a kvs ea=>
  cases (show u=Value.ref a from rx)
  obtain⟨_,_,xs,_,o,es,ep,h1,h2,_⟩:=(show cw X.prog X.w H s.heap a (.dT kvs) from I.hok a _ ea)
  exact Pk PySem.W.kitx_dict I.kIn ⟨o,h1,h2.1⟩ e (λz=>nomatch z) h
 | @ins a C dx fs ea cl ha hn htk hm=>
  cases (show u=Value.ref a from rx)
  obtain⟨mA,O,_⟩:=E6 I.hok ea
  obtain⟨od,J,_⟩:=O.look
  exact Pk (PySem.W.kitx_own (cl.get _) cl.hd ha hn htk hm) I.kIn J e (λz=>nomatch z) h
end
structure dN (k:Nat)(A:Around):Prop where
 hd:A.handled=none
 dp:A.depth + 3 * k + 5 < recursionLimit
 un:A.units + 16 * k + 200 < cLine
 gd:A.guards=some []
def dN.mono {j k:Nat}{A:Around}(r:dN k A)(h:j<=k):dN j A:=⟨r.hd,by have:=r.dp;omega,by have:=r.un;omega,r.gd⟩
def dN.deeper {k:Nat}{A:Around}(r:dN (k + 1) A)(env:Env):dN k (A.deeper env):=
 ⟨r.hd,by have:=r.dp;show A.depth + 1 + 3 * k + 5 < _;omega,by have:=r.un;show A.units + 3 + 16 * k + 200 < _;omega,r.gd⟩
def dN.in1 {k:Nat}{A:Around}(r:dN (k + 1) A):dN k A.in1:=
 ⟨r.hd,by have:=r.dp;show A.depth + 3 * k + 5 < _;omega,by have:=r.un;show A.units + 1 + 16 * k + 200 < _;omega,r.gd⟩
def dN.depth {k:Nat}{A:Around}(r:dN k A):A.depth < recursionLimit:=by have:=r.dp;omega
def dN.units {k:Nat}{A:Around}(r:dN k A):A.units + 64 < cLine:=by have:=r.un;omega
def FK:TA:=λ_ H Q=>Q [] H
def zI (ta:TE)(tr:TA):TA:=λσ H Q=>ta σ H λx H1=>tr σ H1 λxs H2=>Q (x :: xs) H2
section
variable {X:Cx}{e:Expr}{es:List Expr}{te:TE}{t:TA}{pos:Pos}
def aR:PA X [] FK:=λ_ _ _ _ H Q I h=>Calls.spliced_nil ⟨[],H,I,.nil,h⟩
def aw (ha:PE X e te)(hr:PA X es t)(hs:starEach (e :: es) X.env=(false,eval e X.env) :: starEach es X.env:=by rfl):PA X (e :: es) (zI te t):=by
 intro pos pins s σ H Q I h
 rw[hs]
 show wpAny _ _ (spliced ((false,eval e X.env) :: backTo pos (starEach es X.env))) _ _ s
 refine Calls.spliced_cons (cc (ha pins s σ H _ I h) λu s1 ⟨x,H1,I1,r1,q1⟩=>?_)
 exact cc (hr pos pins s1 σ H1 _ I1 q1) λus s2 ⟨xs,H2,I2,r2,q2⟩=>⟨x :: xs,H2,I2,.cons r1 r2,q2⟩
def MX (t:TA):TE:=λσ H Q=>t σ H λxs H1=>xs.length<=sizeLine/\∀p,H1 p=none->Q (.ref p) (upd H1 p (.tup xs))
def MA (t:TA):TE:=λσ H Q=>t σ H λxs H1=>xs.length<=sizeLine/\∀p,H1 p=none->Q (.ref p) (upd H1 p (.lst xs))
def yA {x1}(h:PA X es t):PE X (.Tuple es x1 pos) (MX t):=by
 intro pins s σ H Q I hq
 refine wpAny_Tuple_spliced (cc (h pos pins s σ H _ I hq) λus s1 ⟨xs,H1,I1,r,z,q⟩=>⟨by rw[<-r.length];exact z,?_⟩)
 have hf:H1 s1.heap.objs.size=none:=I1.hok.fresh (Ox _)
 refine⟨.ref s1.heap.objs.size,upd H1 s1.heap.objs.size (.tup xs),I1.laid (t':=s1.toks) (λb u e=>Ow _ e) (Ox _) ?_,rfl,q _ hf⟩
 exact⟨z,us,r,vp.new _ _⟩
def pe (h:PA X es t):PE X (.List es pos) (MA t):=by
 intro pins s σ H Q I hq
 refine wpAny_List_spliced (cc (h pos pins s σ H _ I hq) λus s1 ⟨xs,H1,I1,r,z,q⟩=>⟨by rw[<-r.length];exact z,?_⟩)
 have hf:H1 s1.heap.objs.size=none:=I1.hok.fresh (Ox _)
 refine⟨.ref s1.heap.objs.size,upd H1 s1.heap.objs.size (.lst xs),I1.laid (t':=s1.toks) (λb u e=>Ow _ e) (Ox _) ?_,rfl,q _ hf⟩
 exact⟨z,us,0,r,OQ _ rfl⟩
end
abbrev Sp:=List V->Hp->VK->XK->Prop
abbrev vB:=List Env->Hp->Shared->XK->@Db
structure rR (P:Program)(w:World)(K:Frag)(mg:@FM)(base:Heap)(A:Around)(outer:List Env)(s:Shared)(H:Hp):Prop where
 frames:A.frames=some outer
 mod:Mod K mg base
 bs:∀b o,base.get? b=some o->s.heap.get? b=some o/\H b=none
 bsz:base.objs.size<=s.heap.objs.size
 funs:s.heap.FunFrames base outer
 frf:∀b∈fG outer,H b=none
 hok:lq P w H s.heap
 bare:AllBare s.gens
def CE (outer:List Env)(P:Program)(w:World)(H:Hp)(s:Shared)(Q:VK)(u:Value)(s':Shared):Prop:=
 ∃v H',s'.os=s.os/\AllBare s'.gens/\Un (fG outer) [] H H' s.heap s'.heap/\lq P w H' s'.heap/\RelV v u/\Q v H'
def CR (CX:vB)(outer:List Env)(P:Program)(w:World)(H:Hp)(s:Shared)(Q:VK)(E:XK)(r:Result)(s':Shared):Prop:=
 match r with
 | .ok (.ret u)=>CE outer P w H s Q u s'
 | .ok _=>False
 | .error e=>CX outer H s E e s'
structure e8 (P:Program)(w:World)(K:Frag)(mg:@FM)(base:Heap)(CX:vB)(k:Nat)(f:Addr)(fd:FuncData)(ps:@H_)(sp:Sp):Prop where
 len:∀vs H Q E,sp vs H Q E->vs.length=ps.length
 run:∀(A:Around) (outer:List Env) (s:Shared) (H:Hp) (args:Args) (us:@GM) (vs:List V) (Q:VK) (E:XK),dN k A->rR P w K mg base A outer s H->BindsTo s fd args (ps.zip us)->Vals vs us->sp vs H Q E->
  codeAny (model P w) A (.call (.ref f) args) (CR CX outer P w H s Q E) s
def e8.mono {P:Program}{w:World}{K:Frag}{mg:@FM}{base:Heap}{CX:vB}{j k:Nat}{f:Addr}{fd:FuncData}{ps:@H_}{sp:Sp}(F:e8 P w K mg base CX j f fd ps sp)(h:j<=k) :
  e8 P w K mg base CX k f fd ps sp:=⟨F.len,λA outer s H args us vs Q E hr=>F.run A outer s H args us vs Q E (hr.mono h)⟩
def e8.imp {P:Program}{w:World}{K:Frag}{mg:@FM}{base:Heap}{CX:vB}{k:Nat}{f:Addr}{fd:FuncData}{ps:@H_}{sp sp':Sp}(F:e8 P w K mg base CX k f fd ps sp)
  (h:∀vs H Q E,sp' vs H Q E->sp vs H Q E):e8 P w K mg base CX k f fd ps sp':=
 ⟨λvs H Q E q=>F.len vs H Q E (h _ _ _ _ q),λA outer s H args us vs Q E hr he hb hv hs=>F.run A outer s H args us vs Q E hr he hb hv (h _ _ _ _ hs)⟩
def rR.in1 {P:Program}{w:World}{K:Frag}{mg:@FM}{base:Heap}{A:Around}{outer:List Env}{s:Shared}{H:Hp}(e:rR P w K mg base A outer s H) :
  rR P w K mg base A.in1 outer s H:=⟨e.frames,e.mod,e.bs,e.bsz,e.funs,e.frf,e.hok,e.bare⟩
section
variable {X:Cx}{pins:@B_}{σ:St}{H:Hp}{s s':Shared}
def Inv.env0 (I:@At):rR X.prog X.w X.K X.mg X.base X.A X.stack s H:=
 ⟨I.ok.frames,I.ok.mod,I.bs,Pw I.ok.bsz I.sz,I.stack,I.stkFree,I.hok,I.bare⟩
def Inv.after {Q:VK}{u:Value}(I:@At)(h:CE X.stack X.prog X.w H s Q u s'):EP X pins σ Q u s':=by
 obtain⟨v,H',os,bare,un,hok,r,q⟩:=h
 obtain⟨hh,g,d,t,os'⟩:=s'
 obtain rfl:os'=s.os:=os
 exact⟨v,H',I.call (h':=hh) (g':=g) (d':=d) (t':=t) (ch:=[]) un hok bare (λb z=>absurd z @IN),r,q⟩
end
def Dh (sp:Sp)(dvs:List V)(E:XK)(t:TA):TE:=λσ H Q=>t σ H λvs H1=>sp (vs ++ dvs) H1 Q E
def Binds (K:Frag)(fd:FuncData)(ps:@H_)(ds:@GM):Prop:=
 ∀(s:Shared) (us:@GM),K.In s.heap->(us ++ ds).length=ps.length->BindsTo s fd ⟨us,[]⟩ (ps.zip (us ++ ds))
def Binds.all {K:Frag}{fd:FuncData}{ps:@H_}(h:∀us:@GM,us.length=ps.length->bindArgs fd ⟨us,[]⟩=pure (ps.zip us)):Binds K fd ps []:=λs us _ hl=>by
 rw[Qa] at hl ⊢
 exact .of_eq (h us hl)
def Passes (CX:vB)(X:Cx)(E:XK):Prop:=∀(pins:@B_) (σ:St) (H:Hp) (s:Shared) (e:Value) (s':Shared),@At->CX X.stack H s E e s'->X.xe e s'
section
variable {X:Cx}{CX:vB}{k:Nat}{f C:Addr}{fd:FuncData}{ps:@H_}{sp:Sp}{dvs:List V}{ds:@GM}{E:XK}{x m:Str}{p pos apos:Pos}{e o:Expr}{es:List Expr}{ta:TE}{t:TA}
theorem IG {pins:@B_}{σ:St}{H:Hp}{s:Shared}{Q:VK}{us:@GM}{vs:List V}(F:e8 X.prog X.w X.K X.mg X.base CX k f fd ps sp)(hr:dN k X.A)(hb:Binds X.K fd ps ds)(hd:Vals dvs ds)(hx:Passes CX X E)
  (I:@At) (r:Vals vs us) (h:sp (vs ++ dvs) H Q E):wpAny @Cl X.A (call (.ref f) us) (EP X pins σ Q) X.xe s:=by
 have r2:Vals (vs ++ dvs) (us ++ ds):=r.append hd
 have hl:(us ++ ds).length=ps.length:=by rw[<-r2.length];exact F.len _ _ _ _ h
 refine wpAny_call (QS (F.run X.A X.stack s H ⟨us,[]⟩ (us ++ ds) (vs ++ dvs) Q E hr I.env0 (hb s us I.kIn hl) r2 h) λr s' hq=>?_)
 cases r with
 |error e=>exact hx pins σ H s e s' I hq
 |ok fl=>
  cases fl with
  |ret u=>exact I.after hq
  |next=>exact False.elim hq
  |brk=>exact False.elim hq
  |cont=>exact False.elim hq
def ot (F:e8 X.prog X.w X.K X.mg X.base CX k f fd ps sp)(hr:dN k X.A)(hg:Gl X x)(hm:X.mg x=some (.ref f))(hk:PySem.W.keepIn X.K (.ref f)=true)(hb:Binds X.K fd ps ds)(hd:Vals dvs ds)(hx:Passes CX X E)
  (ha:PA X (e :: es) t) (hdb:@FS:=by decide) (he:starEach (e :: es) X.env=(false,eval e X.env) :: starEach es X.env:=by rfl) (hpl:(backTo pos (starEach es X.env)).any (·.1)=false:=by rfl) :
  PE X (.Call (.Name x p) (e :: es) [] pos) (Dh sp dvs E t):=by
 intro pins s σ H Q I h
 refine Ql (mE I hg hm ?_ hdb)
 refine PySem.W.callWith_K (h₀:=X.base) I.ok.mod.kin hk (cc (ha pos pins s σ H _ I h) λus s1 ⟨vs,H1,I1,r,q⟩=>⟨I1.kIn,?_⟩) he hpl
 exact IG F hr hb hd hx I1 r q
end
def PK (X:Cx)(kws:List Keyword)(t:TA):Prop:=
 ∀(pos:Pos) (pins:@B_) (s:Shared) (σ:St) (H:Hp) (Q:List V->Hp->Prop),@At->t σ H Q->wpAny @Cl X.A (evalAll ((backToKw pos (keywordEach kws X.env)).map (·.2))) (AP X pins σ Q) X.xe s
section
variable {X:Cx}{CX:vB}{k:Nat}{f C:Addr}{fd:FuncData}{ps ks:@H_}{sp:Sp}{E:XK}{x m:Str}{p pos apos kpos:Pos}{e o:Expr}{es:List Expr}{kws:List Keyword}{te ta:TE}{t tk:TA}{nm:Option Str}
def Ji:PK X [] FK:=λ_ _ _ _ H Q I h=>wpAny_evalAll_nil ⟨[],H,I,.nil,h⟩
def ES (ha:PE X e te)(hr:PK X kws t):PK X (⟨nm,e,kpos⟩ :: kws) (zI te t):=by
 intro pos pins s σ H Q I h
 show wpAny _ _ (evalAll ((do let v <-eval e X.env;standAt pos;pure v) :: (backToKw pos (keywordEach kws X.env)).map (·.2))) _ _ s
 refine wpAny_evalAll_cons (Ou (cc (ha pins s σ H _ I h) λu s1 ⟨x,H1,I1,r1,q1⟩=>Ou (wpAny_standAt (OZ ?_))))
 exact cc (hr pos pins s1 σ H1 _ I1 q1) λus s2 ⟨xs,H2,I2,r2,q2⟩=>⟨x :: xs,H2,I2,.cons r1 r2,q2⟩
variable {g:@GM->@GM->@GM}{gV:List V->List V->List V}
end
structure aF (N P:@H_)(sc:Scope):Prop where
 kind:sc.kind=.function
 co:sc.isCoroutine=false
 gen:sc.isGenerator=false
 nd:N.Nodup
 pre:N.take P.length=P
 par:∀x∈P,sc.names.lookup x=some .local\/sc.names.lookup x=some .cell
 nofree:∀y∈sc.names,y.2≠.free
theorem uw {kindOf:Str->Option NameKind}{x:Str}:∀{binds:List (Str×Value)} {m:@FM},(∀v,(x,v)∉binds)->bindL kindOf binds m x=m x
 | [],_,_=>rfl
 | (n,v) :: r,m,h=>by
  unfold bindL
  rw[uw λw hw=>h w (OF _ hw)]
  split
  ·have:x≠n:=by rintro rfl;exact h v OH
   simp[this]
  ·rfl
theorem tQ {kindOf:Str->Option NameKind}{x:Str}:∀{binds:List (Str×Value)} {m:@FM},(∀v,(x,v)∉binds)->bindC kindOf binds m x=m x
 | [],_,_=>rfl
 | (n,v) :: r,m,h=>by
  unfold bindC
  rw[tQ λw hw=>h w (OF _ hw)]
  split
  ·rfl
  ·have:x≠n:=by rintro rfl;exact h v OH
   simp[this]
theorem tO {kindOf:Str->Option NameKind}{x:Str}{v:Value}:∀{P:@H_} {vs:@GM} {i:Nat} {m:@FM},P.Nodup->P[i]? =some x->vs[i]? =some v->kindOf x=some .local->
  bindL kindOf (P.zip vs) m x=some v
 | [],_,_,_,_,h,_,_=>by simp at h
 |_ :: _,[],_,_,_,_,h,_=>by simp at h
 |p :: P,w :: vs,0,m,nd,h1,h2,hk=>by
  simp at h1 h2;subst h1;subst h2
  show bindL kindOf ((p,w) :: P.zip vs) m p=_
  unfold bindL
  rw[uw λv hv=>(Pz.mp nd).1 (QP hv).1,Ov hk]
  simp
 |p :: P,w :: vs,i + 1,m,nd,h1,h2,hk=>by
  show bindL kindOf ((p,w) :: P.zip vs) m x=_
  unfold bindL
  exact tO (i:=i) (Pz.mp nd).2 (by simpa using h1) (by simpa using h2) hk
theorem tT {kindOf:Str->Option NameKind}{x:Str}{v:Value}:∀{P:@H_} {vs:@GM} {i:Nat} {m:@FM},P.Nodup->P[i]? =some x->vs[i]? =some v->kindOf x≠some .local->
  bindC kindOf (P.zip vs) m x=some v
 | [],_,_,_,_,h,_,_=>by simp at h
 |_ :: _,[],_,_,_,_,h,_=>by simp at h
 |p :: P,w :: vs,0,m,nd,h1,h2,hk=>by
  simp at h1 h2;subst h1;subst h2
  show bindC kindOf ((p,w) :: P.zip vs) m p=_
  unfold bindC
  rw[tQ λv hv=>(Pz.mp nd).1 (QP hv).1,OA hk]
  simp
 |p :: P,w :: vs,i + 1,m,nd,h1,h2,hk=>by
  show bindC kindOf ((p,w) :: P.zip vs) m x=_
  unfold bindC
  exact tT (i:=i) (Pz.mp nd).2 (by simpa using h1) (by simpa using h2) hk
def start (N:@H_)(vs:List V):St:=vs.map some ++ List.replicate (N.length - vs.length) none
def j9 (CX:vB)(P:Program)(w:World)(K:Frag)(mg:@FM)(base:Heap)(N:@H_)(qual:Str)(scope:Scope)(f:Addr)(cd:Value)(A:Around)(outer:List Env)(s:Shared)(H:Hp)(E:XK):Cx where
 prog:=P
 w:=w
 K:=K
 mg:=mg
 base:=base
 A:=A.deeper (envOfC qual scope s.heap.objs.size f cd)
 N:=N
 s₀:=s
 H₀:=H
 env:=envOfC qual scope s.heap.objs.size f cd
 outer:=outer
 stack:=envOfC qual scope s.heap.objs.size f cd :: outer
 ex:=[]
 calm:=true
 fn:=λ_=>true
 pn:=[]
 xe:=λe s'=>wpAny (model P w) (A.deeper (envOfC qual scope s.heap.objs.size f cd)) (leaving (envOfC qual scope s.heap.objs.size f cd) e) (λ_ s''=>CX outer H s E e s'') (λe' s''=>CX outer H s E e' s'') s'
def xM {sc:Scope}{n:Nat}{x:Str}(h:sc.names.lookup x=some .cell):∃c,(cellsFrom n sc.names []).lookup x=some c:=by
 have q:=Qi sc.names n [] (.inl h)
 exact Qb.mp q
def ug {CX:vB}{P:Program}{w:World}{K:Frag}{mg:@FM}{base:Heap}{N ps:@H_}{qual:Str}{scope:Scope}{f:Addr}{cd:Value}{A:Around}{outer:List Env}{s s1:Shared}{H:Hp}{E:XK}{us:@GM}{vs:List V}
  (S:aF N ps scope) (hd:A.handled=none) (e0:rR P w K mg base A outer s H) (hl:vs.length=ps.length) (r:Vals vs us)
  (x:InCallC s s.heap.objs.size (bindL (envOfC qual scope s.heap.objs.size f cd).kindOf (ps.zip us) λ_=>none) (cellsFrom (s.heap.objs.size + 1) scope.names []) (bindC (envOfC qual scope s.heap.objs.size f cd).kindOf (ps.zip us) λ_=>none) s1) :
  Inv (j9 CX P w K mg base N qual scope f cd A outer s H E) [] (start N vs) H s1:=by
 have hpl:ps.length<=N.length:=by have:=congrArg List.length S.pre;rw[Pu] at this;omega
 obtain⟨h1,tk,rfl,hk⟩:=x.done
 have noA:∀b:Addr,b∉(j9 CX P w K mg base N qual scope f cd A outer s H E).ex:=λb z=>absurd (show b∈([]:List Addr) from z) @IN
 refine⟨⟨e0.mod,S.kind,rfl,rfl,Ox _,λy z c h1 h2=>?_,λy hy=>?_,λy c _ h=>?_,λ_=>hd,Around.frames_deeper e0.frames,.inr ⟨rfl,rfl⟩,λb z=>absurd z (noA b),e0.bs,e0.bsz,λb _ _=>noA b,λb z=>absurd z (noA b),e0.funs,e0.frf⟩,
  rfl,e0.bare,Un.kept hk,⟨_,x.toInCall.ns,λi y v h1 h2 h3=>?_⟩,λy c h=>⟨_,x.cell y c h⟩,e0.hok.fresh (Ox _),λy c h=>?_,λp hp=>absurd (show p∈([]:@B_) from hp) @IN,e0.hok.kept hk,?_⟩
 ·exact name_of_addr x.apart (Pg h1) (Pg h2)
 ·have hy:scope.names.lookup y=some .cell\/scope.names.lookup y=some .free:=hy
  rcases hy with hy |hy
  ·exact xM hy
  ·exact absurd rfl (S.nofree _ (Pg hy))
 ·exact QG (x.above y c (Pg h))
 ·have hi:i < vs.length:=by
   unfold start at h2
   by_cases hi:i < vs.length
   ·exact hi
   ·rw[O2 (by simpa using hi)] at h2
    rw[PH] at h2
    split at h2 <;> cases h2
  have ha:vs[i]? =some v:=by
   unfold start at h2
   rw[O0 (by simpa using hi),OK] at h2
   cases e:vs[i]? with
   |none=>rw[e] at h2;cases h2
   |some a=>rw[e] at h2;cases h2;rfl
  obtain⟨u,hu,rv⟩:=r.get ha
  have hp:ps[i]? =some y:=by
   rw[<-S.pre,List.getElem?_take_of_lt (@AT)];exact h1
  have ndP:ps.Nodup:=by rw[<-S.pre];exact S.nd.sublist (List.take_sublist _ _)
  refine⟨u,rv,?_⟩
  rcases S.par y (OV hp) with k |k
  ·exact .inl ⟨k,tO ndP hp hu k⟩
  ·obtain⟨c,e⟩:=xM (n:=s.heap.objs.size + 1) k
   refine .inr ⟨.inl k,c,e,?_⟩
   have q:=x.cell y c e
   rw[tT ndP hp hu (by show scope.names.lookup y≠_;rw[k];decide)] at q
   exact q
 ·exact e0.hok.fresh (QG (x.above y c (Pg h)))
 ·unfold start
  show _=N.length
  rw[OT,OB,Pe]
  omega
theorem Eh {CX:vB}{P:Program}{w:World}{K:Frag}{mg:@FM}{base:Heap}{k:Nat}{f:Addr}{name qual:Str}{params:Arguments}{body:List Stmt}{scope:Scope}{dV kV doc pm cdv ct oc:Value}{an od:@Ix}
  {osl:Array (Option Value)} {N ps:@H_} {sp:Sp} (lk:K.lookup f=some ⟨oc,od,.func (PySem.W.fnOf name qual params body scope dV kV doc pm an cdv ct),osl⟩) (hcd:PySem.W.codeIn K cdv qual=true) (S:aF N ps scope)
  (len:∀vs H Q E,sp vs H Q E->vs.length=ps.length)
  (hbody:∀(A:Around) (outer:List Env) (s:Shared) (H:Hp) (vs:List V) (Q:VK) (E:XK),dN k (A.deeper (envOfC qual scope s.heap.objs.size f cdv))->sp vs H Q E->
   ∃t,pw (j9 CX P w K mg base N qual scope f cdv A outer s H E) body t/\t {nx:=λ_ H'=>Q .non H',rt:=Q} (start N vs) H) :
  e8 P w K mg base CX (k + 1) f (PySem.W.fnOf name qual params body scope dV kV doc pm an cdv ct) ps sp:=by
 refine⟨len,λA outer s H args us vs Q E hr e0 hb r hsp=>?_⟩
 have hl:=len _ _ _ _ hsp
 have KX:K.In s.heap:=e0.mod.kin.keeps λb o e=>(e0.bs b o e).1
 have lim:s.heap.NoLimit:=e0.mod.nolimit.keeps λb o e=>(e0.bs b o e).1
 have hkind:∀y∈ps.zip us,scope.names.lookup y.1=some .local\/(scope.names.lookup y.1=some .cell/\((cellsFrom (s.heap.objs.size + 1) scope.names []).lookup y.1).isSome=true):=λ⟨n,v⟩ hy=>by
  rcases S.par n (QP hy).1 with q |q
  ·exact .inl q
  ·exact .inr ⟨q,Qi _ _ _ (.inl q)⟩
 refine codeAny_call_function hr.depth (KX _ _ lk) rfl S.co S.gen rfl (PySem.W.codeRec_of KX hcd) (hb _ _ _ _ ?_)
 refine QN S.kind hkind λenv he s1 x=>?_
 subst he
 refine⟨lim.keeps x.toInCall.keep,codeAny_func ?_⟩
 obtain⟨t,ht,hq⟩:=hbody A outer s H vs Q E (hr.deeper _) hsp
 have I:Inv (j9 CX P w K mg base N qual scope f cdv A outer s H E) [] (start N vs) H s1:=ug S hr.hd e0 hl r x
 refine Pl (ht [] s1 (start N vs) H _ I hq) (λfl s' hs=>?_) λe s' hs=>hs
 have fin:∀{σ':St} {H':Hp} {v:V} {u:Value},Inv (j9 CX P w K mg base N qual scope f cdv A outer s H E) [] σ' H' s'->RelV v u->Q v H'->CE outer P w H s Q u s':=
  λ{σ' H' v u} J rv q=>⟨v,H',J.os,J.bare,J.base,J.hok,rv,q⟩
 cases fl with
 |ret u=>
  obtain⟨v,σ',H',J,rv,q⟩:=hs
  exact fin J rv q
 |next=>
  obtain⟨σ',H',J,q⟩:=hs
  exact fin (v:=V.non) (u:=Value.none) J rfl q
 |brk=>
  obtain⟨_,_,_,q⟩:=hs
  exact False.elim q
 |cont=>
  obtain⟨_,_,_,q⟩:=hs
  exact False.elim q
section
variable {X:Cx}{x:Str}{p pos:Pos}{e:Expr}{es:List Expr}{t:TA}{id T:String}{r:List V->Hp->VK->Prop}
def N3 (r:List V->Hp->VK->Prop)(t:TA):TE:=λσ H Q=>t σ H λvs H1=>r vs H1 Q
def bB (hc:fA X (.builtin id) r)(hg:Gl X x)(hm:X.mg x=none)(hv:bootBuiltins x=some (.builtin id))(ha:PA X (e :: es) t)(hn:x≠"__name__":=by decide)(hdb:@FS:=by decide)
  (he:starEach (e :: es) X.env=(false,eval e X.env) :: starEach es X.env:=by rfl) (hpl:(backTo pos (starEach es X.env)).any (·.1)=false:=by rfl):PE X (.Call (.Name x p) (e :: es) [] pos) (N3 r t):=by
 intro pins s σ H Q I h
 refine Ql (nu I hg hm hv ?_ hn hdb)
 exact PyProof.Rows.callWith_builtin1 (cc (ha pos pins s σ H _ I h) λus s1 ⟨vs,H1,I1,r1,q1⟩=>hc pins s1 σ H1 vs us Q I1 r1 q1) he hpl
def mD (hc:fA X (.type T) r)(hg:Gl X x)(hm:X.mg x=none)(hv:bootBuiltins x=some (.type T))(ha:PA X (e :: es) t)(hn:x≠"__name__":=by decide)(hdb:@FS:=by decide)
  (he:starEach (e :: es) X.env=(false,eval e X.env) :: starEach es X.env:=by rfl) (hpl:(backTo pos (starEach es X.env)).any (·.1)=false:=by rfl):PE X (.Call (.Name x p) (e :: es) [] pos) (N3 r t):=by
 intro pins s σ H Q I h
 refine Ql (nu I hg hm hv ?_ hn hdb)
 exact Qj (cc (ha pos pins s σ H _ I h) λus s1 ⟨vs,H1,I1,r1,q1⟩=>hc pins s1 σ H1 vs us Q I1 r1 q1) he hpl
end
end L2
namespace HT
open PySem PyProof.Rows
section
open PySem.SeqAt
open PySem.AutoSeq1 (wpAny_loadPart')
open PySem.MeetsSeq PySem.MeetsSeq2 PySem.MeetsSeq3
end
section
variable {prog:Program}{w:World}{A:Around}{E:@Db}{s:Shared}
def GQ {t b:Addr}{vs ws:@GM}{Q:@Db}(ht:IsTup s.heap t vs.toArray)(hb:IsTup s.heap b ws.toArray)(hv:vs≠ [])
  (h1:ws= []->Q (.ref t) s) (h2:ws≠ []->Q (.ref s.heap.objs.size) {s with heap:=s.heap.push {cls:=.type "tuple",data:=.seq (vs ++ ws).toArray}})
  (hsz:vs.length + ws.length<=sizeLine):wpAny (model prog w) A (binaryOp .Add (.ref t) (.ref b)) Q E s:=by
 obtain⟨⟨cls,dd,data,sl⟩,ho,hc,n,hd⟩:=id ht
 obtain⟨⟨cls2,dd2,data2,sl2⟩,ho2,hc2,n2,hd2⟩:=id hb
 simp only at hc hd hc2 hd2
 subst hc hd hc2 hd2
 have e:vs.toArray ++ ws.toArray=(vs ++ ws).toArray:=by simp
 by_cases hw:ws= []
 ·exact concat_meets ⟨_,ho,rfl⟩ ⟨_,ho2,rfl⟩ noFill_tuple_add seq_tuple_add PySem.F.slot_tuple_add PySem.F.entry_tuple_add (QT _ _)
   (tuple_addW1 t b vs.toArray ws.toArray n n2 dd dd2 sl sl2 (by simpa using hv) (by simp[hw])) ⟨ho,ho2,h1 hw⟩
 ·refine concat_meets ⟨_,ho,rfl⟩ ⟨_,ho2,rfl⟩ noFill_tuple_add seq_tuple_add PySem.F.slot_tuple_add PySem.F.entry_tuple_add (QT _ _)
   (tuple_addW2 t b vs.toArray ws.toArray n n2 dd dd2 sl sl2 (by simpa using hv) (by simpa using hw) (by rw[OD,OD];exact hsz)) ⟨ho,ho2,?_⟩
  rw[e]
  exact h2 hw
def ue (n d:Nat):Option Int->Nat
 |none=>d
 |some v=>if v < 0 then (v + (n:Int)).toNat else min v.toNat n
def xA (n d:Nat):ue n d none=d:=rfl
def Az (n d k:Nat):ue n d (some (k:Int))=min k n:=by
 show (if (k:Int) < 0 then ((k:Int) + (n:Int)).toNat else min (k:Int).toNat n)=min k n
 rw[OA (@AT),O8]
end
end HT
namespace L2
open PySem PySem.Spec PyProof.Rows
abbrev TO:=St->Hp->(Option Int->Hp->Prop)->Prop
def PO (X:Cx)(e:Option Expr)(t:TO):Prop:=
 ∀(pins:@B_) (s:Shared) (σ:St) (H:Hp) (Q:Option Int->Hp->Prop),@At->t σ H Q->
  wpAny @Cl X.A (evalPart e X.env) (λu s'=>∃o H',Inv X pins σ H' s'/\IsPart u o/\Q o H') X.xe s
def FL:TO:=λ_ H Q=>Q none H
def J8 (t:TE):TO:=λσ H Q=>t σ H λx H1=>∃i,x=.int i/\Q (some i) H1
section
variable {X:Cx}{e:Expr}{te:TE}{lo hi:Option Expr}{tl th:TO}{pos p2:Pos}
def Gh:PO X none FL:=by
 intro pins s σ H Q I h
 rw[evalPart_none]
 exact OZ ⟨none,H,I,.none,h⟩
def Fp (h:PE X e te):PO X (some e) (J8 te):=by
 intro pins s σ H Q I hw
 rw[evalPart_some]
 refine cc (h pins s σ H _ I hw) λu s1 ⟨x,H1,I1,r1,q1⟩=>?_
 obtain⟨i,rfl,q⟩:=q1
 obtain⟨t,rfl⟩:=r1
 exact⟨some i,H1,I1,.int i t,q⟩
def N7 (X:Cx)(r:V->Option Int->Option Int->Hp->VK->Prop):Prop:=
 ∀(pins:@B_) (s:Shared) (σ:St) (H:Hp) (x:V) (v vl vu:Value) (lo hi:Option Int) (sl:Addr) (Q:VK),@At->RelV x v->s.heap.IsSliceOf sl vl vu .none->IsPart vl lo->IsPart vu hi->r x lo hi H Q->
  ∃T id,typeLookup (.type T) "__getitem__"=pure (some (.builtin id))/\s.TypeIs v T/\wpAny @Cl X.A (getItem v (.ref sl)) (EP X pins σ Q) X.xe s
def Oo (r:V->Option Int->Option Int->Hp->VK->Prop)(te:TE)(tl th:TO):TE:=λσ H Q=>te σ H λx H1=>tl σ H1 λl H2=>th σ H2 λu H3=>r x l u H3 Q
def Cs {r:V->Option Int->Option Int->Hp->VK->Prop}(hr:N7 X r)(he:PE X e te)(hl:PO X lo tl)(hu:PO X hi th):PE X (.Subscript e (.Slice lo hi none p2) pos) (Oo r te tl th):=by
 intro pins s σ H Q I h
 refine Subscript_ (cc (he pins s σ H _ I h) λv s1 ⟨x,H1,I1,r1,q1⟩=>?_)
 refine wpAny_Slice (cc (hl pins s1 σ H1 _ I1 q1) λvl s2 ⟨l,H2,I2,pl,q2⟩=>cc (hu pins s2 σ H2 _ I2 q2) λvu s3 ⟨u,H3,I3,pu,q3⟩=>?_)
 rw[evalPart_none]
 refine OZ ?_
 have I4:Inv X pins σ H3 {s3 with heap:=s3.heap.push {cls:=.type "slice",data:=.fields #[vl,vu,.none]}}:=I3.kept (t':=s3.toks) λb ob q=>Ow _ q
 obtain⟨T,id,hT,ht,hg⟩:=hr pins {s3 with heap:=s3.heap.push {cls:=.type "slice",data:=.fields #[vl,vu,.none]}} σ H3 x v vl vu l u s3.heap.objs.size Q I4 r1 (Heap.IsSliceOf.new ..) pl pu q3
 show wpAny @Cl X.A (subscriptTail e (.Slice lo hi none p2) v (.ref s3.heap.objs.size)) (EP X pins σ Q) X.xe {s3 with heap:=s3.heap.push {cls:=.type "slice",data:=.fields #[vl,vu,.none]}}
 exact tail_any (ops:=[.ref s3.heap.objs.size,v]) ht hT hg (by with_unfolding_all rfl)
def xZ (xs:List V)(lo hi:Option Int):List V:=(xs.drop (HT.ue xs.length 0 lo)).take (HT.ue xs.length xs.length hi - HT.ue xs.length 0 lo)
def xg (xs:List V)(lo hi:Option Int):(xZ xs lo hi).length<=xs.length:=by
 unfold xZ
 rw[Pu,Qw]
 omega
def KA (K:Frag):R2:=λx y H Q=>∃a b xs ys,x=.ref a/\y=.ref b/\hW K H a xs/\hW K H b ys/\xs≠ []/\xs.length + ys.length<=sizeLine/\
 (ys= []->Q (.ref a) H)/\(ys≠ []->∀p,H p=none->Q (.ref p) (upd H p (.tup (xs ++ ys))))
theorem Vals.nil_iff {xs:List V}{us:@GM}(r:Vals xs us):us= []↔xs= []:=by
 cases r with
 |nil=>simp
 |cons _ _=>simp
def E3:kW X (binaryOp .Add) (KA X.K):=by
 intro pins s σ H x y v u Q I rx ry h
 obtain⟨a,b,xs,ys,rfl,rfl,ha,hb,hx,hz,q1,q2⟩:=h
 cases rx
 cases ry
 obtain⟨its,r1,p1,_⟩:=I.tuple ha
 obtain⟨its2,r2,p2,_⟩:=I.tuple hb
 refine HT.GQ p1 p2 (λz=>hx (r1.nil_iff.mp z)) (λz=>⟨.ref a,H,I,rfl,q1 (r2.nil_iff.mp z)⟩) (λz=>?_) (by rw[<-r1.length,<-r2.length];exact hz)
 refine⟨.ref s.heap.objs.size,_,I.laid (t':=s.toks) (o:=.tup (xs ++ ys)) (λb ob q=>Ow _ q) (Ox _) ?_,rfl,q2 (λw=>z (r2.nil_iff.mpr w)) _ (I.hok.fresh (Ox _))⟩
 exact⟨by rw[OT];exact hz,_,r1.append r2,vp.new _ _⟩
end
def vR (n:Nat)(i:Int):Option Nat:=if 0<=i then (if i < n then some i.toNat else none) else if -(n:Int)<=i then some (i + n).toNat else none
def mT {α:Type}(xs:List α)(i:Int):Option α:=(vR xs.length i).bind λj=>xs[j]?
def zE {n:Nat}{i:Int}{j:Nat}(h:vR n i=some j):seqIndex? i n=some j/\j < n/\ -(n:Int)<=i/\i < n:=by
 unfold vR at h
 by_cases h0:0<=i
 ·rw[Ov h0] at h
  by_cases h1:i < n
  ·rw[Ov h1] at h
   have e:i.toNat=j:=Option.some.inj h
   exact⟨by rw[seqIndex_of h0 h1,e],@AT,@AT,h1⟩
  ·rw[OA h1] at h;cases h
 ·rw[OA h0] at h
  by_cases h1: -(n:Int)<=i
  ·rw[Ov h1] at h
   have e:(i + n).toNat=j:=Option.some.inj h
   exact⟨by rw[seqIndex_neg (@AT) h1,e],@AT,h1,@AT ⟩
  ·rw[OA h1] at h;cases h
theorem u9 {α:Type}{xs:List α}{i:Int}{v:α}(h:mT xs i=some v):∃j,seqIndex? i xs.length=some j/\xs[j]? =some v/\j < xs.length/\ -(xs.length:Int)<=i/\i < xs.length:=by
 unfold mT at h
 cases e:vR xs.length i with
 |none=>rw[e] at h;cases h
 |some j=>
  rw[e] at h
  obtain⟨h1,h2,h3,h4⟩:=zE e
  exact⟨j,h1,h,h2,h3,h4⟩
def ko {α:Type}{xs:List α}{j:Nat}{v:α}(h:xs[j]? =some v):mT xs (j:Int)=some v:=by
 have hj:j < xs.length:=(Oy.mp h).1
 have e:vR xs.length (j:Int)=some j:=by
  unfold vR
  rw[Ov (@AT),Ov (@AT)];simp
 unfold mT;rw[e];exact h
def Au (b:Expr):Prop:=∀o i,subscripted b false o i=operate [o,i] (getItem o i)
def Ej (X:Cx)(r:R2):Prop:=
 ∀(value slice:Expr) (pins:@B_) (s:Shared) (σ:St) (H:Hp) (x y:V) (v u:Value) (Q:VK),@At->RelV x v->RelV y u->r x y H Q->
  subscripted slice false v u=operate [v,u] (getItem v u)->wpAny @Cl X.A (subscriptTail value slice v u) (EP X pins σ Q) X.xe s
def Ol (X:Cx)(id:String)(r:V->List V->Hp->VK->Prop):Prop:=
 ∀(pins:@B_) (s:Shared) (σ:St) (H:Hp) (x:V) (xs:List V) (v:Value) (us:@GM) (Q:VK),@At->RelV x v->Vals xs us->r x xs H Q->
  wpAny @Cl X.A (call (.builtin id) (v :: us)) (EP X pins σ Q) X.xe s
section
variable {X:Cx}{a b:Expr}{ta tb:TE}{pos:Pos}
def Ej.or {r r':R2}(h:Ej X r)(h':Ej X r'):Ej X (λx y H Q=>r x y H Q\/r' x y H Q):=by
 intro value slice pins s σ H x y v u Q I rx ry q hs
 rcases q with q |q
 ·exact h value slice pins s σ H x y v u Q I rx ry q hs
 ·exact h' value slice pins s σ H x y v u Q I rx ry q hs
def mX {r:R2}(hr:Ej X r)(ha:PE X a ta)(hb:PE X b tb)(hs:Au b):PE X (.Subscript a b pos) (LZ r ta tb):=by
 intro pins s σ H Q I h
 exact Subscript_ (IT ha hb I h λv u s2 x y H2 I2 rx ry q=>hr a b pins s2 σ H2 x y v u Q I2 rx ry q (hs _ _))
def IE (K:Frag):R2:=λx y H Q=>∃p xs i v,x=.ref p/\y=.int i/\iY K H p xs/\mT xs i=some v/\Q v H
def LU (K:Frag):R2:=λx y H Q=>∃p xs i v,x=.ref p/\y=.int i/\hW K H p xs/\mT xs i=some v/\Q v H
def KP:R2:=λx y H Q=>∃z i c,x=.str z/\y=.int i/\z.length<=sizeLine/\mT z.cps.toList i=some c/\Q (.str ⟨#[c]⟩) H
def iL:Ej X (IE X.K):=by
 intro value slice pins s σ H x y v u Q I rx ry h hs
 obtain⟨p,xs,i,z,rfl,rfl,hq,he,q⟩:=h
 cases rx
 obtain⟨t,rfl⟩:=ry
 obtain⟨its,r,pl,hz⟩:=I.list hq
 obtain⟨j,h1,h2,h3,h4,h5⟩:=u9 he
 obtain⟨w,ew,rw'⟩:=r.get h2
 have hl:=r.length
 have hn:=oO
 have fin:EP X pins σ Q w s:=⟨z,H,I,rw',q⟩
 by_cases h0:0<=i
 ·have hj:i.toNat=j:=by
   rw[seqIndex_of h0 h5] at h1
   exact Option.some.inj h1
  exact item_listR pl.isList h0 (@AT) (by rw[hj];simpa using ew) fin hs
 ·have hj:(i + (its.toArray.size:Int)).toNat=j:=by
   rw[seqIndex_neg (@AT) h4] at h1
   rw[OD,<-hl]
   exact Option.some.inj h1
  exact subscriptTail_builtinR (x:=w) pl.isList.typeIs slot_list_getitem.lookup
   (wpAny_getItem_list_neg (Q:=λr s'=>r=w/\EP X pins σ Q r s') pl.isList (@AT) (by rw[OD] <;> omega) (@AT) (by rw[hj];simpa using ew) ⟨rfl,fin⟩) hs
def Je:Ej X (LU X.K):=by
 intro value slice pins s σ H x y v u Q I rx ry h hs
 obtain⟨p,xs,i,z,rfl,rfl,hq,he,q⟩:=h
 cases rx
 obtain⟨t,rfl⟩:=ry
 obtain⟨its,r,pl,hz⟩:=I.tuple hq
 obtain⟨j,h1,h2,h3,h4,h5⟩:=u9 he
 obtain⟨w,ew,rw'⟩:=r.get h2
 have hl:=r.length
 have hn:=oO
 have fin:EP X pins σ Q w s:=⟨z,H,I,rw',q⟩
 exact subscriptTail_builtinR (x:=w) pl.typeIs slot_tuple_getitem.lookup
  (getItem_tuple (j:=j) (Q:=λr s'=>r=w/\EP X pins σ Q r s') pl (@AT) (@AT) (by rw[OD,<-hl];exact h1) (by simpa using ew) ⟨rfl,fin⟩) hs
def Ik:Ej X KP:=by
 intro value slice pins s σ H x y v u Q I rx ry h hs
 obtain⟨z,i,c,rfl,rfl,hz,he,q⟩:=h
 obtain⟨t,rfl⟩:=rx
 obtain⟨t',rfl⟩:=ry
 obtain⟨j,h1,h2,h3,h4,h5⟩:=u9 he
 have hl:z.cps.toList.length=z.length:=by simp[Str.length]
 rw[hl] at h1 h4 h5
 have hn:=oO
 exact tail_any (typeIs_str s z t) slot_str_getitem.lookup (getItem_str (c:=c) (by
  have e1:decide (i < -(2 ^ 63:Int))=false:=ON (@AT)
  have e2:decide (i>=2 ^ 63)=false:=ON (@AT)
  rw[e1,e2,Bool.or_false]) (by rw[h1];simpa using h2) ⟨.str ⟨#[c]⟩,H,I.tok _,⟨_,rfl⟩,q⟩) hs
def NV (K:Frag):R2:=λx y H Q=>IE K x y H Q\/LU K x y H Q\/KP x y H Q
def aQ:Ej X (NV X.K):=iL.or (Je.or Ik)
def zl (its:@GM)(n j:Nat)(u:Value):Obj.mapSeq (·.setIfInBounds j u) {cls:=.type "list",data:=.seq its.toArray n}={cls:=.type "list",data:=.seq (its.set j u).toArray n}:=by
 simp[Obj.mapSeq]
def Inv.lst {pins:@B_}{σ:St}{H:Hp}{s:Shared}{p:Addr}{xs:List V}(I:@At)(h:H p=some (.lst xs)) :
  ∃(its:@GM) (n:Nat),Vals xs its/\s.heap.get? p=some {cls:=.type "list",data:=.seq its.toArray n}/\xs.length<=sizeLine:=by
 obtain⟨z,its,n,r,e⟩:=I.hok p _ h
 exact⟨its,n,r,e,z⟩
def Inv.lstUpd {pins:@B_}{σ:St}{H:Hp}{s:Shared}{p:Addr}{xs ys:List V}{its its':@GM}{n n':Nat}{f:Obj->Obj}(I:@At)(h:H p=some (.lst xs))
  (ho:s.heap.get? p=some {cls:=.type "list",data:=.seq its.toArray n}) (hf:f {cls:=.type "list",data:=.seq its.toArray n}={cls:=.type "list",data:=.seq its'.toArray n'}) (r:Vals ys its') (hz:ys.length<=sizeLine) (t:Nat) :
  Inv X pins σ (upd H p (.lst ys)) {s with heap:=s.heap.update p f,toks:=t}:=by
 have e:(s.heap.update p f).get? p=some {cls:=.type "list",data:=.seq its'.toArray n'}:=by
  rw[QH f ho (by rw[hf] <;> rfl),hf]
 refine I.write (x:=p) (e:=p) (by rw[h];trivial) (.inl rfl) (λb u hb q=>(Py _ _ (Ne.symm hb)).trans q) ⟨_,e⟩ ?_
 exact⟨hz,its',n',r,e⟩
def Kl:V->V->V->Hp->(Hp->Prop)->Prop:=λo i v H Q=>∃p xs k j,o=.ref p/\i=.int k/\H p=some (.lst xs)/\vR xs.length k=some j/\Q (upd H p (.lst (xs.set j v)))
def set_list:Kv X Kl:=by
 intro pins s σ H o i v ov iv u Q I ro ri rv h
 obtain⟨p,xs,k,j,rfl,rfl,hp,hj,q⟩:=h
 cases ro
 obtain⟨t,rfl⟩:=ri
 obtain⟨its,n,r,ho,hz⟩:=I.lst hp
 obtain⟨h1,h2,h3,h4⟩:=zE hj
 have hl:=r.length
 have hn:=oO
 have I':Inv X pins σ (upd H p (.lst (xs.set j v))) {s with heap:=s.heap.update p (Obj.mapSeq (·.setIfInBounds j u))}:=
  I.lstUpd hp ho (zl its n j u) (r.set rv j) (by rw[PQ];exact hz) s.toks
 by_cases h0:0<=k
 ·have hk:k.toNat=j:=by
   rw[seqIndex_of h0 h4] at h1
   exact Option.some.inj h1
  exact PySem.W.ki_setAt ho h0 (@AT) (by rw[OD,<-hl];exact h4) (by rw[hk];exact⟨_,I',q⟩)
 ·have hk:(k + (its.toArray.size:Int)).toNat=j:=by
   rw[seqIndex_neg (@AT) h3] at h1
   rw[OD,<-hl]
   exact Option.some.inj h1
  exact PySem.W.ki_setBack ho (@AT) (by rw[OD,<-hl];exact h3) (@AT) (by rw[hk];exact⟨_,I',q⟩)
def u5 (lo hi:Option Int)(n:Nat):(sliceBounds lo hi none n).1=((HT.ue n 0 lo:Nat):Int)/\(sliceBounds lo hi none n).2.1=((HT.ue n n hi:Nat):Int)/\(sliceBounds lo hi none n).2.2=1:=by
 refine⟨?_,?_,rfl⟩
 ·cases lo with
  |none=>simp[sliceBounds,HT.ue]
  |some i=>
   simp only[sliceBounds,HT.ue,Option.getD_none,show (1:Int) > 0 by decide,PL]
   by_cases h:i < 0
   ·simp only[h,PL] <;> omega
   ·simp only[h,PZ] <;> omega
 ·cases hi with
  |none=>simp[sliceBounds,HT.ue]
  |some i=>
   simp only[sliceBounds,HT.ue,Option.getD_none,show (1:Int) > 0 by decide,PL]
   by_cases h:i < 0
   ·simp only[h,PL] <;> omega
   ·simp only[h,PZ] <;> omega
def sI (its:@GM)(lo hi:Option Int):slicePick its.toArray lo hi none=((its.drop (HT.ue its.length 0 lo)).take (HT.ue its.length its.length hi - HT.ue its.length 0 lo)).toArray:=by
 obtain⟨h1,h2,h3⟩:=u5 lo hi its.toArray.size
 unfold slicePick
 rw[h1,h2,h3]
 simp only[sliceRange_one,pick_run,OD] <;> rfl
def MO (K:Frag):V->Option Int->Option Int->Hp->VK->Prop:=λx lo hi H Q=>∃a xs,x=.ref a/\iY K H a xs/\∀p,H p=none->Q (.ref p) (upd H p (.lst (xZ xs lo hi)))
def Gf:N7 X (MO X.K):=by
 intro pins s σ H x v vl vu lo hi sl Q I rx hs pl pu h
 obtain⟨a,xs,rfl,hx,q⟩:=h
 cases rx
 obtain⟨its,r,ht,hz⟩:=I.list hx
 have hlen:=r.length
 refine⟨"list",_,slot_list_getitem.lookup,ht.isList.typeIs,?_⟩
 refine wpAny_getItem_list_slice ht.isList hs pl pu .none @IN ?_ (by rw[OD] <;> omega)
 rw[sI,<-hlen]
 refine⟨.ref s.heap.objs.size,_,I.laid (t':=s.toks) (o:=.lst (xZ xs lo hi)) (λb ob q=>Ow _ q) (Ox _) ?_,rfl,q _ (I.hok.fresh (Ox _))⟩
 exact⟨Pw (xg xs lo hi) hz,_,0,(r.drop (HT.ue xs.length 0 lo)).take (HT.ue xs.length xs.length hi - HT.ue xs.length 0 lo),OQ _ rfl⟩
def vK:fA X (.type "list") (λxs H Q=>∃p ys,xs= [.ref p]/\(iY X.K H p ys\/hW X.K H p ys)/\∀l,H l=none->Q (.ref l) (upd H l (.lst ys))):=by
 intro pins s σ H xs us Q I r h
 obtain⟨p,ys,rfl,hq,q⟩:=h
 obtain⟨u,rfl,rx⟩:=vals1 r
 cases rx
 have fin:∀(its:@GM),Vals ys its->ys.length<=sizeLine->∀(h':Heap) (c':Nat),(∀b o',s.heap.get? b=some o'->h'.get? b=some o')->
   h'.get? s.heap.objs.size=some {cls:=.type "list",dict:=none,data:=.seq its.toArray c',slots:=#[]}->EP X pins σ Q (.ref s.heap.objs.size) {s with heap:=h'}:=λits r' hz h' c' kp e=>
  ⟨.ref s.heap.objs.size,_,I.laid (t':=s.toks) kp (Ox _) (show cw X.prog X.w _ h' _ (.lst ys) from⟨hz,its,c',r',e⟩),rfl,q _ (I.hok.fresh (Ox _))⟩
 rcases hq with hq |hq
 ·obtain⟨its,r',pl,hz⟩:=I.list hq
  have hlen:=r'.length
  obtain⟨o,ho,hc,n,hd⟩:=pl.isList
  exact call_list_seq p (.inl rfl) ho hc hd (λh' c' kp e=>fin its r' hz h' c' kp e) (by simp only[OD] <;> omega)
 ·obtain⟨its,r',pl,hz⟩:=I.tuple hq
  have hlen:=r'.length
  obtain⟨o,ho,hc,n,hd⟩:=pl
  exact call_list_seq p (.inr rfl) ho hc hd (λh' c' kp e=>fin its r' hz h' c' kp e) (by simp only[OD] <;> omega)
def df:fA X (.type "tuple") (λxs H Q=>∃p ys,xs= [.ref p]/\((iY X.K H p ys/\∀l,H l=none->Q (.ref l) (upd H l (.tup ys)))\/(hW X.K H p ys/\Q (.ref p) H))):=by
 intro pins s σ H xs us Q I r h
 obtain⟨p,ys,rfl,h⟩:=h
 obtain⟨u,rfl,rx⟩:=vals1 r
 cases rx
 rcases h with⟨hq,q⟩ | ⟨hq,q⟩
 ·obtain⟨its,r',pl,hz⟩:=I.list hq
  have hlen:=r'.length
  refine call_tuple_list pl.isList (λh' kp=>?_) (by simp only[OD] <;> omega)
  have I1:Inv X pins σ H {s with heap:=h'}:=I.kept (t':=s.toks) kp
  have I2:Inv X pins σ (upd H h'.objs.size (.tup ys)) {s with heap:=h'.push {cls:=.type "tuple",data:=.seq its.toArray}}:=
   I1.laid (t':=s.toks) (λb o e=>Ow _ e) (Ox _) (show cw X.prog X.w _ _ _ (.tup ys) from⟨hz,its,r',vp.new _ _⟩)
  exact⟨.ref h'.objs.size,_,I2,rfl,q _ (I1.hok.fresh (Ox _))⟩
 ·obtain⟨its,r',pl,hz⟩:=I.tuple hq
  exact call_tuple_same pl ⟨.ref p,H,I,rfl,q⟩
def NY (K:Frag)(T:String)(x:V)(H:Hp):Prop:=match x with
 | .str _=>T="str"
 | .int _=>T="int"
 | .ref p=>(T="list"/\∃xs,iY K H p xs)\/(T="tuple"/\∃o,K.lookup p=some o/\o.cls=.type "tuple"/\o.dict=none)\/
   (T="dict"/\((∃kvs,H p=some (.dK kvs))\/∃kvs,H p=some (.dT kvs)))\/(T="set"/\∃S n,H p=some (.set S n))
 |_=>False
theorem I0 {pins:@B_}{σ:St}{H:Hp}{s:Shared}{T:String}{x:V}{v:Value}(I:@At)(r:RelV x v)(ty:NY X.K T x H) :
  s.TypeIs v T/\∀a,v=.ref a->∃ob,s.heap.get? a=some ob/\ob.dict=none:=by
 cases x with
 |str z=>
  obtain⟨t,rfl⟩:=r
  cases (show T="str" from ty)
  exact⟨typeIs_str s z t,λ_ e=>nomatch e⟩
 |int i=>
  obtain⟨t,rfl⟩:=r
  cases (show T="int" from ty)
  exact⟨typeIs_int s i t,λ_ e=>nomatch e⟩
 |ref p=>
  cases r
  rcases ty with⟨rfl,xs,hq⟩ | ⟨rfl,o,hk,hc,hd⟩ | ⟨rfl,hk⟩ | ⟨rfl,S,n,hk⟩
  ·obtain⟨its,_,pl,_⟩:=I.list hq
   refine⟨pl.isList.typeIs,λa e=>?_⟩
   cases e
   obtain⟨o,n,e,c,hd,_⟩:=pl
   exact⟨o,e,hd⟩
  ·refine⟨⟨o,I.kIn p o hk,hc⟩,λa e=>?_⟩
   cases e
   exact⟨o,I.kIn _ o hk,hd⟩
  ·have z:∃o,s.heap.get? p=some o/\o.ExactDict:=by
    rcases hk with⟨kvs,hk⟩ | ⟨kvs,hk⟩
    ·obtain⟨_,_,_,_,o,_,_,e,ex,_⟩:=I.hok p _ hk
     exact⟨o,e,ex⟩
    ·obtain⟨_,_,_,_,o,_,_,e,ex,_⟩:=I.hok p _ hk
     exact⟨o,e,ex⟩
   obtain⟨o,e,ex⟩:=z
   refine⟨⟨o,e,ex.1⟩,λa e2=>?_⟩
   cases e2
   exact⟨o,e,ex.2.1⟩
  ·obtain⟨o,_,_,_,e,ex,_⟩:=I.hok p _ hk
   refine⟨⟨o,e,ex.1⟩,λa e2=>?_⟩
   cases e2
   exact⟨o,e,ex.2.1⟩
 |_=>exact False.elim ty
def Om (K:Frag)(T:String)(r:V->List V->Hp->VK->Prop)(to:TE)(t:TA):TE:=λσ H Q=>to σ H λx H1=>NY K T x H1/\t σ H1 λxs H2=>r x xs H2 Q
variable {o e:Expr}{es:List Expr}{to:TE}{t:TA}{name:Str}{apos cpos:Pos}{T id:String}{r:V->List V->Hp->VK->Prop}
def zF (pa:PlainAttrs T)(slot:Slot T name id)(hty:typeOf (.builtin id)=pure (.type "method_descriptor"))(hm:Ol X id r)(ho:PE X o to)(ha:PA X (e :: es) t)
  (hbase:attributeBase o name X.env (eval o X.env)=eval o X.env:=by rfl)
  (hfew:((backTo cpos (starEach (e :: es) X.env)).all (λx=> !x.1) && (backToKw cpos (keywordEach [] X.env)).all (λx=>x.1.isSome)
   && decide ((e :: es).length + ([]:List Keyword).length + (if ([]:List Keyword).isEmpty then 0 else 1) < 30))=true:=by rfl)
  (hline:(apos.endLine == cpos.line)=true:=by rfl) (hs:starEach (e :: es) X.env=(false,eval e X.env) :: starEach es X.env:=by rfl) (hplain:(backTo cpos (starEach es X.env)).any (·.1)=false:=by rfl) :
  PE X (.Call (.Attribute o name apos) (e :: es) [] cpos) (Om X.K T r to t):=by
 intro pins s σ H Q I h
 refine wpAny_Call_method_late hbase hfew hline rfl (cc (ho pins s σ H _ I h) λv s1 ⟨x,H1,I1,r1,ty,q1⟩=>?_)
 obtain⟨h1,h2⟩:=I0 I1 r1 ty
 refine⟨T,id,pa,slot,hty,h1,h2,?_⟩
 have hA:=ha cpos pins s1 σ H1 _ I1 q1
 rw[hs] at hA ⊢
 refine Calls.callWith_builtin (by show (false || (backTo cpos (starEach es X.env)).any (·.1))=false;rw[hplain] <;> rfl) (Calls.evalArgs_plain ?_)
 exact cc hA λus s2 ⟨vs,H2,I2,r2,q2⟩=>hm pins s2 σ H2 x vs v us Q I2 r1 r2 q2
end
def J0 (X:Cx)(id:String)(r:V->List V->Hp->VK->Prop):Prop:=
 ∀(pins:@B_) (s:Shared) (σ:St) (H:Hp) (x:V) (xs:List V) (v:Value) (us:@GM) (Q:VK),@At->RelV x v->Vals xs us->r x xs H Q->
  wpAny @Cl X.A (call (.builtin id) (v :: us)) (EP X pins σ Q) X.xe s
theorem Vals.one:∀{x:V} {us:@GM},Vals [x] us->∃u,us= [u]/\RelV x u
 |_,_,.cons r .nil=>⟨_,rfl,r⟩
theorem Vals.eraseIdx:∀{xs:List V} {us:@GM} (i:Nat),Vals xs us->Vals (xs.eraseIdx i) (us.eraseIdx i)
 |_,_,_,.nil=>.nil
 |_,_,0,.cons _ t=>t
 |_,_,i + 1,.cons r t=>.cons r (Vals.eraseIdx i t)
theorem Vals.rep {xs:List V}{us:@GM}(h:Vals xs us):∀k:Nat,Vals (List.replicate k xs).flatten (List.replicate k us).flatten
 | 0=>.nil
 |k + 1=>by
  rw[Pq,Pq,P4,P4]
  exact Vals.append h (Vals.rep h k)
theorem t8 {α:Type}:∀(l:List α) (i:Nat),(l.eraseIdx i).length<=l.length
 | [],_=>Ox _
 |_ :: _,0=>Nat.le_succ _
 |_ :: r,i + 1=>Nat.succ_le_succ (t8 r i)
theorem foldl_rep (its:@GM):∀(k:Nat) (acc:@GM),
  List.foldl (λx1 x2=>x1 ++ x2) acc.toArray (List.replicate k its.toArray)=(acc ++ (List.replicate k its).flatten).toArray
 | 0,acc=>by simp
 |k + 1,acc=>by
  have e:acc.toArray ++ its.toArray=(acc ++ its).toArray:=by simp
  have e2:(acc ++ its) ++ (List.replicate k its).flatten=acc ++ (List.replicate (k + 1) its).flatten:=by
   rw[Pq,P4,Qe]
  rw[<-e2,<-foldl_rep its k (acc ++ its),<-e,Pq,List.foldl_cons]
section
variable {X:Cx}{pins:@B_}{σ:St}{H:Hp}{s:Shared}{l b:Addr}{xs ys zs:List V}
def Inv.lset {its its':@GM}{n:Nat}{f:Array Value->Array Value}{t':Nat}(I:@At)(hH:H l=some (.lst xs))
  (e:s.heap.get? l=some {cls:=.type "list",data:=.seq its.toArray n}) (hf:f its.toArray=its'.toArray) (hv:Vals ys its') (hz:ys.length<=sizeLine) :
  Inv X pins σ (upd H l (.lst ys)) {s with heap:=s.heap.update l (Obj.mapSeq f),toks:=t'}:=by
 have q:=PySem.IsL.update e f
 rw[hf] at q
 refine I.write (x:=l) (e:=l) (by rw[hH];exact trivial) (.inl rfl) (λb' u hb hu=>(Py s.heap (Obj.mapSeq f) (Ne.symm hb)).trans hu) ⟨_,q⟩ ?_
 exact⟨hz,its',_,hv,q⟩
def Inv.lnew {its:@GM}{t':Nat}(I:@At)(hv:Vals ys its)(hz:ys.length<=sizeLine) :
  Inv X pins σ (upd H s.heap.objs.size (.lst ys)) {s with heap:=s.heap.push {cls:=.type "list",data:=.seq its.toArray},toks:=t'}:=
 I.laid (λ_ _ q=>Ow _ q) (Ox _) ⟨hz,its,0,hv,OQ _ rfl⟩
def Inv.fresh (I:@At):H s.heap.objs.size=none:=I.hok.fresh (Ox _)
def Inv.lstM (I:@At)(hH:H l=some (.lst xs)):xs.length<=sizeLine/\∃(its:@GM) (n:Nat),Vals xs its/\xs.length=its.length/\s.heap.get? l=some {cls:=.type "list",data:=.seq its.toArray n}:=by
 obtain⟨z,its,n,r,e⟩:=I.hok l _ hH
 exact⟨z,its,n,r,r.length,e⟩
def qQ {n:Nat}(h:n<=sizeLine):Builtin.List.listTooLong n=false:=by
 unfold Builtin.List.listTooLong
 exact ON (@AT)
end
section
variable {X:Cx}
def GL:V->List V->Hp->VK->Prop:=λx vs H Q=>∃l xs y,x=.ref l/\vs= [y]/\H l=some (.lst xs)/\xs.length < sizeLine/\Q .non (upd H l (.lst (xs ++ [y])))
def mz:J0 X "list.append" GL:=by
 intro pins s σ H x vs v us Q I rx rv h
 obtain⟨l,xs,y,rfl,rfl,hH,hz,q⟩:=h
 cases rx
 obtain⟨u,rfl,ru⟩:=rv.one
 obtain⟨z,its,n,r,hl,e⟩:=I.lstM hH
 refine QY F.slot_list_append ⟨_,e,rfl⟩ F.entry_list_append (F.args_list_append_2 _ _) (PySem.list_append l its.toArray n u (by rw[OD];omega)) ⟨e,?_⟩
 refine⟨.non,_,I.lset (its':=its ++ [u]) hH e @IN (r.append (.cons ru .nil)) ?_,rfl,q⟩
 rw[OT,Pf]
 omega
def GR:V->List V->Hp->VK->Prop:=λx vs H Q=>∃l b xs zs,x=.ref l/\vs= [.ref b]/\H l=some (.lst xs)/\H b=some (.lst zs)/\xs.length + zs.length<=sizeLine/\Q .non (upd H l (.lst (xs ++ zs)))
def J1:J0 X "list.extend" GR:=by
 intro pins s σ H x vs v us Q I rx rv h
 obtain⟨l,b,xs,zs,rfl,rfl,hH,hB,hz,q⟩:=h
 cases rx
 obtain⟨u,rfl,ru⟩:=rv.one
 cases ru
 obtain⟨z,its,n,r,hl,e⟩:=I.lstM hH
 obtain⟨z2,its2,n2,r2,hl2,e2⟩:=I.lstM hB
 have hsz:its.toArray.size + its2.toArray.size<=sizeLine:=by rw[OD,OD];omega
 have hlong:¬(!its.toArray.isEmpty && Builtin.List.listTooLong (its.toArray.size + its2.toArray.size))=true:=by
  rw[qQ hsz,Bool.and_false]
  exact OI
 refine QY F.slot_list_extend ⟨_,e,rfl⟩ F.entry_list_extend (F.args_list_extend_2 _ _)
  (AutoSeq1.list_extend_list_list_0 l its.toArray n b its2.toArray n2 hlong (by rw[OD];omega) (@AT)) ⟨e,e2,?_⟩
 refine⟨.non,_,I.lset (its':=its ++ its2) hH e @IN (r.append r2) ?_,rfl,q⟩
 rw[OT]
 omega
def IH:V->List V->Hp->VK->Prop:=λx vs H Q=>∃l xs i k y,x=.ref l/\vs= [.int i]/\H l=some (.lst xs)/\ -(2 ^ 63)<=i/\i < 2 ^ 63/\seqIndex? i xs.length=some k/\xs[k]? =some y/\Q y (upd H l (.lst (xs.eraseIdx k)))
def CP:J0 X "list.pop" IH:=by
 intro pins s σ H x vs v us Q I rx rv h
 obtain⟨l,xs,i,k,y,rfl,rfl,hH,h1,h2,hk,hy,q⟩:=h
 cases rx
 obtain⟨u,rfl,ru⟩:=rv.one
 obtain⟨t,rfl⟩:=ru
 obtain⟨z,its,n,r,hl,e⟩:=I.lstM hH
 obtain⟨w,hw,rw'⟩:=r.get hy
 refine QY F.slot_list_pop ⟨_,e,rfl⟩ F.entry_list_pop (F.args_list_pop_2 _ _)
  (MeetsSeq.list_pop_at l its.toArray n i t k w (fitsIndex_both h1 h2) (by rw[OD,<-hl];exact hk) (by rw[<-Array.getElem?_toList];exact hw) (by rw[OD];omega)) ⟨e,?_⟩
 refine⟨y,_,I.lset (its':=its.eraseIdx k) hH e ?_ (r.eraseIdx k) ?_,rw',q⟩
 ·show its.toArray.eraseIdxIfInBounds k=(its.eraseIdx k).toArray
  rw[List.eraseIdxIfInBounds_toArray]
 ·have:=t8 xs k
  omega
def NM:R2:=λx y H Q=>∃l b xs zs,x=.ref l/\y=.ref b/\H l=some (.lst xs)/\H b=some (.lst zs)/\xs.length + zs.length<=sizeLine/\∀p,H p=none->Q (.ref p) (upd H p (.lst (xs ++ zs)))
def yp:kW X (binaryOp .Add) NM:=by
 intro pins s σ H x y v u Q I rx ry h
 obtain⟨l,b,xs,zs,rfl,rfl,hH,hB,hz,q⟩:=h
 cases rx
 cases ry
 obtain⟨z,its,n,r,hl,e⟩:=I.lstM hH
 obtain⟨z2,its2,n2,r2,hl2,e2⟩:=I.lstM hB
 refine PySem.P.add_list e e2 ?_ (by rw[OD,OD];omega)
 have ea:its.toArray ++ its2.toArray=(its ++ its2).toArray:=by simp
 rw[ea]
 exact⟨.ref _,_,I.lnew (t':=s.toks) (r.append r2) (by rw[OT];omega),rfl,q _ I.fresh⟩
def Mu:R2:=λx y H Q=>∃l k xs,x=.ref l/\y=.int k/\H l=some (.lst xs)/\ -(2 ^ 63)<=k/\k < 2 ^ 63/\xs.length * k.toNat<=sizeLine/\
 ∀p,H p=none->Q (.ref p) (upd H p (.lst (List.replicate k.toNat xs).flatten))
theorem len_rep {α:Type}(xs:List α)(k:Nat):(List.replicate k xs).flatten.length=k * xs.length:=by
 induction k with
 |zero=>simp
 |succ k ih=>rw[Pq,P4,OT,ih,Nat.succ_mul,Nat.add_comm]
def B4:kW X (binaryOp .Mult) Mu:=by
 intro pins s σ H x y v u Q I rx ry h
 obtain⟨l,k,xs,rfl,rfl,hH,h1,h2,hz,q⟩:=h
 cases rx
 obtain⟨t,rfl⟩:=ry
 obtain⟨z,its,n,r,hl,e⟩:=I.lstM hH
 have hlen:its.toArray.size * k.toNat<=sizeLine:=by rw[OD,<-hl];exact hz
 have hcap:¬its.toArray.size * k.toNat > (2 ^ 63 - 1) / 8:=by
  have:(sizeLine:Nat)<=(2 ^ 63 - 1) / 8:=by decide
  omega
 have hfit:¬(!Builtin.List.listFitsIndex k)=true:=by
  rw[fitsIndex_both h1 h2]
  exact OI
 have hlong:¬Builtin.List.listTooLong (its.toArray.size * k.toNat)=true:=by
  rw[qQ hlen]
  exact OI
 have hnew:List.foldl (λx1 x2=>x1 ++ x2) #[] (List.replicate (if its.toArray.isEmpty=true then 0 else k.toNat) its.toArray)=(List.replicate k.toNat its).flatten.toArray:=by
  have f0:∀m:Nat,List.foldl (λx1 x2=>x1 ++ x2) #[] (List.replicate m its.toArray)=(List.replicate m its).flatten.toArray:=λm=>by
   have:=foldl_rep its m []
   rw[List.nil_append] at this
   exact this
  rw[f0]
  cases its with
  |nil=>simp
  |cons a r'=>rw[OA @IN]
 refine wpAny_binaryOp_repeat_ref (T:="list") (U:="int") @Go ⟨_,e,rfl⟩ (λs'=>typeIs_int s' k t) noFill_list_mul F.fills_int_mul F.slot_int_rmul repeat_list F.slot_int_index.lookup
  (QY F.slot_int_rmul (typeIs_int s k t) F.entry_int_rmul (F.args_int_rmul_2 _ _) (int___rmul___int_list k t l its.toArray n)
   ⟨e,rfl,⟨_,e,rfl⟩,QY F.slot_list_mul ⟨_,e,rfl⟩ F.entry_list_mul (F.args_list_mul_2 _ _) (AutoListH.list___mul___list_int_3 l its.toArray n k t hfit hcap hlong) ⟨e,?_⟩⟩)
 rw[hnew]
 exact⟨.ref _,_,I.lnew (t':=s.toks) (r.rep k.toNat) (by rw[len_rep,Nat.mul_comm];exact hz),rfl,q _ I.fresh⟩
end
end L2
namespace Att
open PySem PySem.W PySem.Calls PyProof.Rows
theorem pV {P:Params}{h:Heap}:∀(ns:List Int) (vs:@GM),WellAll P h vs (ns.map WData.int)->IntsAre vs ns:=by
 intro ns
 induction ns with
 |nil=>
  intro vs w
  rw[List.map_nil] at w
  cases w
  exact .nil
 |cons n ns ih=>
  intro vs w
  rw[PM] at w
  cases w with
  |cons a b=>
   cases a
   exact .cons _ _ (ih _ b)
theorem Bk {l:OpenLaw}{n:Nat}(hn:l.most=some n){P:Params}{h:Heap}{args:List WData}{vals:@GM}
  (hpre:l.row.toRowW.claim.pre args=true) (hwl:WellAll P h vals args) :
  ∃a vs ns,vals= [Value.ref a]/\args= [WData.list (ns.map WData.int)]/\h.get? a=some {cls:=.type "list",data:=.seq vs.toArray}/\IntsAre vs ns/\ns.length<=n:=by
 have hsh:WShape.hasAll [] args [.list .int]=true:=(pre_splitW hpre).1
 have hc:l.pre.holds [] {args:=args}=true:=(pre_splitW hpre).2
 obtain⟨d,r,rfl,h1,h2⟩:=hasAllW_cons hsh
 obtain rfl:=hasAllW_nil h2
 obtain⟨xs,rfl,h3⟩:=hasW_list h1
 obtain⟨ns,rfl⟩:=items_int h3
 have hlen:ns.length<=n:=by
  unfold OpenLaw.pre at hc
  have h4:(WTm.not (.lt (.lit (.int (n:Int))) (.len (.arg 0)))).holds [] {args:=[.list (ns.map .int)]}=true:=by
   have h4:=(holds_andW hc).1
   rw[hn] at h4
   exact h4
  have h5:=condW_of h4 (w_not (w_lt w_lit (w_len_list (w_arg rfl))))
  rw[OB] at h5
  refine Nat.le_of_not_lt λq=>?_
  have q':(n:Int) < ((ns.length:Nat):Int):=@AT
  first
   | (rw[OE q'] at h5;exact absurd h5 @Go)
   | (simp at h5;omega)
 cases hwl with
 |cons w1 w2=>
  cases w2
  cases w1 with
  |list ho hall=>exact⟨_,_,ns,rfl,rfl,ho,pV ns _ hall,hlen⟩
def AS (l:OpenLaw)(args:List WData):l.row.toRowW.claim.post args (.bool true) args=true:=
 postW_of (r:=l.row.toRowW) (X:=(true == true))
  (show WShape.has [] (.bool true) .bool=true by first |rfl |decide |simp[WShape.has,WShape.arms,WShape.armsAll])
  (show (WTm.eq .res (.lit (.bool true))).value [] {args:=args,res:=some (.bool true),after:=args}=some (.bool (true == true)) from w_eq_bool (w_res rfl) w_lit) rfl
def wc {l:OpenLaw}{n:Nat}{q:Program}{loose:@H_}{XP:(@FM)->Heap->Prop}{YP:World->Heap->Prop}{d:DefRec}
  (hn:l.most=some n) (hdf:d.params.defaults= [])
  (call:∀(w:World) (s₀ s₁:Shared) (mg mb:@FM) (fa:Addr) (o:Obj) (pm cd doc:Value) (a:Addr) (vs:@GM) (ns:List Int),
   Ground q loose [] XP w s₀ mg mb s₁.heap->YP w s₁.heap->
   s₁.heap.get? fa=some o->o.data=.func (docDef d.name d.params d.body d.scope pm cd doc)->s₁.heap.CodeRec cd d.name->mg d.name=some (.ref fa)->
   s₁.heap.get? a=some {cls:=.type "list",data:=.seq vs.toArray}->IntsAre vs ns->ns.length<=n->s₁.gens=#[]->
   codeAny (model l.prog w) callerA (.call (.ref fa) ⟨[.ref a],[]⟩) (λr s'=>r=.ok (.ret (.bool true))/\OldK s₁.heap s'.heap/\s'.os=s₁.os/\AllBare s'.gens) s₁) :
  WalkO q loose XP YP l.row.toRowW d [] (λf vs=>PySem.call f vs):=by
 intro w s₀ s₁ mg mb G Y fa o pm cd doc dV kV ho hd hcd hD hmg hg args vals as hpre hlay hrd hwl hlo
 obtain rfl:dV=.none:=Dflts.none hD hdf
 obtain rfl:kV=.none:=Dflts.noKw hD
 obtain⟨a,vs,ns,rfl,rfl,hobj,hints,hlen⟩:=Bk hn hpre hwl
 refine enter_call (QS (call w s₀ s₁ mg mb fa o pm cd doc a vs ns G Y ho (fd_plain hd) hcd hmg hobj hints hlen hg) λr s' hq=>?_)
 obtain⟨rfl,h2,h3,h4⟩:=hq
 exact⟨.inl ⟨.bool true,.bool true,[],rfl,λ_=>rfl,.bool true,AS l _,λ_=>⟨List.Pairwise.nil,λ_ hm=>(nomatch hm)⟩⟩,h2,h3,h4⟩
end Att
namespace L2
open PySem PySem.Spec PyProof.Rows
theorem tW:∀{vs:@GM} {ns:List Int},IntsAre vs ns->Vals (ns.map V.int) vs
 |_,_,.nil=>.nil
 |_,_,.cons n t h=>.cons ⟨t,rfl⟩ (tW h)
def iJ (s:Stmt):Arguments:=match s with
 | .FunctionDef _ a _ _ _ _ _ _ _ _=>a
 |_=>{posonlyargs:=[],args:=[],vararg:=none,kwonlyargs:=[],kw_defaults:=[],kwarg:=none,defaults:=[]}
def cG (s:Stmt):List Stmt:=match s with
 | .FunctionDef _ _ b _ _ _ _ _ _ _=>b
 |_=>[]
def ah (s:Stmt):Scope:=match s with
 | .FunctionDef _ _ _ _ _ _ sc _ _ _=>sc
 |_=>{kind:=.function,names:=[],isGenerator:=false,isCoroutine:=false}
abbrev sk:vB:=λ_ _ _ _ _ _=>False
abbrev E0:XK:=λ_ _ _=>False
def DP {X:Cx}:Passes sk X E0:=λ_ _ _ _ _ _ _ h=>h.elim
structure xV (K:Frag)(x qual:Str)(st:Stmt)(f:Addr)(fd:FuncData):Prop where
 ex:∃(oc:Value) (od:@Ix) (kV doc pm:Value) (an:@Ix) (cdv ct:Value) (osl:Array (Option Value)),
  fd=PySem.W.fnOf x qual (iJ st) (cG st) (ah st) .none kV doc pm an cdv ct/\K.lookup f=some ⟨oc,od,.func fd,osl⟩/\PySem.W.codeIn K cdv qual=true
 kp:PySem.W.keepIn K (.ref f)=true
section
variable {P:Program}{w:World}{K:Frag}{mg:@FM}{base:Heap}
def xV.ok {x qual:Str}{st:Stmt}{f:Addr}{fd:FuncData}{N ps:@H_}{k:Nat}{sp:Sp}(F:xV K x qual st f fd)(S:aF N ps (ah st))(len:∀vs H Q E,sp vs H Q E->vs.length=ps.length)
  (hbody:∀(cdv:Value) (A:Around) (outer:List Env) (s:Shared) (H:Hp) (vs:List V) (Q:VK) (E:XK),dN k (A.deeper (envOfC qual (ah st) s.heap.objs.size f cdv))->sp vs H Q E->
   ∃t,pw (j9 sk P w K mg base N qual (ah st) f cdv A outer s H E).nox (cG st) t/\t {nx:=λ_ H'=>Q .non H',rt:=Q} (start N vs) H):e8 P w K mg base sk (k + 1) f fd ps sp:=by
 obtain⟨oc,od,kV,doc,pm,an,cdv,ct,osl,rfl,lk,hcd⟩:=F.ex
 refine Eh lk hcd S len λA outer s H vs Q E hr hsp=>?_
 obtain⟨t,h,q⟩:=hbody cdv A outer s H vs Q E hr hsp
 exact⟨t,h.nox,q⟩
def xV.binds {x qual:Str}{st:Stmt}{f:Addr}{fd:FuncData}{ps:@H_}(F:xV K x qual st f fd)
  (h:∀(kV doc pm:Value) (an:@Ix) (cdv ct:Value) (us:@GM),us.length=ps.length->bindArgs (PySem.W.fnOf x qual (iJ st) (cG st) (ah st) .none kV doc pm an cdv ct) ⟨us,[]⟩=pure (ps.zip us)):Binds K fd ps []:=by
 obtain⟨oc,od,kV,doc,pm,an,cdv,ct,osl,rfl,lk,hcd⟩:=F.ex
 exact .all (h kV doc pm an cdv ct)
def rO {x qual:Str}{st:Stmt}{f:Addr}{oc:Value}{od an:@Ix}{osl:Array (Option Value)}{kV doc pm cdv ct:Value}(l:K.lookup f=some ⟨oc,od,.func (PySem.W.fnOf x qual (iJ st) (cG st) (ah st) .none kV doc pm an cdv ct),osl⟩)
  (c:PySem.W.codeIn K cdv qual=true) (k:PySem.W.keepIn K (.ref f)=true):xV K x qual st f (PySem.W.fnOf x qual (iJ st) (cG st) (ah st) .none kV doc pm an cdv ct):=⟨⟨oc,od,kV,doc,pm,an,cdv,ct,osl,rfl,l,c⟩,k⟩
end
section
variable {X:Cx}
def pv (i:Nat){x:Str}{pos:Pos}(hN:X.N[i]? =some x:=by rfl)(hv:vS X.env.scope x:=by first |exact Or.inl rfl |exact Or.inr (Or.inl rfl) |exact Or.inr (Or.inr rfl))(hd:@FS:=by decide)
  (hcd:(x == ("__classdict__":Str))=false:=by decide):PE X (.Name x pos) (AZ i):=ip hN hv hd hcd
end
def pA {A B:Prop}(h:B):if false=true then A else B:=by
 rw[OA OI]
 exact h
def rq {A B:Prop}(h:A):if true=true then A else B:=by
 rw[Ov rfl]
 exact h
def E8 (o:Obj):Prop:=∃vs q t,o.data=.fields vs/\vs[1]? =some (.str q t)
def Eu:@GM->Prop
 | []=>True
 | .int _ _ :: .int _ _ :: .ref _ :: r=>Eu r
 |_=>False
theorem Eu.app:∀{l m:@GM},Eu l->Eu m->Eu (l ++ m)
 | [],_,_,h=>h
 | .int _ _ :: .int _ _ :: .ref _ :: r,_,h,k=>Eu.app (l:=r) h k
def Kt (H:Hp)(b:Addr):HO->Prop
 | .tbl ps=>∃more:Array Value,H b=some (.tbl (ps ++ more))/\Eu more.toList/\∀c,Value.ref c∈more.toList->∃o,H c=some (.aY o (.own 0))/\E8 o
 |o=>H b=some o
theorem Kt.of {H:Hp}{b:Addr}{o:HO}(h:H b=some o):Kt H b o:=by
 cases o with
 |tbl ps=>exact⟨#[],by rw[h];simp,trivial,λc hc=>by simp at hc⟩
 |_=>exact h
def ar (H H':Hp):Prop:=∀b o,H b=some o->Kt H' b o
def ar.refl (H:Hp):ar H H:=λ_ _ h=>Kt.of h
theorem Kt.some {H:Hp}{b:Addr}{o:HO}(h:Kt H b o):∃u,H b=Option.some u/\((∀ps,o≠.tbl ps)->u=o)/\((∃ps,o=.tbl ps)->∃ps,u=.tbl ps):=by
 cases o with
 |tbl ps=>obtain⟨m,e,_⟩:=h;exact⟨_,e,λz=>absurd rfl (z ps),λ_=>⟨_,rfl⟩⟩
 |_=>exact⟨_,h,λ_=>rfl,λ⟨ps,z⟩=>by cases z⟩
theorem Kt.step {H H':Hp}{b:Addr}{o:HO}(h:Kt H b o)(s:ar H H'):Kt H' b o:=by
 cases o with
 |tbl ps=>
  obtain⟨m,e,t1,k⟩:=h
  obtain⟨m2,e2,t2,k2⟩:=s b _ e
  refine⟨m ++ m2,by rw[e2,Array.append_assoc],by rw[Qg];exact t1.app t2,λc hc=>?_⟩
  rw[Qg,OR] at hc
  rcases hc with hc |hc
  ·obtain⟨o,eo,io⟩:=k c hc;exact⟨o,s c _ eo,io⟩
  ·exact k2 c hc
 |lst xs=>exact s b _ h
 |tup xs=>exact s b _ h
 |dK xs=>exact s b _ h
 |dT xs=>exact s b _ h
 |set S n=>exact s b _ h
 |ins C dx fs=>exact s b _ h
 |own x=>exact s b _ h
 |xd fs=>exact s b _ h
 |met f x=>exact s b _ h
 |iE lo hi=>exact s b _ h
 |aY o u=>exact s b _ h
 |ext φ=>exact s b _ h
def ar.trans {H H1 H2:Hp}(a:ar H H1)(b:ar H1 H2):ar H H2:=λc o h=>(a c o h).step b
theorem ar.free {H H':Hp}(e:ar H H'){l:Addr}(h:H' l=Option.none):H l=Option.none:=by
 cases q:H l with
 |none=>rfl
 |some o=>
  obtain⟨u,z,_⟩:=(e l o q).some
  rw[z] at h
  cases h
def ar.seq {K:Frag}{H H':Hp}{a:Addr}{xs:List V}(e:ar H H')(h:iY K H a xs):iY K H' a xs:=by
 rcases h with (h | ⟨o,h⟩) |h
 ·exact .inl (.inl (e _ _ h))
 ·exact .inl (.inr ⟨o,e _ _ h⟩)
 ·exact .inr h
end L2
end
section
namespace RQ
open PySem L2
def top (i:Nat):Stmt:=PySem.Challenge.pw_rowsorder_k46_fewest_refused.main.body.getD i (.Pass ⟨0,0,0,0⟩)
abbrev kQ:Stmt:=top 2
abbrev kB:Stmt:=top 3
abbrev mM:Stmt:=top 4
abbrev ml:Stmt:=top 5
abbrev fL:Stmt:=top 6
abbrev kn:Stmt:=top 28
abbrev kL:Stmt:=top 26
abbrev iN:Stmt:=top 29
abbrev jt:Stmt:=top 30
abbrev iM:Stmt:=top 32
abbrev gK:Stmt:=top 33
abbrev gM:Stmt:=top 34
abbrev jz:Stmt:=top 35
abbrev qi:Stmt:=top 37
abbrev j8:Stmt:=top 39
abbrev gL:Stmt:=top 38
abbrev mw:Stmt:=top 40
abbrev jq:Stmt:=top 41
abbrev k8:Stmt:=top 42
abbrev k7:Stmt:=top 44
abbrev jv:Stmt:=top 45
abbrev jA:Stmt:=top 46
abbrev kl:Stmt:=top 47
abbrev jm:Stmt:=top 48
abbrev mi:Stmt:=top 58
abbrev jk:Stmt:=top 57
abbrev kc:Stmt:=top 56
abbrev qm:Stmt:=top 55
abbrev gH:Stmt:=top 52
abbrev oi:Stmt:=top 51
abbrev iH:Stmt:=top 54
abbrev iO:Stmt:=top 53
abbrev uM:Stmt:=top 60
abbrev eS:Stmt:=top 59
abbrev qc:Stmt:=top 62
abbrev ku:Stmt:=top 63
abbrev eT:Stmt:=top 66
abbrev iC:Stmt:=top 65
abbrev kP:Stmt:=top 68
abbrev jy:Stmt:=top 69
abbrev eQ:Stmt:=top 70
abbrev eJ:Stmt:=top 71
abbrev ji:Stmt:=top 72
abbrev iB:Stmt:=top 73
abbrev fJ:Stmt:=top 76
abbrev mU:Stmt:=top 77
end RQ
namespace RO
open PySem L2
abbrev ki:Stmt:=RQ.fL
abbrev ou:Stmt:=RQ.top 27
abbrev jW:Stmt:=RQ.top 74
abbrev wy:Stmt:=RQ.top 75
end RO
end
namespace L2.ST
open PySem PySem.SetTable
theorem j5 {α:Type}[DecidableEq α]:∀{l m:List α},l.Nodup->(∀x,x∈l->x∈m)->l.length<=m.length
 | [],_,_,_=>O7 _
 |a :: l,m,hn,hs=>by
  have ha:=hs a (OH ..)
  have hl:=Pz.mp hn
  have:=j5 (l:=l) (m:=m.erase a) hl.2 λx hx=>by
   refine (List.mem_erase_of_ne ?_).mpr (hs x (OF _ hx))
   rintro rfl;exact hl.1 hx
  rw[QU ha] at this
  have:0 < m.length:=List.length_pos_of_mem ha
  simp only[O5];omega
abbrev Pr:=Int×Int
def hp (p:Pr):Int:=reduceHash (Builtin.Tuple.tupleHashOf [hashInt p.1,hashInt p.2])
def Sm (p:Pr):Prop:=(0<=p.1/\p.1 < 8)/\(0<=p.2/\p.2 < 8)
section
variable {prog:Program}{w:World}{A:Around}{E:@Db}{s:Shared}
abbrev kI (prog:Program)(w:World)(h:Heap)(p:Pr)(a:Addr):Prop:=IsTupleKey (intKind prog w) h [p.1,p.2] a
def kI.inj {h:Heap}{p q:Pr}{a:Addr}(x:kI prog w h p a)(y:kI prog w h q a):p=q:=by
 have:=IsTupleKey.inj x y
 simp at this
 exact Prod.ext this.1 this.2
end
section
variable {prog:Program}{w:World}{A:Around}{E:@Db}{s:Shared}{R:Result->Shared->Prop}{I:Addr}{fp wr:List Addr}{n:Nat}{P:Nat->Value->Prop}{St:Nat->Heap->Prop}
def fQ (prog:Program)(w:World)(h:Heap)(vs:@GM)(ps:@C_):Prop:=vs.length=ps.length/\∀(i:Nat) (v:Value) (p:Pr),vs[i]? =some v->ps[i]? =some p->∃a,v=.ref a/\kI prog w h p a/\Sm p
end
end L2.ST
namespace L2.SO
open PySem PySem.W PyProof.Rows
def lA {α:Type}(lt:Nat->Nat->Bool):KasT α->α
 | .ret a=>a
 | .ask i j k=>lA lt (k (lt i j))
theorem fZ {α β:Type}(lt:Nat->Nat->Bool)(f:α->KasT β):∀t:KasT α,lA lt (t.bind f)=lA lt (f (lA lt t))
 | .ret _=>rfl
 | .ask i j k=>fZ lt f (k (lt i j))
def vQ {α:Type}(n:Nat)(lt:Nat->Nat->Bool):KasT α->Prop
 | .ret _=>True
 | .ask i j k=>i < n/\j < n/\vQ n lt (k (lt i j))
theorem je {α β:Type}{n:Nat}{lt:Nat->Nat->Bool}{f:α->KasT β}:∀{t:KasT α},vQ n lt t->vQ n lt (f (lA lt t))->vQ n lt (t.bind f)
 | .ret _,_,h=>h
 | .ask i j k,h,h'=>⟨h.1,h.2.1,je h.2.2 h'⟩
section
variable {n:Nat}{key:Nat->Int}
abbrev pG (key:Nat->Int)(i j:Nat):Bool:=decide (key i < key j)
abbrev Kp (key:Nat->Int)(p:Array Nat)(k:Nat):Int:=key (p.getD k 0)
structure Pm (n:Nat)(p:Array Nat):Prop where
 sz:p.size=n
 nd:p.toList.Nodup
 lt:∀x,x∈p->x < n
def Pm.at {p:Array Nat}(P:Pm n p){k:Nat}(hk:k < n):p.getD k 0 < n:=by
 have h:k < p.size:=by rw[P.sz];exact hk
 simp only[Array.getD,h,dif_pos]
 exact P.lt _ (Array.getElem_mem h)
def Pm.ne {p:Array Nat}(P:Pm n p){i k:Nat}(hi:i < n)(hk:k < n)(hne:i≠k):p.getD i 0≠p.getD k 0:=by
 have h1:i < p.toList.length:=by simpa using (by rw[P.sz];exact hi:i < p.size)
 have h2:k < p.toList.length:=by simpa using (by rw[P.sz];exact hk:k < p.size)
 have h1':i < p.size:=by rw[P.sz];exact hi
 have h2':k < p.size:=by rw[P.sz];exact hk
 have a1:p.getD i 0=p.toList[i]:=by simp[Array.getD,h1']
 have a2:p.getD k 0=p.toList[k]:=by simp[Array.getD,h2']
 rw[a1,a2]
 have q:=QQ.mp P.nd
 rcases Qc i k with c |c
 ·exact q i k h1 h2 c
 ·exact (q k i h2 h1 (@AT)).symm
def Pm.perm {p q:Array Nat}(P:Pm n p)(h:q.Perm p):Pm n q:=by
 have h':=Array.perm_iff_toList_perm.mp h
 exact⟨by rw[h.size_eq];exact P.sz,h'.nodup_iff.mpr P.nd,λx hx=>P.lt x (by simpa using h'.mem_iff.mp (by simpa using hx))⟩
def w8 (n:Nat):Pm n (List.toArray (List.range n)):=⟨by simp,by simpa using List.nodup_range,λx hx=>by simpa using hx⟩
def Inj (n:Nat)(key:Nat->Int):Prop:=∀i j,i < n->j < n->key i=key j->i=j
def Pm.tri {p:Array Nat}(P:Pm n p)(hi:Inj n key){i k:Nat}(h1:i < n)(h2:k < n)(hne:i≠k):Kp key p i < Kp key p k\/Kp key p k < Kp key p i:=by
 have:Kp key p i≠Kp key p k:=λe=>P.ne h1 h2 hne (hi _ _ (P.at h1) (P.at h2) e)
 omega
def Up (key:Nat->Int)(p:Array Nat)(m:Nat):Prop:=∀i j,i < j->j < m->Kp key p i < Kp key p j
def Dn (key:Nat->Int)(p:Array Nat)(m:Nat):Prop:=∀i j,i < j->j < m->Kp key p j < Kp key p i
def Up.snoc {p:Array Nat}{m:Nat}(U:Up key p m)(h1:1<=m)(h:Kp key p (m - 1) < Kp key p m):Up key p (m + 1):=λi j hij hj=>by
 rcases Qc j m with c |c
 ·exact U i j hij c
 ·have:j=m:=@AT
  subst this
  rcases Qc i (j - 1) with d |d
  ·exact Int.lt_trans (U i (j - 1) d (@AT)) h
  ·have:i=j - 1:=@AT
   rw[this];exact h
def Dn.snoc {p:Array Nat}{m:Nat}(U:Dn key p m)(h1:1<=m)(h:Kp key p m < Kp key p (m - 1)):Dn key p (m + 1):=λi j hij hj=>by
 rcases Qc j m with c |c
 ·exact U i j hij c
 ·have:j=m:=@AT
  subst this
  rcases Qc i (j - 1) with d |d
  ·exact Int.lt_trans h (U i (j - 1) d (@AT))
  ·have:i=j - 1:=@AT
   rw[this];exact h
theorem qu {p:Array Nat}(P:Pm n p)(hi:Inj n key):∀(f m:Nat),1<=m->m + f<=n->Up key p m->
  ∃r,(lA (pG key) (kas_asc p f m)=r/\vQ n (pG key) (kas_asc p f m))/\m<=r/\r<=m + f/\Up key p r/\(r < m + f->Kp key p r < Kp key p (r - 1))
 | 0,m,_,_,U=>⟨m,⟨rfl,trivial⟩,Ox _,Ox _,U,λh=>absurd h (OU _)⟩
 |f + 1,m,h1,hn,U=>by
  have b1:p.getD m 0 < n:=P.at (@AT)
  have b2:p.getD (m - 1) 0 < n:=P.at (@AT)
  unfold kas_asc lA vQ
  by_cases c:Kp key p m < Kp key p (m - 1)
  ·rw[show pG key (p.getD m 0) (p.getD (m - 1) 0)=true from OE c]
   simp only[PL]
   exact⟨m,⟨rfl,b1,b2,trivial⟩,Ox _,@AT,U,λ_=>c⟩
  ·rw[show pG key (p.getD m 0) (p.getD (m - 1) 0)=false from ON c]
   simp only[Pn,PZ]
   have up:Kp key p (m - 1) < Kp key p m:=(P.tri hi (@AT) (@AT) (@AT)).resolve_right c
   obtain⟨r,⟨e,o⟩,a,b,u,d⟩:=qu P hi f (m + 1) (@AT) (@AT) (U.snoc h1 up)
   exact⟨r,⟨e,b1,b2,o⟩,@AT,@AT,u,λh=>d (@AT)⟩
theorem tZ {p:Array Nat}(P:Pm n p)(hi:Inj n key):∀(f m:Nat),1<=m->m + f<=n->Dn key p m->
  ∃r,(lA (pG key) (kas_desc f p m 0)=(p,r,0)/\vQ n (pG key) (kas_desc f p m 0))/\m<=r/\r<=m + f/\Dn key p r
 | 0,m,_,_,U=>⟨m,⟨rfl,trivial⟩,Ox _,Ox _,U⟩
 |f + 1,m,h1,hn,U=>by
  have b1:p.getD m 0 < n:=P.at (@AT)
  have b2:p.getD (m - 1) 0 < n:=P.at (@AT)
  unfold kas_desc lA vQ
  by_cases c:Kp key p m < Kp key p (m - 1)
  ·rw[show pG key (p.getD m 0) (p.getD (m - 1) 0)=true from OE c]
   simp only[PL,OU,gt_iff_lt,PZ]
   obtain⟨r,⟨e,o⟩,a,b,u⟩:=tZ P hi f (m + 1) (@AT) (@AT) (U.snoc h1 c)
   exact⟨r,⟨e,b1,b2,o⟩,@AT,@AT,u⟩
  ·rw[show pG key (p.getD m 0) (p.getD (m - 1) 0)=false from ON c]
   simp only[Pn,PZ]
   unfold lA vQ
   have up:Kp key p (m - 1) < Kp key p m:=(P.tri hi (@AT) (@AT) (@AT)).resolve_right c
   rw[show pG key (p.getD (m - 1) 0) (p.getD m 0)=true from OE up]
   simp only[PL]
   exact⟨m,⟨rfl,b1,b2,b2,b1,trivial⟩,Ox _,@AT,U⟩
def Cj {p:Array Nat}{j k:Nat}(hj:j<=p.size)(hk:k < j):(kas_rev p 0 j).getD k 0=p.getD (j - 1 - k) 0:=by
 unfold kas_rev
 rw[Qm,getElem?_mirror_all hj k,Ov ⟨O7 _,hk⟩,Qm]
 congr 2
 omega
def IQ {p:Array Nat}{m:Nat}(hm:m<=p.size)(D:Dn key p m):Up key (kas_rev p 0 m) m:=λi j hij hj=>by
 unfold Kp
 rw[Cj hm (@AT),Cj hm hj]
 exact D (m - 1 - j) (m - 1 - i) (@AT) (@AT)
def Pm.rev {p:Array Nat}(P:Pm n p)(j:Nat):Pm n (kas_rev p 0 j):=P.perm (mirror_perm ..)
def y9 {p:Array Nat}(P:Pm n p)(hi:Inj n key)(h1:1<=n) :
  ∃m q,(lA (pG key) (kas_count n p)=(m,q)/\vQ n (pG key) (kas_count n p))/\Pm n q/\1<=m/\m<=n/\Up key q m:=by
 obtain⟨r,⟨e,o⟩,a,b,u,d⟩:=qu P hi (n - 1) 1 (Ox _) (@AT) (λi j hij hj=>@AT)
 have rest:∃m q,(lA (pG key) (if (r == n)=true then KasT.ret (r,p) else if r > 1 then .ask (p.getD 0 0) (p.getD (r - 1) 0) λc=>if c=true then .ret (r,p) else kas_descPart r n (kas_rev p 0 r) else kas_descPart r n p)=(m,q)/\
   vQ n (pG key) (if (r == n)=true then KasT.ret (r,p) else if r > 1 then .ask (p.getD 0 0) (p.getD (r - 1) 0) λc=>if c=true then .ret (r,p) else kas_descPart r n (kas_rev p 0 r) else kas_descPart r n p))/\Pm n q/\1<=m/\m<=n/\Up key q m:=by
  by_cases c:(r == n)=true
  ·rw[Ov c]
   exact⟨r,p,⟨rfl,trivial⟩,P,a,@AT,u⟩
  ·rw[OA c]
   have hrn:r≠n:=by simpa using c
   have dd:=d (@AT)
   by_cases c2:r > 1
   ·rw[Ov c2]
    unfold lA vQ
    rw[show pG key (p.getD 0 0) (p.getD (r - 1) 0)=true from OE (u 0 (r - 1) (@AT) (@AT))]
    simp only[PL]
    exact⟨r,p,⟨rfl,P.at (@AT),P.at (@AT),trivial⟩,P,a,@AT,u⟩
   ·rw[OA c2]
    have hr1:r=1:=@AT
    subst hr1
    unfold kas_descPart
    rw[fZ]
    have D2:Dn key p 2:=λi j hij hj=>by
     have e1:i=0:=@AT
     have e2:j=1:=@AT
     rw[e1,e2];exact dd
    obtain⟨x,⟨e2,o2⟩,a2,b2,u2⟩:=tZ P hi (n - 2) 2 (@AT) (@AT) D2
    obtain⟨y,⟨e3,o3⟩,a3,b3,u3,_⟩:=qu (P.rev x) hi (n - x) x (@AT) (@AT) (IQ (by rw[P.sz];omega) u2)
    rw[show n - (1 + 1)=n - 2 from rfl,show (1 + 1:Nat)=2 from rfl]
    have t3:vQ n (pG key) (kas_tail3 x n p):=by
     unfold kas_tail3
     exact je o3 trivial
    refine⟨y,kas_rev p 0 x,⟨?_,je o2 ?_⟩,P.rev x,@AT,@AT,u3⟩
    ·rw[e2]
     simp only[OU,gt_iff_lt,PZ]
     unfold kas_tail3
     rw[fZ,e3]
     rfl
    ·rw[e2]
     simp only[OU,gt_iff_lt,PZ]
     exact t3
 obtain⟨m,q,⟨f1,f2⟩,f3⟩:=rest
 refine⟨m,q,⟨?_,?_⟩,f3⟩
 ·unfold kas_count
  rw[fZ,e]
  exact f1
 ·unfold kas_count
  refine je o ?_
  rw[e]
  exact f2
theorem place_spec {p:Array Nat}{k:Nat}(P:Pm n p)(hi:Inj n key)(hk:k < n)(U:Up key p k):∀(f l r:Nat),l<=r->r<=k->r - l<=f->(∀i,i < l->Kp key p i < Kp key p k)->(∀i,r<=i->i < k->Kp key p k < Kp key p i)->
  ∃x,(lA (pG key) (kas_place p k f l r)=x/\vQ n (pG key) (kas_place p k f l r))/\x<=k/\(∀i,i < x->Kp key p i < Kp key p k)/\(∀i,x<=i->i < k->Kp key p k < Kp key p i)
 | 0,l,r,h1,h2,h3,a,b=>⟨l,⟨rfl,trivial⟩,@AT,a,λi hi=>b i (@AT)⟩
 |f + 1,l,r,h1,h2,h3,a,b=>by
  unfold kas_place
  by_cases c:l>=r
  ·rw[Ov c]
   exact⟨l,⟨rfl,trivial⟩,@AT,a,λi hi=>b i (@AT)⟩
  ·rw[OA c]
   have b1:p.getD k 0 < n:=P.at hk
   have b2:p.getD ((l + r) / 2) 0 < n:=P.at (@AT)
   unfold lA vQ
   by_cases d:Kp key p k < Kp key p ((l + r) / 2)
   ·rw[show pG key (p.getD k 0) (p.getD ((l + r) / 2) 0)=true from OE d]
    simp only[PL]
    have side:∀i,(l + r) / 2<=i->i < k->Kp key p k < Kp key p i:=λi h1 h2=>by
     rcases Qc ((l + r) / 2) i with z |z
     ·exact Int.lt_trans d (U _ _ z h2)
     ·have:i=(l + r) / 2:=@AT
      rw[this];exact d
    obtain⟨x,⟨e1,e2⟩,e3⟩:=place_spec P hi hk U f l ((l + r) / 2) (@AT) (@AT) (@AT) a side
    exact⟨x,⟨e1,b1,b2,e2⟩,e3⟩
   ·rw[show pG key (p.getD k 0) (p.getD ((l + r) / 2) 0)=false from ON d]
    simp only[Pn,PZ]
    have d':Kp key p ((l + r) / 2) < Kp key p k:=(P.tri hi (@AT) hk (@AT)).resolve_right d
    have side:∀i,i < (l + r) / 2 + 1->Kp key p i < Kp key p k:=λi h=>by
     rcases Qc i ((l + r) / 2) with z |z
     ·exact Int.lt_trans (U _ _ z (@AT)) d'
     ·have:i=(l + r) / 2:=@AT
      rw[this];exact d'
    obtain⟨x,⟨e1,e2⟩,e3⟩:=place_spec P hi hk U f ((l + r) / 2 + 1) r (@AT) h2 (@AT) side b
    exact⟨x,⟨e1,b1,b2,e2⟩,e3⟩
def DZ {p:Array Nat}{k l j:Nat}(hk:k < p.size)(hl:l<=k):(bubble p k (k - l)).getD j 0=if j=l then p.getD k 0 else if l < j/\j<=k then p.getD (j - 1) 0 else p.getD j 0:=by
 rw[Qm,getElem?_bubble hk (k - l) (@AT) j,show k - (k - l)=l by omega]
 simp only[Qm]
 split
 ·rfl
 ·split <;> rfl
theorem xJ (hi:Inj n key):∀(f k:Nat) (p:Array Nat),Pm n p->1<=k->k + f=n->Up key p k->∃q,(lA (pG key) (kas_bin f p k)=q/\vQ n (pG key) (kas_bin f p k))/\Pm n q/\Up key q n
 | 0,k,p,P,_,e,U=>⟨p,⟨rfl,trivial⟩,P,by rw[<-e];exact U⟩
 |f + 1,k,p,P,h1,e,U=>by
  have hk:k < n:=@AT
  obtain⟨l,⟨el,ol⟩,hl,a,b⟩:=place_spec P hi hk U k 0 k (O7 _) (Ox _) (@AT) (λi h=>@AT) (λi h h'=>@AT)
  have side:Up key (bubble p k (k - l)) (k + 1):=λi j hij hj=>by
   have hks:k < p.size:=by rw[P.sz];exact hk
   unfold Kp
   rw[DZ hks hl,DZ hks hl]
   by_cases i1:i=l
   ·rw[Ov i1,OA (@AT)]
    by_cases j2:l < j/\j<=k
    ·rw[Ov j2];exact b _ (@AT) (@AT)
    ·omega
   ·rw[OA i1]
    by_cases i2:l < i/\i<=k
    ·rw[Ov i2,OA (@AT),Ov (@AT)]
     exact U _ _ (@AT) (@AT)
    ·rw[OA i2]
     by_cases j1:j=l
     ·rw[Ov j1];exact a _ (@AT)
     ·rw[OA j1]
      by_cases j2:l < j/\j<=k
      ·rw[Ov j2]
       rcases Qc i (j - 1) with z |z
       ·exact U _ _ z (@AT)
       ·omega
      ·rw[OA j2];exact U _ _ hij (@AT)
  obtain⟨q,⟨q1,q2⟩,q3⟩:=xJ hi f (k + 1) (bubble p k (k - l)) (P.perm (bubble_perm ..)) (@AT) (@AT) side
  refine⟨q,⟨?_,?_⟩,q3⟩
  ·unfold kas_bin;rw[fZ,el];exact q1
  ·unfold kas_bin;refine je ol ?_;rw[el];exact q2
def AO (hi:Inj n key)(h2:2<=n):∃q,(lA (pG key) (kas_sort n)=q/\vQ n (pG key) (kas_sort n))/\Pm n q/\Up key q n:=by
 obtain⟨m,q,⟨e,o⟩,P,a,b,u⟩:=y9 (w8 n) hi (@AT)
 by_cases c:m < n
 ·obtain⟨q',⟨e1,o1⟩,r⟩:=xJ hi (n - m) m q P a (@AT) u
  refine⟨q',⟨?_,?_⟩,r⟩
  ·unfold kas_sort;rw[fZ,e];dsimp only;rw[Ov c,Nat.max_eq_left a];exact e1
  ·unfold kas_sort;refine je o ?_;rw[e];dsimp only;rw[Ov c,Nat.max_eq_left a];exact o1
 ·refine⟨q,⟨?_,?_⟩,P,λi j hij hj=>u i j hij (@AT)⟩
  ·unfold kas_sort;rw[fZ,e];dsimp only;rw[OA c];rfl
  ·unfold kas_sort;refine je o ?_;rw[e];dsimp only;rw[OA c];trivial
theorem wp_run {α:Type}{n:Nat}{lt:Nat->Nat->Bool}{cmp:Nat->Nat->(Bool->Shared->Prop)->Shared->Prop}{Q:α->Shared->Prop}{s:Shared} :
  ∀(t:KasT α),(∀i j C,i < n->j < n->C (lt i j) s->cmp i j C s)->vQ n lt t->Q (lA lt t) s->t.kasWp cmp Q s
 | .ret a,_,_,h=>h
 | .ask i j k,hc,ho,h=>hc i j _ ho.1 ho.2.1 (wp_run (k (lt i j)) hc ho.2.2 h)
end
end L2.SO
namespace L2.ST
open PySem PySem.SetTable PySem.W PyProof.Rows
def code (p:Pr):Int:=p.1 * 8 + p.2
def zG {p q:Pr}(h1:Sm p)(h2:Sm q):code p < code q↔p.1 < q.1\/(p.1=q.1/\p.2 < q.2):=by
 unfold code Sm at *;omega
def code_inj {p q:Pr}(h1:Sm p)(h2:Sm q)(e:code p=code q):p=q:=by
 unfold code Sm at *
 refine Prod.ext ?_ ?_ <;> omega
section
variable {prog:Program}{w:World}{A:Around}{E:@Db}{s:Shared}
abbrev sr (ps:@C_)(i:Nat):Int:=code (ps.getD i (0,0))
def DE {ps:@C_}(nd:ps.Nodup)(hs:∀p,p∈ps->Sm p):L2.SO.Inj ps.length (sr ps):=λi j hi hj e=>by
 have a1:ps.getD i (0,0)=ps[i]:=by simp[hi]
 have a2:ps.getD j (0,0)=ps[j]:=by simp[hj]
 unfold sr at e
 rw[a1,a2] at e
 have e':=code_inj (hs _ (P0 hi)) (hs _ (P0 hj)) e
 have q:=QQ.mp nd
 rcases Nat.lt_trichotomy i j with c |c |c
 ·exact absurd e' (q i j hi hj c)
 ·exact c
 ·exact absurd e'.symm (q j i hj hi c)
theorem E2 {a b:Addr}{p q:Pr}{Q:Bool->Shared->Prop}(ha:kI prog w s.heap p a)(hb:kI prog w s.heap q b)(hp:Sm p)(hq:Sm q)(h:Q (decide (code p < code q)) s) :
  wpAny (model prog w) A (keyLt' (tuples' true) (.ref a) (.ref b)) Q E s:=by
 obtain⟨oa,ia,na,hoa,hca,hda,hia⟩:=ha
 obtain⟨ob,ib,nb,hob,hcb,hdb,hib⟩:=hb
 obtain⟨l1,rfl⟩:∃l,ia=List.toArray l:=⟨ia.toList,by simp⟩
 obtain⟨l2,rfl⟩:∃l,ib=List.toArray l:=⟨ib.toList,by simp⟩
 simp only[List.toList_toArray] at hia hib
 cases hia with
 | @cons _ v1 _ _ h1 hia=>
  cases hia with
  | @cons _ v2 _ _ h2 hia=>
   cases hia
   cases hib with
   | @cons _ u1 _ _ g1 hib=>
    cases hib with
    | @cons _ u2 _ _ g2 hib=>
     cases hib
     obtain⟨t1,rfl⟩:=Qr h1
     obtain⟨t2,rfl⟩:=Qr h2
     obtain⟨t3,rfl⟩:=Qr g1
     obtain⟨t4,rfl⟩:=Qr g2
     refine kat_lt hoa hda hob hdb ?_
     have hc:=zG hp hq
     refine kat_cons (wpAny_eqBool_int ?_)
     by_cases e1:p.1=q.1
     ·rw[show (p.1 == q.1)=true by simpa using e1]
      refine kat_yes (kat_cons (wpAny_eqBool_int ?_))
      by_cases e2:p.2=q.2
      ·rw[show (p.2 == q.2)=true by simpa using e2]
       refine kat_yes (kat_nil ?_)
       have:decide (code p < code q)=false:=ON (by rw[hc];omega)
       rw[this] at h
       simpa using h
      ·rw[show (p.2 == q.2)=false by simpa using e2]
       refine kat_no ?_
       show wpAny _ _ (oneLt' false _ _) _ _ _
       refine kat_one _ _ (lt_int ?_)
       have:decide (code p < code q)=decide (p.2 < q.2):=by
        by_cases z:p.2 < q.2
        ·rw[OE z];exact OE (hc.mpr (.inr ⟨e1,z⟩))
        ·rw[ON z];exact ON (by rw[hc];omega)
       rw[this] at h;exact h
     ·rw[show (p.1 == q.1)=false by simpa using e1]
      refine kat_no ?_
      show wpAny _ _ (oneLt' true _ _) _ _ _
      refine oneLt_int ?_
      have:decide (code p < code q)=decide (p.1 < q.1):=by
       by_cases z:p.1 < q.1
       ·rw[OE z];exact OE (hc.mpr (.inl z))
       ·rw[ON z];exact ON (by rw[hc];omega)
      rw[this] at h;exact h
theorem Ad:∀{vs:@GM} {ps:@C_},fQ prog w s.heap vs ps->∃fs,KatTups s.heap vs fs/\fs.length=vs.length/\∀v∈fs,∃(i:Int) (t:Tok),v=.int i t
 | [],ps,_=>⟨[],KatTups.nil,rfl,λv hv=>by cases hv⟩
 |v :: vs,[],h=>by have:=h.1;simp at this
 |v :: vs,p :: ps,h=>by
  obtain⟨a,rfl,⟨o,items,n,ho,hc,hd,hi⟩,_⟩:=h.2 0 v p rfl rfl
  obtain⟨fs,k,e,f⟩:=Ad (vs:=vs) (ps:=ps) ⟨by simpa using h.1,λi v p h1 h2=>h.2 (i + 1) v p (by simpa using h1) (by simpa using h2)⟩
  obtain⟨l1,rfl⟩:∃l,items=List.toArray l:=⟨items.toList,by simp⟩
  simp only[List.toList_toArray] at hi
  cases hi with
  | @cons _ v1 _ _ h1 hi=>
   obtain⟨t1,rfl⟩:=Qr h1
   exact⟨_ :: fs,KatTups.cons ho hc hd rfl k,by simp[e],λv hv=>by
    rcases OC.mp hv with z |z
    ·exact⟨_,_,z⟩
    ·exact f v z⟩
def wo {a:Addr}{vs:@GM}{ps:@C_}{n:Nat}{P:PySem.Fin->Shared->Prop}(ho:s.heap.get? a=some (seqObj "list" vs.toArray n))(hps:fQ prog w s.heap vs ps)(nd:ps.Nodup)(h64:vs.length < 64)
  (h:∀(h':Heap) (c:Nat) (ix:Array Nat),L2.SO.Pm vs.length ix->L2.SO.Up (sr ps) ix vs.length->(∀b o,b≠a->s.heap.get? b=some o->h'.get? b=some o)->
   h'.get? a=some (seqObj "list" (ix.toList.map λi=>vs.getD i Value.none).toArray c)->P (.done (.ret .none)) {s with heap:=h'}) :
  wpAny (model prog w) A (Builtin.«list.sort» ⟨[.ref a],[]⟩) P E s:=by
 have ha:a < s.heap.objs.size:=Oz ho
 obtain⟨e1,ho1⟩:∃e1,(s.heap.update a (Obj.mapSeq λ_=>(#[]:Array Value))).get? a=some (seqObj "list" #[] e1):=⟨_,get?_update_seq ho λ_=>#[]⟩
 generalize hH1:(s.heap.update a (Obj.mapSeq λ_=>(#[]:Array Value)))=H1 at ho1
 have sb1:Heap.SameBut a s.heap H1:=by rw[<-hH1];exact Heap.SameBut.update ..
 have kp2:∀b o,H1.get? b=some o->((H1.push (seqObj "tuple" vs.toArray 0)).push (seqObj "list" #[] 0)).get? b=some o:=λb o e=>Ow _ (Ow _ e)
 generalize hH2:((H1.push (seqObj "tuple" vs.toArray 0)).push (seqObj "list" #[] 0))=H2 at kp2
 have kp:∀b o,b≠a->s.heap.get? b=some o->H2.get? b=some o:=λb o hb e=>kp2 b o ((sb1.2 b hb).trans e)
 have ho2:=kp2 _ _ ho1
 have hps2:fQ prog w H2 vs ps:=⟨hps.1,λi v p h1 h2=>by
  obtain⟨b,e,⟨o,it,m,hb,hc,hd,r⟩,hs⟩:=hps.2 i v p h1 h2
  refine⟨b,e,⟨o,it,m,kp b o (λz=>?_) hb,hc,hd,r⟩,hs⟩
  subst z
  rw[ho] at hb;cases hb
  exact absurd hc (by simp[seqObj])⟩
 have hz:vs.length<=sizeLine:=by rw[O4];omega
 rw[list_sort_plain]
 refine Ou (listItems_at ho rfl (Ou (listUpdate_at ho rfl ?_ (by simpa using hz) (O7 _))))
 rw[hH1]
 refine Ou (seqEpoch_at (s:={s with heap:=H1}) ho1 rfl (Ou (wpAny_newTuple ?_ (by simpa using hz))))
 refine Ou (wpAny_newList ?_ (O7 _))
 refine P8 ?_
 show wpAny (model prog w) A _ P E {s with heap:=(H1.push (seqObj "tuple" vs.toArray 0)).push (seqObj "list" #[] 0)}
 rw[hH2]
 have fin:∀(ix:Array Nat) (st:SortSt),L2.SO.Pm vs.length ix->L2.SO.Up (sr ps) ix vs.length->(arrOf st).map (·.2)=List.toArray (ix.toList.map λi=>vs.getD i Value.none)->failedOf st=none->
   wpAny (model prog w) A (do
    let sorted:=(arrOf st).map (·.2)
    let touched:=(<-seqEpoch a) != e1
    Builtin.List.listUpdate (.ref a) λ_=>sorted
    if let some e:=failedOf st then rule "list.sort.comparison-raised";throw e
    if touched then rule "list.sort.modified";raiseError "ValueError" "list modified during sort"
    ret .none) P E {s with heap:=H2}:=λix st P1 U1 hout hf=>by
  dsimp only
  rw[hout]
  have hsz:(List.toArray (ix.toList.map λi=>vs.getD i Value.none)).size=vs.length:=by simp[P1.sz]
  refine Ou (seqEpoch_at (s:={s with heap:=H2}) ho2 rfl ?_)
  refine Ou (listUpdate_at (s:={s with heap:=H2}) ho2 rfl ?_ (O7 _) (Pw (Nat.le_of_eq hsz) (Nat.le_succ_of_le hz)))
  rw[hf]
  simp only[bne_self_eq_false,Pn,PZ]
  obtain⟨c2,hc2⟩:∃c2,(H2.update a (Obj.mapSeq λ_=>List.toArray (ix.toList.map λi=>vs.getD i Value.none))).get? a=some (seqObj "list" (List.toArray (ix.toList.map λi=>vs.getD i Value.none)) c2):=⟨_,get?_update_seq ho2 λ_=>List.toArray (ix.toList.map λi=>vs.getD i Value.none)⟩
  exact OZ (h _ c2 ix P1 U1 (λb o hb e=>((Heap.SameBut.update H2 a _).2 b hb).trans (kp b o hb e)) hc2)
 by_cases h2:vs.length < 2
 ·have h2':vs.toArray.size < 2:=by simpa using h2
  dsimp only
  rw[Ov h2',Ov h2']
  refine Ou (OZ ?_)
  rw[StateT.run_pure]
  refine Ou (OZ ?_)
  refine fin (List.toArray (List.range vs.length)) (SortSt.mk' general' (vs.toArray.zip vs.toArray) #[] 7 none) (L2.SO.w8 _) (λi j hij hj=>@AT) ?_ rfl
  have:∀{l:@GM},l.length < 2->((l.toArray.zip l.toArray).map (·.2))=List.toArray ((List.range l.length).map λi=>l.getD i Value.none):=λ{l} hl=>by
   match l,hl with
   | [],_=>simp
   | [x],_=>simp
  exact (this h2).trans @IN
 ·have h2':¬vs.toArray.size < 2:=by simpa using h2
  dsimp only
  rw[OA h2',OA h2']
  obtain⟨fs,kt,fl,ff⟩:=Ad (s:={s with heap:=H2}) hps2
  refine Ou (kat_kind (s:={s with heap:=H2}) (T:=.type "int") kt (@AT) (λv hv=>?_) @Go ?_)
  ·obtain⟨i,t,rfl⟩:=ff v hv
   exact .now
  ·rw[show ((Value.type "int" != Value.type "tuple"):Bool)=true by decide]
   have hinj:L2.SO.Inj vs.length (sr ps):=by
    rw[hps.1]
    refine DE nd λp hp=>?_
    obtain⟨i,hi,e⟩:=Qt.mp hp
    have hi':i < vs.length:=by rw[hps.1];exact hi
    obtain⟨_,_,_,hs⟩:=hps.2 i vs[i] p (Ot hi') (by rw[Ot hi,e])
    exact hs
   obtain⟨ix,⟨er,ok⟩,P1,U1⟩:=L2.SO.AO hinj (@AT)
   refine Ou (Pl (kat_run (s:={s with heap:=H2}) (κ:=tuples' true) (ks:=vs) (Q:=λst s'=>s'={s with heap:=H2}/\arrOf st=ix.map (kas_item (vs.toArray.zip vs.toArray))/\failedOf st=none)
    (G:=λp s'=>p=ix/\s'={s with heap:=H2}) rfl (@AT) h64 (λp st s' a1 a2 a3 a4=>?_) (L2.SO.wp_run (n:=vs.length) (lt:=L2.SO.pG (sr ps)) _ (λi j C hi hj hC=>?_) ok ⟨er,rfl⟩)) ?_ λ_ _ x=>x)
   ·obtain⟨rfl,rfl⟩:=a4
    exact⟨rfl,a2,a3⟩
   ·unfold kas_ask
    have hi':i < ps.length:=by rw[<-hps.1];exact hi
    have hj':j < ps.length:=by rw[<-hps.1];exact hj
    obtain⟨b1,eb1,hb1,s1⟩:=hps2.2 i vs[i] ps[i] (Ot hi) (Ot hi')
    obtain⟨b2,eb2,hb2,s2⟩:=hps2.2 j vs[j] ps[j] (Ot hj) (Ot hj')
    have e1:vs.getD i Value.none=.ref b1:=by rw[<-eb1];simp[hi]
    have e2:vs.getD j Value.none=.ref b2:=by rw[<-eb2];simp[hj]
    rw[e1,e2]
    refine E2 (s:={s with heap:=H2}) hb1 hb2 s1 s2 ?_
    have:L2.SO.pG (sr ps) i j=decide (code ps[i] < code ps[j]):=by
     unfold L2.SO.pG sr;simp[hi',hj']
    rw[<-this];exact hC
   ·rintro⟨⟨⟩,st⟩ s' ⟨rfl,har,hf⟩
    exact fin ix st P1 U1 (kat_snds rfl har) hf
end
end L2.ST
namespace OM
abbrev Pr:=Int×Int
def D4 (p q:Pr):Prop:=p.1 < q.1\/(p.1=q.1/\p.2 < q.2)
instance (p q:Pr):Decidable (D4 p q):=by unfold D4;infer_instance
def kN (p:Pr):¬D4 p p:=by unfold D4;omega
def Be {p q r:Pr}(a:D4 p q)(b:D4 q r):D4 p r:=by unfold D4 at *;omega
abbrev wb (l:@C_):Prop:=l.Pairwise D4
theorem mG:∀{l m:@C_},wb l->wb m->(∀x,x∈l↔x∈m)->l=m
 | [],[],_,_,_=>rfl
 | [],b :: m,_,_,h=>absurd ((h b).mpr (OH ..)) @IN
 |a :: l,[],_,_,h=>absurd ((h a).mp (OH ..)) @IN
 |a :: l,b :: m,hl,hm,h=>by
  have hl':=List.pairwise_cons.mp hl
  have hm':=List.pairwise_cons.mp hm
  have e:a=b:=by
   rcases OC.mp ((h a).mp (OH ..)) with e |e
   ·exact e
   ·rcases OC.mp ((h b).mpr (OH ..)) with e' |e'
    ·exact e'.symm
    ·exact absurd (Be (hm'.1 a e) (hl'.1 b e')) (kN _)
  subst e
  congr 1
  refine mG hl'.2 hm'.2 λx=>⟨λhx=>?_,λhx=>?_⟩
  ·rcases OC.mp ((h x).mp (OF _ hx)) with e |e
   ·subst e;exact absurd (hl'.1 x hx) (kN _)
   ·exact e
  ·rcases OC.mp ((h x).mpr (OF _ hx)) with e |e
   ·subst e;exact absurd (hm'.1 x hx) (kN _)
   ·exact e
def o6 {l:@C_}(h:wb l):l.Nodup:=h.imp λ{a b} hab e=>by subst e;exact kN _ hab
def gu {l:@C_}(p:Pr->Bool)(h:wb l):wb (l.filter p):=h.sublist List.filter_sublist
def du (n:Nat):@C_:=(List.range (n * n)).map λk=>(((k / n:Nat):Int),((k % n:Nat):Int))
def bV {n:Nat}{p:Pr}:p∈du n↔(0<=p.1/\p.1 < n)/\(0<=p.2/\p.2 < n):=by
 unfold du
 rw[Pj]
 constructor
 ·rintro⟨k,hk,rfl⟩
  have hk:=Po.mp hk
  have hn:0 < n:=by
   rcases Nat.eq_zero_or_pos n with e |e
   ·subst e;omega
   ·exact e
  have h1:k / n < n:=Nat.div_lt_of_lt_mul hk
  have h2:k % n < n:=Nat.mod_lt _ hn
  generalize k / n=q at h1
  generalize k % n=r at h2
  exact⟨⟨Int.natCast_nonneg _,by dsimp only;omega⟩,⟨Int.natCast_nonneg _,by dsimp only;omega⟩⟩
 ·rintro⟨⟨a0,a1⟩,⟨b0,b1⟩⟩
  have hn:0 < n:=@AT
  refine⟨p.1.toNat * n + p.2.toNat,Po.mpr ?_,?_⟩
  ·have h1:p.1.toNat + 1<=n:=@AT
   have h2:p.2.toNat < n:=@AT
   have:=Nat.mul_le_mul_right n h1
   rw[Nat.add_mul] at this
   omega
  ·have h2:p.2.toNat < n:=@AT
   have e1:(p.1.toNat * n + p.2.toNat) / n=p.1.toNat:=by
    rw[Nat.mul_comm,Nat.mul_add_div hn,Nat.div_eq_of_lt h2];rfl
   have e2:(p.1.toNat * n + p.2.toNat) % n=p.2.toNat:=by
    rw[Nat.mul_comm,Nat.mul_add_mod,Nat.mod_eq_of_lt h2]
   rw[e1,e2]
   refine Prod.ext ?_ ?_ <;> dsimp only <;> omega
def jd (n:Nat):wb (du n):=by
 unfold du
 refine QZ.mpr (List.Pairwise.imp_of_mem ?_ List.pairwise_lt_range)
 intro a b ha hb hab
 have ha:=Po.mp ha
 have hb:=Po.mp hb
 have hn:0 < n:=by
  rcases Nat.eq_zero_or_pos n with e |e
  ·subst e;omega
  ·exact e
 have h1:a / n<=b / n:=Nat.div_le_div_right (QG hab)
 have e1:=Nat.div_add_mod a n
 have e2:=Nat.div_add_mod b n
 unfold D4
 dsimp only
 rcases Qc (a / n) (b / n) with c |c
 ·left;omega
 ·right
  have e:a / n=b / n:=@AT
  rw[e] at e1
  omega
open Classical in
noncomputable def jV (n:Nat)(R:Int->Int->Prop):@C_:=(du n).filter λp=>decide (R p.1 p.2)
def lH {n:Nat}{R:Int->Int->Prop}{p:Pr}:p∈jV n R↔((0<=p.1/\p.1 < n)/\(0<=p.2/\p.2 < n))/\R p.1 p.2:=by
 unfold jV
 rw[OG,bV]
 simp
def oz (n:Nat)(R:Int->Int->Prop):wb (jV n R):=gu _ (jd n)
def yv {n:Nat}{R S:Int->Int->Prop}(h:∀a b:Int,0<=a->a < n->0<=b->b < n->(R a b↔S a b)):jV n R=jV n S:=by
 refine mG (oz n R) (oz n S) λx=>?_
 rw[lH,lH]
 constructor
 ·rintro⟨⟨⟨a,b⟩,c,d⟩,r⟩;exact⟨⟨⟨a,b⟩,c,d⟩,(h _ _ a b c d).mp r⟩
 ·rintro⟨⟨⟨a,b⟩,c,d⟩,r⟩;exact⟨⟨⟨a,b⟩,c,d⟩,(h _ _ a b c d).mpr r⟩
def Wn (n:Nat)(l:@C_):Prop:=∀p,p∈l->(0<=p.1/\p.1 < n)/\(0<=p.2/\p.2 < n)
abbrev Mem (l:@C_)(a b:Int):Prop:=(a,b)∈l
def Bz {n:Nat}{l:@C_}(w:Wn n l)(r:wb l):jV n (Mem l)=l:=by
 refine mG (oz n _) r λx=>?_
 rw[lH]
 exact⟨λh=>h.2,λh=>⟨w x h,h⟩⟩
def CH (n:Nat)(R:Int->Int->Prop):(jV n R).length<=n * n:=by
 unfold jV
 refine Pw (Pa ..) ?_
 unfold du;simp
inductive Tr (R:Int->Int->Prop):Int->Int->Prop
 |one {a b}:R a b->Tr R a b
 |more {a b c}:R a b->Tr R b c->Tr R a c
theorem Tr.trans {R:Int->Int->Prop}{a b c:Int}(h:Tr R a b)(k:Tr R b c):Tr R a c:=by
 induction h with
 |one r=>exact .more r k
 |more r _ ih=>exact .more r (ih k)
theorem Tr.least {R S:Int->Int->Prop}(f:∀a b,R a b->S a b)(t:∀a b c,S a b->S b c->S a c){a b:Int}(h:Tr R a b):S a b:=by
 induction h with
 |one r=>exact f _ _ r
 |more r _ ih=>exact t _ _ _ (f _ _ r) ih
structure Ord (n:Nat)(l:@C_):Prop where
 lo:1<=n
 hi:n<=8
 wn:Wn n l
 ris:wb l
 irr:∀a,(a,a)∉l
 tr:∀a b c,(a,b)∈l->(b,c)∈l->(a,c)∈l
def Ord.tr_mem {n:Nat}{l:@C_}(O:Ord n l){a b:Int}:Tr (Mem l) a b↔(a,b)∈l:=
 ⟨λh=>h.least (λ_ _ r=>r) λa b c=>O.tr a b c,λh=>.one h⟩
def Ord.closed {n:Nat}{l:@C_}(O:Ord n l):jV n (Tr (Mem l))=l:=by
 rw[yv (S:=Mem l) λa b _ _ _ _=>O.tr_mem,Bz O.wn O.ris]
theorem jN {l m:@C_}(hl:l.Nodup)(h:∀x,x∈l->x∈m):l.length<=m.length:=by
 induction l generalizing m with
 |nil=>exact O7 _
 |cons a l ih=>
  have ha:=h a (OH ..)
  have hl':=Pz.mp hl
  have:=ih (m:=m.erase a) hl'.2 λx hx=>by
   refine (List.mem_erase_of_ne ?_).mpr (h x (OF _ hx))
   rintro rfl;exact hl'.1 hx
  rw[QU ha] at this
  have:0 < m.length:=List.length_pos_of_mem ha
  simp only[O5];omega
def sub_eq {l m:@C_}(hl:wb l)(hm:wb m)(h:∀x,x∈l->x∈m)(e:l.length=m.length):l=m:=by
 refine mG hl hm λx=>⟨h x,λhx=>Classical.byContradiction λhn=>?_⟩
 have:=jN (l:=x :: l) (m:=m) (Pz.mpr ⟨hn,o6 hl⟩) λy hy=>by
  rcases OC.mp hy with e |e
  ·subst e;exact hx
  ·exact h y e
 simp only[O5] at this
 omega
abbrev Tb:=Nat->Nat->Bool
def Tb.set (M:Tb)(a b:Nat):Tb:=λx y=>if x=a/\y=b then true else M x y
def E5 (M:Tb)(m:Nat):Prop:=∀k a b,k < m->M a k=true->M k b=true->M a b=true
def Phase (M0 M:Tb)(m:Nat)(D:Nat->Nat->Prop):Prop:=∀a b,M a b=true↔M0 a b=true\/(D a b/\M0 a m=true/\M0 m b=true)
def Phase.start (M:Tb)(m:Nat):Phase M M m λ_ _=>False:=λa b=>by simp
def Phase.row {M0 M:Tb}{m:Nat}{D:Nat->Nat->Prop}(P:Phase M0 M m D)(a:Nat):M a m=true↔M0 a m=true:=by
 rw[P]
 exact⟨λh=>h.elim id λh=>h.2.1,.inl⟩
def Phase.col {M0 M:Tb}{m:Nat}{D:Nat->Nat->Prop}(P:Phase M0 M m D)(b:Nat):M m b=true↔M0 m b=true:=by
 rw[P]
 exact⟨λh=>h.elim id λh=>h.2.2,.inl⟩
def Phase.step {M0 M:Tb}{m:Nat}{D:Nat->Nat->Prop}(P:Phase M0 M m D)(x y:Nat) :
  Phase M0 (if M x m=true/\M m y=true then M.set x y else M) m (λa b=>D a b\/(a=x/\b=y)):=λa b=>by
 have r:=P.row x
 have c:=P.col y
 by_cases h:M x m=true/\M m y=true
 ·rw[Ov h]
  unfold Tb.set
  by_cases e:a=x/\b=y
  ·rw[Ov e]
   obtain⟨rfl,rfl⟩:=e
   simp only[true_iff]
   exact .inr ⟨.inr @IN,r.mp h.1,c.mp h.2⟩
  ·rw[OA e,P]
   constructor
   ·rintro (q | ⟨d,q⟩)
    ·exact .inl q
    ·exact .inr ⟨.inl d,q⟩
   ·rintro (q | ⟨d |d,q⟩)
    ·exact .inl q
    ·exact .inr ⟨d,q⟩
    ·exact absurd d e
 ·rw[OA h,P]
  constructor
  ·rintro (q | ⟨d,q⟩)
   ·exact .inl q
   ·exact .inr ⟨.inl d,q⟩
  ·rintro (q | ⟨d | ⟨rfl,rfl⟩,q1,q2⟩)
   ·exact .inl q
   ·exact .inr ⟨d,q1,q2⟩
   ·exact absurd ⟨r.mpr q1,c.mpr q2⟩ h
def Phase.done {M0 M:Tb}{m n:Nat}{D:Nat->Nat->Prop}(P:Phase M0 M m D)(hD:∀a b,a < n->b < n->D a b)(hM:∀a b,M0 a b=true->a < n/\b < n)(T:E5 M0 m) :
  E5 M (m + 1)/\∀a b,M a b=true->a < n/\b < n:=by
 have hM':∀a b,M a b=true->a < n/\b < n:=λa b h=>by
  rcases (P a b).mp h with q | ⟨_,q1,q2⟩
  ·exact hM a b q
  ·exact⟨(hM _ _ q1).1,(hM _ _ q2).2⟩
 have put:∀a b,M0 a m=true->M0 m b=true->M a b=true:=λa b h1 h2=>(P a b).mpr (.inr ⟨hD a b (hM _ _ h1).1 (hM _ _ h2).2,h1,h2⟩)
 refine⟨λk a b hk h1 h2=>?_,hM'⟩
 rcases Qc k m with c |c
 ·rcases (P a k).mp h1 with q1 | ⟨_,q1,q1'⟩
  ·rcases (P k b).mp h2 with q2 | ⟨_,q2,q2'⟩
   ·exact (P a b).mpr (.inl (T k a b c q1 q2))
   ·exact put a b (T k a m c q1 q2) q2'
  ·rcases (P k b).mp h2 with q2 | ⟨_,q2,q2'⟩
   ·exact put a b q1 (T k m b c q1' q2)
   ·exact put a b q1 q2'
 ·have e:k=m:=@AT
  subst e
  exact put a b ((P.row a).mp h1) ((P.col b).mp h2)
structure Tab (n:Nat)(ps:@C_)(M:Tb):Prop where
 inn:∀a b,M a b=true->a < n/\b < n
 sub:∀a b:Nat,((a:Int),(b:Int))∈ps->M a b=true
 sup:∀a b:Nat,M a b=true->Tr (Mem ps) a b
def Tab.phase {n:Nat}{ps:@C_}{M0 M:Tb}{m:Nat}{D:Nat->Nat->Prop}(T:Tab n ps M0)(P:Phase M0 M m D):Tab n ps M:=
 ⟨λa b h=>by
  rcases (P a b).mp h with q | ⟨_,q1,q2⟩
  ·exact T.inn a b q
  ·exact⟨(T.inn _ _ q1).1,(T.inn _ _ q2).2⟩,
  λa b h=>(P a b).mpr (.inl (T.sub a b h)),
  λa b h=>by
  rcases (P a b).mp h with q | ⟨_,q1,q2⟩
  ·exact T.sup a b q
  ·exact (T.sup _ _ q1).trans (T.sup _ _ q2)⟩
def Tab.all {n:Nat}{ps:@C_}{M:Tb}(w:Wn n ps)(T:Tab n ps M)(H:E5 M n)(a b:Nat):M a b=true↔Tr (Mem ps) a b:=by
 refine⟨T.sup a b,λh=>?_⟩
 have key:∀{x y:Int},Tr (Mem ps) x y->M x.toNat y.toNat=true:=λ{x y} h=>by
  induction h with
  | @one x y r=>
   have:=w _ r
   refine T.sub _ _ ?_
   have e1:((x.toNat:Nat):Int)=x:=by simp only at this;omega
   have e2:((y.toNat:Nat):Int)=y:=by simp only at this;omega
   rw[e1,e2];exact r
  | @more x y z r _ ih=>
   have:=w _ r
   have e1:((x.toNat:Nat):Int)=x:=by simp only at this;omega
   have e2:((y.toNat:Nat):Int)=y:=by simp only at this;omega
   have q:M x.toNat y.toNat=true:=T.sub _ _ (by rw[e1,e2];exact r)
   exact H y.toNat _ _ (T.inn _ _ q).2 q ih
 have:=key h
 simpa using this
end OM
namespace L2.ST
open PySem PySem.SetTable PySem.W PyProof.Rows
section
variable {prog:Program}{w:World}{A:Around}{E:@Db}{s:Shared}
def IK {ps:@C_}(hs:∀p,p∈ps->Sm p){ix:Array Nat}(P:L2.SO.Pm ps.length ix)(U:L2.SO.Up (sr ps) ix ps.length):OM.wb (ix.toList.map λi=>ps.getD i (0,0)):=by
 refine QZ.mpr (QQ.mpr λi j hi hj hij=>?_)
 have hi':i < ix.size:=by simpa using hi
 have hj':j < ix.size:=by simpa using hj
 have q:=U i j hij (by rw[<-P.sz];exact hj')
 unfold L2.SO.Kp sr at q
 have ei:ix.getD i 0=ix.toList[i]:=by simp[Array.getD,hi']
 have ej:ix.getD j 0=ix.toList[j]:=by simp[Array.getD,hj']
 rw[ei,ej] at q
 have ai:ix.toList[i] < ps.length:=P.lt _ @IN
 have aj:ix.toList[j] < ps.length:=P.lt _ @IN
 have bi:Sm (ps.getD ix.toList[i] (0,0)):=by rw[O6,Ot ai];exact hs _ (P0 ai)
 have bj:Sm (ps.getD ix.toList[j] (0,0)):=by rw[O6,Ot aj];exact hs _ (P0 aj)
 exact (zG bi bj).mp q
def Ia {n:Nat}{ix:Array Nat}(P:L2.SO.Pm n ix){k:Nat}(hk:k < n):k∈ix.toList:=by
 refine Classical.byContradiction λhn=>?_
 have:=j5 (l:=k :: ix.toList) (m:=List.range n) (Pz.mpr ⟨hn,P.nd⟩) λx hx=>by
  rcases OC.mp hx with e |e
  ·rw[e];exact Po.mpr hk
  ·exact Po.mpr (P.lt x (by simpa using e))
 simp[P.sz] at this
 omega
theorem J6 {h:Heap}{vs:@GM}{ps:@C_}(hps:fQ prog w h vs ps){ix:Array Nat}(P:L2.SO.Pm vs.length ix) :
  fQ prog w h (ix.toList.map λi=>vs.getD i Value.none) (ix.toList.map λi=>ps.getD i (0,0)):=by
 refine⟨by simp,λi v p h1 h2=>?_⟩
 rw[OK] at h1 h2
 cases e:ix.toList[i]? with
 |none=>rw[e] at h1;cases h1
 |some k=>
  rw[e] at h1 h2
  have hk:k < vs.length:=P.lt k (by simpa using OV e)
  have hk':k < ps.length:=by rw[<-hps.1];exact hk
  simp[hk,hk'] at h1 h2
  exact hps.2 k v p (by rw[Ot hk,h1]) (by rw[Ot hk',h2])
def A6 {v:Value}{vs:@GM}{ps:@C_}{Q:@Db}(hps:fQ prog w s.heap vs ps)(nd:ps.Nodup)(h64:vs.length < 64)
  (hcol:∀(Q':@GM->Shared->Prop),(∀h' tk,(∀b o,s.heap.get? b=some o->h'.get? b=some o)->Q' vs {s with heap:=h',toks:=tk})->wpAny (model prog w) A.in1 (collect v) Q' (λe s'=>E e s') s)
  (h:∀(h1 h':Heap) (tk:Nat) (D:Addr) (out:@GM) (qs:@C_) (c:Nat),(∀b o,s.heap.get? b=some o->h1.get? b=some o)->D=h1.objs.size->(∀b o,h1.get? b=some o->h'.get? b=some o)->h'.get? D=some (seqObj "list" out.toArray c)->fQ prog w h' out qs->(∀u,u∈out->u∈vs)->OM.wb qs->(∀p,p∈qs↔p∈ps)->
   Q (.ref D) {s with heap:=h',toks:=tk}):wpAny (model prog w) A (call (.builtin "sorted") [v]) Q E s:=by
 have hsm:∀p,p∈ps->Sm p:=λp hp=>by
  obtain⟨i,hi,e⟩:=Qt.mp hp
  have hi':i < vs.length:=by rw[hps.1];exact hi
  obtain⟨_,_,_,hs⟩:=hps.2 i vs[i] p (Ot hi') (by rw[Ot hi,e])
  exact hs
 (refine Calls.call_function_entry kind_sorted plain_sorted entry_sorted (args_sorted1 _) ?_)
 unfold Builtin.«sorted»
 refine Ou (m:=checkCount "sorted" 1 1 ([v]:@GM).length) (OZ ?_)
 refine Ou (hcol _ λh1 tk1 k1=>?_)
 have hz:vs.length<=sizeLine:=by rw[O4];omega
 refine Ou (wpAny_newList ?_ hz)
 show wpAny _ _ _ _ _ {s with heap:=h1.push (seqObj "list" vs.toArray 0),toks:=tk1}
 have hoL:(h1.push (seqObj "list" vs.toArray 0)).get? h1.objs.size=some (seqObj "list" vs.toArray 0):=OQ _ rfl
 have kp:∀b o,s.heap.get? b=some o->(h1.push (seqObj "list" vs.toArray 0)).get? b=some o:=λb o e=>Ow _ (k1 b o e)
 have hp1:fQ prog w (h1.push (seqObj "list" vs.toArray 0)) vs ps:=⟨hps.1,λi v p a b=>by
  obtain⟨c,e,⟨o,it,n,ho,r⟩,hs⟩:=hps.2 i v p a b
  exact⟨c,e,⟨o,it,n,kp _ _ ho,r⟩,hs⟩⟩
 have hne:∀b o,s.heap.get? b=some o->b≠h1.objs.size:=λb o e=>OX (Oz (k1 b o e))
 refine Ou (P8 (wpAny_call_entry slot_list_sort ⟨_,hoL,rfl⟩ entry_list_sort ?_ (args_list_sort _)))
 refine wo (s:={s with heap:=h1.push (seqObj "list" vs.toArray 0),toks:=tk1}) hoL hp1 nd h64 λh' c ix P U hk ho=>?_
 refine⟨_,rfl,OZ ⟨_,rfl,?_⟩⟩
 have kk:∀b o,s.heap.get? b=some o->h'.get? b=some o:=λb o e=>hk b o (hne b o e) (kp b o e)
 have P':L2.SO.Pm ps.length ix:=by rw[<-hps.1];exact P
 have k2:∀b o,h1.get? b=some o->h'.get? b=some o:=λb o e=>hk b o (OX (Oz e)) (Ow _ e)
 refine h h1 h' tk1 h1.objs.size _ (ix.toList.map λi=>ps.getD i (0,0)) c k1 rfl k2 ho (J6 ⟨hps.1,λi v p a b=>?_⟩ P) (λu hu=>?_) (IK hsm P' (by rw[<-hps.1];exact U)) λp=>⟨λhp=>?_,λhp=>?_⟩
 ·obtain⟨c,e,⟨o,it,n,ho,r⟩,hs⟩:=hps.2 i v p a b
  exact⟨c,e,⟨o,it,n,kk _ _ ho,r⟩,hs⟩
 ·obtain⟨i,hi,rfl⟩:=Pj.mp hu
  have:i < vs.length:=P.lt i (by simpa using hi)
  rw[O6,Ot this]
  exact P0 this
 ·obtain⟨i,hi,rfl⟩:=Pj.mp hp
  have:i < ps.length:=P'.lt i (by simpa using hi)
  rw[O6,Ot this]
  exact P0 this
 ·obtain⟨i,hi,e⟩:=Qt.mp hp
  refine Pj.mpr ⟨i,Ia P' hi,?_⟩
  rw[O6,Ot hi,e];rfl
end
end L2.ST
namespace L2
open PySem PySem.Spec PyProof.Rows
abbrev Pr:=Int×Int
abbrev Sm:=L2.ST.Sm
section
variable {X:Cx}{pins:@B_}{σ:St}{H H':Hp}{s:Shared}
def jP (H H':Hp):Prop:=(∀b xs,H b=some (.tup xs)->H' b=some (.tup xs))/\∀b o u,H b=some (.aY o u)->H' b=some (.aY o u)
def jP.trans {H H1 H2:Hp}(a:jP H H1)(b:jP H1 H2):jP H H2:=⟨λc xs h=>b.1 c xs (a.1 c xs h),λc o u h=>b.2 c o u (a.2 c o u h)⟩
def ar.grow {H H':Hp}(e:ar H H'):jP H H':=⟨λb xs h=>e b _ h,λb o u h=>e b _ h⟩
def jP.new {H:Hp}{l:Addr}{o:HO}(h:H l=none):jP H (upd H l o):=⟨λb xs e=>by rw[aE (aM e h)];exact e,λb o' u e=>by rw[aE (aM e h)];exact e⟩
def ar.new {H:Hp}{l:Addr}{o:HO}(h:H l=none):ar H (upd H l o):=λb u e=>Kt.of (by rw[aE (aM e h)];exact e)
def hW.grow {K:Frag}{a:Addr}{xs:List V}(h:hW K H a xs)(g:jP H H'):hW K H' a xs:=by
 rcases h with (h | ⟨o,h⟩) |h
 ·exact .inl (.inl (g.1 _ _ h))
 ·exact .inl (.inr ⟨o,g.2 _ _ _ h⟩)
 ·exact .inr h
def jP.list {a:Addr}{ys:List V}{o:HO}(h:H a=some (.lst ys)):jP H (upd H a o):=
 ⟨λb xs e=>by rw[aE (Hm e h (by intro z;cases z))];exact e,λb o' u e=>by rw[aE (Hm e h (by intro z;cases z))];exact e⟩
def bg (K:Frag)(H:Hp):List V->@C_->Prop:=Paired λv p=>∃a,v=.ref a/\hW K H a [.int p.1,.int p.2]
def bg.grow {K:Frag}{vs:List V}{ps:@C_}(h:bg K H vs ps)(g:jP H H'):bg K H' vs ps:=Paired.mapP h λv p ⟨a,e,q⟩=>⟨a,e,q.grow g⟩
theorem Paired.getP {α β:Type}{F:α->β->Prop}:∀{l:List α} {m:List β} {i:Nat} {x:α},Paired F l m->l[i]? =some x->∃y,m[i]? =some y/\F x y
 |_,_,_,_,.nil,e=>by simp at e
 |_,_,0,_,.cons r _,e=>by simp at e;subst e;exact⟨_,rfl,r⟩
 |_,_,i + 1,x,.cons _ t,e=>by
  obtain⟨u,h1,h2⟩:=Paired.getP (i:=i) (x:=x) t (by simpa using e)
  exact⟨u,by simpa using h1,h2⟩
theorem Paired.getQ {α β:Type}{F:α->β->Prop}:∀{l:List α} {m:List β} {i:Nat} {y:β},Paired F l m->m[i]? =some y->∃x,l[i]? =some x/\F x y
 |_,_,_,_,.nil,e=>by simp at e
 |_,_,0,_,.cons r _,e=>by simp at e;subst e;exact⟨_,rfl,r⟩
 |_,_,i + 1,x,.cons _ t,e=>by
  obtain⟨u,h1,h2⟩:=Paired.getQ (i:=i) (y:=x) t (by simpa using e)
  exact⟨u,by simpa using h1,h2⟩
theorem Ao (I:@At){a:Addr}{p:Pr}(h:hW X.K H a [.int p.1,.int p.2]):L2.ST.kI X.prog X.w s.heap p a:=by
 obtain⟨its,r,⟨o,ho,hc,n,hd⟩,_⟩:=I.tuple h
 cases r with
 |cons r1 r=>
  cases r with
  |cons r2 r=>
   cases r
   obtain⟨t1,rfl⟩:=r1
   obtain⟨t2,rfl⟩:=r2
   exact⟨o,_,n,ho,hc,hd,.cons (intKind_is ..) (.cons (intKind_is ..) .nil)⟩
def pairs_at (I:@At){vs:List V}{us:@GM}{ps:@C_}(hv:Vals vs us)(h:bg X.K H vs ps)(hs:∀p,p∈ps->Sm p):L2.ST.fQ X.prog X.w s.heap us ps:=by
 refine⟨by rw[<-hv.length];exact Paired.length h,λi u p e1 e2=>?_⟩
 obtain⟨v,ev,a,rfl,q⟩:=Paired.getQ h e2
 obtain⟨u',eu,ru⟩:=hv.get ev
 rw[e1] at eu;cases eu
 cases ru
 exact⟨a,rfl,Ao I q,hs p (OV e2)⟩
theorem r6 (I:@At){vs:List V}{us:@GM}{ps:@C_}(hv:Vals vs us)(h:bg X.K H vs ps){h':Heap}(k:∀b o,s.heap.get? b=some o->h'.get? b=some o):∀{out:@GM} {qs:@C_},
  (∀u,u∈out->u∈us)->L2.ST.fQ X.prog X.w h' out qs->∃ws,Vals ws out/\bg X.K H ws qs
 | [],[],_,_=>⟨[],.nil,.nil⟩
 | [],_ :: _,_,hp=>by have:=hp.1;simp at this
 |_ :: _,[],_,hp=>by have:=hp.1;simp at this
 |u :: out,q :: qs,hm,hp=>by
  obtain⟨ws,a1,a2⟩:=r6 I hv h k (out:=out) (qs:=qs) (λx hx=>hm x (OF _ hx)) ⟨by have:=hp.1;simpa using this,λi v p e1 e2=>hp.2 (i + 1) v p (by simpa using e1) (by simpa using e2)⟩
  obtain⟨i,hi,e⟩:=Qt.mp (hm u (OH ..))
  have hi':i < vs.length:=by rw[hv.length];exact hi
  obtain⟨u',eu,ru⟩:=hv.get (Ot hi')
  rw[Ot hi,e] at eu
  cases eu
  obtain⟨p,ep,a,ea,qa⟩:=Paired.getP h (Ot hi')
  rw[ea] at ru
  cases ru
  obtain⟨b,eb,hb,_⟩:=hp.2 0 (.ref a) q rfl rfl
  cases eb
  have pa:L2.ST.kI X.prog X.w h' p a:=by
   obtain⟨o,it,n,ho,r⟩:=Ao I qa
   exact⟨o,it,n,k _ _ ho,r⟩
  have:p=q:=L2.ST.kI.inj pa hb
  subst this
  exact⟨.ref a :: ws,.cons rfl a1,.cons ⟨a,rfl,qa⟩ a2⟩
def zq (K:Frag):List V->Hp->VK->Prop:=λxs H Q=>∃a vs ps,xs= [.ref a]/\iY K H a vs/\bg K H vs ps/\(∀p,p∈ps->Sm p)/\ps.Nodup/\ps.length < 64/\
 ∀l ws qs,H l=none->bg K H ws qs->OM.wb qs->(∀p,p∈qs↔p∈ps)->Q (.ref l) (upd H l (.lst ws))
def za (I:@At){vs:List V}{us:@GM}{ps:@C_}(hv:Vals vs us)(hp:bg X.K H vs ps)(hlen:ps.length < 64){Q:VK}
  (q:∀l ws qs,H l=none->bg X.K H ws qs->OM.wb qs->(∀p,p∈qs↔p∈ps)->Q (.ref l) (upd H l (.lst ws)))
  {h1 h':Heap} {tk:Nat} {D:Addr} {out:@GM} {qs:@C_} {c:Nat} (k1:∀b o,s.heap.get? b=some o->h1.get? b=some o) (eD:D=h1.objs.size) (k2:∀b o,h1.get? b=some o->h'.get? b=some o)
  (ho:h'.get? D=some (seqObj "list" out.toArray c)) (hpq:L2.ST.fQ X.prog X.w h' out qs) (hm:∀u,u∈out->u∈us) (hr:OM.wb qs) (hmem:∀p,p∈qs↔p∈ps):EP X pins σ Q (.ref D) {s with heap:=h',toks:=tk}:=by
 obtain⟨ws,r1,r2⟩:=r6 I hv hp (λb o e=>k2 b o (k1 b o e)) hm hpq
 have I1:Inv X pins σ H {s with heap:=h1,toks:=tk}:=I.kept k1
 have hf:H D=none:=by rw[eD];exact I1.hok.fresh (Ox _)
 have hz:ws.length<=sizeLine:=by
  have e1:=r1.length
  have e2:out.length=qs.length:=hpq.1
  have e3:=OM.jN (OM.o6 hr) λx hx=>(hmem x).mp hx
  rw[O4];omega
 have I2:Inv X pins σ (upd H D (.lst ws)) {s with heap:=h',toks:=tk}:=I1.laid (t':=tk) k2 (by rw[eD];exact Ox _) (show cw X.prog X.w _ h' _ (.lst ws) from⟨hz,out,c,r1,ho⟩)
 exact⟨.ref D,_,I2,rfl,q D ws qs hf r2 hr hmem⟩
def wA:fA X (.builtin "sorted") (zq X.K):=by
 intro pins s σ H xs us Q I r h
 obtain⟨a,vs,ps,rfl,hq,hp,hs,nd,hl,q⟩:=h
 obtain⟨u,rfl,rx⟩:=vals1 r
 cases rx
 obtain⟨its,rv,pl,hz⟩:=I.list hq
 have hpa:=pairs_at I rv hp hs
 have h64:its.length < 64:=by rw[hpa.1];exact hl
 refine L2.ST.A6 (v:=.ref a) hpa nd h64 (λQ' hQ'=>collect_list pl.isList ?_ (by rw[O4];omega)) λh1 h' tk D out qs c k1 eD k2 ho hpq hm hr hmem=>?_
 ·exact hQ' _ s.toks λb o e=>by
   rw[Heap.get?_update_ne _ _ _ _ (OX (Oz e)),Heap.get?_push_ne _ _ _ (OX (Oz e))];exact e
 ·exact za I rv hp hl q k1 eD k2 ho hpq hm hr hmem
end
def gc (cells:List (Str×Addr)):List (Str×NameKind)->List (Str×Addr)->List (Str×Addr)
 | [],cs=>cs
 | (n,k) :: r,cs=>gc cells r (if k == .free then (n,(cells.lookup n).getD 0) :: cs else cs)
def kU {scope:Scope}{env:Env}(h:∀y∈scope.names,y.2=.free->∃c,env.cells.lookup y.1=some c):closureFor scope env=pure (gc env.cells scope.names []):=by
 unfold closureFor
 have key:∀(l:List (Str×NameKind)) (cs:List (Str×Addr)),(∀y∈l,y.2=.free->∃c,env.cells.lookup y.1=some c)->
   (forIn l cs (λ(x:Str×NameKind) (r:List (Str×Addr))=>if (x.2 == NameKind.free)=true then (do let a <-cellOf env x.1;pure (ForInStep.yield ((x.1,a) :: r)):Sem _) else pure (ForInStep.yield r)):Sem (List (Str×Addr)))=pure (gc env.cells l cs):=by
  intro l
  induction l with
  |nil=>intro cs _;rfl
  |cons y l ih=>
   intro cs hy
   obtain⟨n,k⟩:=y
   rw[List.forIn_cons]
   unfold gc
   by_cases hk:(k == NameKind.free)=true
   ·have hk':k=.free:=by simpa using hk
    obtain⟨c,hc⟩:=hy (n,k) (OH ..) hk'
    have hce:cellOf env n=pure c:=by unfold cellOf;rw[hc]
    simp only[hk,PL]
    have hc':env.cells.lookup n=some c:=hc
    rw[hce,hc']
    simp only[pure_bind,Option.getD_some]
    exact ih _ λz hz=>hy z (OF _ hz)
   ·simp only[hk,PZ,Pn]
    simp only[pure_bind]
    exact ih _ λz hz=>hy z (OF _ hz)
 have:=key scope.names [] h
 simp only[bind_pure_comp] at this ⊢
 first
  |exact this
  | (rw[this];rfl)
  | (simpa using this)
theorem mh {cells:List (Str×Addr)}{x:Str}:∀{l:List (Str×NameKind)} {cs:List (Str×Addr)},((x,NameKind.free)∈l\/cs.lookup x=some ((cells.lookup x).getD 0))->(gc cells l cs).lookup x=some ((cells.lookup x).getD 0)
 | [],cs,h=>by
  rcases h with h |h
  ·cases h
  ·exact h
 | (n,k) :: r,cs,h=>by
  unfold gc
  refine mh ?_
  by_cases hk:(k == NameKind.free)=true
  ·rw[Ov hk]
   by_cases hx:x=n
   ·subst hx;right;simp
   ·rcases h with h |h
    ·rcases OC.mp h with e |e
     ·injection e with e1 _;exact absurd e1 hx
     ·exact .inl e
    ·right
     rw[Qx,show (x == n)=false by simpa using hx]
     exact h
  ·rw[OA hk]
   rcases h with h |h
   ·rcases OC.mp h with e |e
    ·injection e with _ e2;exact absurd (by rw[<-e2];rfl) hk
    ·exact .inl e
   ·exact .inr h
theorem jZ {cells:List (Str×Addr)}{x:Str}{c:Addr}:∀{l:List (Str×NameKind)} {cs:List (Str×Addr)},(gc cells l cs).lookup x=some c->((x,NameKind.free)∈l/\c=(cells.lookup x).getD 0)\/cs.lookup x=some c
 | [],cs,h=>.inr h
 | (n,k) :: r,cs,h=>by
  unfold gc at h
  rcases jZ h with⟨a,b⟩ |a
  ·exact .inl ⟨OF _ a,b⟩
  ·by_cases hk:(k == NameKind.free)=true
   ·rw[Ov hk,Qx] at a
    by_cases hx:x=n
    ·subst hx
     simp at a
     have:k=.free:=by simpa using hk
     subst this
     exact .inl ⟨OH ..,a.symm⟩
    ·rw[show (x == n)=false by simpa using hx] at a
     exact .inr a
   ·rw[OA hk] at a
    exact .inr a
theorem pI {f:Str->NameKind->NameKind}{x:Str}:∀(l:List (Str×NameKind)),(l.map λy=>(y.1,f y.1 y.2)).lookup x=(l.lookup x).map (f x)
 | []=>rfl
 | (n,k) :: l=>by
  rw[PM,Qx,Qx]
  by_cases hx:x=n
  ·subst hx;simp
  ·have hb:(x == n)=false:=by simpa using hx
   simp only[hb]
   exact pI l
def qS (scope:Scope)(env:Env)(x:Str):(relabel scope env).names.lookup x=(scope.names.lookup x).map λk=>if (k == .free && env.scope.kind == .function && env.kindOf x == some .cell) then .cell else k:=by
 have e:(relabel scope env).names=scope.names.map λy=>(y.1,if (y.2 == .free && env.scope.kind == .function && env.kindOf y.1 == some .cell) then .cell else y.2):=by
  unfold relabel
  dsimp only
  refine PV λy _=>?_
  obtain⟨n,k⟩:=y
  dsimp only
  split <;> rfl
 rw[e]
 exact pI (f:=λn k=>if (k == .free && env.scope.kind == .function && env.kindOf n == some .cell) then .cell else k) scope.names
theorem lU:∀(l:List (Str×NameKind)) (n:Nat) (acc:List (Str×Addr)),cellsFrom n l acc=cellsFrom n l [] ++ acc
 | [],_,_=>rfl
 | (x,k) :: r,n,acc=>by
  unfold cellsFrom
  split
  ·rw[lU r (n + 1) ((x,n) :: acc),lU r (n + 1) [(x,n)],Qe];rfl
  ·exact lU r n acc
theorem pf:∀{l:List (Str×NameKind)} {n:Nat} {x:Str} {c:Addr},(x,c)∈cellsFrom n l []->n<=c/\(x,NameKind.cell)∈l
 | [],_,_,_,h=>by cases h
 | (y,k) :: r,n,x,c,h=>by
  unfold cellsFrom at h
  split at h
  ·rename_i hk
   have hk:k=.cell:=by simpa using hk
   rw[lU] at h
   rcases OR.mp h with h |h
   ·have:=pf h;exact⟨@AT,OF _ this.2⟩
   ·rw[OY] at h;cases h;subst hk;exact⟨Ox _,OH ..⟩
  ·have:=pf h;exact⟨this.1,OF _ this.2⟩
abbrev BO (X:Cx)(scope:Scope)(C:Addr):List (Str×Addr):=cellsFrom (C + 1) scope.names (gc X.env.cells scope.names [])
def Ae {M:Model}{A:Around}{E:@Db}{s:Shared}{scope:Scope}{g:Addr}{cl:List (Str×Addr)}{qual:Str}{env:Env}{Q:Env->Shared->Prop}
  (h:∀h',h'.Ns s.heap.objs.size (λ_=>none)->(∀b o,s.heap.get? b=some o->h'.get? b=some o)->CellsOk h' (s.heap.objs.size + 1) (cellsFrom (s.heap.objs.size + 1) scope.names [])->Q (newEnv scope s.heap.objs.size g (cellsFrom (s.heap.objs.size + 1) scope.names cl) qual none .none (some env) builtinsNs) {s with heap:=h'}) :
  wpAny M A (newFunctionEnv scope g cl [] qual none .none (some env)) Q E s:=by
 simp only[newFunctionEnv,Option.isSome_some,PL]
 refine Ou (wpAny_alloc ?_)
 refine Ou (wpAny_layCells _ (λname kind cells=>by cases hkc:kind == NameKind.cell <;> simp[hkc]) _ _ _ _ ?_)
 have ok:=cellsFrom_ok scope.names (s.heap.push {cls:=.type "dict",data:=.dict #[]}) (s.heap.objs.size + 1) [] ⟨λ_ _ hm=>(nomatch hm),List.Pairwise.nil⟩ (by rw[P2];exact Ox _)
 rw[P2] at ok
 rw[show ({s with heap:=s.heap.push {cls:=.type "dict",data:=.dict #[]}}:Shared).heap.objs.size=s.heap.objs.size + 1 from P2 ..]
 rw[List.forIn_nil]
 exact Ou (OZ (OZ (h _ ((Heap.Ns.new s.heap (.type "dict")).keeps (pushCells_keeps _ _)) (λb o e=>pushCells_keeps _ _ b o (Ow _ e)) ok)))
def eV (X:Cx)(NB:@H_)(scope:Scope)(C:Addr)(ex:List Addr)(s3:Shared)(H3:Hp)(pn:@B_):Cx:=
 {X with N:=NB,s₀:=s3,H₀:=H3,env:=compEnvC scope (BO X scope C) C X.env,outer:=X.stack,ex:=ex,fn:=λx=>scope.names.lookup x == some .cell,pn:=pn,xe:=λ_ _=>False}
def dv (own:Nat)(ixs:@G_)(σ:St):St:=List.replicate own none ++ ixs.map λi=>(σ[i]?).join
structure bA (X:Cx)(NB:@H_)(own:Nat)(ixs:@G_)(scope:Scope):Prop where
 kind:scope.kind=.function
 names:∀y∈scope.names,scope.names.lookup y.1=some y.2
 frees:∀y∈scope.names,y.2=.free->X.env.kindOf y.1=some .cell\/X.env.kindOf y.1=some .free
 nd:NB.Nodup
 len:NB.length=own + ixs.length
 at':∀k,k < ixs.length->NB[own + k]? =X.N[ixs.getD k 0]?/\∀x,NB[own + k]? =some x->(x,NameKind.free)∈scope.names
section
variable {X:Cx}{NB:@H_}{own:Nat}{ixs:@G_}{scope:Scope}{pins:@B_}{σ:St}{H:Hp}{s:Shared}
def tK (S:bA X NB own ixs scope)(I:@At){fp:List Addr}(hfp:∀b∈fp,g9 X pins H b)(hob:∀b∈fp,∃o,s.heap.get? b=some o){h1:Heap}{tk:Nat}
  (hn:h1.Ns s.heap.objs.size (λ_=>none)) (hk:∀b o,s.heap.get? b=some o->h1.get? b=some o) (hcl:CellsOk h1 (s.heap.objs.size + 1) (cellsFrom (s.heap.objs.size + 1) scope.names [])) :
  Inv (eV X NB scope s.heap.objs.size fp s H (X.pn ++ pins)) [] (dv own ixs σ) H {s with heap:=h1,toks:=tk}:=by
 have stk:=I.stack
 have frees:∀{x:Str},(x,NameKind.free)∈scope.names->∃c,X.env.cells.lookup x=some c:=λ{x} hx=>I.ok.has x (S.frees _ hx rfl)
 have clE:∀{x:Str} {c:Addr},(BO X scope s.heap.objs.size).lookup x=some c->((x,c)∈cellsFrom (s.heap.objs.size + 1) scope.names []/\s.heap.objs.size < c)\/((x,NameKind.free)∈scope.names/\X.env.cells.lookup x=some c):=λ{x c} h=>by
  unfold BO at h
  rw[lU,QV] at h
  cases q:(cellsFrom (s.heap.objs.size + 1) scope.names []).lookup x with
  |some c'=>
   rw[q] at h
   cases h
   have hm:=Pg q
   exact .inl ⟨hm,(pf hm).1⟩
  |none=>
   rw[q] at h
   have h:(gc X.env.cells scope.names []).lookup x=some c:=h
   rcases jZ h with⟨a,b⟩ |a
   ·obtain⟨c',e⟩:=frees a
    rw[e] at b
    exact .inr ⟨a,by rw[e,b];rfl⟩
   ·simp at a
 have clF:∀{x:Str},(x,NameKind.free)∈scope.names->(BO X scope s.heap.objs.size).lookup x=some ((X.env.cells.lookup x).getD 0):=λ{x} hm=>by
  unfold BO
  rw[lU,QV]
  cases q:(cellsFrom (s.heap.objs.size + 1) scope.names []).lookup x with
  |some c'=>
   have h1:=S.names _ (pf (Pg q)).2
   have h2:=S.names _ hm
   dsimp only at h1 h2
   rw[h1] at h2
   cases h2
  |none=>exact mh (.inl hm)
 have kindB:∀x,(eV X NB scope s.heap.objs.size fp s H (X.pn ++ pins)).env.kindOf x=(scope.names.lookup x).map λk=>if (k == .free && X.env.scope.kind == .function && X.env.kindOf x == some .cell) then .cell else k:=λx=>qS scope X.env x
 have isFree:∀{x:Str},((eV X NB scope s.heap.objs.size fp s H (X.pn ++ pins)).env.kindOf x=some .cell\/(eV X NB scope s.heap.objs.size fp s H (X.pn ++ pins)).env.kindOf x=some .free)->(x,NameKind.free)∈scope.names\/scope.names.lookup x=some .cell:=λ{x} h=>by
  rw[kindB] at h
  cases e:scope.names.lookup x with
  |none=>rw[e] at h;simp at h
  |some k=>
   have hm:=Pg e
   cases k with
   |free=>exact .inl hm
   |cell=>exact .inr rfl
   |_=>rw[e] at h;simp at h
 have neN:∀b o,s.heap.get? b=some o->b≠s.heap.objs.size:=λb o e=>OX (Oz e)
 have cellN:∀{x:Str} {c:Addr},X.env.cells.lookup x=some c->c < s.heap.objs.size:=λ{x c} e=>by
  obtain⟨v,o,ho,_⟩:=I.cell x c e
  exact Oz ho
 have ok:(eV X NB scope s.heap.objs.size fp s H (X.pn ++ pins)).Ok:=by
  refine⟨I.ok.mod,S.kind,I.ok.glob,I.ok.blt,Ox _,λx y c h1 h2=>?_,λx hx=>?_,λx c h hc=>?_,I.ok.hd,I.ok.frames,.inl rfl,λb hb=>?_,I.bs,Pw I.ok.bsz I.sz,λb o e hb=>?_,λb hb hs=>?_,stk,I.stkFree⟩
  ·rcases clE h1 with⟨a,l1⟩ | ⟨a,l1⟩
   ·rcases clE h2 with⟨b,l2⟩ | ⟨b,l2⟩
    ·exact name_of_addr hcl.apart a b
    ·exact absurd (Qy l1 (cellN l2)) (OU _)
   ·rcases clE h2 with⟨b,l2⟩ | ⟨b,l2⟩
    ·exact absurd (Qy l2 (cellN l1)) (OU _)
    ·exact I.ok.inj x y c l1 l2
  ·rcases isFree hx with hm |hm
   ·exact⟨_,clF hm⟩
   ·obtain⟨c,hc⟩:=Qb.mp (Qi scope.names (s.heap.objs.size + 1) (gc X.env.cells scope.names []) (.inl hm))
    exact⟨c,hc⟩
  ·rcases clE hc with⟨a,l1⟩ | ⟨a,l1⟩
   ·exact QG l1
   ·have h1:=S.names _ a
    dsimp only at h1
    have h:(scope.names.lookup x == some NameKind.cell)=true:=h
    rw[h1] at h
    cases h
  ·obtain⟨_,f1,f2,f3,f4,f5⟩:=hfp b hb
   obtain⟨o,ho⟩:=hob b hb
   refine⟨neN b o ho,λx c h z=>?_⟩
   rcases clE h with⟨a,l1⟩ | ⟨a,l1⟩
   ·rw[z] at l1
    exact OU _ (Qy l1 (Oz ho))
   ·exact f4 x c l1 z
  ·obtain⟨_,f1,f2,f3,f4,f5⟩:=hfp b hb
   rcases f3 with f3 |f3
   ·exact I.ok.noex b o e f3
   ·exact absurd (OO (Oz e) (Pw I.ok.bsz f3)) (OU _)
  ·obtain⟨_,f1,f2,f3,f4,f5⟩:=hfp b hb
   rcases OC.mp (I.stkSub b hs) with z |z
   ·exact f1 z
   ·exact f2 z
 refine⟨ok,rfl,I.bare,Un.kept hk,⟨_,hn,λi x v h1' h2' h3'=>?_⟩,λx c h=>?_,I.hok.fresh (Ox _),λx c h=>?_,λp hp=>?_,I.hok.kept hk,?_⟩
 ·
  have h1':NB[i]? =some x:=h1'
  have hown:own<=i:=by
   refine Classical.byContradiction λhc=>?_
   have hlt:i < own:=Nat.lt_of_not_le hc
   unfold dv at h2'
   rw[O0 (by simpa using hlt),PH,Ov hlt] at h2'
   cases h2'
  obtain⟨k,rfl⟩:∃k,i=own + k:=⟨i - own,@AT ⟩
  have hk':k < ixs.length:=by
   have:=(Oy.mp h1').1
   rw[S.len] at this;omega
  obtain⟨e1,e2⟩:=S.at' k hk'
  have hm:=e2 x h1'
  unfold dv at h2'
  rw[O2 @IN,Pe,Nat.add_sub_cancel_left,OK,Ot hk'] at h2'
  simp only[Option.map_some,Option.some.injEq] at h2'
  have hix:ixs.getD k 0=ixs[k]:=by simp[hk']
  have hσ:σ[ixs[k]]? =some (some v):=by
   cases e:σ[ixs[k]]? with
   |none=>rw[e] at h2';cases h2'
   |some o=>rw[e] at h2';simp at h2';rw[h2']
  rw[e1,hix] at h1'
  have hkind:=S.frees _ hm rfl
  have hvis:vS X.env.scope x:=hkind.elim (λz=>.inr (.inl z)) (λz=>.inr (.inr z))
  obtain⟨m,hm',hl⟩:=I.loc
  obtain⟨u,r,look⟩:=hl _ x v h1' hσ hvis
  refine⟨u,r,.inr ⟨?_,?_⟩⟩
  ·rw[kindB]
   have hfr:scope.names.lookup x=some .free:=S.names _ hm
   rw[hfr]
   simp only[Option.map_some]
   split
   ·exact .inl rfl
   ·exact .inr rfl
  ·rcases look with⟨z,_⟩ | ⟨_,c,hc,hcell⟩
   ·rcases hkind with q |q
    ·rw[q] at z;cases z
    ·rw[q] at z;cases z
   ·refine⟨c,?_,?_⟩
    ·have:=clF hm
     rw[hc] at this
     exact this
    ·obtain⟨o,ho,hd⟩:=hcell
     exact⟨o,hk _ _ ho,hd⟩
 ·rcases clE h with⟨a,_⟩ | ⟨_,l1⟩
  ·exact⟨_,(hcl.empty _ _ a).1⟩
  ·obtain⟨v,o,ho,hd⟩:=I.cell x c l1
   exact⟨v,o,hk _ _ ho,hd⟩
 ·rcases clE h with⟨_,l1⟩ | ⟨_,l1⟩
  ·exact I.hok.fresh (QG l1)
  ·exact I.freeC x c l1
 ·have hp':p∈X.pn ++ pins:=by
   rcases OR.mp hp with z |z
   ·exact z
   ·cases z
  obtain⟨e,n,ne,nf,d⟩:=I.pin p hp'
  refine⟨hk _ _ e,n,neN _ _ e,λz=>?_,d⟩
  rcases OC.mp (I.stkSub _ z) with q |q
  ·exact ne q
  ·exact nf q
 ·show (dv own ixs σ).length=NB.length
  unfold dv
  rw[S.len];simp
end
abbrev zK (ifs:List Expr)(env:Env):Sem Bool:=forIn ifs true λc r=>if r=true then do let ok <-isTrue c env (eval c env);pure (ForInStep.yield ok) else pure (ForInStep.yield r)
theorem tX {prog:Program}{w:World}{A:Around}{R:Result->Shared->Prop}{s:Shared}{elt target iter:Expr}{ifs:List Expr}{scope:Scope}{pos:Pos}{it acc:Value}{env:Env}(I:Nat->Shared->Prop)
  (turn:∀n s,I n s->wpAny (model prog w) A (pyNext it) (λr s1=>match r with
   |none=>R (.ok .next) s1
   |some v=>wpAny (model prog w) A (letOwnedTupleGo target it v) (λ_ s1'=>wpAny (model prog w) A (assign target env v) (λ_ s2=>
     wpAny (model prog w) A (zK ifs env) (λok s3=>
      if ok=true then wpAny (model prog w) A (eval elt env) (λx s4=>wpAny (model prog w) A (call (.builtin "list.append") [acc,x]) (λ_ s5=>∃m,m < n/\I m s5) (λ_ _=>False) s4) (λ_ _=>False) s3
      else ∃m,m < n/\I m s3) (λ_ _=>False) s2) (λ_ _=>False) s1') (λ_ _=>False) s1) (λ_ _=>False) s)
  (n:Nat) (h:I n s):codeAny (model prog w) A (.compLoop (.ListComp elt [⟨target,iter,ifs,0⟩] scope pos) 0 it acc env) R s:=by
 refine codeAny_loop rfl I (λn s hI=>?_) n h
 (show wpAny _ A ((compTurn (.ListComp elt [⟨target,iter,ifs,0⟩] scope pos) 0 it acc env).onRaise (λx=>do (noteFrame x env);theTreesLotGoes x)) _ _ s)
 refine wpAny_noted ?_
 rw[compTurn_list]
 refine Ou (wpAny_standAt (Ou (Pl (turn n s hI) (λr s1 h1=>?_) λ_ _ z=>z.elim)))
 cases r with
 |none=>exact OZ h1
 |some v=>
  refine Ou (Pl h1 (λ_ s1' h1'=>?_) λ_ _ z=>z.elim)
  refine Ou (Pl h1' (λ_ s2 h2=>Ou (Pl h2 (λok s3 h3=>?_) λ_ _ z=>z.elim)) λ_ _ z=>z.elim)
  cases ok with
  |false=>exact OZ ⟨rfl,h3⟩
  |true=>exact Ou (Ou (Pl h3 (λx s4 h4=>Ou (Pl h4 (λ_ s5 h5=>OZ (OZ ⟨rfl,h5⟩)) λ_ _ z=>z.elim)) λ_ _ z=>z.elim))
def yZ (X:Cx)(ifs:List Expr)(t:TT):Prop:=
 ∀(pins:@B_) (s:Shared) (σ:St) (H:Hp) (Q:Bool->Hp->Prop),@At->t σ H Q->wpAny @Cl X.A (zK ifs X.env) (TP X pins σ Q) X.xe s
def Jr:TT:=λ_ H Q=>Q true H
def ql {X:Cx}:yZ X [] Jr:=λpins s σ H Q I h=>OZ ⟨H,I,h⟩
def vF {X:Cx}{c:Expr}{t:TT}(h:PT X c t):yZ X [c] t:=λpins s σ H Q I q=>wpAny_tests_one (h pins s σ H Q I q)
def yo (own:Nat)(ixs:@G_)(wi:TI)(g:TG)(tt:TT)(te:TE)(σ:St)(H:Hp)(Q:VK):Prop:=wi σ H λJ H1=>∀D,H1 D=none->∃W:Nat->Nat->St->Hp->Prop,(∃m,W 0 m (dv own ixs σ) (upd H1 D (.lst [])))/\∀i m σ' H',W i m σ' H'->
 (J.stop i H'/\(∃acc,H' D=some (.lst acc))/\Q (.ref D) H')\/
 (J.go i H'/\∃N:St->Hp->Prop,(∀σ2 H2,N σ2 H2->∃m',m' < m/\W (i + 1) m' σ2 H2)/\∀x H2,J.yld i H' x H2->g x σ' H2 λσ3 H3=>tt σ3 H3 λb H4=>
  @Is)
section
variable {X:Cx}{NB:@H_}{own:Nat}{ixs:@G_}{scope:Scope}{elt tg iter:Expr}{ifs:List Expr}{pos:Pos}{wi:TI}{g:TG}{tt:TT}{te:TE}
def uo (hc:X.calm=true)(S:bA X NB own ixs scope)
  (hg:∀C ex s3 H3 pn,PG @Fk tg g) (ht:∀C ex s3 H3 pn,yZ @Fk ifs tt) (he:∀C ex s3 H3 pn,PE @Fk elt te)
  {pins:@B_} {σ:St} {H1:Hp} {s2:Shared} {it:Addr} {fp:List Addr} {tn:Nat->Heap->Prop} {J:It} {Q:VK} (I2:Inv X pins σ H1 s2) (T:Turn X.prog X.w X.K tg J fp it tn) (st2:tn 0 s2.heap) (f2:∀b∈fp,g9 X pins H1 b)
  (hQ:∀D,H1 D=none->∃W:Nat->Nat->St->Hp->Prop,(∃m,W 0 m (dv own ixs σ) (upd H1 D (.lst [])))/\∀i m σ' H',W i m σ' H'->
   (J.stop i H'/\(∃acc,H' D=some (.lst acc))/\Q (.ref D) H')\/
   (J.go i H'/\∃N:St->Hp->Prop,(∀σ2 H2,N σ2 H2->∃m',m' < m/\W (i + 1) m' σ2 H2)/\∀x H2,J.yld i H' x H2->g x σ' H2 λσ3 H3=>tt σ3 H3 λb H4=>
    @Is))
  {E:@Db} {RR:Value->Addr->Result->Shared->Prop}
  (fin:∀D C H' s' m,Inv X pins σ H' s'->Q (.ref D) H'->s'.heap.Ns C m->H' C=none->C≠X.env.locals->(∀x c,X.env.cells.lookup x=some c->c≠C)->X.s₀.heap.objs.size<=C->(∀p∈X.pn ++ pins,p.1≠C)->RR (.ref D) C (.ok .next) s') :
  wpAny @Cl X.A (newList []) (λacc s3=>wpAny @Cl X.A (newFunctionEnv scope X.env.globals (gc X.env.cells scope.names []) [] X.env.qual none .none (some X.env)) (λcenv s4=>
   codeAny @Cl X.A (.compStart @IO 0 (.ref it) acc {cenv with scope:=relabel scope X.env}) (RR acc cenv.locals) s4) E s3) E s2:=by
 refine wpAny_newList ?_ (O7 _)
 have hD:H1 s2.heap.objs.size=none:=I2.hok.fresh (Ox _)
 obtain⟨W,⟨m0,w0⟩,turn⟩:=hQ s2.heap.objs.size hD
 generalize hs3:({s2 with heap:=s2.heap.push (seqObj "list" ([]:@GM).toArray 0)}:Shared)=s3
 have I3:Inv X pins σ (upd H1 s2.heap.objs.size (.lst [])) s3:=by
  rw[<-hs3]
  exact I2.lnew (ys:=[]) (its:=[]) (t':=s2.toks) .nil (O7 _)
 have k3:∀b o,s2.heap.get? b=some o->s3.heap.get? b=some o:=λb o e=>by rw[<-hs3];exact Ow _ e
 have sz3:s3.heap.objs.size=s2.heap.objs.size + 1:=by rw[<-hs3];exact P2 ..
 have ob2:∀b∈fp,∃o,s2.heap.get? b=some o:=λb hb=>let ⟨o,e,_⟩:=T.obj 0 _ st2 b hb;⟨o,e⟩
 have neD:∀b∈fp,b≠s2.heap.objs.size:=λb hb=>let ⟨o,e⟩:=ob2 b hb;OX (Oz e)
 have f3:∀b∈fp,g9 X pins (upd H1 s2.heap.objs.size (.lst [])) b:=λb hb=>by
  obtain⟨a1,a2⟩:=f2 b hb
  exact⟨by rw[aE (neD b hb)];exact a1,a2⟩
 have st3:tn 0 s3.heap:=T.keep _ _ _ st2 λb _ o e=>k3 b o e
 refine Ae λh4 hn4 k4 ok4=>?_
 have I4:Inv (eV X NB scope s3.heap.objs.size fp s3 (upd H1 s2.heap.objs.size (.lst [])) (X.pn ++ pins)) [] (dv own ixs σ) (upd H1 s2.heap.objs.size (.lst [])) {s3 with heap:=h4}:=
  tK S I3 f3 (λb hb=>let ⟨o,e⟩:=ob2 b hb;⟨o,k3 _ _ e⟩) hn4 k4 ok4
 have st4:tn 0 h4:=T.keep _ _ _ st3 λb _ o e=>k4 b o e
 generalize hB:eV X NB scope s3.heap.objs.size fp s3 (upd H1 s2.heap.objs.size (.lst [])) (X.pn ++ pins)=B at I4
 have hgB:PG B tg g:=by rw[<-hB];exact hg _ _ _ _ _
 have htB:yZ B ifs tt:=by rw[<-hB];exact ht _ _ _ _ _
 have heB:PE B elt te:=by rw[<-hB];exact he _ _ _ _ _
 have eP:B.prog=X.prog:=by rw[<-hB];rfl
 have eW:B.w=X.w:=by rw[<-hB];rfl
 have eK:B.K=X.K:=by rw[<-hB];rfl
 have eA:B.A=X.A:=by rw[<-hB];rfl
 have eC:B.calm=true:=by rw[<-hB];exact hc
 have eX:B.xe=λ_ _=>False:=by rw[<-hB];rfl
 have eE:B.env=compEnvC scope (BO X scope s3.heap.objs.size) s3.heap.objs.size X.env:=by rw[<-hB];rfl
 have ex:B.ex=fp:=by rw[<-hB];rfl
 have eL:B.env.locals=s3.heap.objs.size:=by rw[eE];rfl
 have stat:∀{H':Hp},(∀b∈fp,H' b=none)->∀b∈fp,g9 B [] H' b:=λ{H'} hn b hb=>by
  obtain⟨a1,a2,a3,a4,a5,a6⟩:=f3 b hb
  obtain⟨o,eo⟩:=ob2 b hb
  refine⟨hn b hb,?_,λz=>?_,.inl (by rw[ex];exact hb),λx c e z=>?_,λp hp z=>?_⟩
  ·rw[eL];exact OX (Oz (k3 _ _ eo))
  ·have hz:b∈fG X.stack:=by rw[<-hB] at z;exact z
   rcases OC.mp (I3.stkSub b hz) with q |q
   ·exact a2 q
   ·exact a3 q
  ·rw[eE] at e
   have e:(BO X scope s3.heap.objs.size).lookup x=some c:=e
   unfold BO at e
   rw[lU,QV] at e
   cases q:(cellsFrom (s3.heap.objs.size + 1) scope.names []).lookup x with
   |some c'=>
    rw[q] at e
    cases e
    have l1:=(pf (Pg q)).1
    rw[z] at l1
    exact OU _ (Qy l1 (Oz (k3 _ _ eo)))
   |none=>
    rw[q] at e
    have e:(gc X.env.cells scope.names []).lookup x=some c:=e
    rcases jZ e with⟨m1,m2⟩ |m1
    ·obtain⟨c',e'⟩:=I3.ok.has x (S.frees _ m1 rfl)
     rw[e'] at m2
     exact a5 x c' e' (by rw[<-z,m2];rfl)
    ·simp at m1
  ·have hp':p∈X.pn ++ pins:=by
    rw[<-hB] at hp
    rcases OR.mp hp with q |q
    ·exact q
    ·cases q
   exact a6 p hp' z
 have back:∀{σ':St} {H':Hp} {s':Shared},Inv B [] σ' H' s'->Inv X pins σ H' s':=λ{σ' H' s'} J'=>by
  have u:=J'.base
  have os:=J'.os
  have bare:=J'.bare
  have hok:=J'.hok
  subst hB
  exact I3.call' (ch:=fp) os u hok bare λb hb=>by
   obtain⟨a1,a2,a3,a4,a5,a6⟩:=f3 b hb
   exact⟨a4,a2,a5,a6⟩
 have loop:∀s5:Shared,s5={s3 with heap:=h4}->
   codeAny @Cl X.A (.compLoop @IO 0 (.ref it) (.ref s2.heap.objs.size) (compEnvC scope (BO X scope s3.heap.objs.size) s3.heap.objs.size X.env)) (RR (.ref s2.heap.objs.size) s3.heap.objs.size) s5:=by
  rintro s5 rfl
  refine tX (λn s'=>∃i σ' H',Inv B [] σ' H' s'/\tn i s'.heap/\(∀b∈fp,H' b=none)/\W i n σ' H') ?_ m0 ⟨0,_,_,I4,st4,λb hb=>(f3 b hb).1,w0⟩
  rintro n s6 ⟨i,σ6,H6,I6,st6,fr6,w6⟩
  rcases turn i n σ6 H6 w6 with⟨stop,⟨acc,hacc⟩,qn⟩ | ⟨go,N,hN,step⟩
  ·have:=T.done B eP eW eK eC i [] s6 σ6 H6 (λ_ _=>False) I6 (stat fr6) st6 stop
   rw[eA] at this
   refine cc this λr s7 ⟨hr,I7⟩=>?_
   subst hr
   obtain⟨m7,hn7,_⟩:=I7.loc
   rw[eL] at hn7
   have J7:=back I7
   refine fin _ _ H6 s7 m7 J7 qn hn7 (by rw[<-eL];exact I7.free) (λz=>?_) (λx c e z=>?_) ?_ λp hp z=>?_
   ·have:=I3.lt
    rw[<-z] at this
    exact OU _ this
   ·obtain⟨v,o,ho,_⟩:=I3.cell x c e
    exact absurd (Oz ho) (by rw[z];exact OU _)
   ·exact I3.sz
   ·have:=Oz (I3.pin p hp).1
    rw[z] at this
    exact OU _ this
  ·have hitem:=T.item B eP eW eK eC i [] s6 σ6 H6 (λ_ _=>False) I6 (stat fr6) st6 go
   rw[eA] at hitem
   refine cc hitem λr s7 ⟨u,hr,h7⟩=>?_
   subst hr
   refine cc h7 λ_ s8 ⟨x,H8,I8,r8,y8,st8,fr8⟩=>?_
   have I8':=I8.pinned (stat fr8) (T.obj _ _ st8)
   have ha:=hgB _ s8 σ6 H8 x u _ I8' r8 (step x H8 y8)
   rw[eP,eW,eA,eE,eX] at ha
   refine cc ha λ_ s9 ⟨σ9,H9,I9,q9⟩=>?_
   have hb:=htB _ s9 σ9 H9 _ I9 q9
   rw[eP,eW,eA,eE,eX] at hb
   refine cc hb λok s10 ⟨H10,I10,q10⟩=>?_
   have again:∀{σ7:St} {H7:Hp} {s7:Shared},Inv B ([] ++ pk fp s8.heap) σ7 H7 s7->N σ7 H7->∃m,m < n/\∃i σ' H',Inv B [] σ' H' s7/\tn i s7.heap/\(∀b∈fp,H' b=none)/\W i m σ' H':=λ{σ7 H7 s7} I7 n7=>by
    obtain⟨m',hm,w7⟩:=hN σ7 H7 n7
    refine⟨m',hm,i + 1,σ7,H7,I7.unpinned,T.keep _ _ _ st8 λb hb o e=>(I7.pin (b,o) (OS _ (OS _ (gj hb e)))).1,λb hb=>?_,w7⟩
    obtain⟨o,e,d⟩:=T.obj _ _ st8 b hb
    exact (I7.pin (b,o) (OS _ (OS _ (gj hb e)))).2.1
   cases ok with
   |false=>
    simp only[Pn,PZ] at q10 ⊢
    exact again I10 q10
   |true=>
    simp only[PL] at q10 ⊢
    have hv:=heB _ s10 σ9 H10 _ I10 q10
    rw[eP,eW,eA,eE,eX] at hv
    refine cc hv λy s11 ⟨v,H11,I11,r11,acc,hacc,hz,q11⟩=>?_
    have hap:=mz (X:=B) _ s11 σ9 H11 (.ref s2.heap.objs.size) [v] (.ref s2.heap.objs.size) [y] (λz H'=>z=.non/\N σ9 H') I11 rfl (.cons r11 .nil) ⟨_,acc,v,rfl,rfl,hacc,hz,rfl,q11⟩
    rw[eP,eW,eA,eX] at hap
    exact cc hap λ_ s12 ⟨_,H12,I12,_,_,q12⟩=>again I12 q12
 exact codeAny_compStart_list (loop _ rfl) (T.self X.A 0 _ _ _ st4 (loop _ rfl))
def wL (hc:X.calm=true)(S:bA X NB own ixs scope)(hi:PI X tg iter wi)
  (hg:∀C ex s3 H3 pn,PG @Fk tg g) (ht:∀C ex s3 H3 pn,yZ @Fk ifs tt) (he:∀C ex s3 H3 pn,PE @Fk elt te)
  (hs:∀x,foldedSetIterable iter X.env x=pure x:=by intro _;rfl) :
  PE X @IO (yo own ixs wi g tt te):=by
 intro pins s σ H Q I h
 rw[eval_ListComp]
 refine QW (use:=none) rfl hs (kU λy hy e=>I.ok.has _ (S.frees y hy e)) S.kind (λy hy e=>by rw[S.names y hy,e]) ?_
 refine cc (hi pins s σ H _ I h) λv s1 h1=>cc h1 λitv s2 h2=>?_
 obtain⟨it,fp,tn,J,H2,e,I2,T,st2,f2,q2⟩:=h2
 subst e
 refine uo hc S hg ht he I2 T st2 f2 q2 (RR:=λacc C=>compPost @Cl X.A X.xe none (EP X pins σ Q) acc C) λD C H' s' m J' q hn hC n1 n2 n3 n4=>?_
 refine⟨m,hn,λh'' sb=>⟨.ref D,H',?_,rfl,q⟩⟩
 exact J'.turned (t':=s'.toks) (it:=C) (λb o hb e=>sb.extBut b o hb e) hC n1 (.inr n3) n2 n4
def CC {i:Nat}{y:Str}{py spos:Pos}(hc:X.calm=true)(S:bA X NB own ixs scope)(hi:PI X tg iter wi)
  (hg:∀C ex s3 H3 pn,PG @Fk tg g) (ht:∀C ex s3 H3 pn,yZ @Fk ifs tt) (he:∀C ex s3 H3 pn,PE @Fk elt te)
  (hN:X.N.Nodup) (hy:X.N[i]? =some y) (hl:X.env.scope.names.lookup y=some .local)
  (hsw:swapsWith @IO (some (.Name y py)) spos.line X.env=pure true)
  (hs:∀x,foldedSetIterable iter X.env x=pure x:=by intro _;rfl) :
  PS X (.Assign [.Name y py] @IO spos) (λD σ H=>yo own ixs wi g tt te σ H λv H'=>D.nx (σ.set i (some v)) H'):=by
 intro pins s σ H D I h
 rw[exec_Assign_Name_used _ _ _ _ hsw]
 refine Ou (wpAny_standAt (Ou ?_))
 show wpAny _ X.A (comprehension @IO scope X.env _ (newList []) false (eval iter X.env) (some (assign (.Name y py) X.env)) >>= λ_=>pure ()) _ _ s
 refine Ou (Pl (QW (use:=some (assign (.Name y py) X.env)) (Q:=λ_ s'=>SP X pins D .next s') rfl hs (kU λy hy e=>I.ok.has _ (S.frees y hy e)) S.kind (λy hy e=>by rw[S.names y hy,e]) ?_)
  (λ_ s' hq=>OZ (OZ hq)) λ_ _ e=>e)
 refine cc (hi pins s σ H _ I h) λv s1 h1=>cc h1 λitv s2 h2=>?_
 obtain⟨it,fp,tn,J,H2,e,I2,T,st2,f2,q2⟩:=h2
 subst e
 refine uo hc S hg ht he I2 T st2 f2 q2 (Q:=λv H'=>D.nx (σ.set i (some v)) H') (RR:=λacc C=>compPost @Cl X.A X.xe (some (assign (.Name y py) X.env)) (λ_ s'=>SP X pins D .next s') acc C) λD' C H' s' m J' q hn hC n1 n2 n3 n4=>?_
 show wpAny _ X.A (assign (.Name y py) X.env (.ref D')) _ _ s'
 refine wpAny_assign_Name (tD J' hN hy (.inl hl) (v:=.ref D') rfl (λs'' I'' ⟨a,sb,ha⟩=>?_) (.inr hl))
 have hCa:C≠a:=by
  rcases ha with z |z
  ·rw[z];exact n1
  ·exact (n2 _ _ z).symm
 refine⟨m,hn.sameBut sb hCa,λh3 sb3=>⟨_,H',?_,q⟩⟩
 exact I''.turned (t':=s''.toks) (it:=C) (λb o hb e=>sb3.extBut b o hb e) hC n1 (.inr n3) n2 n4
end
section
variable {own:Nat}{ixs:@G_}{g:TG}{tt:TT}{te:TE}{σ:St}{H:Hp}{Q:VK}{K:Frag}{D a:Addr}{xs:List V}
abbrev de (g:TG)(tt:TT)(te:TE)(D:Addr)(x:V)(σ:St)(H:Hp)(N:St->Hp->Prop):Prop:=g x σ H λσ3 H3=>tt σ3 H3 λb H4=>
  @Is
def AL (Pv:Nat->St->Hp->Prop)(h0:Pv 0 (dv own ixs σ) (upd H D (.lst [])))(hl:∀i σ H,i<=xs.length->Pv i σ H->iY K H a xs)
  (hs:∀i x σ H,xs[i]? =some x->Pv i σ H->de g tt te D x σ H (Pv (i + 1))) (hd:∀σ H,Pv xs.length σ H->(∃acc,H D=some (.lst acc))/\Q (.ref D) H) :
  ∃W:Nat->Nat->St->Hp->Prop,(∃m,W 0 m (dv own ixs σ) (upd H D (.lst [])))/\∀i m σ' H',W i m σ' H'->
   ((Bv K a).stop i H'/\(∃acc,H' D=some (.lst acc))/\Q (.ref D) H')\/
   ((Bv K a).go i H'/\∃N:St->Hp->Prop,(∀σ2 H2,N σ2 H2->∃m',m' < m/\W (i + 1) m' σ2 H2)/\∀x H2,(Bv K a).yld i H' x H2->de g tt te D x σ' H2 N):=by
 refine⟨λi m σ H=>m=xs.length - i/\i<=xs.length/\Pv i σ H,⟨xs.length,by simp,O7 _,h0⟩,?_⟩
 rintro i m σ H ⟨rfl,hi,p⟩
 have q:=hl i σ H hi p
 by_cases hlt:i < xs.length
 ·refine .inr ⟨⟨xs,xs[i],q,by simp[hlt]⟩,Pv (i + 1),λσ' H' p'=>⟨xs.length - (i + 1),@AT,rfl,hlt,p'⟩,λx H' y=>?_⟩
  obtain⟨e,y⟩:=y
  subst e
  exact hs i x σ _ (y xs q) p
 ·have e:i=xs.length:=@AT
  subst e
  exact .inl ⟨⟨xs,q,Ox _⟩,hd σ H p⟩
def yY {lo:Int}{n:Nat}(Pv:Nat->St->Hp->Prop)(h0:Pv 0 (dv own ixs σ) (upd H D (.lst [])))
  (hs:∀i σ H,i < n->Pv i σ H->de g tt te D (.int (lo + i)) σ H (Pv (i + 1))) (hd:∀σ H,Pv n σ H->(∃acc,H D=some (.lst acc))/\Q (.ref D) H) :
  ∃W:Nat->Nat->St->Hp->Prop,(∃m,W 0 m (dv own ixs σ) (upd H D (.lst [])))/\∀i m σ' H',W i m σ' H'->
   ((Bm lo n).stop i H'/\(∃acc,H' D=some (.lst acc))/\Q (.ref D) H')\/
   ((Bm lo n).go i H'/\∃N:St->Hp->Prop,(∀σ2 H2,N σ2 H2->∃m',m' < m/\W (i + 1) m' σ2 H2)/\∀x H2,(Bm lo n).yld i H' x H2->de g tt te D x σ' H2 N):=by
 refine⟨λi m σ H=>m=n - i/\i<=n/\Pv i σ H,⟨n,by simp,O7 _,h0⟩,?_⟩
 rintro i m σ H ⟨rfl,hi,p⟩
 by_cases hlt:i < n
 ·refine .inr ⟨hlt,Pv (i + 1),λσ' H' p'=>⟨n - (i + 1),@AT,rfl,hlt,p'⟩,λx H' y=>?_⟩
  obtain⟨e,y⟩:=y
  subst e y
  exact hs i σ _ hlt p
 ·have e:i=n:=@AT
  subst e
  exact .inl ⟨Ox _,hd σ H p⟩
end
mutual
inductive Rep (K:Frag)(H:Hp):V->PyData->Prop
 |non:Rep K H .non .none
 |bl (b:Bool):Rep K H (.bl b) (.bool b)
 |int (i:Int):Rep K H (.int i) (.int i)
 |str (x:Str):Rep K H (.str x) (.str x)
 |tup {a:Addr} {xs:List V} {ds:List PyData}:hW K H a xs->ll K H xs ds->Rep K H (.ref a) (.tuple ds)
 |lst {a:Addr} {xs:List V} {ds:List PyData}:iY K H a xs->ll K H xs ds->Rep K H (.ref a) (.list ds)
inductive ll (K:Frag)(H:Hp):List V->List PyData->Prop
 |nil:ll K H [] []
 |cons {x:V} {xs:List V} {d:PyData} {ds:List PyData}:Rep K H x d->ll K H xs ds->ll K H (x :: xs) (d :: ds)
end
section
variable {X:Cx}{pins:@B_}{σ:St}{H H':Hp}{s:Shared}
mutual
theorem Rep.reads (I:@At):∀{x:V} {d:PyData} {u:Value},Rep X.K H x d->RelV x u->∃as,Reads s.heap u d as
 |_,_,_,.non,r=>by cases r;exact⟨_,.none⟩
 |_,_,_,.bl b,r=>by cases r;exact⟨_,.bool b⟩
 |_,_,_,.int i,r=>by obtain⟨t,rfl⟩:=r;exact⟨_,.int i t⟩
 |_,_,_,.str x,r=>by obtain⟨t,rfl⟩:=r;exact⟨_,.str x t⟩
 |_,_,_,.tup h hs,r=>by
  cases r
  obtain⟨its,rv,⟨o,ho,hc,n,hd⟩,_⟩:=I.tuple h
  obtain⟨as,q⟩:=ll.reads I hs rv
  exact⟨_,.tuple ho hc hd (by simpa using q)⟩
 |_,_,_,.lst h hs,r=>by
  cases r
  obtain⟨its,rv,pl,_⟩:=I.list h
  obtain⟨o,ho,hc,n,hd⟩:=pl.isList
  obtain⟨as,q⟩:=ll.reads I hs rv
  exact⟨_,.list ho hc hd (by simpa using q)⟩
theorem ll.reads (I:@At):∀{xs:List V} {ds:List PyData} {us:@GM},ll X.K H xs ds->Vals xs us->∃as,ReadsAll s.heap us ds as
 |_,_,_,.nil,r=>by cases r;exact⟨_,.nil⟩
 |_,_,_,.cons h hs,r=>by
  cases r with
  |cons r1 r2=>
   obtain⟨as,q⟩:=Rep.reads I h r1
   obtain⟨bs,q'⟩:=ll.reads I hs r2
   exact⟨_,.cons q q'⟩
end
def JA (K:Frag)(neg:Bool):R2:=λx y H Q=>∃d e,Rep K H x d/\Rep K H y e/\SeqAt.shaped d=true/\SeqAt.shaped e=true/\Q (.bl (if neg then !PyData.eqv d e else PyData.eqv d e)) H
def cW (hu:X.A.units + 64 < cLine):kW X (compareOp .Eq) (JA X.K false):=by
 intro pins s σ H x y v u Q I rx ry h
 obtain⟨d,e,h1,h2,s1,s2,q⟩:=h
 obtain⟨as,r1⟩:=h1.reads I rx
 obtain⟨bs,r2⟩:=h2.reads I ry
 exact SeqAt.compareEq_shaped r1 r2 s1 s2 hu ⟨.bl _,H,I,rfl,q⟩
def gq (hu:X.A.units + 64 < cLine):kW X (compareOp .NotEq) (JA X.K true):=by
 intro pins s σ H x y v u Q I rx ry h
 obtain⟨d,e,h1,h2,s1,s2,q⟩:=h
 obtain⟨as,r1⟩:=h1.reads I rx
 obtain⟨bs,r2⟩:=h2.reads I ry
 exact SeqAt.compareNe_shaped r1 r2 s1 s2 hu ⟨.bl _,H,I,rfl,q⟩
def HP (K:Frag)(neg:Bool):R2:=λx y H Q=>∃p xs d ds,y=.ref p/\(iY K H p xs\/hW K H p xs)/\ll K H xs ds/\Rep K H x d/\SeqAt.shaped d=true/\(∀e,e∈ds->SeqAt.shaped e=true)/\
 Q (.bl (if neg then !(ds.any λe=>PyData.eqv e d) else ds.any λe=>PyData.eqv e d)) H
theorem ll.at' {K:Frag}:∀{xs:List V} {ds:List PyData} {i:Nat} {x:V},ll K H xs ds->xs[i]? =some x->∃d,ds[i]? =some d/\Rep K H x d
 |_,_,_,_,.nil,e=>by simp at e
 |_,_,0,_,.cons r _,e=>by simp at e;subst e;exact⟨_,rfl,r⟩
 |_,_,i + 1,x,.cons _ t,e=>by
  obtain⟨u,h1,h2⟩:=ll.at' (i:=i) (x:=x) t (by simpa using e)
  exact⟨u,by simpa using h1,h2⟩
open Classical in
theorem nM (I:@At)(d:PyData):∀{xs:List V} {us:@GM} {ds:List PyData},Vals xs us->ll X.K H xs ds->(∀e,e∈ds->SeqAt.shaped e=true)->∃f:Value->Bool,us.any f=(ds.any λe=>PyData.eqv e d)/\∀u,u∈us->∃e as,e∈ds/\Reads s.heap u e as/\f u=PyData.eqv e d:=by
 intro xs us ds hv hr hs
 let f:Value->Bool:=λu=>if h:∃e as,SeqAt.shaped e=true/\Reads s.heap u e as then PyData.eqv (Classical.choose h) d else false
 have hf:∀{u:Value} {e:PyData} {as:List Addr},SeqAt.shaped e=true->Reads s.heap u e as->f u=PyData.eqv e d:=λ{u e as} h1 h2=>by
  have hx:∃e as,SeqAt.shaped e=true/\Reads s.heap u e as:=⟨e,as,h1,h2⟩
  show (if h:∃e as,SeqAt.shaped e=true/\Reads s.heap u e as then PyData.eqv (Classical.choose h) d else false)=_
  rw[dif_pos hx]
  obtain⟨bs,q1,q2⟩:=Classical.choose_spec hx
  rw[SeqAt.Reads.unique _ _ _ _ _ (P6 q1) q2 h2]
 refine⟨f,?_,?_⟩
 ·induction hv generalizing ds with
  |nil=>cases hr;rfl
  | @cons x u xs us r1 r2 ih=>
   cases hr with
   | @cons _ _ e es h1 h2=>
    obtain⟨as,q⟩:=h1.reads I r1
    rw[Qo,Qo,hf (hs e (OH ..)) q,ih h2 λz hz=>hs z (OF _ hz)]
 ·intro u hu
  obtain⟨i,hi,e0⟩:=Qt.mp hu
  have hi':i < xs.length:=by rw[hv.length];exact hi
  obtain⟨u',eu,ru⟩:=hv.get (Ot hi')
  rw[Ot hi,e0] at eu
  cases eu
  obtain⟨e,ee,re⟩:=ll.at' hr (Ot hi')
  obtain⟨as,q⟩:=re.reads I ru
  have hm:=OV ee
  exact⟨e,as,hm,q,hf (hs e hm) q⟩
def uX (hu:X.A.units + 100 < cLine):kW X (compareOp .In) (HP X.K false):=by
 intro pins s σ H x y v u Q I rx ry h
 obtain⟨p,xs,d,ds,rfl,hq,hs,hx,s1,s2,q⟩:=h
 cases ry
 obtain⟨bs,r2⟩:=hx.reads I rx
 have key:∀{e:PyData} {as:List Addr} {u:Value},SeqAt.shaped e=true->Reads s.heap u e as->SeqAt.EqAt X.A.in1 s u v (PyData.eqv e d):=λ{e as u} h1 h2=>by
  refine SeqAt.eqAt_reads _ _ _ _ _ _ _ _ h2 r2 (P6 h1) (P6 s1) ?_
  have:=SeqAt.depth_of_shaped h1
  show X.A.units + 1 + _ < _
  omega
 rcases hq with hq |hq
 ·obtain⟨its,r,pl,hz⟩:=I.list hq
  obtain⟨f,e1,e2⟩:=nM I d r hs s2
  refine SeqAt.in_listAt f pl.isList (λw hw=>?_) ⟨.bl _,H,I,rfl,?_⟩
  ·obtain⟨e,as,hm,rd,ef⟩:=e2 w (by simpa using hw)
   rw[ef];exact key (s2 e hm) rd
  ·rw[show its.toArray.any f=its.any f by simp,e1];exact q
 ·obtain⟨its,r,pl,hz⟩:=I.tuple hq
  obtain⟨f,e1,e2⟩:=nM I d r hs s2
  refine SeqAt.in_tupleAt f pl (λw hw=>?_) ⟨.bl _,H,I,rfl,?_⟩
  ·obtain⟨e,as,hm,rd,ef⟩:=e2 w (by simpa using hw)
   rw[ef];exact key (s2 e hm) rd
  ·rw[show its.toArray.any f=its.any f by simp,e1];exact q
inductive GI (K:Frag)(H:Hp):V->String->Prop
 |non:GI K H .non "NoneType"
 |bl (b:Bool):GI K H (.bl b) "bool"
 |int (i:Int):GI K H (.int i) "int"
 |str (x:Str):GI K H (.str x) "str"
 |tup {a:Addr} {xs:List V}:hW K H a xs->GI K H (.ref a) "tuple"
 |lst {a:Addr} {xs:List V}:iY K H a xs->GI K H (.ref a) "list"
 |dic {a:Addr} {kvs:List (Key×V)}:H a=some (.dK kvs)->GI K H (.ref a) "dict"
def Nr (K:Frag):List V->Hp->VK->Prop:=λxs H Q=>∃x T t b,xs= [x,.ty T]/\GI K H x t/\PySem.W.kitOne K (.type t) (.type T)=some b/\Q (.bl b) H
theorem Cb:fA X (.builtin "isinstance") (Nr X.K):=by
 intro pins s σ H xs us Q I r h
 obtain⟨x,T,t,b,rfl,ty,e,q⟩:=h
 obtain⟨u,c,rfl,rx,rc⟩:=vals2 r
 cases rc
 have fin:∀tk,EP X pins σ Q (.bool b) {s with toks:=tk}:=λtk=>⟨.bl b,H,I.tok tk,rfl,q⟩
 cases ty with
 |non=>exact jX I rx .non e fin
 |bl b=>exact jX I rx (.bl b) e fin
 |int i=>exact jX I rx (.int i) e fin
 |str z=>exact jX I rx (.str z) e fin
 |dic hk=>exact jX I rx (.dK hk) e fin
 |tup hq=>
  cases rx
  obtain⟨its,rv,⟨o,h1,h2,_⟩,_⟩:=I.tuple hq
  exact Pk PySem.W.kitx_tuple I.kIn ⟨o,h1,h2⟩ e (λz=>nomatch z) fin
 |lst hq=>
  cases rx
  obtain⟨its,rv,pl,_⟩:=I.list hq
  obtain⟨o,h1,h2,_⟩:=pl.isList
  exact Pk PySem.W.kitx_list I.kIn ⟨o,h1,h2⟩ e (λz=>nomatch z) fin
def v3 {A:Around}{its:@GM}{bs:List Bool}(hv:Vals (bs.map V.bl) its):TruthOf X.prog X.w A (λi v=>its[i]? =some v) (λi=>bs.getD i false):=λi v s Q E hi hq=>by
 have hl:=hv.length
 have hi2:i < bs.length:=by
  have:=(Oy.mp hi).1
  rw[<-hl] at this;simpa using this
 obtain⟨u,eu,ru⟩:=hv.get (i:=i) (x:=.bl bs[i]) (by simp[hi2])
 rw[hi] at eu;cases eu
 cases ru
 refine Px ?_
 have:bs.getD i false=bs[i]:=by simp[hi2]
 rw[<-this];exact hq
theorem range_all (bs:List Bool):(List.range bs.length).all (λi=>bs.getD i false)=bs.all id:=by
 induction bs with
 |nil=>rfl
 |cons b bs ih=>
  rw[O5,List.range_succ_eq_map,List.all_cons,List.all_map,List.all_cons,<-ih]
  rfl
theorem range_any (bs:List Bool):(List.range bs.length).any (λi=>bs.getD i false)=bs.any id:=by
 induction bs with
 |nil=>rfl
 |cons b bs ih=>
  rw[O5,List.range_succ_eq_map,Qo,List.any_map,Qo,<-ih]
  rfl
def yz (K:Frag)(f:List Bool->Bool):List V->Hp->VK->Prop:=λxs H Q=>∃a bs,xs= [.ref a]/\iY K H a (bs.map V.bl)/\Q (.bl (f bs)) H
def qI (hc:X.calm=true){a:Addr}{bs:List Bool}{Q:VK}(I:@At)(hq:iY X.K H a (bs.map V.bl)){f:List Bool->Bool}{g:(Nat->Bool)->Nat->Bool}(hfg:g (λi=>bs.getD i false) bs.length=f bs)(q:Q (.bl (f bs)) H) :
  wpAny @Cl X.A.in1 (pyIter (.ref a)) (λit s2=>∃Ii fp wr n P St tr,it=.ref Ii/\Walks X.prog X.w X.A.in1 Ii fp wr n P St/\St 0 s2.heap/\TruthOf X.prog X.w X.A.in1 P tr/\
   ∀h' tk,(∀b o,b∉wr->s2.heap.get? b=some o->h'.get? b=some o)->EP X pins σ Q (.bool (g tr n)) {s2 with heap:=h',toks:=tk}) X.xe s:=by
 obtain⟨its,rv,pl,hz⟩:=I.list hq
 have hh:X.A.in1.handled=none:=I.ok.hd hc
 have hlen:its.length=bs.length:=by rw[<-rv.length];simp
 obtain⟨o,ho,_⟩:=id pl.isList
 refine QF pl.isList ?_
 have W:=Walks.list (prog:=X.prog) (w:=X.w) hh s.heap.objs.size a (OX (Oz ho)) its.toArray
 refine⟨s.heap.objs.size,_,_,_,_,_,λi=>bs.getD i false,rfl,W,⟨⟨_,OQ _ rfl,rfl,rfl⟩,pl.isList.push _⟩,?_,λh' tk k=>?_⟩
 ·have:=v3 (X:=X) (A:=X.A.in1) rv
  simpa using this
 ·have e:its.toArray.size=bs.length:=by simpa using hlen
  rw[e,hfg]
  have I1:Inv X pins σ H {s with heap:=s.heap.push {cls:=.type "list_iterator",data:=.fields #[.ref a,.int 0 0]}}:=I.kept (t':=s.toks) λb o e=>Ow _ e
  have hf:H s.heap.objs.size=none:=I.hok.fresh (Ox _)
  have fp:=I.fpOk (H':=H) (b:=s.heap.objs.size) (Ox _) hf
  refine⟨.bl _,H,I1.turned (it:=s.heap.objs.size) (t':=tk) (λb o hb e=>k b o (by simpa using hb) e) hf fp.2.1 fp.2.2.2.1 fp.2.2.2.2.1 fp.2.2.2.2.2,rfl,q⟩
def lO (hc:X.calm=true):fA X (.builtin "all") (yz X.K λbs=>bs.all id):=by
 intro pins s σ H xs us Q I r h
 obtain⟨a,bs,rfl,hq,q⟩:=h
 obtain⟨u,rfl,rx⟩:=vals1 r
 cases rx
 exact call_all_walk (qI hc I hq (f:=λbs=>bs.all id) (g:=λtr n=>(List.range n).all tr) (range_all bs) q)
def wd (hc:X.calm=true):fA X (.builtin "any") (yz X.K λbs=>bs.any id):=by
 intro pins s σ H xs us Q I r h
 obtain⟨a,bs,rfl,hq,q⟩:=h
 obtain⟨u,rfl,rx⟩:=vals1 r
 cases rx
 exact call_any_walk (qI hc I hq (f:=λbs=>bs.any id) (g:=λtr n=>(List.range n).any tr) (range_any bs) q)
def B7:fA X (.type "range") (λxs H Q=>∃n:Int,xs= [.int n]/\∀p,H p=none->Q (.ref p) (upd H p (.iE 0 n))):=by
 intro pins s σ H xs us Q I r h
 obtain⟨n,rfl,q⟩:=h
 obtain⟨u,rfl,rx⟩:=vals1 r
 obtain⟨t,rfl⟩:=rx
 refine call_range_1 ⟨.ref s.heap.objs.size,upd H s.heap.objs.size (.iE 0 n),?_,rfl,q _ (I.hok.fresh (Ox _))⟩
 exact I.laid (λb o e=>Ow _ e) (Ox _) ⟨_,_,_,OQ _ rfl⟩
def sR (hc:X.calm=true):fA X (.type "list") (λxs H Q=>∃p n,xs= [.ref p]/\H p=some (.iE 0 n)/\0<=n/\n<=1000/\∀l,H l=none->Q (.ref l) (upd H l (.lst ((List.range n.toNat).map λ(i:Nat)=>V.int (i:Int))))):=by
 intro pins s σ H xs us Q I r h
 obtain⟨p,n,rfl,hp,h0,h1,q⟩:=h
 obtain⟨u,rfl,rx⟩:=vals1 r
 cases rx
 obtain⟨t,u,v,hr⟩:∃t u v,s.heap.get? p=some {cls:=.type "range",data:=.fields #[.int 0 t,.int n u,.int 1 v]}:=I.hok p _ hp
 have hsz:Builtin.Range.rangeSize 0 n 1=(n.toNat:Int):=by rw[rangeSize_one];split <;> omega
 refine call_list_range (I.ok.hd hc) hr (small_one (@AT) (@AT) (@AT) (@AT)) hsz (@AT) λh' tk acc c k hS hacc=>?_
 have hv:Vals ((List.range n.toNat).map λ(i:Nat)=>V.int (i:Int)) acc.toList:=by
  have key:∀(m:Nat) (us:@GM) (j:Nat),us.length=m->(∀(i:Nat) (v:Value),us[i]? =some v->∃t,v=Value.int ((j + i:Nat):Int) t)->Vals ((List.range' j m).map λ(i:Nat)=>V.int (i:Int)) us:=by
   intro m
   induction m with
   |zero=>intro us j hl _;cases us with
    |nil=>exact .nil
    |cons a b=>simp at hl
   |succ m ih=>
    intro us j hl hh
    cases us with
    |nil=>simp at hl
    |cons u us=>
     rw[List.range'_succ,PM]
     refine .cons (by have:=hh 0 u rfl;simp at this;exact this) (ih us (j + 1) (by simpa using hl) λi v hi=>?_)
     obtain⟨t,e⟩:=hh (i + 1) v (by simpa using hi)
     exact⟨t,by rw[e];congr 2;omega⟩
  have:=key n.toNat acc.toList 0 (by simpa using hacc.1) λi v hi=>by
   obtain⟨t,e⟩:=hacc.2 i v (by simpa using hi)
   exact⟨t,by rw[e];simp⟩
  rw[List.range_eq_range'];exact this
 refine⟨.ref s.heap.objs.size,_,I.laid (t':=tk) k (Ox _) (show cw X.prog X.w _ h' _ (.lst _) from⟨by simp;rw[O4];omega,acc.toList,c,hv,by simpa using hS⟩),rfl,q _ (I.hok.fresh (Ox _))⟩
end
def Rc (h:Heap)(e:Addr)(cls:Value)(T:Addr)(fl:Value):Prop:=∃oe vs oT ts,h.get? e=some oe/\oe.cls=cls/\oe.dict=none/\oe.data=.fields vs/\vs[1]? =some (.ref T)/\vs[2]? =some .none/\T≠e/\h.get? T=some oT/\oT.data=.fields ts/\ts[3]? =some fl
abbrev Keeps (F:List Addr)(ch:List Addr)(h h':Heap):Prop:=∀b o,h.get? b=some o->b∉F->b∉ch->h'.get? b=some o
abbrev Slots (F:List Addr)(h h':Heap):Prop:=∀b o,h.get? b=some o->b∈F->∃sl,h'.get? b=some {o with slots:=sl}
section
variable {M:Model}{A:Around}{E:@Db}{s:Shared}{base:Heap}{env:Env}{outer:List Env}{L e:Addr}{cls:Value}{Q:Unit->Shared->Prop}
def DR {oe:Obj}{vs:Array Value}{head:Value}{hadNext:Bool}(hfr:A.frames=some (env :: outer))(hl:s.heap.FunFrames base (env :: outer))(hf:env.frame=some L)(he:s.heap.get? e=some oe)(hc:oe.cls=cls)(hdd:oe.dict=none)(hd:oe.data=.fields vs)(hsz:1 < vs.size)(h2:vs[2]? =some .none)
  (h:∀h' T,Keeps (fG (env :: outer)) [e] s.heap h'->Slots (fG (env :: outer)) s.heap h'->s.heap.get? T=none->Rc h' e cls T (rawInt L)->Q () {s with heap:=h'}) :
  wpAny M A (do let a <-frameOf env;let pl <-entryPlaceOf L hadNext;let b <-EntryCells.newEntry head a .none (rawInt L) .none pl;setField (.ref e) 1 b) Q E s:=by
 have eF:e∉fG (env :: outer):=λz=>by
  obtain⟨_,o,q,n⟩:=hl.mem z
  rw[he] at q;cases q;exact n _ hd
 refine Ou (wpAny_frameOf_fun hfr hl hf λh1 s1=>?_)
 refine Ou (wpAny_entryPlaceOf λpl hpl=>?_)
 unfold EntryCells.newEntry newFields
 refine Ou (wpAny_newObj_type ?_ (hpl.sizeOk5 _ _ _ _ _))
 have e1:h1.get? e=some oe:=(s1.2.1 e eF).trans he
 have e2:=Ow (h:=h1) {cls:=.type "traceback",dict:=none,data:=.fields ([head,.ref L,.none,rawInt L,.none] ++ (if pl.isEmpty then List.replicate 6 Value.none else pl)).toArray} e1
 have tn:h1.objs.size≠e:=Nat.ne_of_gt (Oz e1)
 refine wpAny_setField e2 hd hsz (h _ h1.objs.size (λb o q hb hn=>?_) (λb o q hb=>?_) ?_ ?_)
 ·have hbe:b≠e:=by simpa using hn
  have q1:h1.get? b=some o:=(s1.2.1 b hb).trans q
  rw[Py _ _ (Ne.symm hbe)]
  exact Ow _ q1
 ·obtain⟨sl,q1⟩:=s1.2.2 b o q
  have hbe:b≠e:=λz=>eF (z▸hb)
  refine⟨sl,?_⟩
  rw[Py _ _ (Ne.symm hbe)]
  exact Ow _ q1
 ·cases q:s.heap.get? h1.objs.size with
  |none=>rfl
  |some o=>obtain⟨sl,q1⟩:=s1.2.2 _ o q;exact absurd (Oz q1) (OU _)
 ·have d3:=Obj.data_mapFields hd (·.setIfInBounds 1 (Value.ref h1.objs.size))
  have e3:=QH (Obj.mapFields (·.setIfInBounds 1 (Value.ref h1.objs.size))) e2 (Obj.isFreed_of_fields d3)
  refine⟨_,_,_,_,e3,(Obj.cls_mapFields _ _).trans hc,?_,d3,by simp[hsz],by rw[Array.getElem?_setIfInBounds_ne (@AT)];exact h2,tn,(Py _ _ (Ne.symm tn)).trans (OQ h1 rfl),rfl,?_⟩
  ·unfold Obj.mapFields
   split <;> exact hdd
  ·rcases hpl with rfl | ⟨_,_,_,_,_,_,_,rfl⟩ <;> simp
def zh {oe:Obj}{vs:Array Value}(hfr:A.frames=some (env :: outer))(hl:s.heap.FunFrames base (env :: outer))(hf:env.frame=some L)(he:s.heap.get? e=some oe)(hc:oe.cls=cls)(hdd:oe.dict=none)(hd:oe.data=.fields vs)(h1:vs[1]? =some .none)(h2:vs[2]? =some .none)
  (h:∀h' T,Keeps (fG (env :: outer)) [e] s.heap h'->Slots (fG (env :: outer)) s.heap h'->s.heap.get? T=none->Rc h' e cls T (rawInt L)->Q () {s with heap:=h'}):wpAny M A (noteFrame (.ref e) env) Q E s:=by
 unfold noteFrame
 simp only[hf]
 refine Ou (Qv he hd h1 ?_)
 rw[OA @Go]
 exact DR hfr hl hf he hc hdd hd (Qp.mp h1).1 h2 h
def uq {T0:Addr}(hfr:A.frames=some (env :: outer))(hl:s.heap.FunFrames base (env :: outer))(hf:env.frame=some L)(r:Rc s.heap e cls T0 .none)
  (h:∀h' T,Keeps (fG (env :: outer)) [e,T0] s.heap h'->Slots (fG (env :: outer)) s.heap h'->(s.heap.get? T=none\/T=T0)->Rc h' e cls T (rawInt L)->Q () {s with heap:=h'}):wpAny M A (noteFrame (.ref e) env) Q E s:=by
 obtain⟨oe,vs,oT,ts,he,hc,hdd,hd,h1,h2,hTe,hT,hdT,h3⟩:=r
 have tF:T0∉fG (env :: outer):=λz=>by
  obtain⟨_,o,q,n⟩:=hl.mem z
  rw[hT] at q;cases q;exact n _ hdT
 unfold noteFrame
 simp only[hf]
 refine Ou (Qv he hd h1 ?_)
 rw[Ov (show (Value.ref T0 != Value.none)=true from by simp)]
 refine Ou (Qv hT hdT h3 ?_)
 rw[OA (show ¬((Value.none == rawInt L)=true) from by simp[rawInt])]
 refine Ou (wpAny_setField hT hdT (Qp.mp h3).1 ?_)
 have oth:∀b,b≠T0->(s.heap.update T0 (Obj.mapFields (·.setIfInBounds 3 Value.none))).get? b=s.heap.get? b:=λb hb=>Py _ _ (Ne.symm hb)
 have nf:∀b o,s.heap.get? b=some o->(∀ws,o.data≠.fields ws)->b≠T0:=λb o q n z=>by
  rw[z,hT] at q;cases q;exact n _ hdT
 refine DR (base:=base) hfr (hl.of_keeps λb o q n=>⟨o,(oth b (nf b o q n)).trans q,rfl⟩) hf ((oth e (Ne.symm hTe)).trans he) hc hdd hd (Qp.mp h1).1 h2 λh' T kp sl tn rc=>?_
 refine h h' T (λb o q hb hn=>?_) (λb o q hb=>?_) ?_ rc
 ·simp only[OC,PB,Qz,not_or] at hn
  exact kp b o ((oth b hn.2).trans q) hb (by simp[hn.1])
 ·exact sl b o ((oth b λz=>tF (z▸hb)).trans q) hb
 ·by_cases z:T=T0
  ·exact .inr z
  ·exact .inl ((oth T z).symm.trans tn)
def qj {T:Addr}{fl:Value}(r:Rc s.heap e cls T fl)(h:∀h',Keeps [] [T] s.heap h'->Rc h' e cls T .none->Q () {s with heap:=h'}):wpAny M A (setFlight (.ref e) none) Q E s:=by
 obtain⟨oe,vs,oT,ts,he,hc,hdd,hd,h1,h2,hTe,hT,hdT,h3⟩:=r
 have sz:3 < ts.size:=(Qp.mp h3).1
 unfold setFlight
 refine Ou (Qv he hd h1 ?_)
 rw[Ov (show (Value.ref T != Value.none)=true from by simp)]
 refine wpAny_setField hT hdT sz (h _ (λb o q _ hn=>?_) ?_)
 ·have hb:b≠T:=by simpa using hn
  exact (Py _ _ (Ne.symm hb)).trans q
 ·have d3:=Obj.data_mapFields hdT (·.setIfInBounds 3 ((none:@Ix).elim Value.none λf=>rawInt f))
  exact⟨oe,vs,_,_,(Py _ _ hTe).trans he,hc,hdd,hd,h1,h2,hTe,QH _ hT (Obj.isFreed_of_fields d3),d3,by simp[sz]⟩
end
section
variable {P:Program}{w:World}
theorem cw.there {H:Hp}{h:Heap}{a:Addr}{o:HO}(x:cw P w H h a o):∃u,h.get? a=some u:=by
 cases o with
 |lst xs=>obtain⟨_,_,_,_,e⟩:=x;exact⟨_,e⟩
 |tup xs=>obtain⟨_,_,_,u,e,_⟩:=x;exact⟨u,e⟩
 |dK kvs=>obtain⟨_,_,_,_,o,_,_,e,_⟩:=x;exact⟨_,e⟩
 |dT kvs=>obtain⟨_,_,_,_,o,_,_,e,_⟩:=x;exact⟨_,e⟩
 |set S n=>obtain⟨o,_,_,_,e,_⟩:=x;exact⟨_,e⟩
 |ins C dx fs=>obtain⟨_,_,_,e,_⟩:=x;exact⟨_,e⟩
 |own y=>obtain⟨_,e⟩:=x;exact⟨_,e⟩
 |xd fs=>obtain⟨_,⟨_,_,_,e,_⟩,_⟩:=x;exact⟨_,e⟩
 |iE lo hi=>obtain⟨_,_,_,e⟩:=x;exact⟨_,e⟩
 |aY ob u=>obtain⟨e,_⟩:=x;exact⟨_,e⟩
 |tbl ps=>exact⟨_,show h.get? a=some _ from x⟩
 |met f y=>exact⟨_,show h.get? a=some _ from x⟩
 |ext φ=>obtain⟨_,⟨_,e⟩,_⟩:=x;exact⟨_,e⟩
end
structure Lies (h₀:Heap)(H:Hp)(h:Heap)(e:Addr)(cls:Value):Prop where
 free:H e=none
 new:h₀.get? e=none
 ob:∃T,Rc h e cls T .none/\H T=none/\h₀.get? T=none
def lg (P:Program)(w:World):vB:=λouter H s E e s'=>∃ea cls H',e=.ref ea/\s'.os=s.os/\AllBare s'.gens/\Un (fG outer) [] H H' s.heap s'.heap/\lq P w H' s'.heap/\Lies s.heap H' s'.heap ea cls/\E cls none H'
section
variable {P:Program}{w:World}{M:Model}{A:Around}{E':@Db}{s:Shared}{env:Env}{outer:List Env}{L e:Addr}{cls:Value}{base h₀:Heap}{H:Hp}{Q:Unit->Shared->Prop}
def lN {h h':Heap}(hok:lq P w H h)(k:∀b o,h.get? b=some o->(∃u,H b=some u)->h'.get? b=some o):lq P w H h':=λa o ha=>
 (hok a o ha).stay (λb u hb q=>k b u q (hb.elim (λz=>⟨o,by rw[z];exact ha⟩) λz=>⟨_,z⟩)) (λ_ q=>q) λ_ _ q=>q
def Ca (hfr:A.frames=some (env :: outer))(hf:env.frame=some L)(hfn:s.heap.FunFrames base (env :: outer))(hok:lq P w H s.heap)(hff:∀b∈fG (env :: outer),H b=none)(Ly:Lies h₀ H s.heap e cls)(hex:∀b o,h₀.get? b=some o->∃o',s.heap.get? b=some o')
  (hQ:∀h',(∀b o,s.heap.get? b=some o->b∉fG (env :: outer)->((∃o0,h₀.get? b=some o0)\/∃u,H b=some u)->h'.get? b=some o)->(∀b o,s.heap.get? b=some o->b∈fG (env :: outer)->∃sl,h'.get? b=some {o with slots:=sl})->Lies h₀ H h' e cls->lq P w H h'->Q () {s with heap:=h'}) :
  wpAny M A (leaving env (.ref e)) Q E' s:=by
 obtain⟨fr,nw,T0,rc,hHT,hnT⟩:=Ly
 obtain⟨oe,vs,oT,ts,he,hc,hdd,hd,h1,h2,hTe,hT,hdT,h3⟩:=id rc
 have tF:T0∉fG (env :: outer):=λz=>by
  obtain⟨_,o,q,n⟩:=hfn.mem z
  rw[hT] at q;cases q;exact n _ hdT
 unfold leaving
 refine Ou (uq hfr hfn hf rc λh4 T kp sl tn rc4=>qj rc4 λh5 kp5 rc5=>?_)
 have nT:∀b o,s.heap.get? b=some o->b≠T0->b≠T:=λb o q n z=>by
  rcases tn with tn |tn
  ·rw[z,tn] at q;cases q
  ·exact n (z.trans tn)
 have kept:∀b o,s.heap.get? b=some o->b∉fG (env :: outer)->((∃o0,h₀.get? b=some o0)\/∃u,H b=some u)->h5.get? b=some o:=λb o q hb hor=>by
  have be:b≠e:=λz=>by subst z;rcases hor with⟨_,z⟩ | ⟨_,z⟩ <;> simp_all
  have bT:b≠T0:=λz=>by subst z;rcases hor with⟨_,z⟩ | ⟨_,z⟩ <;> simp_all
  exact kp5 b o (kp b o q hb (by simp[be,bT])) @IN (by simp[nT b o q bT])
 have slot:∀b o,s.heap.get? b=some o->b∈fG (env :: outer)->∃sl,h5.get? b=some {o with slots:=sl}:=λb o q hb=>by
  obtain⟨x,q4⟩:=sl b o q hb
  exact⟨x,kp5 b _ q4 @IN (by simp[nT b o q λz=>tF (z▸hb)])⟩
 have fresh:H T=none/\h₀.get? T=none:=by
  rcases tn with tn |tn
  ·refine⟨?_,?_⟩
   ·cases q:H T with
    |none=>rfl
    |some u=>obtain⟨o,qo⟩:=(hok T u q).there;rw[tn] at qo;cases qo
   ·cases q:h₀.get? T with
    |none=>rfl
    |some u=>obtain⟨o,qo⟩:=hex T u q;rw[tn] at qo;cases qo
  ·rw[tn];exact⟨hHT,hnT⟩
 refine hQ h5 kept slot ⟨fr,nw,T,rc5,fresh.1,fresh.2⟩ (lN hok λb o q hu=>kept b o q (λz=>?_) (.inr hu))
 obtain⟨u,hu⟩:=hu
 rw[hff b z] at hu;cases hu
def ze {h:Heap}{args:@GM}(hfr:A.frames=some (env :: outer))(hf:env.frame=some L)(hfn:h.FunFrames base (env :: outer))(hok:lq P w H h)(hff:∀b∈fG (env :: outer),H b=none)(hex:∀b o,h₀.get? b=some o->∃o',h.get? b=some o')(hx:Heap.MadeExcOf h s.heap e cls args)
  (hQ:∀h',(∀b o,h.get? b=some o->b∉fG (env :: outer)->h'.get? b=some o)->(∀b o,h.get? b=some o->b∈fG (env :: outer)->∃sl,h'.get? b=some {o with slots:=sl})->Lies h₀ H h' e cls->lq P w H h'->Q () {s with heap:=h'}) :
  wpAny M A (leaving env (.ref e)) Q E' s:=by
 obtain⟨t,he,_,_⟩:=hx.there
 unfold leaving
 refine Ou (zh (cls:=cls) hfr (hfn.of_keeps λb o q _=>⟨o,hx.keeps b o q,rfl⟩) hf he rfl rfl rfl rfl rfl λh4 T kp sl tn rc4=>qj rc4 λh5 kp5 rc5=>?_)
 have ne:∀b o,h.get? b=some o->b≠e:=λb o q z=>by rw[z,hx.new] at q;cases q
 have nT:∀b o,h.get? b=some o->b≠T:=λb o q z=>by
  have:=hx.keeps b o q
  rw[z,tn] at this;cases this
 have kept:∀b o,h.get? b=some o->b∉fG (env :: outer)->h5.get? b=some o:=λb o q hb=>kp5 b o (kp b o (hx.keeps b o q) hb (by simp[ne b o q])) @IN (by simp[nT b o q])
 have slot:∀b o,h.get? b=some o->b∈fG (env :: outer)->∃sl,h5.get? b=some {o with slots:=sl}:=λb o q hb=>by
  obtain⟨x,q4⟩:=sl b o (hx.keeps b o q) hb
  exact⟨x,kp5 b _ q4 @IN (by simp[nT b o q])⟩
 have fresh:∀{b:Addr},h.get? b=none->H b=none/\h₀.get? b=none:=λ{b} hb=>by
  refine⟨?_,?_⟩
  ·cases q:H b with
   |none=>rfl
   |some u=>obtain⟨o,qo⟩:=(hok b u q).there;rw[hb] at qo;cases qo
  ·cases q:h₀.get? b with
   |none=>rfl
   |some u=>obtain⟨o,qo⟩:=hex b u q;rw[hb] at qo;cases qo
 have no:h.get? T=none:=by
  cases q:h.get? T with
  |none=>rfl
  |some o=>exact absurd rfl (nT T o q)
 obtain⟨f1,f2⟩:=fresh hx.new
 obtain⟨g1,g2⟩:=fresh no
 refine hQ h5 kept slot ⟨f1,f2,T,rc5,g1,g2⟩ (lN hok λb o q hu=>kept b o q λz=>?_)
 obtain⟨u,hu⟩:=hu
 rw[hff b z] at hu;cases hu
end
section
variable {P:Program}{w:World}{K:Frag}{mg:@FM}{base:Heap}{N:@H_}{qual:Str}{scope:Scope}{f:Addr}{cd:Value}{A:Around}{outer:List Env}{s0:Shared}{H0:Hp}{E:XK}
def aV:Passes (lg P w) (j9 (lg P w) P w K mg base N qual scope f cd A outer s0 H0 E) E:=by
 intro pins σ H s e s' I hcx
 obtain⟨ea,cls,H',rfl,os,bare,un,hok,Ly,q⟩:=hcx
 have I':=I.call' os un hok bare (λb hb=>absurd hb @IN)
 have old:∀{b:Addr},s.heap.get? b=none->s0.heap.get? b=none:=λ{b} hb=>by
  cases z:s0.heap.get? b with
  |none=>rfl
  |some o=>obtain⟨o',z'⟩:=I.base.there b o z (show b∉([]:List Addr) by simp);rw[hb] at z';cases z'
 have Ly0:Lies s0.heap H' s'.heap ea cls:=by
  obtain⟨fr,nw,T,rc,hHT,hnT⟩:=Ly
  exact⟨fr,old nw,T,rc,hHT,old hnT⟩
 have above:s0.heap.objs.size<=(@Fr).locals:=I.ok.above
 refine Ca (base:=base) (h₀:=s0.heap) I'.ok.frames rfl I'.stack I'.hok I'.stkFree Ly0 (λb o z=>I'.base.there b o z (show b∉([]:List Addr) by simp)) λh' kept slot Ly' hok'=>?_
 have nL:∀{b:Addr} {o:Obj},s0.heap.get? b=some o->b∉fG outer->b∉fG (@Fr :: outer):=λ{b o} z hb hm=>by
  rcases OC.mp (I'.stkSub b hm) with e |e
  ·have:=Oz z
   rw[e] at this
   exact absurd (OO this above) (OU _)
  ·exact hb e
 have inn:∀{b:Addr},b∈fG outer->b∈fG (@Fr :: outer):=λ{b} hb=>by
  obtain⟨en,h1,h2⟩:=Qk.mp hb
  exact Qk.mpr ⟨en,OF _ h1,h2⟩
 refine⟨ea,cls,H',rfl,os.trans I.os,bare,⟨λb o z n hb _=>?_,λb o z n hb _=>?_,λb o z n _=>I'.base.free b o z n (show b∉([]:List Addr) by simp),λb o z _=>?_,I'.base.tups,I'.base.frzs,I'.base.tbls⟩,hok',Ly',q⟩
 ·exact kept b o (I'.base.keep b o z n hb (show b∉([]:List Addr) by simp)) (nL z hb) (.inl ⟨o,z⟩)
 ·obtain⟨sl,z1⟩:=I'.base.slot b o z n hb (show b∉([]:List Addr) by simp)
  obtain⟨sl2,z2⟩:=slot b _ z1 (inn hb)
  exact⟨sl2,z2⟩
 ·obtain⟨o',z1⟩:=I'.base.there b o z (show b∉([]:List Addr) by simp)
  by_cases hb:b∈fG (@Fr :: outer)
  ·obtain⟨sl,z2⟩:=slot b o' z1 hb
   exact⟨_,z2⟩
  ·exact⟨o',kept b o' z1 hb (.inl ⟨o,z⟩)⟩
def IY (C:Addr)(E:XK)(t:TA):TS:=λ_ σ H=>t σ H λvs H1=>vs.length<=sizeLine/\E (.ref C) none H1
def Cr {x:Str}{C:Addr}{np cpos pos:Pos}{e0:Expr}{es:List Expr}{t:TA}{Bn newId initId:String}{bmB:@GM}(FB:ExcBaseFacts Bn newId initId bmB)(hbb:bmB.contains (.type "BaseException")=true)(q:PySem.W.excIn K C bmB newId=true)
  (hg:Gl (j9 (lg P w) P w K mg base N qual scope f cd A outer s0 H0 E) x) (hm:mg x=some (.ref C)) (ha:PA (j9 (lg P w) P w K mg base N qual scope f cd A outer s0 H0 E) (e0 :: es) t)
  (he:starEach (e0 :: es) (@Fr)=(false,eval e0 (@Fr)) :: starEach es (@Fr):=by rfl)
  (hpl:(backTo cpos (starEach es (@Fr))).any (·.1)=false:=by rfl) (hdb:@FS:=by decide) :
  PS (j9 (lg P w) P w K mg base N qual scope f cd A outer s0 H0 E) (.Raise (some (.Call (.Name x np) (e0 :: es) [] cpos)) none pos) (IY C E t):=by
 intro pins s σ H D I h
 have own:∀{hh:Heap},K.In hh->∃bm Nn nm qn bs hdct sn sub ab col dd k0 k1 k2 k3 k5 mN,hh.get? C=some (excClassObj nm qn C Nn bs bm hdct sn sub ab col dd k0 k1 k2 k3 k5 newId)/\hh.Ns Nn mN/\mN "__init__"=none/\OwnTail hh bmB bm:=λ{hh} X=>by
  have q:=q
  unfold PySem.W.excIn at q
  split at q
  ·rename_i dd cdd sl ho
   split at q
   ·rename_i C' bm k0 k1 k2 k3 n k5 hm hs
    simp only[OW,beq_iff_eq,P5] at q
    obtain⟨⟨⟨⟨⟨rfl,rfl⟩,hdel⟩,ht⟩,hok⟩,hni⟩:=q
    obtain⟨nm,bs,mro,ns,qn,hd,sn,sub,ab,col,del⟩:=cdd
    dsimp only at hm hdel hok hni
    subst hm hdel
    have hsl:sl=#[k0,k1,k2,k3,some (.builtin n),k5]:=by
     obtain⟨l⟩:=sl
     simp only at hs
     rw[hs]
    subst hsl
    exact⟨bm,ns,nm,qn,bs,hd,sn,sub,ab,col,dd,k0,k1,k2,k3,k5,_,X _ _ ho,.of_isNs (PySem.W.isNs_of_in X hok),PySem.W.nsMap_none_of_in X hok hni,PySem.W.tail_of_in X ht⟩
   ·cases q
  ·cases q
 obtain⟨bm,Nn,nm,qn,bs,hdct,sn,sub,ab,col,dd,k0,k1,k2,k3,k5,mN,hC,hN,hni,TL⟩:=own I.ok.mod.kin
 have hA:=ha cpos pins s σ H _ I h
 refine wpAny_Raise_call_subT (C:=C) (nm:=nm) (q:=qn) (N:=Nn) (bs:=bs) (bm:=bm) (hdct:=hdct) (sn:=sn) (sub:=sub) (ab:=ab) (col:=col) (dd:=dd) (k0:=k0) (k1:=k1) (k2:=k2) (k3:=k3) (k5:=k5) FB (mN:=mN) (TL.hasType hbb) (I.ok.hd rfl) ?_ hni (mE I hg hm ⟨rfl,?_⟩ hdb)
 ·show (backTo cpos (starEach (e0 :: es) (@Fr))).any (·.1)=false
  rw[he]
  show (false || (backTo cpos (starEach es (@Fr))).any (·.1))=false
  rw[hpl];rfl
 have hA:wpAny _ _ (spliced (backTo cpos (starEach (e0 :: es) (@Fr)))) _ _ s:=hA
 show wpAny _ _ (evalArgs (.ref C) true (backTo cpos (starEach (e0 :: es) (@Fr))) []) _ _ s
 rw[he] at hA ⊢
 refine Calls.evalArgs_plain (cc hA λus s2 ⟨vs,H2,I2,r2,hl2,q2⟩=>⟨rfl,by show us.length<=_;rw[<-r2.length];exact hl2,I2.bk _ _ hC,hN.keeps I2.bk,TL.keeps I2.bk,λh' e hx=>?_⟩)
 have above:s0.heap.objs.size<=(@Fr).locals:=I2.ok.above
 have nil:∀b:Addr,b∉([]:List Addr):=λb=>by simp
 refine ze (s:={s2 with heap:=h'}) (h:=s2.heap) (base:=base) (h₀:=s0.heap) I2.ok.frames rfl I2.stack I2.hok I2.stkFree (λb o z=>I2.base.there b o z (nil b)) hx λh2 kept slot Ly hok=>?_
 have nL:∀{b:Addr} {o:Obj},s0.heap.get? b=some o->b∉fG outer->b∉fG (@Fr :: outer):=λ{b o} z hb hm=>by
  rcases OC.mp (I2.stkSub b hm) with e |e
  ·have:=Oz z
   rw[e] at this
   exact absurd (OO this above) (OU _)
  ·exact hb e
 have inn:∀{b:Addr},b∈fG outer->b∈fG (@Fr :: outer):=λ{b} hb=>by
  obtain⟨en,h1,h2⟩:=Qk.mp hb
  exact Qk.mpr ⟨en,OF _ h1,h2⟩
 refine⟨e,.ref C,H2,rfl,I2.os,I2.bare,⟨λb o z n hb _=>?_,λb o z n hb _=>?_,λb o z n _=>I2.base.free b o z n (nil b),λb o z _=>?_,I2.base.tups,I2.base.frzs,I2.base.tbls⟩,hok,Ly,q2⟩
 ·exact kept b o (I2.base.keep b o z n hb (nil b)) (nL z hb)
 ·obtain⟨sl,z1⟩:=I2.base.slot b o z n hb (nil b)
  obtain⟨sl2,z2⟩:=slot b _ z1 (inn hb)
  exact⟨sl2,z2⟩
 ·obtain⟨o',z1⟩:=I2.base.there b o z (nil b)
  by_cases hb:b∈fG (@Fr :: outer)
  ·obtain⟨sl,z2⟩:=slot b o' z1 hb
   exact⟨_,z2⟩
  ·exact⟨o',kept b o' z1 hb⟩
end
section
variable {X:Cx}{pins:@B_}{σ:St}{H:Hp}{s:Shared}{h':Heap}{e T:Addr}{oe oT:Obj}{vs ts:Array Value}
def Inv.exc {tk:Nat}(I:@At)(hex:X.ex= [])(he:s.heap.get? e=some oe)(hd:oe.data=.fields vs)(hT:s.heap.get? T=some oT)(hdT:oT.data=.fields ts)(n1:X.s₀.heap.get? e=none)(n2:X.s₀.heap.get? T=none)(pn:∀p∈X.pn ++ pins,p.1≠e/\p.1≠T)
  (kept:∀b o,s.heap.get? b=some o->b∉fG X.stack->b≠e->b≠T->h'.get? b=some o) (slot:∀b o,s.heap.get? b=some o->b∈fG X.stack->∃sl,h'.get? b=some {o with slots:=sl}) (hok:lq X.prog X.w H h') :
  Inv X pins σ H {s with heap:=h',toks:=tk}:=by
 have nil:∀b:Addr,b∉X.ex:=λb=>by rw[hex];simp
 have any:∀b o,s.heap.get? b=some o->(∀ws,o.data≠.fields ws)->∃sl,h'.get? b=some {o with slots:=sl}:=λb o q n=>by
  by_cases hb:b∈fG X.stack
  ·exact slot b o q hb
  ·refine⟨o.slots,kept b o q hb (λz=>?_) λz=>?_⟩
   ·rw[z,he] at q;cases q;exact n _ hd
   ·rw[z,hT] at q;cases q;exact n _ hdT
 have cellK:∀{c:Addr} {v:Option Value},s.heap.IsCell c v->h'.IsCell c v:=λ{c v} ⟨o,ho,hdc⟩=>by
  obtain⟨sl,q⟩:=any c o ho λws z=>by rw[hdc] at z;cases z
  exact⟨_,q,hdc⟩
 have nsub:∀{b:Addr},b≠X.env.locals->b∉X.fs->b∉fG X.stack:=λ{b} h1 h2 hb=>(OC.mp (I.stkSub b hb)).elim h1 h2
 have neL:∀b o,X.s₀.heap.get? b=some o->b≠X.env.locals:=λb o q=>OX (OO (Oz q) I.ok.above)
 have ne2:∀b o,X.s₀.heap.get? b=some o->b≠e/\b≠T:=λb o q=>⟨λz=>by (rw[z,n1] at q;cases q),λz=>by (rw[z,n2] at q;cases q)⟩
 refine⟨I.ok,I.os,I.bare,⟨λb o q n hb hx=>?_,λb o q n hb hx=>?_,I.base.free,λb o q hx=>?_,I.base.tups,I.base.frzs,I.base.tbls⟩,?_,λx c q=>?_,I.free,I.freeC,λp hp=>?_,hok,I.len⟩
 ·exact kept b o (I.base.keep b o q n hb hx) (nsub (neL b o q) hb) (ne2 b o q).1 (ne2 b o q).2
 ·obtain⟨sl,q1⟩:=I.base.slot b o q n hb hx
  by_cases hs:b∈fG X.stack
  ·obtain⟨sl2,q2⟩:=slot b _ q1 hs
   exact⟨sl2,q2⟩
  ·exact⟨sl,kept b _ q1 hs (ne2 b o q).1 (ne2 b o q).2⟩
 ·obtain⟨o',q1⟩:=I.base.there b o q hx
  by_cases hs:b∈fG X.stack
  ·obtain⟨sl2,q2⟩:=slot b _ q1 hs
   exact⟨_,q2⟩
  ·exact⟨o',kept b _ q1 hs (ne2 b o q).1 (ne2 b o q).2⟩
 ·obtain⟨m,⟨o,es,ep,ho,hdd,r⟩,hl⟩:=I.loc
  obtain⟨sl,q⟩:=any _ o ho λws z=>by rw[hdd] at z;cases z
  refine⟨m,⟨_,es,ep,q,hdd,r⟩,λi x v e1 e2 e3=>?_⟩
  obtain⟨u,r',l⟩:=hl i x v e1 e2 e3
  refine⟨u,r',?_⟩
  rcases l with l | ⟨k,c,q,z⟩
  ·exact .inl l
  ·exact .inr ⟨k,c,q,cellK z⟩
 ·obtain⟨v,z⟩:=I.cell x c q
  exact⟨v,cellK z⟩
 ·obtain⟨q,n,ne,nf,d⟩:=I.pin p hp
  exact⟨kept p.1 p.2 q (nsub ne nf) (pn p hp).1 (pn p hp).2,n,ne,nf,d⟩
def fH (e:Addr)(cls:Value)(h:Heap):Prop:=∃o vs,h.get? e=some o/\o.cls=cls/\o.dict=none/\o.data=.fields vs/\vs[2]? =some .none
def Rc.isExc {h:Heap}{e T:Addr}{cls fl:Value}(r:Rc h e cls T fl):fH e cls h:=let ⟨oe,vs,_,_,a,b,c,d,_,f,_⟩:=r;⟨oe,vs,a,b,c,d,f⟩
def Inv.track {cls:Value}(I:@At)(he:fH e cls s.heap)(hn:H e=none)(n1:X.s₀.heap.get? e=none)(hL:e≠X.env.locals)(hc:∀x c,X.env.cells.lookup x=some c->c≠e)(pn:∀p∈X.pn ++ pins,p.1≠e) :
  Inv X pins σ (upd H e (.ext (fH e cls))) s:=by
 have un:∀{b:Addr},b≠e->upd H e (.ext (fH e cls)) b=H b:=λ{b} z=>aE z
 have keepT:∀{b:Addr} {o:HO},H b=some o->upd H e (.ext (fH e cls)) b=some o:=λ{b o} q=>by rw[un (aM q hn)];exact q
 refine⟨I.ok,I.os,I.bare,⟨I.base.keep,I.base.slot,λb o q n hx=>?_,I.base.there,λb xs q=>keepT (I.base.tups b xs q),λb o u q=>keepT (I.base.frzs b o u q),λb ps q=>?_⟩,I.loc,I.cell,?_,λx c q=>?_,λp hp=>?_,λa o ha=>?_,I.len⟩
 ·rw[un (λz=>by rw[z,n1] at q;cases q)];exact I.base.free b o q n hx
 ·obtain⟨m,q1⟩:=I.base.tbls b ps q
  exact⟨m,keepT q1⟩
 ·rw[un hL.symm];exact I.free
 ·rw[un (hc x c q)];exact I.freeC x c q
 ·obtain⟨q,n,ne,nf,d⟩:=I.pin p hp
  exact⟨q,by rw[un (pn p hp)];exact n,ne,nf,d⟩
 ·by_cases z:a=e
  ·subst z
   rw[az] at ha
   cases ha
   obtain⟨o,vs,q,c⟩:=he
   exact⟨⟨o,vs,q,c⟩,⟨o,q⟩,λh1 h2 ⟨o1,v1,q1,c1⟩ k=>⟨o1,v1,k o1 q1,c1⟩⟩
  ·rw[un z] at ha
   exact (I.hok a o ha).stay (λb u _ q=>q) (λb q=>keepT q) λb xs q=>q.imp keepT λ⟨o,q⟩=>⟨o,keepT q⟩
def A7 {M:Model}{A:Around}{E:@Db}{i:Nat}{x:Str}{v:V}{Q:Unit->Shared->Prop}(I:@At)(hN:X.N.Nodup)(hi:X.N[i]? =some x)(hk:X.env.scope.names.lookup x=some .local)(hv:σ[i]? =some (some v))
  (h:∀s',Inv X pins (σ.set i none) H s'->Q () s'):wpAny M A (unbindName X.env x) Q E s:=by
 obtain⟨m,hn,hl⟩:=id I.loc
 have hcls:(X.env.scope.kind == .class || (X.env.scope.kind == .module && X.env.locals != X.env.globals))=false:=by rw[I.ok.kind];rfl
 obtain⟨u,_,look⟩:=hl i x v hi hv (.inl hk)
 have hm:m x=some u:=by
  rcases look with⟨_,q⟩ | ⟨k,_⟩
  ·exact q
  ·have hk':X.env.kindOf x=some .local:=hk
   rw[hk'] at k
   rcases k with k |k <;> cases k
 refine wpAny_unbindName_local hk hn hm hcls λh' u' hn' hs=>?_
 obtain⟨oL,_,_,hoL,_⟩:=id hn
 have same:∀{b:Addr} {o:Obj},b≠X.env.locals->s.heap.get? b=some o->h'.get? b=some o:=λ{b o} z q=>(hs.2 b z).trans q
 have neL:∀{b:Addr} {o:Obj},X.s₀.heap.get? b=some o->b≠X.env.locals:=λ{b o} q=>OX (OO (Oz q) I.ok.above)
 have hok:lq X.prog X.w H h':=lN I.hok λb o q hu=>same (λz=>by obtain⟨w',hw⟩:=hu;rw[z,I.free] at hw;cases hw) q
 refine h _ ⟨I.ok,I.os,I.bare,⟨λb o q n hb hx=>same (neL q) (I.base.keep b o q n hb hx),λb o q n hb hx=>?_,I.base.free,λb o q hx=>?_,I.base.tups,I.base.frzs,I.base.tbls⟩,⟨_,hn',λj y v' e1 e2 e3=>?_⟩,λy c q=>?_,I.free,I.freeC,λp hp=>?_,hok,by simpa using I.len⟩
 ·obtain⟨sl,q1⟩:=I.base.slot b o q n hb hx
  exact⟨sl,same (neL q) q1⟩
 ·obtain⟨o',q1⟩:=I.base.there b o q hx
  exact⟨o',same (neL q) q1⟩
 ·by_cases hj:j=i
  ·subst hj
   rw[OJ (by rw[I.len];exact (Oy.mp hi).1)] at e2
   cases e2
  ·rw[OL (Ne.symm hj)] at e2
   obtain⟨u2,r',q⟩:=hl j y v' e1 e2 e3
   refine⟨u2,r',?_⟩
   rcases q with⟨k,q⟩ | ⟨k,c,q,z⟩
   ·have:y≠x:=λz=>hj (oK hN e1 (z▸hi))
    exact .inl ⟨k,by simp[this,q]⟩
   ·exact .inr ⟨k,c,q,z.sameBut hs (I.cne y c q)⟩
 ·obtain⟨w',z⟩:=I.cell y c q
  exact⟨w',z.sameBut hs (I.cne y c q)⟩
 ·obtain⟨q,n,ne,nf,d⟩:=I.pin p hp
  exact⟨same ne q,n,ne,nf,d⟩
end
def yf (bmB:@GM)(newId:String)(C:Addr)(bm:@GM)(h:Heap):Prop:=∃Nn nm qn bs hdct sn sub ab col dd k0 k1 k2 k3 k5,h.get? C=some (excClassObj nm qn C Nn bs bm hdct sn sub ab col dd k0 k1 k2 k3 k5 newId)/\OwnTail h bmB bm
def mroIn (K:Frag)(C:Addr):@GM:=match K.lookup C with
 |some ⟨_,_,.cls cd,_⟩=>cd.mro
 |_=>[]
def Ag {K:Frag}{C:Addr}{bmB:@GM}{newId:String}(q:PySem.W.excIn K C bmB newId=true):∃bm,mroIn K C=.ref C :: bm/\∀{h:Heap},K.In h->yf bmB newId C bm h:=by
 have q0:=q
 unfold PySem.W.excIn at q
 split at q
 ·rename_i dd cdd sl ho
  split at q
  ·rename_i C' bm k0 k1 k2 k3 n k5 hm hs
   simp only[OW,beq_iff_eq,P5] at q
   obtain⟨⟨⟨⟨⟨rfl,rfl⟩,hdel⟩,ht⟩,hok⟩,hni⟩:=q
   refine⟨bm,by unfold mroIn;rw[ho];exact hm,λ{h} X=>?_⟩
   obtain⟨nm,bs,mro,ns,qn,hd,sn,sub,ab,col,del⟩:=cdd
   dsimp only at hm hdel hok hni
   subst hm hdel
   have hsl:sl=#[k0,k1,k2,k3,some (.builtin n),k5]:=by
    obtain⟨l⟩:=sl
    simp only at hs
    rw[hs]
   subst hsl
   exact⟨ns,nm,qn,bs,hd,sn,sub,ab,col,dd,k0,k1,k2,k3,k5,X _ _ ho,PySem.W.tail_of_in X ht⟩
  ·cases q
 ·cases q
def Et {M:Model}{A:Around}{E:@Db}{s:Shared}{Q:Bool->Shared->Prop}{C D e:Addr}{oe:Obj}{bm bmD bmB bmB2:@GM}{nC nD:String}(oC:yf bmB nC C bm s.heap)(oD:yf bmB2 nD D bmD s.heap)(he:s.heap.get? e=some oe)(hcls:oe.cls=.ref C)
  (hb:bmB2.contains (.type "BaseException")=true) (hup:(Value.ref C :: bm).contains (.ref D)=true) (hq:Q true s):wpAny M A (excMatches (.ref e) (.ref D)) Q E s:=by
 obtain⟨N1,nm1,qn1,bs1,hd1,sn1,sub1,ab1,col1,dd1,a0,a1,a2,a3,a5,hC,TC⟩:=oC
 obtain⟨N2,nm2,qn2,bs2,hd2,sn2,sub2,ab2,col2,dd2,b0,b1,b2,b3,b5,hD,TD⟩:=oD
 have hcB:(Value.ref D :: bmD).contains (.type "BaseException")=true:=by rw[List.contains_cons,TD.hasType hb,Bool.or_true]
 have f:=tc_notTuple
 obtain⟨h,g,d,t,os⟩:=s
 unfold excMatches
 repeat (first
  | (with_reducible refine wpAny_loadPart_at he ?_;rw[hcls])
  |with_reducible refine wpAny_loadPart_at hD ?_
  | (with_reducible refine wpAny_isSubtype_exc hD ?_;rw[hcB])
  | (with_reducible refine wpAny_isSubtype_exc hC ?_;rw[hup])
  |wp_step)
 exact hq
def Mt (K:Frag)(cls:Value)(D:Addr):Prop:=∀{M:Model} {A:Around} {E:@Db} {s:Shared} {Q:Bool->Shared->Prop} {e:Addr} {oe:Obj},K.In s.heap->s.heap.get? e=some oe->oe.cls=cls->Q true s->wpAny M A (excMatches (.ref e) (.ref D)) Q E s
def Hz {K:Frag}{C D:Addr}{bmB bmB2:@GM}{nC nD:String}(qC:PySem.W.excIn K C bmB nC=true)(qD:PySem.W.excIn K D bmB2 nD=true)(hb:bmB2.contains (.type "BaseException")=true)(hup:(mroIn K C).contains (.ref D)=true):Mt K (.ref C) D:=by
 intro M A E s Q e oe X he hc hq
 obtain⟨bm,e1,o1⟩:=Ag qC
 obtain⟨bmD,e2,o2⟩:=Ag qD
 rw[e1] at hup
 exact Et (o1 X) (o2 X) he hc hb hup hq
abbrev Cx.inTry (X:Cx)(Ex:@Db)(pn:@B_):Cx:={X with xe:=Ex,pn:=pn}
abbrev Cx.inEx (X:Cx)(e:Addr):Cx:={X with A:=X.A.mark (some (.ref e)),calm:=false,xe:=λ_ _=>False}
section
variable {X:Cx}{pins:@B_}{σ:St}{H:Hp}{s:Shared}
def Inv.toTry (I:@At)(Ex:@Db):Inv (X.inTry Ex (X.pn ++ pins)) [] σ H s:=
 ⟨⟨I.ok.mod,I.ok.kind,I.ok.glob,I.ok.blt,I.ok.above,I.ok.inj,I.ok.has,I.ok.cab,I.ok.hd,I.ok.frames,I.ok.stk,I.ok.exf,I.ok.bs,I.ok.bsz,I.ok.noex,I.ok.exfs,I.ok.funs,I.ok.frf⟩,I.os,I.bare,I.base,I.loc,I.cell,I.free,I.freeC,λp hp=>I.pin p (by simpa using hp),I.hok,I.len⟩
def Inv.ofTry {Ex:@Db}{pins2:@B_}(I:Inv (X.inTry Ex (X.pn ++ pins)) pins2 σ H s):@At:=
 ⟨⟨I.ok.mod,I.ok.kind,I.ok.glob,I.ok.blt,I.ok.above,I.ok.inj,I.ok.has,I.ok.cab,I.ok.hd,I.ok.frames,I.ok.stk,I.ok.exf,I.ok.bs,I.ok.bsz,I.ok.noex,I.ok.exfs,I.ok.funs,I.ok.frf⟩,I.os,I.bare,I.base,I.loc,I.cell,I.free,I.freeC,λp hp=>I.pin p (P9 _ hp),I.hok,I.len⟩
def Inv.toEx (I:@At)(e:Addr):Inv (X.inEx e) pins σ H s:=
 ⟨⟨I.ok.mod,I.ok.kind,I.ok.glob,I.ok.blt,I.ok.above,I.ok.inj,I.ok.has,I.ok.cab,λz=>absurd z OI,I.ok.frames,I.ok.stk,I.ok.exf,I.ok.bs,I.ok.bsz,I.ok.noex,I.ok.exfs,I.ok.funs,I.ok.frf⟩,I.os,I.bare,I.base,I.loc,I.cell,I.free,I.freeC,I.pin,I.hok,I.len⟩
def Inv.ofEx {e:Addr}(ok:X.Ok)(I:Inv (X.inEx e) pins σ H s):@At:=
 ⟨ok,I.os,I.bare,I.base,I.loc,I.cell,I.free,I.freeC,I.pin,I.hok,I.len⟩
theorem SP.ofTry {Ex:@Db}{D:Ends}{f:Flow}{s':Shared}(h:SP (X.inTry Ex (X.pn ++ pins)) [] D f s'):SP X pins D f s':=by
 cases f with
 |next=>obtain⟨σ',H',I,q⟩:=h;exact⟨σ',H',I.ofTry,q⟩
 |brk=>obtain⟨σ',H',I,q⟩:=h;exact⟨σ',H',I.ofTry,q⟩
 |cont=>obtain⟨σ',H',I,q⟩:=h;exact⟨σ',H',I.ofTry,q⟩
 |ret u=>obtain⟨v,σ',H',I,r,q⟩:=h;exact⟨v,σ',H',I.ofTry,r,q⟩
end
def Hi (i:Nat)(D:Ends):Ends:={nx:=λσ H=>D.nx ((σ.set i (some .non)).set i none) H,rt:=D.rt,bk:=λσ H=>D.bk ((σ.set i (some .non)).set i none) H,ct:=λσ H=>D.ct ((σ.set i (some .non)).set i none) H}
def NO (K:Frag)(Dc:Addr)(i len:Nat)(tb:XK->TS)(th:Addr->TS):TS:=λD σ H=>∃Eb:XK,tb Eb D σ H/\∀cls d H',Eb cls d H'->Mt K cls Dc/\∀(ea:Addr) (σ':St),H' ea=none->σ'.length=len->th ea (Hi i D) (σ'.set i (some (.ref ea))) (upd H' ea (.ext (fH ea cls)))
structure iu (k:Nat)(A:Around):Prop where
 dp:A.depth + 3 * k + 5 < recursionLimit
 un:A.units + 16 * k + 200 < cLine
 gd:A.guards=some []
def dN.mark {k:Nat}{A:Around}(r:dN k A)(v:Option Value):iu k (A.mark v):=⟨r.dp,r.un,r.gd⟩
def iu.deeper {k:Nat}{A:Around}(r:iu (k + 1) A)(env:Env):iu k (A.deeper env):=
 ⟨by have:=r.dp;show A.depth + 1 + 3 * k + 5 < _;omega,by have:=r.un;show A.units + 3 + 16 * k + 200 < _;omega,r.gd⟩
def iu.mono {j k:Nat}{A:Around}(r:iu k A)(h:j<=k):iu j A:=⟨by have:=r.dp;omega,by have:=r.un;omega,r.gd⟩
def iu.units {k:Nat}{A:Around}(r:iu k A):A.units + 64 < cLine:=by have:=r.un;omega
structure zX (P:Program)(w:World)(K:Frag)(mg:@FM)(base:Heap)(CX:vB)(k:Nat)(f:Addr)(fd:FuncData)(ps:@H_)(sp:Sp):Prop where
 len:∀vs H Q E,sp vs H Q E->vs.length=ps.length
 run:∀(A:Around) (outer:List Env) (s:Shared) (H:Hp) (args:Args) (us:@GM) (vs:List V) (Q:VK) (E:XK),iu k A->rR P w K mg base A outer s H->BindsTo s fd args (ps.zip us)->Vals vs us->sp vs H Q E->
  codeAny (model P w) A (.call (.ref f) args) (CR CX outer P w H s Q E) s
abbrev rF (CX:vB)(P:Program)(w:World)(K:Frag)(mg:@FM)(base:Heap)(N:@H_)(qual:Str)(scope:Scope)(f:Addr)(cd:Value)(A:Around)(outer:List Env)(s:Shared)(H:Hp)(E:XK):Cx:=
 {j9 CX P w K mg base N qual scope f cd A outer s H E with calm:=false}
def qJ {CX:vB}{P:Program}{w:World}{K:Frag}{mg:@FM}{base:Heap}{N ps:@H_}{qual:Str}{scope:Scope}{f:Addr}{cd:Value}{A:Around}{outer:List Env}{s s1:Shared}{H:Hp}{E:XK}{us:@GM}{vs:List V}
  (S:aF N ps scope) (e0:rR P w K mg base A outer s H) (hl:vs.length=ps.length) (r:Vals vs us)
  (x:InCallC s s.heap.objs.size (bindL (envOfC qual scope s.heap.objs.size f cd).kindOf (ps.zip us) λ_=>none) (cellsFrom (s.heap.objs.size + 1) scope.names []) (bindC (envOfC qual scope s.heap.objs.size f cd).kindOf (ps.zip us) λ_=>none) s1) :
  Inv (rF CX P w K mg base N qual scope f cd A outer s H E) [] (start N vs) H s1:=by
 have e1:rR P w K mg base {A with handled:=none} outer s H:=⟨e0.frames,e0.mod,e0.bs,e0.bsz,e0.funs,e0.frf,e0.hok,e0.bare⟩
 have I:=ug (CX:=CX) (E:=E) (A:={A with handled:=none}) S rfl e1 hl r x
 exact⟨⟨I.ok.mod,I.ok.kind,I.ok.glob,I.ok.blt,I.ok.above,I.ok.inj,I.ok.has,I.ok.cab,λz=>absurd z OI,Around.frames_deeper e0.frames,I.ok.stk,I.ok.exf,I.ok.bs,I.ok.bsz,I.ok.noex,I.ok.exfs,I.ok.funs,I.ok.frf⟩,I.os,I.bare,I.base,I.loc,I.cell,I.free,I.freeC,I.pin,I.hok,I.len⟩
section
variable {P:Program}{w:World}{K:Frag}{mg:@FM}{base:Heap}
theorem xV.okH {x qual:Str}{st:Stmt}{f:Addr}{fd:FuncData}{N ps:@H_}{k:Nat}{sp:Sp}(F:xV K x qual st f fd)(S:aF N ps (ah st))(len:∀vs H Q E,sp vs H Q E->vs.length=ps.length)
  (hbody:∀(cdv:Value) (A:Around) (outer:List Env) (s:Shared) (H:Hp) (vs:List V) (Q:VK) (E:XK),iu k (A.deeper (envOfC qual (ah st) s.heap.objs.size f cdv))->sp vs H Q E->
   ∃t,pw (rF sk P w K mg base N qual (ah st) f cdv A outer s H E).nox (cG st) t/\t {nx:=λ_ H'=>Q .non H',rt:=Q} (start N vs) H):zX P w K mg base sk (k + 1) f fd ps sp:=by
 obtain⟨oc,od,kV,doc,pm,an,cdv,ct,osl,rfl,lk,hcd⟩:=F.ex
 refine⟨len,λA outer s H args us vs Q E hr e0 hb r hsp=>?_⟩
 have hl:=len _ _ _ _ hsp
 have KX:K.In s.heap:=e0.mod.kin.keeps λb o e=>(e0.bs b o e).1
 have lim:s.heap.NoLimit:=e0.mod.nolimit.keeps λb o e=>(e0.bs b o e).1
 have hkind:∀y∈ps.zip us,(ah st).names.lookup y.1=some .local\/((ah st).names.lookup y.1=some .cell/\((cellsFrom (s.heap.objs.size + 1) (ah st).names []).lookup y.1).isSome=true):=λ⟨n,v⟩ hy=>by
  rcases S.par n (QP hy).1 with q |q
  ·exact .inl q
  ·exact .inr ⟨q,Qi _ _ _ (.inl q)⟩
 have hdep:A.depth < recursionLimit:=by have:=hr.dp;omega
 refine codeAny_call_function hdep (KX _ _ lk) rfl S.co S.gen rfl (PySem.W.codeRec_of KX hcd) (hb _ _ _ _ ?_)
 refine QN S.kind hkind λenv he s1 x=>?_
 subst he
 refine⟨lim.keeps x.toInCall.keep,codeAny_func ?_⟩
 obtain⟨t,ht,hq⟩:=hbody cdv A outer s H vs Q E (hr.deeper _) hsp
 have I:Inv (rF sk P w K mg base N qual (ah st) f cdv A outer s H E) [] (start N vs) H s1:=qJ S e0 hl r x
 refine Pl (ht.nox [] s1 (start N vs) H _ I hq) (λfl s' hs=>?_) λe s' hs=>hs
 have fin:∀{σ':St} {H':Hp} {v:V} {u:Value},Inv (rF sk P w K mg base N qual (ah st) f cdv A outer s H E) [] σ' H' s'->RelV v u->Q v H'->CE outer P w H s Q u s':=
  λ{σ' H' v u} J rv q=>⟨v,H',J.os,J.bare,J.base,J.hok,rv,q⟩
 cases fl with
 |ret u=>
  obtain⟨v,σ',H',J,rv,q⟩:=hs
  exact fin J rv q
 |next=>
  obtain⟨σ',H',J,q⟩:=hs
  exact fin (v:=V.non) (u:=Value.none) J rfl q
 |brk=>
  obtain⟨_,_,_,q⟩:=hs
  exact False.elim q
 |cont=>
  obtain⟨_,_,_,q⟩:=hs
  exact False.elim q
def xV.Hq {x qual:Str}{st:Stmt}{f:Addr}{fd:FuncData}{N ps:@H_}{k:Nat}{sp:Sp}(F:xV K x qual st f fd)(S:aF N ps (ah st))(len:∀vs H Q E,sp vs H Q E->vs.length=ps.length)
  (hbody:∀(cdv:Value) (A:Around) (outer:List Env) (s:Shared) (H:Hp) (vs:List V) (Q:VK) (E:XK),dN k (A.deeper (envOfC qual (ah st) s.heap.objs.size f cdv))->sp vs H Q E->
   ∃t,pw (j9 (lg P w) P w K mg base N qual (ah st) f cdv A outer s H E) (cG st) t/\t {nx:=λ_ H'=>Q .non H',rt:=Q} (start N vs) H):e8 P w K mg base (lg P w) (k + 1) f fd ps sp:=by
 obtain⟨oc,od,kV,doc,pm,an,cdv,ct,osl,rfl,lk,hcd⟩:=F.ex
 exact Eh lk hcd S len λA outer s H vs Q E hr hsp=>hbody cdv A outer s H vs Q E hr hsp
end
section
variable {X:Cx}{CX:vB}{k:Nat}{f:Addr}{fd:FuncData}{ps:@H_}{sp:Sp}{dvs:List V}{ds:@GM}{E:XK}{x:Str}{p pos:Pos}{e:Expr}{es:List Expr}{t:TA}
theorem Cn (F:zX X.prog X.w X.K X.mg X.base CX k f fd ps sp)(hr:iu k X.A)(hg:Gl X x)(hm:X.mg x=some (.ref f))(hk:PySem.W.keepIn X.K (.ref f)=true)(hb:Binds X.K fd ps ds)(hd:Vals dvs ds)(hx:Passes CX X E)
  (ha:PA X (e :: es) t) (hdb:@FS:=by decide) (he:starEach (e :: es) X.env=(false,eval e X.env) :: starEach es X.env:=by rfl) (hpl:(backTo pos (starEach es X.env)).any (·.1)=false:=by rfl) :
  PE X (.Call (.Name x p) (e :: es) [] pos) (Dh sp dvs E t):=by
 intro pins s σ H Q I h
 refine Ql (mE I hg hm ?_ hdb)
 refine PySem.W.callWith_K (h₀:=X.base) I.ok.mod.kin hk (cc (ha pos pins s σ H _ I h) λus s1 ⟨vs,H1,I1,r,q⟩=>⟨I1.kIn,?_⟩) he hpl
 have r2:Vals (vs ++ dvs) (us ++ ds):=r.append hd
 have hl:(us ++ ds).length=ps.length:=by rw[<-r2.length];exact F.len _ _ _ _ q
 refine wpAny_call (QS (F.run X.A X.stack s1 H1 ⟨us,[]⟩ (us ++ ds) (vs ++ dvs) Q E hr I1.env0 (hb s1 us I1.kIn hl) r2 q) λr s' hq=>?_)
 cases r with
 |error e=>exact hx pins σ H1 s1 e s' I1 hq
 |ok fl=>
  cases fl with
  |ret u=>exact I1.after hq
  |next=>exact False.elim hq
  |brk=>exact False.elim hq
  |cont=>exact False.elim hq
end
abbrev D:=PyData
def kD:Key->D
 | .inl i=>.int i
 | .inr x=>.str x
mutual
inductive Rp (K:Frag)(G:Hp):V->D->Prop
 |non:Rp K G .non .none
 |bl (b:Bool):Rp K G (.bl b) (.bool b)
 |int (i:Int):Rp K G (.int i) (.int i)
 |str (x:Str):Rp K G (.str x) (.str x)
 |tup {a:Addr} {xs:List V} {ds:List D}:hW K G a xs->cQ K G xs ds->Rp K G (.ref a) (.tuple ds)
 |lst {a:Addr} {xs:List V} {ds:List D}:G a=some (.lst xs)->cQ K G xs ds->Rp K G (.ref a) (.list ds)
 |scr {a:Addr} {ns:List Int}:iY K G a (ns.map V.int)->Rp K G (.ref a) (.dict [(.none,.list (ns.map int))])
 |dK {a:Addr} {kvs:List (Key×V)} {ds:List (D×D)}:G a=some (.dK kvs)->BX K G kvs ds->Rp K G (.ref a) (.dict ds)
 |dT {a:Addr} {kvs:List (List Key×V)} {ds:List (D×D)}:G a=some (.dT kvs)->BY K G kvs ds->Rp K G (.ref a) (.dict ds)
inductive cQ (K:Frag)(G:Hp):List V->List D->Prop
 |nil:cQ K G [] []
 |cons {x:V} {xs:List V} {d:D} {ds:List D}:Rp K G x d->cQ K G xs ds->cQ K G (x :: xs) (d :: ds)
inductive BX (K:Frag)(G:Hp):List (Key×V)->List (D×D)->Prop
 |nil:BX K G [] []
 |cons {k:Key} {x:V} {xs:List (Key×V)} {d:D} {ds:List (D×D)}:Rp K G x d->BX K G xs ds->BX K G ((k,x) :: xs) ((kD k,d) :: ds)
inductive BY (K:Frag)(G:Hp):List (List Key×V)->List (D×D)->Prop
 |nil:BY K G [] []
 |cons {k:List Key} {x:V} {xs:List (List Key×V)} {d:D} {ds:List (D×D)}:Rp K G x d->BY K G xs ds->BY K G ((k,x) :: xs) ((.tuple (k.map kD),d) :: ds)
end
section
variable {K:Frag}{G G' H H':Hp}
def Kx {b:Addr}{o:HO}(h:Kt H b o)(hu:∀ps,o≠.tbl ps):H b=some o:=by
 obtain⟨u,e,k,_⟩:=h.some
 rw[e,k hu]
theorem jC {a b:Addr}{o u:HO}(h:Kt H b u)(hb:b≠a)(ha:∀x y,H a≠some (.aY x y)):Kt (upd H a o) b u:=by
 cases u with
 |tbl ps=>
  obtain⟨m,e,t,k⟩:=h
  refine⟨m,by rw[aE hb];exact e,t,λc hc=>?_⟩
  obtain⟨x,ex,ix⟩:=k c hc
  exact⟨x,by rw[aE (λz=>ha x _ (z▸ex))];exact ex,ix⟩
 |_=>exact (aE hb).trans h
def Rd.mono {a:Addr}{u:HO}(h:Rd G a u)(s:ar G G')(hu:∀ps,u≠.tbl ps:=by intro _ z;cases z):Rd G' a u:=h.elim (λe=>.inl (Kx (s _ _ e) hu)) λ⟨o,e⟩=>.inr ⟨o,s _ _ e⟩
mutual
theorem Rp.mono (s:ar G G'):∀{x:V} {d:D},Rp K G x d->Rp K G' x d
 |_,_,.non=>.non
 |_,_,.bl b=>.bl b
 |_,_,.int i=>.int i
 |_,_,.str x=>.str x
 |_,_,.tup h hs=>.tup (h.grow s.grow) (cQ.mono s hs)
 |_,_,.lst h hs=>.lst (s _ _ h) (cQ.mono s hs)
 |_,_,.scr h=>.scr (s.seq h)
 |_,_,.dK h hs=>.dK (s _ _ h) (BX.mono s hs)
 |_,_,.dT h hs=>.dT (s _ _ h) (BY.mono s hs)
theorem cQ.mono (s:ar G G'):∀{xs:List V} {ds:List D},cQ K G xs ds->cQ K G' xs ds
 |_,_,.nil=>.nil
 |_,_,.cons h hs=>.cons (Rp.mono s h) (cQ.mono s hs)
theorem BX.mono (s:ar G G'):∀{xs:List (Key×V)} {ds:List (D×D)},BX K G xs ds->BX K G' xs ds
 |_,_,.nil=>.nil
 |_,_,.cons h hs=>.cons (Rp.mono s h) (BX.mono s hs)
theorem BY.mono (s:ar G G'):∀{xs:List (List Key×V)} {ds:List (D×D)},BY K G xs ds->BY K G' xs ds
 |_,_,.nil=>.nil
 |_,_,.cons h hs=>.cons (Rp.mono s h) (BY.mono s hs)
end
theorem cQ.len:∀{xs:List V} {ds:List D},cQ K G xs ds->xs.length=ds.length
 |_,_,.nil=>rfl
 |_,_,.cons _ t=>by simp[cQ.len t]
theorem cQ.at:∀{xs:List V} {ds:List D} {i:Nat} {d:D},cQ K G xs ds->ds[i]? =some d->∃x,xs[i]? =some x/\Rp K G x d
 |_,_,_,_,.nil,e=>by simp at e
 |_,_,0,_,.cons r _,e=>by simp at e;subst e;exact⟨_,rfl,r⟩
 |_,_,i + 1,x,.cons _ t,e=>by
  obtain⟨u,h1,h2⟩:=cQ.at (i:=i) (d:=x) t (by simpa using e)
  exact⟨u,by simpa using h1,h2⟩
theorem cQ.at':∀{xs:List V} {ds:List D} {i:Nat} {x:V},cQ K G xs ds->xs[i]? =some x->∃d,ds[i]? =some d/\Rp K G x d
 |_,_,_,_,.nil,e=>by simp at e
 |_,_,0,_,.cons r _,e=>by simp at e;subst e;exact⟨_,rfl,r⟩
 |_,_,i + 1,x,.cons _ t,e=>by
  obtain⟨u,h1,h2⟩:=cQ.at' (i:=i) (x:=x) t (by simpa using e)
  exact⟨u,by simpa using h1,h2⟩
theorem cQ.append:∀{xs ys:List V} {ds es:List D},cQ K G xs ds->cQ K G ys es->cQ K G (xs ++ ys) (ds ++ es)
 |_,_,_,_,.nil,s=>s
 |_,_,_,_,.cons r t,s=>.cons r (cQ.append t s)
def cQ.snoc {xs:List V}{ds:List D}{x:V}{d:D}(h:cQ K G xs ds)(q:Rp K G x d):cQ K G (xs ++ [x]) (ds ++ [d]):=h.append (.cons q .nil)
theorem cQ.take:∀{xs:List V} {ds:List D} (n:Nat),cQ K G xs ds->cQ K G (xs.take n) (ds.take n)
 |_,_,0,_=>.nil
 |_,_,_ + 1,.nil=>.nil
 |_,_,n + 1,.cons r t=>.cons r (cQ.take n t)
theorem cQ.drop:∀{xs:List V} {ds:List D} (n:Nat),cQ K G xs ds->cQ K G (xs.drop n) (ds.drop n)
 |_,_,0,r=>r
 |_,_,_ + 1,.nil=>.nil
 |_,_,n + 1,.cons _ t=>cQ.drop n t
theorem cQ.set {x:V}{d:D}(r:Rp K G x d):∀{xs:List V} {ds:List D} (i:Nat),cQ K G xs ds->cQ K G (xs.set i x) (ds.set i d)
 |_,_,_,.nil=>.nil
 |_,_,0,.cons _ t=>.cons r t
 |_,_,i + 1,.cons q t=>.cons q (cQ.set r i t)
theorem cQ.rep {n:Nat}{xs:List V}{ds:List D}(h:cQ K G xs ds):cQ K G (List.replicate n xs).flatten (List.replicate n ds).flatten:=by
 induction n with
 |zero=>exact .nil
 |succ n ih=>rw[Pq,Pq,P4,P4];exact h.append ih
mutual
def Dr:D->Bool
 | .dict _=>false
 | .list ds=>sE ds
 | .tuple ds=>sE ds
 |_=>true
def sE:List D->Bool
 | []=>true
 |d :: ds=>Dr d && sE ds
end
mutual
theorem Rp.rep:∀{x:V} {d:D},Rp K G x d->Dr d=true->Rep K G x d
 |_,_,.non,_=>.non
 |_,_,.bl b,_=>.bl b
 |_,_,.int i,_=>.int i
 |_,_,.str x,_=>.str x
 |_,_,.tup h hs,e=>.tup h (cQ.reps hs (by simpa[Dr] using e))
 |_,_,.lst h hs,e=>.lst (.inl (.inl h)) (cQ.reps hs (by simpa[Dr] using e))
 |_,_,.scr _,e=>by simp[Dr] at e
 |_,_,.dK _ _,e=>by simp[Dr] at e
 |_,_,.dT _ _,e=>by simp[Dr] at e
theorem cQ.reps:∀{xs:List V} {ds:List D},cQ K G xs ds->sE ds=true->ll K G xs ds
 |_,_,.nil,_=>.nil
 |_,_,.cons h hs,e=>.cons (Rp.rep h (by simp[sE] at e;exact e.1)) (cQ.reps hs (by simp[sE] at e;exact e.2))
end
def Own (K:Frag)(G H:Hp)(a:Addr):D->Prop
 | .list ds=>∃xs,H a=some (.lst xs)/\cQ K G xs ds
 | .dict ds=>(∃kvs,H a=some (.dK kvs)/\BX K G kvs ds)\/∃kvs,H a=some (.dT kvs)/\BY K G kvs ds
 |_=>False
def Own.obj {a:Addr}{d:D}(h:Own K G H a d):∃o,H a=some o:=by
 cases d <;> first |exact h.elim |skip
 ·obtain⟨xs,e,_⟩:=h;exact⟨_,e⟩
 ·rcases h with⟨_,e,_⟩ | ⟨_,e,_⟩ <;> exact⟨_,e⟩
def Own.mono {a:Addr}{d:D}(h:Own K G H a d)(s:ar G G')(m:∀o,H a=some o->Kt H' a o):Own K G' H' a d:=by
 cases d <;> first |exact h.elim |skip
 ·obtain⟨xs,e,r⟩:=h;exact⟨xs,m _ e,r.mono s⟩
 ·rcases h with⟨k,e,r⟩ | ⟨k,e,r⟩
  ·exact .inl ⟨k,m _ e,r.mono s⟩
  ·exact .inr ⟨k,m _ e,r.mono s⟩
def Own.rp {a:Addr}{d:D}(h:Own K G H a d)(n:G a=none){G':Hp}(s:ar G G')(e:∀o,H a=some o->G' a=some o):Rp K G' (.ref a) d:=by
 cases d <;> first |exact h.elim |skip
 ·obtain⟨xs,q,r⟩:=h;exact .lst (e _ q) (r.mono s)
 ·rcases h with⟨k,q,r⟩ | ⟨k,q,r⟩
  ·exact .dK (e _ q) (r.mono s)
  ·exact .dT (e _ q) (r.mono s)
def mS (K:Frag)(B:@Ix)(G H:Hp)(v:V)(d:D):Prop:=Rp K G v d\/∃a,v=.ref a/\B≠some a/\Own K G H a d
def iw (B:@Ix)(H H':Hp):Prop:=(∀b o,H b=some o->B≠some b->Kt H' b o)/\∀b o u,H b=some (.aY o u)->H' b=some (.aY o u)
def iw.refl (B:@Ix)(H:Hp):iw B H H:=⟨λ_ _ h _=>Kt.of h,λ_ _ _ h=>h⟩
theorem x6 {B:@Ix}{b:Addr}{o:HO}(h1:Kt H b o)(y:iw B H H')(n:B≠some b):Kt H' b o:=by
 cases o with
 |tbl ps=>
  obtain⟨m,e,t,k⟩:=h1
  obtain⟨m2,e2,t2,k2⟩:=y.1 b _ e n
  refine⟨m ++ m2,by rw[e2,Array.append_assoc],by rw[Qg];exact t.app t2,λc hc=>?_⟩
  rw[Qg,OR] at hc
  rcases hc with hc |hc
  ·obtain⟨o,eo,io⟩:=k c hc;exact⟨o,y.2 c _ _ eo,io⟩
  ·exact k2 c hc
 |_=>exact y.1 b _ h1 n
def iw.trans {B:@Ix}{H1:Hp}(x:iw B H H1)(y:iw B H1 H'):iw B H H':=⟨λb o h n=>x6 (x.1 b o h n) y n,λb o u h=>y.2 b o u (x.2 b o u h)⟩
def ar.mov (s:ar H H')(B:@Ix):iw B H H':=⟨λb o h _=>s b o h,λb o u h=>s b _ h⟩
def mS.mono {B:@Ix}{v:V}{d:D}(h:mS K B G H v d)(s:ar G G')(m:iw B H H'):mS K B G' H' v d:=by
 rcases h with h | ⟨a,e,n,h⟩
 ·exact .inl (h.mono s)
 ·exact .inr ⟨a,e,n,h.mono s λo q=>m.1 a o q n⟩
def mS.rpH {B:@Ix}{v:V}{d:D}(h:mS K B G H v d)(s:ar G H):Rp K H v d:=by
 rcases h with h | ⟨a,rfl,n,h⟩
 ·exact h.mono s
 ·cases d <;> first |exact h.elim |skip
  ·obtain⟨xs,q,r⟩:=h;exact .lst q (r.mono s)
  ·rcases h with⟨k,q,r⟩ | ⟨k,q,r⟩
   ·exact .dK q (r.mono s)
   ·exact .dT q (r.mono s)
def mS.list {B:@Ix}{v:V}{ds:List D}(h:mS K B G H v (.list ds))(s:ar G H):∃a xs,v=.ref a/\Rd H a (.lst xs)/\cQ K G xs ds:=by
 rcases h with h | ⟨a,rfl,n,xs,q,r⟩
 ·cases h with
  |lst h r=>exact⟨_,_,rfl,.inl (s _ _ h),r⟩
 ·exact⟨a,xs,rfl,.inl q,r⟩
def mS.tuple {B:@Ix}{v:V}{ds:List D}(h:mS K B G H v (.tuple ds))(s:ar G H):∃a xs,v=.ref a/\hW K H a xs/\cQ K G xs ds:=by
 rcases h with h | ⟨a,rfl,n,h⟩
 ·cases h with
  |tup h r=>exact⟨_,_,rfl,h.grow s.grow,r⟩
 ·exact h.elim
def mS.int {B:@Ix}{v:V}{i:Int}(h:mS K B G H v (.int i)):v=.int i:=by
 rcases h with h | ⟨a,rfl,n,h⟩
 ·cases h;rfl
 ·exact h.elim
def mS.bool {B:@Ix}{v:V}{b:Bool}(h:mS K B G H v (.bool b)):v=.bl b:=by
 rcases h with h | ⟨a,rfl,n,h⟩
 ·cases h;rfl
 ·exact h.elim
def mS.str {B:@Ix}{v:V}{x:Str}(h:mS K B G H v (.str x)):v=.str x:=by
 rcases h with h | ⟨a,rfl,n,h⟩
 ·cases h;rfl
 ·exact h.elim
def mS.none {B:@Ix}{v:V}(h:mS K B G H v .none):v=.non:=by
 rcases h with h | ⟨a,rfl,n,h⟩
 ·cases h;rfl
 ·exact h.elim
end
def Fz:HO->Prop
 | .tup _=>True
 | .aY _ _=>True
 |_=>False
def Mx (H:Hp)(b:Addr):Prop:=H b≠none/\∀o,H b=some o->¬Fz o
def Mx.lst {H:Hp}{b:Addr}{xs:List V}(h:H b=some (.lst xs)):Mx H b:=⟨by rw[h];simp,λys z=>by rw[h] at z;cases z;exact λy=>y⟩
theorem Mx.same {H H':Hp}{b:Addr}(h:Mx H b)(m:∀o,H b=some o->Kt H' b o):Mx H' b:=by
 obtain⟨h1,h2⟩:=h
 cases e:H b with
 |none=>exact absurd e h1
 |some o=>
  obtain⟨u,eu,k1,k2⟩:=(m o e).some
  refine⟨by rw[eu];simp,λxs z=>?_⟩
  rw[eu] at z
  cases z
  by_cases c:∃ps,o=.tbl ps
  ·obtain⟨ps,e⟩:=k2 c;rw[e];exact λy=>y
  ·rw[k1 λps e=>c ⟨ps,e⟩];exact h2 o e
def Own.mx {K:Frag}{G H:Hp}{a:Addr}{d:D}(h:Own K G H a d):Mx H a:=by
 cases d <;> first |exact h.elim |skip
 ·obtain⟨xs,e,_⟩:=h;exact Mx.lst e
 ·rcases h with⟨k,e,_⟩ | ⟨k,e,_⟩ <;> exact⟨by rw[e];simp,λys z=>by rw[e] at z;cases z;exact λy=>y⟩
open Classical in
noncomputable def oR (G H:Hp):Hp:=λb=>match G b with
 |some o=>some o
 |none=>match H b with
  |some o=>if Fz o then some o else none
  |none=>none
def tJ {G H:Hp}:ar G (oR G H):=λb o e=>Kt.of (by unfold oR;rw[e])
theorem zD {G H:Hp}(s:ar G H){b:Addr}{o:HO}(e:H b=some o)(f:Fz o):oR G H b=some o:=by
 unfold oR
 cases q:G b with
 |some u=>
  obtain⟨u',eu,k1,k2⟩:=(s b u q).some
  rw[e] at eu
  cases eu
  by_cases c:∃ps,u=.tbl ps
  ·obtain⟨ps,z⟩:=k2 c;subst z;exact f.elim
  ·rw[k1 λps z=>c ⟨ps,z⟩]
 |none=>simp only[e];rw[Ov f]
theorem wJ {G H:Hp}(s:ar G H):ar (oR G H) H:=λb o e=>by
 unfold oR at e
 cases q:G b with
 |some u=>rw[q] at e;cases e;exact s b _ q
 |none=>
  rw[q] at e
  cases q2:H b with
  |none=>rw[q2] at e;cases e
  |some u=>
   rw[q2] at e
   dsimp only at e
   split at e
   ·cases e;exact Kt.of q2
   ·cases e
theorem zQ {G H H':Hp}(hh:ar H H'){b:Addr}(m:Mx H b):oR G H' b=G b:=by
 unfold oR
 cases q:G b with
 |some u=>rfl
 |none=>
  obtain⟨h1,h2⟩:=m
  cases e:H b with
  |none=>exact absurd e h1
  |some o=>
   have hm:=(show Mx H b from⟨h1,h2⟩).same (hh b)
   cases e2:H' b with
   |none=>rfl
   |some u=>simp only;rw[OA (hm.2 u e2)]
def rL {K:Frag}{G H:Hp}(s:ar G H){a:Addr}{xs:List V}(h:hW K H a xs):hW K (oR G H) a xs:=by
 rcases h with (h | ⟨o,h⟩) |h
 ·exact .inl (.inl (zD s h trivial))
 ·exact .inl (.inr ⟨o,zD s h trivial⟩)
 ·exact .inr h
structure Fx where
 K:Frag
 H0:Hp
 G0:Hp
 par:List Addr
 ca:Str->Addr
 br:Nat->Bool
 bx:@Ix
inductive Sl where
 |no |fz (d:D) |ow (d:D) |bx |br (d:D)
abbrev En:=List Sl
inductive Nv where
 |no |da (d:D) |bx
def Sl.val:Sl->Nv
 | .no=>.no
 | .fz d=>.da d
 | .ow d=>.da d
 | .br d=>.da d
 | .bx=>.bx
def vl (env:En):List Nv:=env.map Sl.val
def NN (Γ:Fx)(B:@Ix)(G H:Hp)(i:Nat)(o:Option (Option V)):Sl->Prop
 | .no=>True
 | .fz d=>∃v,o=some (some v)/\Rp Γ.K G v d
 | .ow d=>∃a,o=some (some (.ref a))/\Γ.H0 a=none/\G a=none/\B≠some a/\Own Γ.K G H a d
 | .bx=>∃a,o=some (some (.ref a))/\B=some a
 | .br d=>Γ.br i=true/\∃a,o=some (some (.ref a))/\B≠some a/\a∉Γ.par/\Own Γ.K G H a d
structure SR (Γ:Fx)(B:@Ix)(G H:Hp)(σ:St)(env:En)(β:Int):Prop where
 sub:ar G H
 old:ar Γ.G0 G
 new:∀b,Mx Γ.H0 b->Γ.G0 b=none->G b=none
 keep:∀b o,Γ.H0 b=some o->b∉Γ.par->Kt H b o
 pin:∀b,b∈Γ.par->Mx H b
 fix:∀b,Γ.bx=some b->B=some b
 box:∀b,B=some b->H b=some (.lst [.int β])/\G b=none/\(b∈Γ.par\/Γ.H0 b=none)
 len:σ.length=env.length
 slot:∀(i:Nat) (s:Sl),env[i]? =some s->NN Γ B G H i (σ[i]?) s
 sep:∀(i j:Nat) (a:Addr) (d e:D),env[i]? =some (.ow d)->env[j]? =some (.ow e)->σ[i]? =some (some (.ref a))->σ[j]? =some (some (.ref a))->i=j
structure Ext (G H G' H':Hp):Prop where
 hh:ar H H'
 gg:ar G G'
 gh:ar G' H'
 on:∀b,Mx H b->G' b=G b
def Ext.refl {G H:Hp}(s:ar G H):Ext G H G H:=⟨ar.refl _,ar.refl _,s,λ_ _=>rfl⟩
def Ext.tups {G H H':Hp}(s:ar G H)(hh:ar H H'):Ext G H (oR G H') H':=⟨hh,tJ,wJ (s.trans hh),λ_ m=>zQ hh m⟩
def Ext.new {G H:Hp}(s:ar G H){p:Addr}{o:HO}(h:H p=none):Ext G H (upd G p o) (upd H p o):=by
 refine⟨ar.new h,ar.new (s.free h),λb u e=>?_,λb hb=>?_⟩
 ·by_cases z:b=p
  ·subst z;rw[az] at e;exact Kt.of (by rw[az];exact e)
  ·rw[aE z] at e;exact jC (s b u e) z (λx y w=>by rw[h] at w;cases w)
 ·exact aE (λz=>hb.1 (by rw[z];exact h))
def Ext.own {G H:Hp}(s:ar G H){p:Addr}{o:HO}(h:H p=none):Ext G H G (upd H p o):=
 ⟨ar.new h,ar.refl _,s.trans (ar.new h),λ_ _=>rfl⟩
def Ext.trans {G H G1 H1 G2 H2:Hp}(x:Ext G H G1 H1)(y:Ext G1 H1 G2 H2):Ext G H G2 H2:=by
 refine⟨x.hh.trans y.hh,x.gg.trans y.gg,y.gh,λb hb=>?_⟩
 rw[y.on b (hb.same λo e=>x.hh b o e),x.on b hb]
section
variable {Γ:Fx}{B:@Ix}{G H G' H':Hp}{σ:St}{env:En}{β:Int}
def SR.there (I:@GT){b:Addr}(h:Γ.H0 b≠none):H b≠none:=by
 by_cases hp:b∈Γ.par
 ·exact (I.pin b hp).1
 ·cases e:Γ.H0 b with
  |none=>exact absurd e h
  |some o=>obtain⟨u,eu,_⟩:=(I.keep b o e hp).some;rw[eu];simp
def SR.thereM (I:@GT){b:Addr}(h:Mx Γ.H0 b):Mx H b:=by
 by_cases hp:b∈Γ.par
 ·exact I.pin b hp
 ·exact h.same λo e=>I.keep b o e hp
def SR.ext (I:@GT)(x:Ext G H G' H'):SR Γ B G' H' σ env β:=by
 refine⟨x.gh,I.old.trans x.gg,λb h1 h2=>?_,λb o h1 h2=>(I.keep b o h1 h2).step x.hh,λb hb=>?_,I.fix,λb e=>?_,I.len,λi s e=>?_,I.sep⟩
 ·rw[x.on b (I.thereM h1)];exact I.new b h1 h2
 ·exact (I.pin b hb).same λo e=>x.hh b o e
 ·obtain⟨h1,h2,h3⟩:=I.box b e
  exact⟨x.hh b _ h1,by rw[x.on b (Mx.lst h1)];exact h2,h3⟩
 ·have q:=I.slot i s e
  cases s with
  |no=>trivial
  |fz d=>obtain⟨v,h1,h2⟩:=q;exact⟨v,h1,h2.mono x.gg⟩
  |ow d=>
   obtain⟨a,h1,h2,h3,h4,h5⟩:=q
   exact⟨a,h1,h2,by rw[x.on a h5.mx];exact h3,h4,h5.mono x.gg λo q=>x.hh a o q⟩
  |bx=>exact q
  |br d=>obtain⟨b1,a,h1,h4,hp,h5⟩:=q;exact⟨b1,a,h1,h4,hp,h5.mono x.gg λo q=>x.hh a o q⟩
def gX (env:En)(i:Nat):En:=match env[i]? with
 |some (.ow d)=>env.set i (.fz d)
 |_=>env
def aY (L:@G_)(env:En):En:=L.foldl gX env
def cA (L M:@G_)(env:En):aY (L ++ M) env=aY M (aY L env):=by unfold aY;rw[List.foldl_append]
def yL (env:En)(i:Nat)(s:Sl)(h:∀t,env[i]? =some t->t.val=s.val):vl (env.set i s)=vl env:=by
 unfold vl
 apply List.ext_getElem?
 intro j
 rw[OK,OK,List.getElem?_set]
 by_cases e:i=j
 ·subst e
  by_cases hi:i < env.length
  ·simp only[PL,hi]
   have:=h _ (Ot hi)
   simp[Ot hi,this]
  ·simp only[PL,hi,PZ]
   rw[PY (@AT)]
 ·simp[e]
def Fy (env:En)(i:Nat):vl (gX env i)=vl env:=by
 unfold gX
 split
 ·rename_i d e
  exact yL _ _ _ λt ht=>by rw[e] at ht;cases ht;rfl
 ·rfl
theorem dS (L:@G_)(env:En):vl (aY L env)=vl env:=by
 unfold aY
 induction L generalizing env with
 |nil=>rfl
 |cons i L ih=>rw[List.foldl_cons,ih,Fy]
theorem Eg {i:Nat}{d:D}(h:(vl env)[i]? =some (.da d)):env[i]? =some (.fz d)\/env[i]? =some (.ow d)\/env[i]? =some (.br d):=by
 unfold vl at h
 rw[OK] at h
 cases e:env[i]? with
 |none=>rw[e] at h;simp at h
 |some s=>
  rw[e] at h
  cases s with
  |no=>simp[Sl.val] at h
  |fz d'=>simp[Sl.val] at h;subst h;exact .inl rfl
  |ow d'=>simp[Sl.val] at h;subst h;exact .inr (.inl rfl)
  |bx=>simp[Sl.val] at h
  |br d'=>simp[Sl.val] at h;subst h;exact .inr (.inr rfl)
theorem K1 {i:Nat}(h:(vl env)[i]? =some .bx):env[i]? =some .bx:=by
 unfold vl at h
 rw[OK] at h
 cases e:env[i]? with
 |none=>rw[e] at h;simp at h
 |some s=>
  rw[e] at h
  cases s with
  |bx=>rfl
  |_=>simp[Sl.val] at h
def SR.freeze (I:@GT)(i:Nat)(hb:Γ.br i=false){d:D}(h:(vl env)[i]? =some (.da d)):∃G' v,SR Γ B G' H σ (gX env i) β/\ar G G'/\σ[i]? =some (some v)/\Rp Γ.K G' v d:=by
 rcases Eg h with e |e |e
 ·obtain⟨v,h1,h2⟩:=I.slot i _ e
  exact⟨G,v,by unfold gX;rw[e];exact I,ar.refl _,h1,h2⟩
 rotate_left
 ·obtain⟨z,_⟩:=I.slot i _ e
  rw[hb] at z;cases z
 ·obtain⟨a,h1,h2,h3,h4,h5⟩:=I.slot i _ e
  obtain⟨o,ho⟩:=h5.obj
  have sG:ar G (upd G a o):=ar.new h3
  have hi:i < env.length:=(Oy.mp e).1
  have hr:Rp Γ.K (upd G a o) (.ref a) d:=h5.rp h3 sG λo' q=>by rw[ho] at q;cases q;exact az
  refine⟨upd G a o,.ref a,?_,sG,h1,hr⟩
  unfold gX
  rw[e]
  refine⟨λb u q=>?_,I.old.trans sG,λb n1 n2=>?_,I.keep,I.pin,I.fix,λb q=>?_,by rw[PQ];exact I.len,λj s q=>?_,λj k c d1 d2 q1 q2 q3 q4=>?_⟩
  ·by_cases z:b=a
   ·subst z;rw[az] at q;cases q;exact Kt.of ho
   ·rw[aE z] at q;exact I.sub b u q
  ·rw[aE (λz=>n1.1 (by rw[z];exact h2))];exact I.new b n1 n2
  ·obtain⟨k1,k2,k3⟩:=I.box b q
   exact⟨k1,by rw[aE (λz=>h4 (by rw[<-z];exact q))];exact k2,k3⟩
  ·by_cases z:j=i
   ·subst z
    rw[OJ hi] at q
    cases q
    exact⟨.ref a,h1,hr⟩
   ·rw[OL (Ne.symm z)] at q
    have w:=I.slot j s q
    cases s with
    |no=>trivial
    |fz d'=>obtain⟨v,w1,w2⟩:=w;exact⟨v,w1,w2.mono sG⟩
    |ow d'=>
     obtain⟨c,w1,w2,w3,w4,w5⟩:=w
     have ca:c≠a:=λz2=>z (I.sep j i c d' d q e w1 (by rw[z2];exact h1))
     exact⟨c,w1,w2,by rw[aE ca];exact w3,w4,w5.mono sG λo q=>Kt.of q⟩
    |bx=>exact w
    |br d'=>obtain⟨b1,c,w1,w4,wp,w5⟩:=w;exact⟨b1,c,w1,w4,wp,w5.mono sG λo q=>Kt.of q⟩
  ·have ne:∀{j:Nat} {d':D},(env.set i (Sl.fz d))[j]? =some (.ow d')->env[j]? =some (.ow d'):=λ{j d'} q=>by
    by_cases z:j=i
    ·subst z;rw[OJ hi] at q;cases q
    ·rw[OL (Ne.symm z)] at q;exact q
   exact I.sep j k c d1 d2 (ne q1) (ne q2) q3 q4
theorem SR.aY (I:@GT)(L:@G_)(hb:∀i,i∈L->Γ.br i=false):∃G',SR Γ B G' H σ (aY L env) β/\ar G G':=by
 induction L generalizing env G with
 |nil=>exact⟨G,I,ar.refl _⟩
 |cons i L ih=>
  show ∃G',SR Γ B G' H σ (L2.aY L (gX env i)) β/\ar G G'
  have key:∃G1,SR Γ B G1 H σ (gX env i) β/\ar G G1:=by
   cases e:env[i]? with
   |none=>exact⟨G,by unfold gX;rw[e];exact I,ar.refl _⟩
   |some s=>
    cases s with
    |ow d=>
     obtain⟨G1,v,h1,h2,_⟩:=I.freeze i (hb i (OH ..)) (d:=d) (by unfold vl;rw[OK,e];rfl)
     exact⟨G1,h1,h2⟩
    |_=>exact⟨G,by unfold gX;rw[e];exact I,ar.refl _⟩
  obtain⟨G1,I1,s1⟩:=key
  obtain⟨G2,I2,s2⟩:=ih I1 λj hj=>hb j (OF _ hj)
  exact⟨G2,I2,s1.trans s2⟩
def SR.set (I:@GT){i:Nat}(hi:i < env.length){v:V}{d:D}(h:Rp Γ.K G v d):SR Γ B G H (σ.set i (some v)) (env.set i (.fz d)) β:=by
 have hs:i < σ.length:=by rw[I.len];exact hi
 refine⟨I.sub,I.old,I.new,I.keep,I.pin,I.fix,I.box,by rw[PQ,PQ];exact I.len,λj s q=>?_,λj k c d1 d2 q1 q2 q3 q4=>?_⟩
 ·by_cases z:j=i
  ·subst z
   rw[OJ hi] at q
   cases q
   exact⟨v,by rw[OJ hs],h⟩
  ·rw[OL (Ne.symm z)] at q ⊢
   exact I.slot j s q
 ·have ne:∀{j:Nat} {d':D},(env.set i (Sl.fz d))[j]? =some (.ow d')->j≠i/\env[j]? =some (.ow d'):=λ{j d'} q=>by
   by_cases z:j=i
   ·subst z;rw[OJ hi] at q;cases q
   ·rw[OL (Ne.symm z)] at q;exact⟨z,q⟩
  obtain⟨n1,e1⟩:=ne q1
  obtain⟨n2,e2⟩:=ne q2
  rw[OL (Ne.symm n1)] at q3
  rw[OL (Ne.symm n2)] at q4
  exact I.sep j k c d1 d2 e1 e2 q3 q4
def SR.setOw (I:@GT){i:Nat}(hi:i < env.length){a:Addr}{d:D}(h0:Γ.H0 a=none)(hg:G a=none)(hb:B≠some a)(h:Own Γ.K G H a d)(hn:∀(j:Nat) (d':D),env[j]? =some (.ow d')->j≠i->σ[j]?≠some (some (.ref a))):SR Γ B G H (σ.set i (some (.ref a))) (env.set i (.ow d)) β:=by
 have hs:i < σ.length:=by rw[I.len];exact hi
 refine⟨I.sub,I.old,I.new,I.keep,I.pin,I.fix,I.box,by rw[PQ,PQ];exact I.len,λj s q=>?_,λj k c d1 d2 q1 q2 q3 q4=>?_⟩
 ·by_cases z:j=i
  ·subst z
   rw[OJ hi] at q
   cases q
   exact⟨a,by rw[OJ hs],h0,hg,hb,h⟩
  ·rw[OL (Ne.symm z)] at q ⊢
   exact I.slot j s q
 ·by_cases z1:j=i
  ·by_cases z2:k=i
   ·rw[z1,z2]
   ·subst z1
    rw[OL (Ne.symm z2)] at q2 q4
    rw[OJ hs] at q3
    cases q3
    exact absurd q4 (hn k d2 q2 z2)
  ·by_cases z2:k=i
   ·subst z2
    rw[OL (Ne.symm z1)] at q1 q3
    rw[OJ hs] at q4
    cases q4
    exact absurd q3 (hn j d1 q1 z1)
   ·rw[OL (Ne.symm z1)] at q1 q3
    rw[OL (Ne.symm z2)] at q2 q4
    exact I.sep j k c d1 d2 q1 q2 q3 q4
def SR.fresh (I:@GT){a:Addr}(h:H a=none):Γ.H0 a=none/\G a=none/\B≠some a/\∀(j:Nat) (d:D),env[j]? =some (.ow d)->σ[j]?≠some (some (.ref a)):=by
 have hB:B≠some a:=λz=>by rw[(I.box a z).1] at h;cases h
 refine⟨?_,I.sub.free h,hB,λj d e z=>?_⟩
 ·cases e:Γ.H0 a with
  |none=>rfl
  |some o=>exact absurd h (I.there (by rw[e];simp))
 ·obtain⟨c,h1,_,_,_,h5⟩:=I.slot j _ e
  rw[z] at h1
  cases h1
  obtain⟨o,ho⟩:=h5.obj
  rw[h] at ho;cases ho
def SR.write (I:@GT)(hb:∀j,Γ.br j=false){i:Nat}{a:Addr}{d d':D}{o:HO}(e:env[i]? =some (.ow d))(ea:σ[i]? =some (some (.ref a)))(h:∀H',H' a=some o->ar G H'->Own Γ.K G H' a d'):SR Γ B G (upd H a o) σ (env.set i (.ow d')) β:=by
 obtain⟨a',h1,h2,h3,h4,h5⟩:=I.slot i _ e
 rw[ea] at h1;cases h1
 have hi:i < env.length:=(Oy.mp e).1
 have ha:∀x y,H a≠some (.aY x y):=λx y w=>h5.mx.2 _ w trivial
 have sub:ar G (upd H a o):=λb u q=>jC (I.sub b u q) (λz=>by rw[z,h3] at q;cases q) ha
 refine⟨sub,I.old,I.new,λb u q n=>?_,λb q=>?_,I.fix,λb q=>?_,by rw[PQ];exact I.len,λj s q=>?_,λj k c d1 d2 q1 q2 q3 q4=>?_⟩
 ·exact jC (I.keep b u q n) (λz=>by rw[z,h2] at q;cases q) ha
 ·by_cases z:b=a
  ·subst z;exact (h _ az sub).mx
  ·exact (I.pin b q).same λo e=>Kt.of (by rw[aE z];exact e)
 ·obtain⟨k1,k2,k3⟩:=I.box b q
  exact⟨by rw[aE (λz=>h4 (by rw[<-z];exact q))];exact k1,k2,k3⟩
 ·by_cases z:j=i
  ·subst z
   rw[OJ hi] at q
   cases q
   exact⟨a,ea,h2,h3,h4,h _ az sub⟩
  ·rw[OL (Ne.symm z)] at q
   have w:=I.slot j s q
   cases s with
   |no=>trivial
   |fz d1=>exact w
   |ow d1=>
    obtain⟨c,w1,w2,w3,w4,w5⟩:=w
    have ca:c≠a:=λz2=>z (I.sep j i c d1 d q e w1 (by rw[z2];exact ea))
    exact⟨c,w1,w2,w3,w4,w5.mono (ar.refl _) λo q=>Kt.of (by rw[aE ca];exact q)⟩
   |bx=>exact w
   |br d1=>obtain⟨b1,_⟩:=w;rw[hb j] at b1;cases b1
 ·have back:∀{j:Nat} {d1:D},(env.set i (Sl.ow d'))[j]? =some (.ow d1)->∃d2,env[j]? =some (.ow d2):=λ{j d1} q=>by
   by_cases z:j=i
   ·subst z;exact⟨d,e⟩
   ·rw[OL (Ne.symm z)] at q;exact⟨d1,q⟩
  obtain⟨_,b1⟩:=back q1
  obtain⟨_,b2⟩:=back q2
  exact I.sep j k c _ _ b1 b2 q3 q4
end
inductive R (α:Type) where
 |ok (a:α) (β:Int)
 |exc (c:Str)
 |bad
def R.bnd {α γ:Type}(r:R α)(k:α->Int->R γ):R γ:=match r with
 | .ok a β=>k a β
 | .exc c=>.exc c
 | .bad=>.bad
def R.of {α:Type}(o:Option α)(β:Int):R α:=match o with
 |some a=>.ok a β
 |none=>.bad
abbrev VF (α:Type):=List Nv->Int->R α
def Kp (Γ:Fx)(H':Hp):Prop:=∀b o,Γ.H0 b=some o->b∉Γ.par->Kt H' b o
def Out {α:Type}(Γ:Fx)(E:XK)(r:R α)(P:α->Int->Prop):Prop:=match r with
 | .ok a β=>P a β
 | .exc c=>∀H',Kp Γ H'->E (.ref (Γ.ca c)) none H'
 | .bad=>False
section
variable {α γ:Type}{Γ:Fx}{E:XK}
theorem Out.bnd {r:R α}{k:α->Int->R γ}{P:γ->Int->Prop}(h:Out Γ E (r.bnd k) P):Out Γ E r λa β=>Out Γ E (k a β) P:=by
 cases r with
 |ok a β=>exact h
 |exc c=>exact h
 |bad=>exact h
theorem Out.imp {r:R α}{P P':α->Int->Prop}(h:Out Γ E r P)(i:∀a β,P a β->P' a β):Out Γ E r P':=by
 cases r with
 |ok a β=>exact i a β h
 |exc c=>exact h
 |bad=>exact h
theorem Out.of {o:Option α}{β:Int}{P:α->Int->Prop}(h:Out Γ E (R.of o β) P):∃a,o=some a/\P a β:=by
 cases o with
 |none=>exact h.elim
 |some a=>exact⟨a,rfl,h⟩
end
inductive Md where
 |b |v |w
def VO (K:Frag)(B:@Ix)(H G' H':Hp):Md->D->V->Prop
 | .b,d,v=>mS K B G' H' v d
 | .v,d,v=>Rp K G' v d
 | .w,d,v=>∃a,v=.ref a/\H a=none/\G' a=none/\Own K G' H' a d
def pT (Γ:Fx)(E:XK)(f:VF D)(L:@G_)(md:Md):TE:=λσ H Q=>∃env G B β,@GT/\
 Out Γ E (f (vl env) β) λd β'=>∀v G' H',SR Γ B G' H' σ (aY L env) β'->ar G G'->iw B H H'->VO Γ.K B H G' H' md d v->Q v H'
def SE (X:Cx)(Γ:Fx)(E:XK)(e:Expr)(f:VF D)(L:@G_)(md:Md):Prop:=PE X e (pT Γ E f L md)
def qT (Γ:Fx)(E:XK)(f:VF Bool)(L:@G_):TT:=λσ H Q=>∃env G B β,@GT/\
 Out Γ E (f (vl env) β) λc β'=>∀G' H',SR Γ B G' H' σ (aY L env) β'->ar G G'->iw B H H'->Q c H'
def zy (X:Cx)(Γ:Fx)(E:XK)(e:Expr)(f:VF Bool)(L:@G_):Prop:=PT X e (qT Γ E f L)
def vT (X:Cx)(Γ:Fx)(E:XK)(e:Expr)(f:VF Bool)(L:@G_):Prop:=PW X e (qT Γ E f L)
def aT (Γ:Fx)(E:XK)(f:VF (List D))(L:@G_):TA:=λσ H Q=>∃env G B β,@GT/\
 Out Γ E (f (vl env) β) λds β'=>∀vs G' H',SR Γ B G' H' σ (aY L env) β'->ar G G'->iw B H H'->cQ Γ.K G' vs ds->Q vs H'
def SA (X:Cx)(Γ:Fx)(E:XK)(es:List Expr)(f:VF (List D))(L:@G_):Prop:=PA X es (aT Γ E f L)
def PE.post' {X:Cx}{e:Expr}{t u:TE}(h:PE X e t)(m:∀σ H Q,u σ H Q->t σ H Q):PE X e u:=λpins s σ H Q I q=>h pins s σ H Q I (m σ H Q q)
def PT.post {X:Cx}{e:Expr}{t u:TT}(h:PT X e t)(m:∀σ H Q,u σ H Q->t σ H Q):PT X e u:=λpins s σ H Q I q=>h pins s σ H Q I (m σ H Q q)
def PW.post {X:Cx}{e:Expr}{t u:TT}(h:PW X e t)(m:∀σ H Q,u σ H Q->t σ H Q):PW X e u:=λwh pins s σ H Q I q=>h wh pins s σ H Q I (m σ H Q q)
def PA.post {X:Cx}{es:List Expr}{t u:TA}(h:PA X es t)(m:∀σ H Q,u σ H Q->t σ H Q):PA X es u:=λpos pins s σ H Q I q=>h pos pins s σ H Q I (m σ H Q q)
def PS.post {X:Cx}{st:Stmt}{t u:TS}(h:PS X st t)(m:∀D σ H,u D σ H->t D σ H):PS X st u:=λpins s σ H D I q=>h pins s σ H D I (m D σ H q)
def dat:Option Nv->Option D
 |some (.da d)=>some d
 |_=>none
def gv (i:Nat):VF D:=λvs β=>R.of (dat vs[i]?) β
def cst (d:D):VF D:=λ_ β=>.ok d β
section
variable {X:Cx}{Γ:Fx}{E:XK}{e a b c:Expr}{f fa fb fc:VF D}{L La Lb Lc:@G_}{md ma mb mc:Md}{pos:Pos}
theorem join_some {o:Option Nv}{d:D}(h:dat o=some d):o=some (.da d):=by
 cases o with
 |none=>cases h
 |some o=>cases o with
  |da x=>cases h;rfl
  |_=>cases h
def SR.letIn {B:@Ix}{G H:Hp}{σ:St}{env:En}{β:Int}(I:@GT){p:Addr}{d:D}(h0:Γ.H0 p=none)(hg:G p=none)(hb:B≠some p)(hn:∀(j:Nat) (d':D),env[j]? =some (.ow d')->σ[j]?≠some (some (.ref p)))(h:Own Γ.K G H p d) :
  ∃G',SR Γ B G' H σ env β/\ar G G'/\Rp Γ.K G' (.ref p) d:=by
 obtain⟨o,ho⟩:=h.obj
 have sG:ar G (upd G p o):=ar.new hg
 refine⟨upd G p o,⟨λb u q=>?_,I.old.trans sG,λb n1 n2=>?_,I.keep,I.pin,I.fix,λb q=>?_,I.len,λj s q=>?_,I.sep⟩,sG,h.rp hg sG λo' q=>by rw[ho] at q;cases q;exact az⟩
 ·by_cases z:b=p
  ·subst z;rw[az] at q;cases q;exact Kt.of ho
  ·rw[aE z] at q;exact I.sub b u q
 ·rw[aE (λz=>n1.1 (by rw[z];exact h0))];exact I.new b n1 n2
 ·obtain⟨k1,k2,k3⟩:=I.box b q
  exact⟨k1,by rw[aE (λz=>hb (by rw[<-z];exact q))];exact k2,k3⟩
 ·have w:=I.slot j s q
  cases s with
  |no=>trivial
  |fz d'=>obtain⟨v,w1,w2⟩:=w;exact⟨v,w1,w2.mono sG⟩
  |ow d'=>
   obtain⟨c,w1,w2,w3,w4,w5⟩:=w
   have ca:c≠p:=λz2=>hn j d' q (by rw[<-z2];exact w1)
   exact⟨c,w1,w2,by rw[aE ca];exact w3,w4,w5.mono sG λo q=>Kt.of q⟩
  |bx=>exact w
  |br d'=>obtain⟨b1,c,w1,w4,wp,w5⟩:=w;exact⟨b1,c,w1,w4,wp,w5.mono sG λo q=>Kt.of q⟩
def vf {env:En}{i j:Nat}{d:D}(h:(gX env i)[j]? =some (.ow d)):env[j]? =some (.ow d):=by
 unfold gX at h
 split at h
 ·rename_i d' e
  by_cases z:i=j
  ·subst z
   rw[OJ (Oy.mp e).1] at h;cases h
  ·rw[OL z] at h;exact h
 ·exact h
theorem rP {L:@G_}{env:En}{j:Nat}{d:D}(h:(aY L env)[j]? =some (.ow d)):env[j]? =some (.ow d):=by
 unfold aY at h
 induction L generalizing env with
 |nil=>exact h
 |cons i L ih=>exact vf (ih h)
def SR.letW {B:@Ix}{G H G' H':Hp}{σ:St}{env:En}{β β':Int}{L:@G_}{d:D}{v:V}(I:@GT)(I':SR Γ B G' H' σ (L2.aY L env) β')(h:VO Γ.K B H G' H' .w d v):∃G2,SR Γ B G2 H' σ (L2.aY L env) β'/\ar G' G2/\Rp Γ.K G2 v d:=by
 obtain⟨p,rfl,h1,h2,h3⟩:=h
 obtain⟨q1,q2,q3,q4⟩:=I.fresh h1
 exact I'.letIn q1 h2 q3 (λj d' e=>q4 j d' (rP e)) h3
def SE.wv (h:SE X Γ E e f L .w):SE X Γ E e f L .v:=by
 refine PE.post' h λσ H Q ⟨env,G,B,β,I,o⟩=>⟨env,G,B,β,I,o.imp λd β' k v G' H' I' s m vo=>?_⟩
 obtain⟨G2,I2,s2,r⟩:=I.letW I' vo
 exact k v G2 H' I2 (s.trans s2) m r
theorem VO.brw {B:@Ix}{H G' H':Hp}{d:D}{v:V}{K:Frag}(h:VO K B H G' H' md d v)(hB:∀x,B=some x->H x≠none):mS K B G' H' v d:=by
 cases md with
 |b=>exact h
 |v=>exact .inl h
 |w=>
  obtain⟨p,rfl,h1,h2,h3⟩:=h
  exact .inr ⟨p,rfl,λz=>hB p z h1,h3⟩
def SR.boxThere {B:@Ix}{G H:Hp}{σ:St}{env:En}{β:Int}(I:@GT):∀x,B=some x->H x≠none:=λx e=>by rw[(I.box x e).1];simp
def ak (i:Nat){x:Str}(hN:X.N[i]? =some x:=by rfl)(hv:vS X.env.scope x:=by first |exact Or.inl rfl |exact Or.inr (Or.inl rfl) |exact Or.inr (Or.inr rfl))(hd:@FS:=by decide)
  (hcd:(x == ("__classdict__":Str))=false:=by decide):SE X Γ E (.Name x pos) (gv i) [] .b:=by
 refine PE.post' (ip hN hv hd hcd) λσ H Q ⟨env,G,B,β,I,o⟩=>?_
 obtain⟨d,e,k⟩:=o.of
 have e:=join_some e
 rcases Eg e with q |q |q
 ·obtain⟨v,h1,h2⟩:=I.slot i _ q
  exact⟨v,h1,k v G H I (ar.refl _) (iw.refl _ _) (.inl h2)⟩
 ·obtain⟨p,h1,h2,h3,h4,h5⟩:=I.slot i _ q
  exact⟨.ref p,h1,k _ G H I (ar.refl _) (iw.refl _ _) (.inr ⟨p,rfl,h4,h5⟩)⟩
 ·obtain⟨_,p,h1,h4,_,h5⟩:=I.slot i _ q
  exact⟨.ref p,h1,k _ G H I (ar.refl _) (iw.refl _ _) (.inr ⟨p,rfl,h4,h5⟩)⟩
def aq (i:Nat)(hb:Γ.br i=false){x:Str}(hN:X.N[i]? =some x:=by rfl)(hv:vS X.env.scope x:=by first |exact Or.inl rfl |exact Or.inr (Or.inl rfl) |exact Or.inr (Or.inr rfl))(hd:@FS:=by decide)
  (hcd:(x == ("__classdict__":Str))=false:=by decide):SE X Γ E (.Name x pos) (gv i) [i] .v:=by
 refine PE.post' (ip hN hv hd hcd) λσ H Q ⟨env,G,B,β,I,o⟩=>?_
 obtain⟨d,e,k⟩:=o.of
 obtain⟨G',v,I',s,h1,h2⟩:=I.freeze i hb (join_some e)
 exact⟨v,h1,k v G' H I' s (iw.refl _ _) h2⟩
def Dt {v:V}{d:D}(h:PE X e (tC v))(r:∀G,Rp Γ.K G v d):SE X Γ E e (cst d) [] .v:=by
 refine PE.post' h λσ H Q ⟨env,G,B,β,I,o⟩=>?_
 exact o v G H I (ar.refl _) (iw.refl _ _) (r G)
def ax {i:Int}{j}:SE X Γ E (.Constant (.int i) j pos) (cst (.int i)) [] .v:=Dt pB λ_=>.int i
def jT {i:Bool}{j}:SE X Γ E (.Constant (.bool i) j pos) (cst (.bool i)) [] .v:=Dt vW λ_=>.bl i
def qN {j}:SE X Γ E (.Constant .none j pos) (cst .none) [] .v:=Dt JM λ_=>.non
def jJ {x:Str}{j}:SE X Γ E (.Constant (.str x) j pos) (cst (.str x)) [] .v:=Dt Cd λ_=>.str x
def zY {x:Str}{i:Int}{t:Tok}(hg:Gl X x)(hm:X.mg x=some (.int i t))(hd:@FS:=by decide):SE X Γ E (.Name x pos) (cst (.int i)) [] .v:=Dt (cz hg hm (show RelV (.int i) _ from⟨_,rfl⟩) hd) λ_=>.int i
def two {W:V->V->Hp->Prop}{B:@Ix}{G H:Hp}{σ:St}{env:En}{β:Int}(I:@GT)
  (h:Out Γ E (fa (vl env) β) λd1 β1=>Out Γ E (fb (vl env) β1) λd2 β2=>∀x y G2 H2,SR Γ B G2 H2 σ (aY (La ++ Lb) env) β2->ar G G2->iw B H H2->mS Γ.K B G2 H2 x d1->mS Γ.K B G2 H2 y d2->W x y H2) :
  pT Γ E fa La ma σ H λx H1=>pT Γ E fb Lb mb σ H1 λy H2=>W x y H2:=by
 refine⟨env,G,B,β,I,h.imp λd1 β1 h x G1 H1 I1 s1 m1 vx=>⟨aY La env,G1,B,β1,I1,?_⟩⟩
 rw[dS]
 refine h.imp λd2 β2 k y G2 H2 I2 s2 m2 vy=>?_
 refine k x y G2 H2 (by rw[cA];exact I2) (s1.trans s2) (m1.trans m2) ((vx.brw I.boxThere).mono s2 m2) (vy.brw I1.boxThere)
def nj (K:Frag)(r:R2)(g:D->D->Option D)(md:Md):Prop:=∀(B:@Ix) (G H:Hp) (x y:V) (dx dy d:D) (Q:VK),ar G H->(∀x,B=some x->H x≠none)->mS K B G H x dx->mS K B G H y dy->g dx dy=some d->
 (∀v G' H',Ext G H G' H'->VO K B H G' H' md d v->Q v H')->r x y H Q
def f2 (fa fb:VF D)(g:D->D->Option D):VF D:=λvs β=>(fa vs β).bnd λx β1=>(fb vs β1).bnd λy β2=>R.of (g x y) β2
theorem fu {B:@Ix}{H H2:Hp}(m:iw B H H2)(hB:∀x,B=some x->H2 x≠none){p:Addr}(h:H2 p=none):H p=none:=by
 cases e:H p with
 |none=>rfl
 |some o=>obtain⟨u,eu,_⟩:=(m.1 p o e λz=>hB p z h).some;rw[eu] at h;cases h
theorem VO.back {K:Frag}{B:@Ix}{H H2 G' H':Hp}{d:D}{v:V}(h:VO K B H2 G' H' md d v)(m:iw B H H2)(hB:∀x,B=some x->H2 x≠none):VO K B H G' H' md d v:=by
 cases md with
 |b=>exact h
 |v=>exact h
 |w=>obtain⟨p,e,h1,h2,h3⟩:=h;exact⟨p,e,fu m hB h1,h2,h3⟩
def oq {r:R2}{g:D->D->Option D}{Q:VK}(pr:nj Γ.K r g md){B:@Ix}{G H:Hp}{σ:St}{env:En}{β:Int}(I:@GT)
  (h:Out Γ E (f2 fa fb g (vl env) β) λd β'=>∀v G' H',SR Γ B G' H' σ (aY (La ++ Lb) env) β'->ar G G'->iw B H H'->VO Γ.K B H G' H' md d v->Q v H') :
  pT Γ E fa La ma σ H λx H1=>pT Γ E fb Lb mb σ H1 λy H2=>r x y H2 Q:=by
 refine two I (h.bnd.imp λd1 β1 h=>h.bnd.imp λd2 β2 h x y G2 H2 I2 s2 m2 bx by'=>?_)
 obtain⟨d,e,k⟩:=h.of
 refine pr B G2 H2 x y d1 d2 d Q I2.sub I2.boxThere bx by' e λv G' H' x' vo=>?_
 exact k v G' H' (I2.ext x') (s2.trans x'.gg) (m2.trans (x'.hh.mov B)) (vo.back m2 I2.boxThere)
def bL {op:Operator}{r:R2}{g:D->D->Option D}(ho:kW X (binaryOp op) r)(pr:nj Γ.K r g md)(ha:SE X Γ E a fa La ma)(hb:SE X Γ E b fb Lb mb):SE X Γ E (.BinOp a op b pos) (f2 fa fb g) (La ++ Lb) md:=
 PE.post' (oF ho ha hb) λσ H Q ⟨env,G,B,β,I,o⟩=>oq pr I o
def ig {op:CmpOp}{r:R2}{g:D->D->Option D}(ho:kW X (compareOp op) r)(pr:nj Γ.K r g md)(ha:SE X Γ E a fa La ma)(hb:SE X Γ E b fb Lb mb)(hm:behindInMarks op b=false):SE X Γ E (.Compare a [op] [b] pos) (f2 fa fb g) (La ++ Lb) md:=
 PE.post' (u4 ho ha hb hm) λσ H Q ⟨env,G,B,β,I,o⟩=>oq pr I o
def bc {r:R2}{g:D->D->Option D}(hr:Ej X r)(pr:nj Γ.K r g md)(ha:SE X Γ E a fa La ma)(hb:SE X Γ E b fb Lb mb)(hs:Au b):SE X Γ E (.Subscript a b pos) (f2 fa fb g) (La ++ Lb) md:=
 PE.post' (mX hr ha hb hs) λσ H Q ⟨env,G,B,β,I,o⟩=>oq pr I o
def D9 (K:Frag)(r:V->Hp->VK->Prop)(g:D->Option D)(md:Md):Prop:=∀(B:@Ix) (G H:Hp) (x:V) (dx d:D) (Q:VK),ar G H->(∀x,B=some x->H x≠none)->mS K B G H x dx->g dx=some d->
 (∀v G' H',Ext G H G' H'->VO K B H G' H' md d v->Q v H')->r x H Q
def f1 (fa:VF D)(g:D->Option D):VF D:=λvs β=>(fa vs β).bnd λx β1=>R.of (g x) β1
def mr {r:V->Hp->VK->Prop}{g:D->Option D}{Q:VK}(pr:D9 Γ.K r g md){B:@Ix}{G H:Hp}{σ:St}{env:En}{β:Int}(I:@GT)
  (h:Out Γ E (f1 fa g (vl env) β) λd β'=>∀v G' H',SR Γ B G' H' σ (aY La env) β'->ar G G'->iw B H H'->VO Γ.K B H G' H' md d v->Q v H') :
  pT Γ E fa La ma σ H λx H1=>r x H1 Q:=by
 refine⟨env,G,B,β,I,h.bnd.imp λd1 β1 h x G1 H1 I1 s1 m1 vx=>?_⟩
 obtain⟨d,e,k⟩:=h.of
 refine pr B G1 H1 x d1 d Q I1.sub I1.boxThere (vx.brw I.boxThere) e λv G' H' x' vo=>?_
 exact k v G' H' (I1.ext x') (s1.trans x'.gg) (m1.trans (x'.hh.mov B)) (vo.back m1 I1.boxThere)
def v8 {op:UnaryOp}{r:V->Hp->VK->Prop}{g:D->Option D}(ho:Mh X (unaryOp op) r)(pr:D9 Γ.K r g md)(ha:SE X Γ E a fa La ma):SE X Γ E (.UnaryOp op a pos) (f1 fa g) La md:=
 PE.post' (KZ ho ha) λσ H Q ⟨env,G,B,β,I,o⟩=>mr pr I o
def bu {id:String}{r:List V->Hp->VK->Prop}{g:D->Option D}{x:Str}{p:Pos}(hc:fA X (.builtin id) r)(pr:D9 Γ.K (λx=>r [x]) g md)(hg:Gl X x)(hm:X.mg x=none)(hv:bootBuiltins x=some (.builtin id))(ha:SE X Γ E a fa La ma)(hn:x≠"__name__":=by decide)(hdb:@FS:=by decide)
  (he:starEach [a] X.env=(false,eval a X.env) :: starEach [] X.env:=by rfl):SE X Γ E (.Call (.Name x p) [a] [] pos) (f1 fa g) La md:=
 PE.post' (bB hc hg hm hv (aw ha aR he) hn hdb he) λσ H Q ⟨env,G,B,β,I,o⟩=>mr (r:=λx=>r [x]) pr I o
def jf {id:String}{r:List V->Hp->VK->Prop}{g:D->Option D}{x:Str}{p:Pos}(hc:fA X (.type id) r)(pr:D9 Γ.K (λx=>r [x]) g md)(hg:Gl X x)(hm:X.mg x=none)(hv:bootBuiltins x=some (.type id))(ha:SE X Γ E a fa La ma)(hn:x≠"__name__":=by decide)(hdb:@FS:=by decide)
  (he:starEach [a] X.env=(false,eval a X.env) :: starEach [] X.env:=by rfl):SE X Γ E (.Call (.Name x p) [a] [] pos) (f1 fa g) La md:=
 PE.post' (mD hc hg hm hv (aw ha aR he) hn hdb he) λσ H Q ⟨env,G,B,β,I,o⟩=>mr (r:=λx=>r [x]) pr I o
def xq {id:String}{r:List V->Hp->VK->Prop}{g:D->D->Option D}{x:Str}{p:Pos}(hc:fA X (.builtin id) r)(pr:nj Γ.K (λx y=>r [x,y]) g md)(hg:Gl X x)(hm:X.mg x=none)(hv:bootBuiltins x=some (.builtin id))(ha:SE X Γ E a fa La ma)(hb:SE X Γ E b fb Lb mb)(hn:x≠"__name__":=by decide)(hdb:@FS:=by decide)
  (he:starEach [a,b] X.env=(false,eval a X.env) :: starEach [b] X.env:=by rfl) (he2:starEach [b] X.env=(false,eval b X.env) :: starEach [] X.env:=by rfl) (hpl:(backTo pos (starEach [b] X.env)).any (·.1)=false:=by rfl):SE X Γ E (.Call (.Name x p) [a,b] [] pos) (f2 fa fb g) (La ++ Lb) md:=
 PE.post' (bB hc hg hm hv (aw ha (aw hb aR he2) he) hn hdb he hpl) λσ H Q ⟨env,G,B,β,I,o⟩=>oq (r:=λx y=>r [x,y]) pr I o
def jg (fa fb:VF D):VF D:=λvs β=>(fa vs β).bnd λx β1=>match x with
 | .bool true=>fb vs β1
 | .bool false=>.ok (.bool false) β1
 |_=>.bad
def JR (fa fb:VF D):VF D:=λvs β=>(fa vs β).bnd λx β1=>match x with
 | .bool false=>fb vs β1
 | .bool true=>.ok (.bool true) β1
 |_=>.bad
def jG {op}(h:SE X Γ E a fa La md):SE X Γ E (.BoolOp op [a] pos) fa La md:=HY h
theorem jM {rest:List Expr}(ha:SE X Γ E a fa La ma)(hb:SE X Γ E (.BoolOp .And (b :: rest) pos) fb Lb .v)(hbr:∀i,i∈Lb->Γ.br i=false):SE X Γ E (.BoolOp .And (a :: b :: rest) pos) (jg fa fb) (La ++ Lb) .v:=by
 refine PE.post' (Iw ha hb) λσ H Q ⟨env,G,B,β,I,o⟩=>?_
 refine⟨env,G,B,β,I,o.bnd.imp λd1 β1 h x G1 H1 I1 s1 m1 vx=>?_⟩
 have bx:=vx.brw I.boxThere
 cases d1 with
 |bool c=>
  obtain rfl:=bx.bool
  refine⟨c,rfl,?_⟩
  cases c with
  |true=>exact rq ⟨_,G1,B,β1,I1,by rw[dS];exact h.imp λd β' k v G' H' I' s' m' vo=>k v G' H' (by rw[cA];exact I') (s1.trans s') (m1.trans m') vo⟩
  |false=>
   obtain⟨G2,I2,s2⟩:=I1.aY Lb hbr
   exact pA (h _ G2 H1 (by rw[cA];exact I2) (s1.trans s2) m1 (.bl false))
 |_=>exact h.elim
theorem LA {rest:List Expr}(ha:SE X Γ E a fa La ma)(hb:SE X Γ E (.BoolOp .Or (b :: rest) pos) fb Lb .v)(hbr:∀i,i∈Lb->Γ.br i=false):SE X Γ E (.BoolOp .Or (a :: b :: rest) pos) (JR fa fb) (La ++ Lb) .v:=by
 refine PE.post' (Lz ha hb) λσ H Q ⟨env,G,B,β,I,o⟩=>?_
 refine⟨env,G,B,β,I,o.bnd.imp λd1 β1 h x G1 H1 I1 s1 m1 vx=>?_⟩
 have bx:=vx.brw I.boxThere
 cases d1 with
 |bool c=>
  obtain rfl:=bx.bool
  refine⟨c,rfl,?_⟩
  cases c with
  |true=>
   obtain⟨G2,I2,s2⟩:=I1.aY Lb hbr
   exact rq (h _ G2 H1 (by rw[cA];exact I2) (s1.trans s2) m1 (.bl true))
  |false=>exact pA ⟨_,G1,B,β1,I1,by rw[dS];exact h.imp λd β' k v G' H' I' s' m' vo=>k v G' H' (by rw[cA];exact I') (s1.trans s') (m1.trans m') vo⟩
 |_=>exact h.elim
def Ed:D->Option D
 | .bool c=>some (.bool (!c))
 |_=>none
theorem DW (ha:SE X Γ E a fa La ma):SE X Γ E (.UnaryOp .Not a pos) (f1 fa Ed) La .v:=by
 refine PE.post' (Ic ha) λσ H Q ⟨env,G,B,β,I,o⟩=>?_
 refine mr (r:=λx H1 Q=>∃c,x=.bl c/\Q (.bl (!c)) H1) ?_ I o
 intro B G H x dx d Q s hB bx e k
 cases dx with
 |bool c=>
  obtain rfl:=bx.bool
  cases e
  exact⟨c,rfl,k _ G H (Ext.refl s) (.bl _)⟩
 |_=>cases e
def JP:D->Option Bool
 | .none=>some false
 | .bool b=>some b
 | .int i=>some (i != 0)
 | .str y=>if y.length<=sizeLine then some ((y.length:Int) != 0) else none
 | .list ds=>some (!ds.isEmpty)
 | .tuple ds=>some (!ds.isEmpty)
 | .dict _=>none
def i6 (fa:VF D):VF Bool:=λvs β=>(fa vs β).bnd λx β1=>R.of (JP x) β1
def pH {K:Frag}{G:Hp}{xs:List V}{ds:List D}(r:cQ K G xs ds):(!ds.isEmpty)= !xs.isEmpty:=by cases r <;> rfl
theorem cY (hK:X.K=Γ.K)(ha:SE X Γ E a fa La ma)(he:∀whole,isTrue a X.env whole=(do let v <-whole;standAt a.pos;holding [v] (truthy v)):=by intro _;rfl):zy X Γ E a (i6 fa) La:=by
 refine PT.post (DS ha he) λσ H Q ⟨env,G,B,β,I,o⟩=>?_
 refine⟨env,G,B,β,I,o.bnd.imp λd1 β1 h x G1 H1 I1 s1 m1 vx=>?_⟩
 obtain⟨c,e,k⟩:=h.of
 have bx:=vx.brw I.boxThere
 refine⟨c,?_,k G1 H1 I1 s1 m1⟩
 rw[hK]
 cases d1 with
 |none=>obtain rfl:=bx.none;cases e;rfl
 |bool b=>obtain rfl:=bx.bool;cases e;rfl
 |int i=>obtain rfl:=bx.int;cases e;rfl
 |str y=>
  obtain rfl:=bx.str
  simp only[JP] at e
  split at e
  ·cases e;exact⟨by assumption,rfl⟩
  ·cases e
 |list ds=>obtain⟨p,xs,rfl,hq,r⟩:=bx.list I1.sub;cases e;exact .inl ⟨xs,.inl hq,pH r⟩
 |tuple ds=>obtain⟨p,xs,rfl,hq,r⟩:=bx.tuple I1.sub;cases e;exact .inr (.inl ⟨xs,hq,pH r⟩)
 |dict ds=>cases e
def cP (fa:VF D):VF Bool:=λvs β=>(fa vs β).bnd λx β1=>match x with
 | .bool c=>.ok c β1
 |_=>.bad
theorem bF {op:CmpOp}{r:R2}{g:D->D->Option D}(ho:kW X (compareOp op) r)(pr:nj Γ.K r g .v)(ha:SE X Γ E a fa La ma)(hb:SE X Γ E b fb Lb mb)(hm:behindInMarks op b=false):zy X Γ E (.Compare a [op] [b] pos) (cP (f2 fa fb g)) (La ++ Lb):=by
 refine PT.post (GH ho ha hb hm) λσ H Q ⟨env,G,B,β,I,o⟩=>?_
 refine oq pr I (o.bnd.imp λd β' h v G' H' I' s' m' vo=>?_)
 cases d with
 |bool c=>cases vo;exact⟨c,rfl,h G' H' I' s' m'⟩
 |_=>exact h.elim
def pz (t:VF Bool):VF Bool:=λvs β=>(t vs β).bnd λc β1=>.ok (!c) β1
def BF (t u:VF Bool):VF Bool:=λvs β=>(t vs β).bnd λc β1=>if c=true then u vs β1 else .ok false β1
def nh (t u:VF Bool):VF Bool:=λvs β=>(t vs β).bnd λc β1=>if c=true then .ok true β1 else u vs β1
variable {ta tb tc:VF Bool}
def fM (ha:zy X Γ E a ta La):zy X Γ E (.UnaryOp .Not a pos) (pz ta) La:=by
 refine PT.post (yn ha) λσ H Q ⟨env,G,B,β,I,o⟩=>?_
 exact⟨env,G,B,β,I,o.bnd.imp λc β1 h=>h⟩
def vT.t (h:vT X Γ E e ta La):zy X Γ E e ta La:=PW.pt h
def uU (ha:zy X Γ E a ta La):vT X Γ E (.BoolOp .And [a] pos) ta La:=Aw ha
def nv (ha:zy X Γ E a ta La):vT X Γ E (.BoolOp .Or [a] pos) ta La:=CM ha
theorem x9 {rest:List Expr}(ha:zy X Γ E a ta La)(hb:vT X Γ E (.BoolOp .And (b :: rest) pos) tb Lb)(hbr:∀i,i∈Lb->Γ.br i=false):vT X Γ E (.BoolOp .And (a :: b :: rest) pos) (BF ta tb) (La ++ Lb):=by
 refine PW.post (Cm ha hb) λσ H Q ⟨env,G,B,β,I,o⟩=>?_
 refine⟨env,G,B,β,I,o.bnd.imp λc β1 h G1 H1 I1 s1 m1=>?_⟩
 cases c with
 |true=>exact rq ⟨_,G1,B,β1,I1,by rw[dS];exact Out.imp h λd β' k G' H' I' s' m'=>k G' H' (by rw[cA];exact I') (s1.trans s') (m1.trans m')⟩
 |false=>
  obtain⟨G2,I2,s2⟩:=I1.aY Lb hbr
  exact pA (h G2 H1 (by rw[cA];exact I2) (s1.trans s2) m1)
theorem sf {rest:List Expr}(ha:zy X Γ E a ta La)(hb:vT X Γ E (.BoolOp .Or (b :: rest) pos) tb Lb)(hbr:∀i,i∈Lb->Γ.br i=false):vT X Γ E (.BoolOp .Or (a :: b :: rest) pos) (nh ta tb) (La ++ Lb):=by
 refine PW.post (Hn ha hb) λσ H Q ⟨env,G,B,β,I,o⟩=>?_
 refine⟨env,G,B,β,I,o.bnd.imp λc β1 h G1 H1 I1 s1 m1=>?_⟩
 cases c with
 |true=>
  obtain⟨G2,I2,s2⟩:=I1.aY Lb hbr
  exact rq (h G2 H1 (by rw[cA];exact I2) (s1.trans s2) m1)
 |false=>exact pA ⟨_,G1,B,β1,I1,by rw[dS];exact Out.imp h λd β' k G' H' I' s' m'=>k G' H' (by rw[cA];exact I') (s1.trans s') (m1.trans m')⟩
def Mc (t:VF Bool)(fa fb:VF D):VF D:=λvs β=>(t vs β).bnd λc β1=>if c=true then fa vs β1 else fb vs β1
theorem KW (hc:zy X Γ E c tc Lc)(ha:SE X Γ E a fa La md)(hb:SE X Γ E b fb Lb md)(hbr:∀i,i∈La ++ Lb->Γ.br i=false):SE X Γ E (.IfExp c a b pos) (Mc tc fa fb) (Lc ++ (La ++ Lb)) md:=by
 refine PE.post' (C1 hc ha hb) λσ H Q ⟨env,G,B,β,I,o⟩=>?_
 refine⟨env,G,B,β,I,o.bnd.imp λc β1 h G1 H1 I1 s1 m1=>?_⟩
 obtain⟨G2,I2,s2⟩:=I1.aY (La ++ Lb) hbr
 have idem:∀M:@G_,(∀i,i∈M->i∈La ++ Lb)->aY M (aY (La ++ Lb) (aY Lc env))=aY (La ++ Lb) (aY Lc env):=by
  have key:∀(M:@G_) (en:En) (k:Nat),k∈M->∀d',(aY M en)[k]?≠some (.ow d'):=by
   intro M
   induction M with
   |nil=>intro en k hm;cases hm
   |cons i M ih=>
    intro en k hm d' z
    rcases OC.mp hm with y |y
    ·subst y
     have z1:(gX en k)[k]? =some (.ow d'):=rP (L:=M) z
     have z2:=vf z1
     unfold gX at z1
     rw[z2] at z1
     dsimp only at z1
     rw[OJ (Oy.mp z2).1] at z1;cases z1
    ·exact ih (gX en i) k y d' z
  intro M
  induction M with
  |nil=>intro _;rfl
  |cons i M ih=>
   intro hM
   show aY M (gX _ i)=_
   have:gX (aY (La ++ Lb) (aY Lc env)) i=aY (La ++ Lb) (aY Lc env):=by
    have hn:=key (La ++ Lb) (aY Lc env) i (hM i (OH ..))
    generalize aY (La ++ Lb) (aY Lc env)=en at hn ⊢
    unfold gX
    split
    ·rename_i d e;exact absurd e (hn d)
    ·rfl
   rw[this]
   exact ih λj hj=>hM j (OF _ hj)
 have go:∀{f:VF D} {M:@G_},(∀i,i∈M->i∈La ++ Lb)->Out Γ E (f (vl env) β1) (λd β'=>∀v G' H',SR Γ B G' H' σ (aY (Lc ++ (La ++ Lb)) env) β'->ar G G'->iw B H H'->VO Γ.K B H G' H' md d v->Q v H')->pT Γ E f M md σ H1 Q:=λ{f M} hM h=>by
  refine⟨_,G2,B,β1,I2,?_⟩
  rw[dS,dS]
  refine h.imp λd β' k v G' H' I' s' m' vo=>?_
  rw[idem M hM,<-cA] at I'
  exact k v G' H' I' ((s1.trans s2).trans s') (m1.trans m') (vo.back m1 I1.boxThere)
 cases c with
 |true=>exact rq (go (λi hi=>P9 _ hi) h)
 |false=>exact pA (go (λi hi=>OS _ hi) h)
def ag:VF (List D):=λ_ β=>.ok [] β
def ae (fa:VF D)(fr:VF (List D)):VF (List D):=λvs β=>(fa vs β).bnd λx β1=>(fr vs β1).bnd λxs β2=>.ok (x :: xs) β2
variable {fr:VF (List D)}{es:List Expr}
def ao:SA X Γ E [] ag []:=PA.post aR λσ H Q ⟨env,G,B,β,I,o⟩=>o [] G H I (ar.refl _) (iw.refl _ _) .nil
def af (ha:SE X Γ E a fa La .v)(hr:SA X Γ E es fr Lb)(hs:starEach (a :: es) X.env=(false,eval a X.env) :: starEach es X.env:=by rfl):SA X Γ E (a :: es) (ae fa fr) (La ++ Lb):=by
 refine PA.post (aw ha hr hs) λσ H Q ⟨env,G,B,β,I,o⟩=>?_
 refine⟨env,G,B,β,I,o.bnd.imp λd1 β1 h x G1 H1 I1 s1 m1 vx=>⟨aY La env,G1,B,β1,I1,?_⟩⟩
 rw[dS]
 refine h.bnd.imp λds β2 k xs G2 H2 I2 s2 m2 r=>?_
 exact k (x :: xs) G2 H2 (by rw[cA];exact I2) (s1.trans s2) (m1.trans m2) (.cons (vx.mono s2) r)
def aO (fr:VF (List D)):VF D:=λvs β=>(fr vs β).bnd λds β1=>if ds.length<=sizeLine then .ok (.tuple ds) β1 else .bad
def bz (fr:VF (List D)):VF D:=λvs β=>(fr vs β).bnd λds β1=>if ds.length<=sizeLine then .ok (.list ds) β1 else .bad
def cC {x1}(h:SA X Γ E es fr L):SE X Γ E (.Tuple es x1 pos) (aO fr) L .v:=by
 refine PE.post' (yA h) λσ H Q ⟨env,G,B,β,I,o⟩=>?_
 refine⟨env,G,B,β,I,o.bnd.imp λds β1 k xs G1 H1 I1 s1 m1 r=>?_⟩
 by_cases hz:ds.length<=sizeLine
 ·rw[Ov hz] at k
  refine⟨by rw[r.len];exact hz,λp hp=>?_⟩
  have x:=Ext.new I1.sub (o:=.tup xs) hp
  exact k _ _ _ (I1.ext x) (s1.trans x.gg) (m1.trans (x.hh.mov B)) (.tup (.inl (.inl az)) (r.mono x.gg))
 ·rw[OA hz] at k;exact k.elim
def bN (h:SA X Γ E es fr L):SE X Γ E (.List es pos) (bz fr) L .w:=by
 refine PE.post' (pe h) λσ H Q ⟨env,G,B,β,I,o⟩=>?_
 refine⟨env,G,B,β,I,o.bnd.imp λds β1 k xs G1 H1 I1 s1 m1 r=>?_⟩
 by_cases hz:ds.length<=sizeLine
 ·rw[Ov hz] at k
  refine⟨by rw[r.len];exact hz,λp hp=>?_⟩
  have x:=Ext.own I1.sub (o:=.lst xs) hp
  exact k _ _ _ (I1.ext x) s1 (m1.trans (x.hh.mov B)) ⟨p,rfl,fu m1 I1.boxThere hp,I1.sub.free hp,xs,az,r⟩
 ·rw[OA hz] at k;exact k.elim
inductive FR where
 |ok (d:D) (fresh:Bool)
 |exc (c:Str)
 |bad
def FV (K:Frag)(H G' H':Hp)(fr:Bool)(d:D)(v:V):Prop:=if fr=true then ∃a,v=.ref a/\H a=none/\G' a=none/\Own K G' H' a d else Rp K G' v d
def Hu (K:Frag)(ca:Str->Addr)(n:Nat)(F:@Do):Sp:=λvs H Q E=>∃G ds,ar G H/\ds.length=n/\cQ K G vs ds/\match F ds with
 | .ok d fr=>∀v G' H',ar H H'->ar G G'->ar G' H'->(∀b,Mx H b->G b=none->G' b=none)->FV K H G' H' fr d v->Q v H'
 | .exc c=>∀H',ar H H'->E (.ref (ca c)) none H'
 | .bad=>False
structure cu (P:Program)(w:World)(K:Frag)(mg:@FM)(base:Heap)(ca:Str->Addr)(x:Str)(ps:@H_)(k:Nat)(F:@Do):Prop where
 ex:∃f fd,mg x=some (.ref f)/\PySem.W.keepIn K (.ref f)=true/\Binds K fd ps []/\e8 P w K mg base (lg P w) k f fd ps (Hu K ca ps.length F)
 len:∀ds,F ds≠.bad->ds.length=ps.length
def au (F:@Do)(fr:VF (List D)):VF D:=λvs β=>(fr vs β).bnd λds β1=>match F ds with
 | .ok d _=>.ok d β1
 | .exc c=>.exc c
 | .bad=>.bad
def uh (F:@Do)(fr:VF (List D)):VF D:=λvs β=>(fr vs β).bnd λds β1=>match F ds with
 | .ok d true=>.ok d β1
 | .ok _ false=>.bad
 | .exc c=>.exc c
 | .bad=>.bad
def SR.called {B:@Ix}{G1 H1 G2 H2:Hp}{σ:St}{env:En}{β:Int}(I1:SR Γ B G1 H1 σ env β)(h:ar H1 H2)(g:ar G1 G2)(s:ar G2 H2)(n:∀b,Mx H1 b->G1 b=none->G2 b=none):SR Γ B G2 H2 σ env β/\iw B H1 H2:=by
 refine⟨⟨s,I1.old.trans g,λb n1 n2=>?_,λb o e np=>(I1.keep b o e np).step h,λb hb=>?_,I1.fix,λb e=>?_,I1.len,λi t e=>?_,I1.sep⟩,h.mov B⟩
 ·exact n b (I1.thereM n1) (I1.new b n1 n2)
 ·exact (I1.pin b hb).same λo e=>h b o e
 ·obtain⟨h1,h2,h3⟩:=I1.box b e
  exact⟨h b _ h1,n b (Mx.lst h1) h2,h3⟩
 ·have q:=I1.slot i t e
  cases t with
  |no=>trivial
  |fz d=>obtain⟨v,h1,h2⟩:=q;exact⟨v,h1,h2.mono g⟩
  |ow d=>
   obtain⟨p,h1,h2,h3,h4,h5⟩:=q
   exact⟨p,h1,h2,n p h5.mx h3,h4,h5.mono g λo q=>h p o q⟩
  |bx=>exact q
  |br d=>obtain⟨b1,p,h1,h4,hp,h5⟩:=q;exact⟨b1,p,h1,h4,hp,h5.mono g λo q=>h p o q⟩
def SR.kp {B:@Ix}{G H H':Hp}{σ:St}{env:En}{β:Int}(I:@GT)(h:ar H H'):Kp Γ H':=λb o e n=>(I.keep b o e n).step h
theorem tE {F:@Do}{ps:@H_}{Q:VK}{B:@Ix}{G H:Hp}{σ:St}{env:En}{β:Int}(I:@GT)(hK:X.K=Γ.K){wv:Bool}
  (h:Out Γ E (if wv=true then uh F fr (vl env) β else au F fr (vl env) β) λd β'=>∀v G' H',SR Γ B G' H' σ (aY L env) β'->ar G G'->iw B H H'->VO Γ.K B H G' H' (if wv=true then .w else .v) d v->Q v H') (hl:∀ds,F ds≠.bad->ds.length=ps.length) :
  aT Γ E fr L σ H λvs H1=>Hu X.K Γ.ca ps.length F vs H1 Q E:=by
 refine⟨env,G,B,β,I,?_⟩
 have h:Out Γ E (fr (vl env) β) λds β1=>Out Γ E (match F ds with
   | .ok d true=>.ok d β1
   | .ok d false=>if wv=true then .bad else .ok d β1
   | .exc c=>.exc c
   | .bad=>.bad) λd β'=>∀v G' H',SR Γ B G' H' σ (aY L env) β'->ar G G'->iw B H H'->VO Γ.K B H G' H' (if wv=true then .w else .v) d v->Q v H':=by
  cases wv with
  |true=>
   simp only[PL] at h ⊢
   refine h.bnd.imp λds β1 h=>?_
   cases q:F ds with
   |ok d b=>rw[q] at h;cases b <;> exact h
   |exc c=>rw[q] at h;exact h
   |bad=>rw[q] at h;exact h
  |false=>
   simp only[Pn,PZ] at h ⊢
   refine h.bnd.imp λds β1 h=>?_
   cases q:F ds with
   |ok d b=>rw[q] at h;cases b <;> exact h
   |exc c=>rw[q] at h;exact h
   |bad=>rw[q] at h;exact h
 refine h.imp λds β1 k vs G1 H1 I1 s1 m1 r=>?_
 refine⟨G1,ds,I1.sub,?_,by rw[hK];exact r,?_⟩
 ·exact hl ds λz=>by rw[z] at k;exact k
 cases q:F ds with
 |bad=>rw[q] at k;exact k
 |exc c=>rw[q] at k;exact λH' s=>k H' (I1.kp s)
 |ok d b=>
  rw[q] at k
  intro v G' H' hh hg hs hn fv
  obtain⟨I2,m2⟩:=I1.called hh hg hs hn
  cases b with
  |true=>
   obtain⟨p,rfl,p1,p2,p3⟩:∃a,v=.ref a/\H1 a=none/\G' a=none/\Own X.K G' H' a d:=fv
   rw[hK] at p3
   have hp:=fu m1 I1.boxThere p1
   cases wv with
   |true=>exact k _ G' H' I2 (s1.trans hg) (m1.trans m2) ⟨p,rfl,hp,p2,p3⟩
   |false=>
    obtain⟨q1,q2,q3,q4⟩:=I1.fresh p1
    obtain⟨G3,I3,s3,r3⟩:=I2.letIn q1 p2 q3 q4 p3
    exact k _ G3 H' I3 ((s1.trans hg).trans s3) (m1.trans m2) r3
  |false=>
   cases wv with
   |true=>exact k.elim
   |false=>
    have fv:Rp X.K G' v d:=fv
    rw[hK] at fv
    exact k _ G' H' I2 (s1.trans hg) (m1.trans m2) fv
def aH {x:Str}{ps:@H_}{k:Nat}{F:@Do}{p:Pos}(hf:cu X.prog X.w X.K X.mg X.base Γ.ca x ps k F)(hr:dN k X.A)(hx:Passes (lg X.prog X.w) X E)(hK:X.K=Γ.K)(hg:Gl X x)(ha:SA X Γ E (a :: es) fr L)(hdb:@FS:=by decide)
  (he:starEach (a :: es) X.env=(false,eval a X.env) :: starEach es X.env:=by rfl) (hpl:(backTo pos (starEach es X.env)).any (·.1)=false:=by rfl):SE X Γ E (.Call (.Name x p) (a :: es) [] pos) (au F fr) L .v:=by
 obtain⟨f,fd,hm,hk,hb,hF⟩:=hf.ex
 refine PE.post' (ot (dvs:=[]) hF hr hg hm hk hb .nil hx ha hdb he hpl) λσ H Q ⟨env,G,B,β,I,o⟩=>?_
 show aT Γ E fr L σ H λvs H1=>Hu X.K Γ.ca ps.length F (vs ++ []) H1 Q E
 have:=tE (Q:=Q) (wv:=false) (ps:=ps) I hK o hf.len
 simpa using this
def Cp {x:Str}{ps:@H_}{k:Nat}{F:@Do}{p:Pos}(hf:cu X.prog X.w X.K X.mg X.base Γ.ca x ps k F)(hr:dN k X.A)(hx:Passes (lg X.prog X.w) X E)(hK:X.K=Γ.K)(hg:Gl X x)(ha:SA X Γ E (a :: es) fr L)(hdb:@FS:=by decide)
  (he:starEach (a :: es) X.env=(false,eval a X.env) :: starEach es X.env:=by rfl) (hpl:(backTo pos (starEach es X.env)).any (·.1)=false:=by rfl):SE X Γ E (.Call (.Name x p) (a :: es) [] pos) (uh F fr) L .w:=by
 obtain⟨f,fd,hm,hk,hb,hF⟩:=hf.ex
 refine PE.post' (ot (dvs:=[]) hF hr hg hm hk hb .nil hx ha hdb he hpl) λσ H Q ⟨env,G,B,β,I,o⟩=>?_
 show aT Γ E fr L σ H λvs H1=>Hu X.K Γ.ca ps.length F (vs ++ []) H1 Q E
 have:=tE (Q:=Q) (wv:=true) (ps:=ps) I hK o hf.len
 simpa using this
end
inductive SO where
 |nx (env:En) (β:Int)
 |bk (env:En) (β:Int)
 |ct (env:En) (β:Int)
 |rt (d:D) (fr:Bool) (β:Int)
 |exc (c:Str)
 |bad
abbrev SF:=En->Int->SO
def RV (Γ:Fx)(G' H':Hp)(fr:Bool)(d:D)(v:V):Prop:=if fr=true then ∃a,v=.ref a/\Γ.H0 a=none/\G' a=none/\Own Γ.K G' H' a d else Rp Γ.K G' v d
def tf (Γ:Fx)(E:XK)(G:Hp)(N:Ends):SO->Prop
 | .nx env β=>∀B G' H' σ,SR Γ B G' H' σ env β->ar G G'->N.nx σ H'
 | .bk env β=>∀B G' H' σ,SR Γ B G' H' σ env β->ar G G'->N.bk σ H'
 | .ct env β=>∀B G' H' σ,SR Γ B G' H' σ env β->ar G G'->N.ct σ H'
 | .rt d fr β=>∀B G' H' σ env v,SR Γ B G' H' σ env β->ar G G'->RV Γ G' H' fr d v->N.rt v H'
 | .exc c=>∀H',Kp Γ H'->E (.ref (Γ.ca c)) none H'
 | .bad=>False
def sT (Γ:Fx)(E:XK)(m:SF):TS:=λN σ H=>∃env G B β,@GT/\tf Γ E G N (m env β)
def SS (X:Cx)(Γ:Fx)(E:XK)(st:Stmt)(m:SF):Prop:=PS X st (sT Γ E m)
def Ay (X:Cx)(Γ:Fx)(E:XK)(st:List Stmt)(m:SF):Prop:=pw X st (sT Γ E m)
def pw.post {X:Cx}{st:List Stmt}{t u:TS}(h:pw X st t)(m:∀D σ H,u D σ H->t D σ H):pw X st u:=λpins s σ H D I q=>h pins s σ H D I (m D σ H q)
def aK (m m':SF):SF:=λenv β=>match m env β with
 | .nx env' β'=>m' env' β'
 |r=>r
def mO:SF:=λenv β=>.nx env β
section
variable {X:Cx}{Γ:Fx}{E:XK}{e a b c:Expr}{f fa fb:VF D}{L La Lb:@G_}{md ma mb:Md}{pos:Pos}{st:Stmt}{sts:List Stmt}{m m':SF}{ta:VF Bool}
theorem tf.weak {G G1:Hp}{N:Ends}{r:SO}(h:tf Γ E G N r)(s:ar G G1):tf Γ E G1 N r:=by
 cases r with
 |nx env β=>exact λB G' H' σ I s'=>h B G' H' σ I (s.trans s')
 |bk env β=>exact λB G' H' σ I s'=>h B G' H' σ I (s.trans s')
 |ct env β=>exact λB G' H' σ I s'=>h B G' H' σ I (s.trans s')
 |rt d fr β=>exact λB G' H' σ env v I s'=>h B G' H' σ env v I (s.trans s')
 |exc c=>exact h
 |bad=>exact h
def cD:Ay X Γ E [] mO:=pw.post uz λN σ H ⟨env,G,B,β,I,o⟩=>o B G H σ I (ar.refl _)
theorem ay (h:SS X Γ E st m)(h':Ay X Γ E sts m'):Ay X Γ E (st :: sts) (aK m m'):=by
 refine pw.post (dz h h') λN σ H ⟨env,G,B,β,I,o⟩=>?_
 refine⟨env,G,B,β,I,?_⟩
 unfold aK at o
 cases q:m env β with
 |nx env' β'=>rw[q] at o;exact λB' G' H' σ' I' s'=>⟨env',G',B',β',I',o.weak s'⟩
 |bk env' β'=>rw[q] at o;exact o
 |ct env' β'=>rw[q] at o;exact o
 |rt d fr β'=>rw[q] at o;exact o
 |exc c=>rw[q] at o;exact o
 |bad=>rw[q] at o;exact o
def aC (h:SS X Γ E st m):Ay X Γ E [st] m:=eM h
def toS {α:Type}(r:R α)(k:α->Int->SO):SO:=match r with
 | .ok x β=>k x β
 | .exc c=>.exc c
 | .bad=>.bad
theorem cR {α:Type}{G:Hp}{N:Ends}{r:R α}{k:α->Int->SO}{P:α->Int->Prop}(h:tf Γ E G N (toS r k))(i:∀x β,tf Γ E G N (k x β)->P x β):Out Γ E r P:=by
 cases r with
 |ok x β=>exact i x β h
 |exc c=>exact h
 |bad=>exact h
def SR.set' {B:@Ix}{G H:Hp}{σ:St}{env:En}{β:Int}(I:@GT)(i:Nat){v:V}{d:D}(h:Rp Γ.K G v d):SR Γ B G H (σ.set i (some v)) (env.set i (.fz d)) β:=by
 by_cases hi:i < env.length
 ·exact I.set hi h
 ·have h1:env.set i (.fz d)=env:=Qd (@AT)
  have h2:σ.set i (some v)=σ:=Qd (by rw[I.len];omega)
  rw[h1,h2];exact I
def SR.setOw' {B:@Ix}{G H:Hp}{σ:St}{env:En}{β:Int}(I:@GT)(i:Nat){a:Addr}{d:D}(h0:Γ.H0 a=none)(hg:G a=none)(hb:B≠some a)(h:Own Γ.K G H a d)(hn:∀(j:Nat) (d':D),env[j]? =some (.ow d')->σ[j]?≠some (some (.ref a))):SR Γ B G H (σ.set i (some (.ref a))) (env.set i (.ow d)) β:=by
 by_cases hi:i < env.length
 ·exact I.setOw hi h0 hg hb h λj d' e _=>hn j d' e
 ·have h1:env.set i (.ow d)=env:=Qd (@AT)
  have h2:σ.set i (some (.ref a))=σ:=Qd (by rw[I.len];omega)
  rw[h1,h2];exact I
def bK (i:Nat)(L:@G_)(f:VF D):SF:=λenv β=>toS (f (vl env) β) λd β'=>.nx ((aY L env).set i (.fz d)) β'
def a9 {i:Nat}{x:Str}{pos':Pos}(he:SE X Γ E e f L .v)(hN:X.N.Nodup)(hi:X.N[i]? =some x:=by rfl)(hx:Loc X.env.scope x:=by first |exact Or.inl rfl |exact Or.inr rfl)(hs:swapsWith e (some (.Name x pos')) pos.line X.env=pure false:=by rfl)(hf:X.fn x=true\/X.env.scope.names.lookup x=some .local:=by first |exact .inl rfl |exact .inr rfl |assumption) :
  SS X Γ E (.Assign [.Name x pos'] e pos) (bK i L f):=by
 refine PS.post (lP hN hi hx he hs hf) λN σ H ⟨env,G,B,β,I,o⟩=>?_
 refine⟨env,G,B,β,I,cR o λd β' k v G' H' I' s' m' vo=>?_⟩
 exact k B G' H' _ (I'.set' i vo) s'
def k9 (i:Nat)(L:@G_)(f:VF D):SF:=λenv β=>toS (f (vl env) β) λd β'=>.nx ((aY L env).set i (.ow d)) β'
def jr {i:Nat}{x:Str}{pos':Pos}(he:SE X Γ E e f L .w)(hN:X.N.Nodup)(hi:X.N[i]? =some x:=by rfl)(hx:Loc X.env.scope x:=by first |exact Or.inl rfl |exact Or.inr rfl)(hs:swapsWith e (some (.Name x pos')) pos.line X.env=pure false:=by rfl)(hf:X.fn x=true\/X.env.scope.names.lookup x=some .local:=by first |exact .inl rfl |exact .inr rfl |assumption) :
  SS X Γ E (.Assign [.Name x pos'] e pos) (k9 i L f):=by
 refine PS.post (lP hN hi hx he hs hf) λN σ H ⟨env,G,B,β,I,o⟩=>?_
 refine⟨env,G,B,β,I,cR o λd β' k v G' H' I' s' m' vo=>?_⟩
 obtain⟨p,rfl,h1,h2,h3⟩:=vo
 obtain⟨q1,q2,q3,q4⟩:=I.fresh h1
 exact k B G' H' _ (I'.setOw' i q1 h2 q3 h3 λj d' z=>q4 j d' (rP z)) s'
def cB (L:@G_)(f:VF D):SF:=λenv β=>toS (f (vl env) β) λ_ β'=>.nx (aY L env) β'
def dF (he:SE X Γ E e f L md)(hs:swapsWith e none pos.line X.env=pure false:=by rfl):SS X Γ E (.Expr e pos) (cB L f):=by
 refine PS.post (p8 he hs) λN σ H ⟨env,G,B,β,I,o⟩=>?_
 exact⟨env,G,B,β,I,cR o λd β' k v G' H' I' s' m' vo=>k B G' H' _ I' s'⟩
def bM (f:VF D):SF:=λenv β=>toS (f (vl env) β) λd β'=>.rt d false β'
def aX (he:SE X Γ E e f L .v):SS X Γ E (.Return (some e) pos) (bM f):=by
 refine PS.post (jD he) λN σ H ⟨env,G,B,β,I,o⟩=>?_
 exact⟨env,G,B,β,I,cR o λd β' k v G' H' I' s' m' vo=>k B G' H' σ _ v I' s' vo⟩
def j0 (f:VF D):SF:=λenv β=>toS (f (vl env) β) λd β'=>.rt d true β'
def kx (he:SE X Γ E e f L .w):SS X Γ E (.Return (some e) pos) (j0 f):=by
 refine PS.post (jD he) λN σ H ⟨env,G,B,β,I,o⟩=>?_
 refine⟨env,G,B,β,I,cR o λd β' k v G' H' I' s' m' vo=>?_⟩
 obtain⟨p,rfl,h1,h2,h3⟩:=vo
 obtain⟨q1,_⟩:=I.fresh h1
 exact k B G' H' σ _ _ I' s' ⟨p,rfl,q1,h2,h3⟩
def qG (i:Nat):SF:=λenv β=>match env[i]? with
 |some (.fz d)=>.rt d false β
 |some (.ow d)=>.rt d true β
 |_=>.bad
theorem oG (i:Nat){x:Str}{p:Pos}(hN:X.N[i]? =some x:=by rfl)(hv:vS X.env.scope x:=by first |exact Or.inl rfl |exact Or.inr (Or.inl rfl) |exact Or.inr (Or.inr rfl))(hd:@FS:=by decide)
  (hcd:(x == ("__classdict__":Str))=false:=by decide):SS X Γ E (.Return (some (.Name x p)) pos) (qG i):=by
 refine PS.post (jD (ip hN hv hd hcd)) λN σ H ⟨env,G,B,β,I,o⟩=>?_
 unfold qG at o
 cases q:env[i]? with
 |none=>rw[q] at o;exact o.elim
 |some s=>
  rw[q] at o
  cases s with
  |no=>exact o.elim
  |bx=>exact o.elim
  |br d=>exact o.elim
  |fz d=>
   obtain⟨v,h1,h2⟩:=I.slot i _ q
   exact⟨v,h1,o B G H σ env v I (ar.refl _) h2⟩
  |ow d=>
   obtain⟨p,h1,h2,h3,h4,h5⟩:=I.slot i _ q
   exact⟨_,h1,o B G H σ env _ I (ar.refl _) ⟨p,rfl,h2,h3,h5⟩⟩
def iF (L:@G_)(t:VF Bool)(m m':SF):SF:=λenv β=>toS (t (vl env) β) λc β'=>if c=true then m (aY L env) β' else m' (aY L env) β'
theorem cV {x y:List Stmt}(hc:zy X Γ E c ta L)(ha:Ay X Γ E x m)(hb:Ay X Γ E y m'):SS X Γ E (.If c x y pos) (iF L ta m m'):=by
 refine PS.post (Dl hc ha hb) λN σ H ⟨env,G,B,β,I,o⟩=>?_
 refine⟨env,G,B,β,I,cR o λd β' k G' H' I' s' m'=>?_⟩
 cases d with
 |true=>exact rq ⟨_,G',B,β',I',tf.weak k s'⟩
 |false=>exact pA ⟨_,G',B,β',I',tf.weak k s'⟩
def h9 (L:@G_)(t:VF Bool)(m:SF):Nat->SF
 | 0=>λ_ _=>.bad
 |n + 1=>λenv β=>toS (t (vl env) β) λc β'=>if c=true then (match m (aY L env) β' with
   | .nx env2 β2=>h9 L t m n env2 β2
   | .ct env2 β2=>h9 L t m n env2 β2
   | .bk env2 β2=>.nx env2 β2
   |r=>r) else .nx (aY L env) β'
theorem nX {x:List Stmt}(n:Nat)(hp:PassesOwn @Cl X.A X.env X.xe)(hc:zy X Γ E c ta L)(hb:Ay X Γ E x m):SS X Γ E (.While c x [] pos) (h9 L ta m n):=by
 refine PS.post (C7 hp hc hb) λN σ H ⟨env,G,B,β,I,o⟩=>?_
 refine⟨λk σ H=>∃env G1 B β,SR Γ B G1 H σ env β/\ar G G1/\tf Γ E G1 N (h9 L ta m k env β),⟨n,env,G,B,β,I,ar.refl _,o⟩,?_⟩
 rintro k σ H ⟨env,G1,B,β,I,sG,o⟩
 cases k with
 |zero=>exact o.elim
 |succ k=>
  refine⟨env,G1,B,β,I,cR o λd β' q G' H' I' s' m'=>?_⟩
  cases d with
  |false=>exact pA (q B G' H' σ I' s')
  |true=>
   refine rq ⟨λσ H=>∃env G1 B β,SR Γ B G1 H σ env β/\ar G G1/\tf Γ E G1 N (h9 L ta m k env β),λσ' H' h=>⟨k,Nat.lt_succ_self k,h⟩,aY L env,G',B,β',I',?_⟩
   rw[Ov rfl] at q
   cases r:m (aY L env) β' with
   |nx env2 β2=>rw[r] at q;exact λB2 G2 H2 σ2 I2 s2=>⟨env2,G2,B2,β2,I2,(sG.trans s').trans s2,tf.weak q (s'.trans s2)⟩
   |ct env2 β2=>rw[r] at q;exact λB2 G2 H2 σ2 I2 s2=>⟨env2,G2,B2,β2,I2,(sG.trans s').trans s2,tf.weak q (s'.trans s2)⟩
   |bk env2 β2=>rw[r] at q;exact λB2 G2 H2 σ2 I2 s2=>q B2 G2 H2 σ2 I2 (s'.trans s2)
   |rt d fr β2=>rw[r] at q;exact tf.weak q s'
   |exc c=>rw[r] at q;exact q
   |bad=>rw[r] at q;exact q
def Walk (K:Frag)(B:@Ix)(G H1:Hp)(ds:List D)(J:It):Prop:=∀Gc H (i:Nat),ar G Gc->ar Gc H->iw B H1 H->
 (i < ds.length->J.go i H/\∀x H',J.yld i H x H'->∃G' d,Ext Gc H G' H'/\ds[i]? =some d/\Rp K G' x d)/\(ds.length<=i->J.stop i H)
def Walk.any {K:Frag}{B:@Ix}{G H1:Hp}{ds:List D}{J:It}(h:Walk K B G (λ_=>none) ds J):Walk K B G H1 ds J:=λGc H i s1 s2 _=>h Gc H i s1 s2 ⟨(λb o e=>by cases e),λb o u e=>by cases e⟩
def iT (Γ:Fx)(E:XK)(f:VF (List D))(L:@G_)(md:Md):TI:=λσ H Rr=>∃env G B β,@GT/\
 Out Γ E (f (vl env) β) λds β'=>∀J G' H',SR Γ B G' H' σ (aY L env) β'->ar G G'->iw B H H'->Walk Γ.K B G' (match md with | .b=>H' |_=>λ_=>none) ds J->Rr J H'
def SI (X:Cx)(Γ:Fx)(E:XK)(tg e:Expr)(f:VF (List D))(L:@G_)(md:Md):Prop:=PI X tg e (iT Γ E f L md)
def PI.post {X:Cx}{tg e:Expr}{t u:TI}(h:PI X tg e t)(m:∀σ H Q,u σ H Q->t σ H Q):PI X tg e u:=λpins s σ H Q I q=>h pins s σ H Q I (m σ H Q q)
variable {tg:Expr}
def p6:D->Option (List D)
 | .list ds=>some ds
 | .tuple ds=>some ds
 |_=>none
def bR (fa:VF D):VF (List D):=λvs β=>(fa vs β).bnd λx β1=>R.of (p6 x) β1
end
def Oc (K:Frag)(tl:TE):TI:=λσ H R=>tl σ H λx H1=>∃a xs,x=.ref a/\((iY K H1 a xs/\R (Bv K a) H1)\/(hW K H1 a xs/\R (Hy K a) H1))
section
variable {X:Cx}{tg l:Expr}{tl:TE}
def Hs (hl:PE X l tl):PI X tg l (Oc X.K tl):=by
 intro pins s σ H R I h
 refine cc (hl pins s σ H _ I h) λv s1 ⟨x,H1,I1,r1,q1⟩=>?_
 obtain⟨a,xs,e,q⟩:=q1
 subst e
 cases r1
 rcases q with⟨hq,q⟩ | ⟨hq,q⟩
 ·obtain⟨its,rv,p,hz⟩:=I1.list hq
  refine QF p.isList ?_
  refine⟨s1.heap.objs.size,[s1.heap.objs.size],_,_,H1,rfl,I1.kept (t':=s1.toks) λb o e=>Ow _ e,oV a _,⟨_,OQ _ rfl,rfl,rfl⟩,λb hb=>?_,q⟩
  have e:b=s1.heap.objs.size:=by simpa using hb
  subst e
  exact I1.fpOk (Ox _) (I1.hok.fresh (Ox _))
 ·obtain⟨its,rv,p,hz⟩:=I1.tuple hq
  refine wpAny_pyIter_tuple (show s1.heap.IsTuple a its.toArray from p) ?_
  refine⟨s1.heap.objs.size,[s1.heap.objs.size],_,_,H1,rfl,I1.kept (t':=s1.toks) λb o e=>Ow _ e,se a _,⟨_,OQ _ rfl,rfl,rfl⟩,λb hb=>?_,q⟩
  have e:b=s1.heap.objs.size:=by simpa using hb
  subst e
  exact I1.fpOk (Ox _) (I1.hok.fresh (Ox _))
end
section
variable {X:Cx}{Γ:Fx}{E:XK}{e a b c:Expr}{f fa fb:VF D}{L La Lb:@G_}{md ma mb:Md}{pos:Pos}{st:Stmt}{sts:List Stmt}{m m':SF}{ta:VF Bool}{tg:Expr}
def pq {K:Frag}{B:@Ix}{G H1:Hp}{p:Addr}{xs:List V}{ds:List D}(h:∀Gc H,ar G Gc->ar Gc H->iw B H1 H->iY K H p xs)(r:cQ K G xs ds):Walk K B G H1 ds (Bv K p):=λGc H i s1 s2 m=>by
 have hq:=h Gc H s1 s2 m
 refine⟨λhi=>⟨?_,λx H' y=>?_⟩,λhi=>⟨xs,hq,by rw[r.len];exact hi⟩⟩
 ·have hi':i < xs.length:=by rw[r.len];exact hi
  exact⟨xs,xs[i],hq,by simp[hi']⟩
 ·obtain⟨rfl,y⟩:=y
  obtain⟨d,e,q⟩:=r.at' (y xs hq)
  exact⟨Gc,d,Ext.refl s2,e,q.mono s1⟩
def wK {K:Frag}{B:@Ix}{G H1:Hp}{p:Addr}{xs:List V}{ds:List D}(h:∀Gc H,ar G Gc->ar Gc H->iw B H1 H->hW K H p xs)(r:cQ K G xs ds):Walk K B G H1 ds (Hy K p):=λGc H i s1 s2 m=>by
 have hq:=h Gc H s1 s2 m
 refine⟨λhi=>⟨?_,λx H' y=>?_⟩,λhi=>⟨xs,hq,by rw[r.len];exact hi⟩⟩
 ·have hi':i < xs.length:=by rw[r.len];exact hi
  exact⟨xs,xs[i],hq,by simp[hi']⟩
 ·obtain⟨rfl,y⟩:=y
  obtain⟨d,e,q⟩:=r.at' (y xs hq)
  exact⟨Gc,d,Ext.refl s2,e,q.mono s1⟩
theorem NP (hK:X.K=Γ.K)(ha:SE X Γ E a fa La .v):SI X Γ E tg a (bR fa) La .v:=by
 refine PI.post (Hs ha) λσ H Q ⟨env,G,B,β,I,o⟩=>?_
 refine⟨env,G,B,β,I,o.bnd.imp λd1 β1 h x G1 H1 I1 s1 m1 vx=>?_⟩
 obtain⟨ds,e,k⟩:=h.of
 rw[hK]
 have vx:Rp Γ.K G1 x d1:=vx
 cases d1 with
 |list l=>
  cases e
  cases vx with
  | @lst p xs _ hq r=>exact⟨p,xs,rfl,.inl ⟨.inl (Rd.mono (.inl hq) I1.sub),k _ G1 H1 I1 s1 m1 (pq (λGc H t1 t2 _=>.inl (Rd.mono (.inl hq) (t1.trans t2))) r)⟩⟩
 |tuple l=>
  cases e
  cases vx with
  | @tup p xs _ hq r=>exact⟨p,xs,rfl,.inr ⟨hq.grow I1.sub.grow,k _ G1 H1 I1 s1 m1 (wK (λGc H t1 t2 _=>hq.grow (t1.trans t2).grow) r)⟩⟩
 |_=>cases e
theorem l5 (hK:X.K=Γ.K)(ha:SE X Γ E a fa La ma):SI X Γ E tg a (bR fa) La .b:=by
 refine PI.post (Hs ha) λσ H Q ⟨env,G,B,β,I,o⟩=>?_
 refine⟨env,G,B,β,I,o.bnd.imp λd1 β1 h x G1 H1 I1 s1 m1 vx=>?_⟩
 obtain⟨ds,e,k⟩:=h.of
 rw[hK]
 have vx:=vx.brw I.boxThere
 cases d1 with
 |list l=>
  cases e
  rcases vx with vx | ⟨p,rfl,hb,xs,q,r⟩
  ·cases vx with
   | @lst p xs _ hq r=>exact⟨p,xs,rfl,.inl ⟨.inl (Rd.mono (.inl hq) I1.sub),k _ G1 H1 I1 s1 m1 (pq (λGc H t1 t2 _=>.inl (Rd.mono (.inl hq) (t1.trans t2))) r)⟩⟩
  ·exact⟨p,xs,rfl,.inl ⟨.inl (.inl q),k _ G1 H1 I1 s1 m1 (pq (λGc H t1 t2 mv=>.inl (.inl (mv.1 p _ q hb))) r)⟩⟩
 |tuple l=>
  cases e
  rcases vx with vx | ⟨p,rfl,hb,q⟩
  ·cases vx with
   | @tup p xs _ hq r=>exact⟨p,xs,rfl,.inr ⟨hq.grow I1.sub.grow,k _ G1 H1 I1 s1 m1 (wK (λGc H t1 t2 _=>hq.grow (t1.trans t2).grow) r)⟩⟩
  ·exact q.elim
 |_=>cases e
def fO (lo:Int)(n:Nat):List D:=(List.range n).map λ(k:Nat)=>int (lo + k)
def iS (lo:Int)(n:Nat):(fO lo n).length=n:=by unfold fO;simp
def D1 {K:Frag}{B:@Ix}{G H1:Hp}(lo:Int)(n:Nat):Walk K B G H1 (fO lo n) (Bm lo n):=λGc H i s1 s2 m=>by
 rw[iS]
 refine⟨λhi=>⟨hi,λx H' y=>?_⟩,λhi=>hi⟩
 obtain⟨rfl,rfl⟩:=y
 refine⟨Gc,.int (lo + i),Ext.refl s2,?_,.int _⟩
 unfold fO
 rw[OK,QB hi];rfl
def Hq (j:Int):Bool:=Nat.ble j.natAbs 1000000
def DL {j:Int}(h:Hq j=true): -(2 ^ 62)<=j/\j < 2 ^ 62:=by
 have:=Nat.le_of_ble_eq_true h
 omega
def BG {j:Int}(h: -1000<=j)(h2:j<=10000):Hq j=true:=Nat.ble_eq_true_of_le (@AT)
def fm (fa:VF D):VF (List D):=λvs β=>(fa vs β).bnd λx β1=>match x with
 | .int j=>if Hq j=true then .ok (fO 0 j.toNat) β1 else .bad
 |_=>.bad
theorem lE {p:Pos}(hg:Gl X "range")(hm:X.mg "range"=none)(ha:SE X Γ E a fa La ma)(hs:starEach [a] X.env= [(false,eval a X.env)]:=by rfl)(hs':starEach [a] X.env=(false,eval a X.env) :: starEach [] X.env:=by rfl):SI X Γ E tg (.Call (.Name "range" p) [a] [] pos) (fm fa) La md:=by
 refine PI.post (l8 hg hm (aw ha aR hs') hs) λσ H Q ⟨env,G,B,β,I,o⟩=>?_
 refine⟨env,G,B,β,I,o.bnd.imp λd1 β1 h x G1 H1 I1 s1 m1 vx=>?_⟩
 have vx:=vx.brw I.boxThere
 cases d1 with
 |int j=>
  obtain rfl:=vx.int
  dsimp only at h
  by_cases hj:Hq j=true
  ·rw[Ov hj] at h
   exact⟨j,rfl,(DL hj).1,(DL hj).2,h _ G1 H1 I1 s1 m1 (D1 0 _)⟩
  ·rw[OA hj] at h;exact h.elim
 |_=>exact h.elim
inductive Tg where
 |nm (i:Nat)
 |two (i j:Nat)
def pairD:D->Option (D×D)
 | .tuple [x,y]=>some (x,y)
 |_=>none
def Dv {d x y:D}(h:pairD d=some (x,y)):d=.tuple [x,y]:=by
 unfold pairD at h
 split at h
 ·cases h;rfl
 ·cases h
def gY:Tg->D->En->Option En
 | .nm i,d,env=>some (env.set i (.fz d))
 | .two i j,d,env=>(pairD d).map λp=>(env.set i (.fz p.1)).set j (.fz p.2)
def tL:Tg->D->List Nv->Option (List Nv)
 | .nm i,d,vs=>some (vs.set i (.da d))
 | .two i j,d,vs=>(pairD d).map λp=>(vs.set i (.da p.1)).set j (.da p.2)
def zj (env:En)(i:Nat)(s:Sl):vl (env.set i s)=(vl env).set i s.val:=by unfold vl;rw[List.map_set]
theorem Fs (t:Tg)(d:D)(env:En):(gY t d env).map vl=tL t d (vl env):=by
 cases t with
 |nm i=>show some (vl _)=some _;rw[zj];rfl
 |two i j=>
  show ((pairD d).map _).map vl=(pairD d).map _
  cases pairD d with
  |none=>rfl
  |some p=>show some (vl _)=some _;rw[zj,zj];rfl
def gT (Γ:Fx)(t:Tg):TG:=λv σ H Q=>∃env G B β d env',@GT/\Rp Γ.K G v d/\gY t d env=some env'/\∀σ',SR Γ B G H σ' env' β->Q σ' H
def SG (X:Cx)(Γ:Fx)(tg:Expr)(t:Tg):Prop:=PG X tg (gT Γ t)
def PG.post {X:Cx}{tg:Expr}{t u:TG}(h:PG X tg t)(m:∀v σ H Q,u v σ H Q->t v σ H Q):PG X tg u:=λpins s σ H v uu Q I r q=>h pins s σ H v uu Q I r (m v σ H Q q)
def fq {i:Nat}{x:Str}(hN:X.N.Nodup)(hi:X.N[i]? =some x:=by rfl)(hx:Loc X.env.scope x:=by first |exact Or.inl rfl |exact Or.inr rfl)(hf:X.fn x=true\/X.env.scope.names.lookup x=some .local:=by first |exact .inl rfl |exact .inr rfl |assumption):SG X Γ (.Name x pos) (.nm i):=by
 refine PG.post (cS hN hi hx hf) λv σ H Q ⟨env,G,B,β,d,env',I,r,e,k⟩=>?_
 cases e
 exact k _ (I.set' i r)
theorem g8 {i j:Nat}{x y:Str}{px py:Pos}{n:Nat}(hN:X.N.Nodup)(hc:X.calm=true:=by rfl)(hK:X.K=Γ.K:=by rfl)(hi:X.N[i]? =some x:=by rfl)(hj:X.N[j]? =some y:=by rfl)(hx:Loc X.env.scope x:=by first |exact Or.inl rfl |exact Or.inr rfl)(hy:Loc X.env.scope y:=by first |exact Or.inl rfl |exact Or.inr rfl)
  (hf:X.fn x=true\/X.env.scope.names.lookup x=some .local:=by first |exact .inl rfl |exact .inr rfl |assumption) (hf':X.fn y=true\/X.env.scope.names.lookup y=some .local:=by first |exact .inl rfl |exact .inr rfl |assumption):SG X Γ (.Tuple [.Name x px,.Name y py] n pos) (.two i j):=by
 refine PG.post (rG (n:=2) hc (dW (cS hN hi hx hf) (dW (cS hN hj hy hf') og))) λv σ H Q ⟨env,G,B,β,d,env',I,r,e,k⟩=>?_
 rw[hK]
 have e:(pairD d).map (λp=>(env.set i (.fz p.1)).set j (.fz p.2))=some env':=e
 cases q:pairD d with
 |none=>rw[q] at e;cases e
 |some p=>
  obtain⟨dx,dy⟩:=p
  rw[q] at e
  cases e
  obtain rfl:=Dv q
  cases r with
  | @tup p xs _ hq r=>
   cases r with
   |cons r1 r=>
    cases r with
    |cons r2 r=>
     cases r
     exact⟨p,_,rfl,hq.grow I.sub.grow,rfl,_,_,rfl,_,_,rfl,rfl,k _ ((I.set' i r1).set' j r2)⟩
def ly (t:Tg)(m:SF):List D->SF
 | []=>λenv β=>.nx env β
 |d :: ds=>λenv β=>match gY t d env with
  |none=>.bad
  |some env1=>match m env1 β with
   | .nx env2 β2=>ly t m ds env2 β2
   | .ct env2 β2=>ly t m ds env2 β2
   | .bk env2 β2=>.nx env2 β2
   |r=>r
def iq (t:Tg)(L:@G_)(fi:VF (List D))(m:SF):SF:=λenv β=>toS (fi (vl env) β) λds β'=>ly t m ds (aY L env) β'
def jL {t:Tg}{fi:VF (List D)}{x:List Stmt}(hp:PassesOwn @Cl X.A X.env X.xe)(hc:X.calm=true)(hi:SI X Γ E tg e fi L .v)(hg:SG X Γ tg t)(hb:Ay X Γ E x m)(hs:∀x,foldedSetIterable e X.env x=pure x:=by intro _;rfl):SS X Γ E (.For tg e x [] pos) (iq t L fi m):=by
 refine PS.post (va hp hc hi hg hb hs) λN σ H ⟨env,G,B,β,I,o⟩=>?_
 refine⟨env,G,B,β,I,cR o λds β' q J G' H' I' s' m' w=>?_⟩
 have w:Walk Γ.K B G' (λ_=>none) ds J:=w
 refine⟨λi n σ H=>n=ds.length - i/\i<=ds.length/\∃env G1 B β,SR Γ B G1 H σ env β/\ar G' G1/\tf Γ E G1 N (ly t m (ds.drop i) env β),⟨ds.length,by simp,O7 _,aY L env,G',B,β',I',ar.refl _,by rw[List.drop_zero];exact tf.weak q s'⟩,?_⟩
 rintro i n σ H ⟨rfl,hi,env,G1,B1,β1,I1,s1,q⟩
 obtain⟨w1,w2⟩:=w G1 H i s1 I1.sub ⟨(λb o e=>by cases e),λb o u e=>by cases e⟩
 by_cases hlt:i < ds.length
 ·obtain⟨go,yl⟩:=w1 hlt
  refine .inr ⟨go,λσ H=>∃env G2 B β,SR Γ B G2 H σ env β/\ar G' G2/\tf Γ E G2 N (ly t m (ds.drop (i + 1)) env β),λσ2 H2 h=>⟨ds.length - (i + 1),@AT,rfl,hlt,h⟩,λx H2 y=>?_⟩
  obtain⟨G2,d,x2,ed,rd⟩:=yl x H2 y
  have I2:=I1.ext x2
  have q:=tf.weak q x2.gg
  rw[Qu hlt] at q
  have ed':ds[i]=d:=by rw[Ot hlt] at ed;exact Option.some.inj ed
  rw[ed'] at q
  unfold ly at q
  cases eb:gY t d env with
  |none=>rw[eb] at q;exact q.elim
  |some env1=>
   rw[eb] at q
   refine⟨env,G2,B1,β1,d,env1,I2,rd,eb,λσ3 I3=>⟨env1,G2,B1,β1,I3,?_⟩⟩
   have s2:=s1.trans x2.gg
   dsimp only at q
   cases r:m env1 β1 with
   |nx env2 β2=>rw[r] at q;exact λB2 G3 H3 σ2 I2 s3=>⟨env2,G3,B2,β2,I2,s2.trans s3,tf.weak q s3⟩
   |ct env2 β2=>rw[r] at q;exact λB2 G3 H3 σ2 I2 s3=>⟨env2,G3,B2,β2,I2,s2.trans s3,tf.weak q s3⟩
   |bk env2 β2=>rw[r] at q;exact λB2 G3 H3 σ2 I2 s3=>q B2 G3 H3 σ2 I2 s3
   |rt d fr β2=>rw[r] at q;exact q
   |exc c=>rw[r] at q;exact q
   |bad=>rw[r] at q;exact q
 ·have e:i=ds.length:=@AT
  subst e
  rw[QJ] at q
  exact .inl ⟨w2 (Ox _),q B1 G1 H σ I1 (ar.refl _)⟩
end
abbrev Fx.eV (Γ:Fx)(H0 G0:Hp)(par:List Addr)(br:Nat->Bool)(bx:@Ix):Fx:=⟨Γ.K,H0,G0,par,Γ.ca,br,bx⟩
def i5 (own:Nat)(ixs:@G_)(vs:List Nv):List Nv:=List.replicate own .no ++ ixs.map λi=>(vs[i]?).getD .no
def Ku:Option Sl->Sl
 |some (.ow d)=>.br d
 |some s=>s
 |none=>.no
def benv (own:Nat)(ixs:@G_)(env:En):En:=List.replicate own .no ++ ixs.map λi=>Ku env[i]?
theorem F0 (o:Option Sl):(Ku o).val=(o.map Sl.val).getD .no:=by
 cases o with
 |none=>rfl
 |some s=>cases s <;> rfl
def GD (own:Nat)(ixs:@G_)(env:En):vl (benv own ixs env)=i5 own ixs (vl env):=by
 unfold vl benv i5
 rw[Pb,List.map_replicate,QX]
 congr 1
 refine PV λi _=>?_
 show (Ku env[i]?).val=_
 rw[F0,OK]
def yE (env:En):Prop:=∀(i:Nat) (d:D),env[i]?≠some (.ow d)
theorem wa {env:En}(h:yE env)(L:@G_):aY L env=env:=by
 unfold aY
 induction L with
 |nil=>rfl
 |cons i L ih=>
  rw[List.foldl_cons]
  have:gX env i=env:=by
   unfold gX
   split
   ·rename_i d e;exact absurd e (h i d)
   ·rfl
  rw[this];exact ih
def t9 (own:Nat)(ixs:@G_)(env:En):yE (benv own ixs env):=λi d e=>by
 unfold benv at e
 have hm:=OV e
 rcases OR.mp hm with h |h
 ·have:=PD h;cases this
 ·obtain⟨k,_,hk⟩:=Pj.mp h
  cases q:env[k]? with
  |none=>rw[q] at hk;cases hk
  |some s=>rw[q] at hk;cases s <;> cases hk
def qU {env:En}(h:yE env)(i:Nat)(d:D):yE (env.set i (.fz d)):=λj d' e=>by
 by_cases z:i=j
 ·subst z
  by_cases hi:i < env.length
  ·rw[OJ hi] at e;cases e
  ·rw[Qd (@AT)] at e;exact h _ _ e
 ·rw[OL z] at e;exact h _ _ e
theorem A9 {env env1:En}{t:Tg}{d:D}(h:yE env)(e:gY t d env=some env1):yE env1:=by
 cases t with
 |nm i=>cases e;exact qU h i d
 |two i j=>
  have e:(pairD d).map _=some env1:=e
  cases q:pairD d with
  |none=>rw[q] at e;cases e
  |some p=>rw[q] at e;cases e;exact qU (qU h _ _) _ _
theorem A8 {env env1:En}{t:Tg}{d:D}(e:gY t d env=some env1)(d':D):gY t d' env1=gY t d' env:=by
 cases t with
 |nm i=>cases e;show some _=some _;rw[set_set]
 |two i j=>
  have e:(pairD d).map _=some env1:=e
  cases q:pairD d with
  |none=>rw[q] at e;cases e
  |some p=>
   rw[q] at e;cases e
   show (pairD d').map _=(pairD d').map _
   cases pairD d' with
   |none=>rfl
   |some p'=>
    show some _=some _
    congr 1
    dsimp only
    by_cases z:i=j
    ·subst z;simp[set_set]
    ·rw[List.set_comm _ _ (Ne.symm z),set_set,set_set]
def Ext.mov {G H G' H':Hp}(x:Ext G H G' H')(B:@Ix):iw B H H':=x.hh.mov B
section
variable {Γ:Fx}{B:@Ix}{G H G1 H1 Gc Hc:Hp}{σ σ':St}{env envb:En}{β β':Int}{own:Nat}{ixs:@G_}{Da:Addr}{acc:List V}
def yR (envb:En):Nat->Bool:=λj=>match envb[j]? with
 |some (.br _)=>true
 |_=>false
def SR.block (I:@GT)(own:Nat)(ixs:@G_)(hD:H Da=none):SR (Γ.eV (upd H Da (.lst [])) G (Da :: B.toList) (yR (benv own ixs env)) B) B G (upd H Da (.lst [])) (dv own ixs σ) (benv own ixs env) β:=by
 obtain⟨q1,q2,q3,q4⟩:=I.fresh hD
 have nB:∀b,B=some b->b≠Da:=λb e z=>q3 (by rw[<-z];exact e)
 refine⟨I.sub.trans (ar.new hD),ar.refl _,λb _ h=>h,λb o h _=>Kt.of h,λb hb=>?_,λb e=>e,λb e=>?_,?_,λi s e=>?_,λi j c d d' e=>absurd e (t9 own ixs env i d)⟩
 ·rcases OC.mp hb with z |z
  ·subst z;exact Mx.lst az
  ·have z':B=some b:=by simpa using z
   exact Mx.lst (by rw[aE (nB b z')];exact (I.box b z').1)
 ·obtain⟨h1,h2,_⟩:=I.box b e
  exact⟨by rw[aE (nB b e)];exact h1,h2,.inl (OF _ (by simpa using e))⟩
 ·unfold dv benv;simp
 ·by_cases hi:i < own
  ·unfold benv at e
   rw[O0 (by simpa using hi),PH,Ov hi] at e
   cases e;trivial
  ·have e0:=e
   unfold benv at e
   rw[O2 (by simpa using hi),Pe,OK] at e
   cases ek:ixs[i - own]? with
   |none=>rw[ek] at e;cases e
   |some k=>
    rw[ek] at e
    have e:Ku env[k]? =s:=Option.some.inj e
    have es:(dv own ixs σ)[i]? =some ((σ[k]?).join):=by
     unfold dv
     rw[O2 (by simpa using hi),Pe,OK,ek];rfl
    rw[es]
    cases q:env[k]? with
    |none=>rw[q] at e;subst e;trivial
    |some t=>
     rw[q] at e
     have w:=I.slot k t q
     cases t with
     |no=>subst e;trivial
     |fz d=>subst e;obtain⟨v,h1,h2⟩:=w;exact⟨v,by rw[h1];rfl,h2⟩
     |bx=>subst e;obtain⟨a,h1,h2⟩:=w;exact⟨a,by rw[h1];rfl,h2⟩
     |ow d=>
      subst e
      obtain⟨a,h1,h2,h3,h4,h5⟩:=w
      obtain⟨o,ho⟩:=h5.obj
      have aD:a≠Da:=aM ho hD
      refine⟨by show yR _ i=true;unfold yR;rw[e0];rfl,a,by rw[h1];rfl,h4,?_,h5.mono (ar.refl _) λo q=>Kt.of (by rw[aE aD];exact q)⟩
      intro hm
      rcases OC.mp hm with z |z
      ·exact aD z
      ·exact h4 (by simpa using z)
     |br d=>
      subst e
      obtain⟨b1,a,h1,h4,hp,h5⟩:=w
      obtain⟨o,ho⟩:=h5.obj
      have aD:a≠Da:=aM ho hD
      refine⟨by show yR _ i=true;unfold yR;rw[e0];rfl,a,by rw[h1];rfl,h4,?_,h5.mono (ar.refl _) λo q=>Kt.of (by rw[aE aD];exact q)⟩
      intro hm
      rcases OC.mp hm with z |z
      ·exact aD z
      ·exact h4 (by simpa using z)
def SR.unblock (I:@GT){br:Nat->Bool}(hD:H Da=none)(J:SR (Γ.eV (upd H Da (.lst [])) G (Da :: B.toList) br B) B Gc Hc σ' envb β'):SR Γ B Gc Hc σ env β'/\iw B H Hc/\Gc Da=none:=by
 obtain⟨q1,q2,q3,q4⟩:=I.fresh hD
 have up:∀{b:Addr},Mx H b->Mx (upd H Da (.lst [])) b:=λ{b} h=>h.same λo e=>Kt.of (by rw[aE (aM e hD)];exact e)
 have mv0:∀b o,H b=some o->B≠some b->Kt Hc b o:=λb o e n=>J.keep b o (show upd H Da (.lst []) b=some o by rw[aE (aM e hD)];exact e) λhm=>by
  rcases OC.mp hm with z |z
  ·rw[z,hD] at e;cases e
  ·exact n (by simpa using z)
 have mv:iw B H Hc:=⟨mv0,λb o u e=>mv0 b _ e λz=>by rw[(I.box b z).1] at e;cases e⟩
 refine⟨⟨J.sub,I.old.trans J.old,λb h1 h2=>J.new b (up (I.thereM h1)) (I.new b h1 h2),λb o h1 h2=>x6 (I.keep b o h1 h2) mv λz=>?_,λb hb=>J.thereM (up (I.pin b hb)),I.fix,λb e=>?_,I.len,λi s e=>?_,I.sep⟩,mv,J.new Da (Mx.lst (show upd H Da (.lst []) Da=some (.lst []) from az)) q2⟩
 ·obtain⟨_,_,h3⟩:=I.box b z
  rcases h3 with h3 |h3
  ·exact h2 h3
  ·rw[h1] at h3;cases h3
 ·obtain⟨j1,j2,_⟩:=J.box b e
  exact⟨j1,j2,(I.box b e).2.2⟩
 ·have w:=I.slot i s e
  cases s with
  |no=>trivial
  |fz d=>obtain⟨v,h1,h2⟩:=w;exact⟨v,h1,h2.mono J.old⟩
  |bx=>exact w
  |ow d=>
   obtain⟨a,h1,h2,h3,h4,h5⟩:=w
   exact⟨a,h1,h2,J.new a (up h5.mx) h3,h4,h5.mono J.old λo q=>mv.1 a o q h4⟩
  |br d=>
   obtain⟨b1,a,h1,h4,hp,h5⟩:=w
   exact⟨b1,a,h1,h4,hp,h5.mono J.old λo q=>mv.1 a o q h4⟩
def SR.updD {ys:List V}(J:@GT)(hp:Da∈Γ.par)(h0:Mx Γ.H0 Da)(g0:Γ.G0 Da=none)(hB:B≠some Da):SR Γ B G (upd H Da (.lst ys)) σ env β:=by
 have gD:=J.new Da h0 g0
 have ha:∀x y,H Da≠some (.aY x y):=λx y w=>(J.pin Da hp).2 _ w trivial
 refine⟨λb u q=>jC (J.sub b u q) (λz=>by rw[z,gD] at q;cases q) ha,J.old,J.new,λb u q n=>jC (J.keep b u q n) (λz=>n (by rw[z];exact hp)) ha,λb hb=>?_,J.fix,λb e=>?_,J.len,λi s e=>?_,J.sep⟩
 ·by_cases z:b=Da
  ·subst z;exact Mx.lst az
  ·exact (J.pin b hb).same λo e=>Kt.of (by rw[aE z];exact e)
 ·obtain⟨h1,h2⟩:=J.box b e
  exact⟨by rw[aE (λz=>hB (by rw[<-z];exact e))];exact h1,h2⟩
 ·have w:=J.slot i s e
  cases s with
  |no=>trivial
  |fz d=>exact w
  |bx=>exact w
  |ow d=>
   obtain⟨a,h1,h2,h3,h4,h5⟩:=w
   have aD:a≠Da:=λz=>h0.1 (by rw[<-z];exact h2)
   exact⟨a,h1,h2,h3,h4,h5.mono (ar.refl _) λo q=>Kt.of (by rw[aE aD];exact q)⟩
  |br d=>
   obtain⟨b1,a,h1,h4,hpa,h5⟩:=w
   have aD:a≠Da:=λz=>hpa (by rw[z];exact hp)
   exact⟨b1,a,h1,h4,hpa,h5.mono (ar.refl _) λo q=>Kt.of (by rw[aE aD];exact q)⟩
end
def R.okb {α γ:Type}(r:R α)(k:α->Int->R γ):R γ:=match r with
 | .ok a β=>k a β
 |_=>.bad
def ja (t:Tg)(ft:VF Bool)(fe:VF D)(vs:List Nv):List D->Int->R (List D)
 | [],β=>.ok [] β
 |d :: ds,β=>match tL t d vs with
  |none=>.bad
  |some vs1=>(ft vs1 β).okb λc β1=>if c=true then (fe vs1 β1).okb λx β2=>(ja t ft fe vs ds β2).okb λxs β3=>.ok (x :: xs) β3 else ja t ft fe vs ds β1
def aU (own:Nat)(ixs:@G_)(t:Tg)(fi:VF (List D))(ft:VF Bool)(fe:VF D):VF D:=λvs β=>(fi vs β).bnd λds β1=>if ds.length<=sizeLine then (ja t ft fe (i5 own ixs vs) ds β1).okb λxs β2=>.ok (.list xs) β2 else .bad
def nO:VF Bool:=λ_ β=>.ok true β
def Hw (own:Nat)(ixs Lc:@G_)(j:Nat):Bool:=decide (j < own) || (match ixs[j - own]? with
 |some i=>Lc.contains i
 |none=>false)
theorem EU {α γ:Type}{Γ:Fx}{E:XK}{r:R α}{k:α->Int->R γ}{P:γ->Int->Prop}(h:Out Γ E (r.okb k) P):∃a β,r=.ok a β/\Out Γ E (k a β) P:=by
 cases r with
 |ok a β=>exact⟨a,β,rfl,h⟩
 |exc c=>exact h.elim
 |bad=>exact h.elim
section
variable {X:Cx}{Γ:Fx}{E:XK}{tg iter elt:Expr}{ifs:List Expr}{scope:Scope}{NB:@H_}{own:Nat}{ixs Li Lc Lt Le:@G_}{t:Tg}{fi:VF (List D)}{ft:VF Bool}{fe:VF D}{pos:Pos}
def gG {X:Cx}{Γ:Fx}{E:XK}:yZ X [] (qT Γ E nO []):=λpins s σ H Q I ⟨env,G,B,β,J,o⟩=>ql pins s σ H Q I (o G H J (ar.refl _) (iw.refl _ _))
def eB {X:Cx}{Γ:Fx}{E:XK}{c:Expr}{ta:VF Bool}{L:@G_}(h:zy X Γ E c ta L):yZ X [c] (qT Γ E ta L):=vF h
def lD {NB:@H_}{scope:Scope}{C:Addr}{ex:List Addr}{s3:Shared}{H3:Hp}{pn:@B_}{P:Program}{w:World}:Passes (lg P w) @Fk E0:=λpins σ H s e s' I h=>by
 obtain⟨_,_,_,_,_,_,_,_,_,q⟩:=h
 exact q.elim
abbrev gU (Γ:Fx)(t:Tg):TG:=λv σ H Q=>∃H0 G0 par br bx,gT (Γ.eV H0 G0 par br bx) t v σ H Q
abbrev tU (Γ:Fx)(own:Nat)(ixs Lc:@G_)(ft:VF Bool)(Lt:@G_):TT:=λσ H Q=>∃H0 G0 par br bx,(∀j,Hw own ixs Lc j=true->br j=false)/\qT (Γ.eV H0 G0 par br bx) E0 ft Lt σ H Q
abbrev eU (Γ:Fx)(own:Nat)(ixs Lc:@G_)(fe:VF D)(Le:@G_):TE:=λσ H Q=>∃H0 G0 par br bx,(∀j,Hw own ixs Lc j=true->br j=false)/\pT (Γ.eV H0 G0 par br bx) E0 fe Le .v σ H Q
def Hl {σ:St}{H:Hp}{Q:VK}(hLc:∀i,i∈Lc->Γ.br i=false)(h:pT Γ E (aU own ixs t fi ft fe) (Li ++ Lc) .w σ H Q):yo own ixs (iT Γ E fi Li .b) (gU Γ t) (tU Γ own ixs Lc ft Lt) (eU Γ own ixs Lc fe Le) σ H Q:=by
 obtain⟨env,G,B,β,I,o⟩:=h
 refine⟨env,G,B,β,I,o.bnd.imp λds β1 h J G1 H1 I1 s1 m1 wk Da hD=>?_⟩
 have wk:Walk Γ.K B G1 H1 ds J:=wk
 by_cases hz:ds.length<=sizeLine
 case neg=>rw[OA hz] at h;exact h.elim
 rw[Ov hz] at h
 obtain⟨xs0,β0,e0,h⟩:=EU h
 have h:∀v G' H',SR Γ B G' H' σ (aY (Li ++ Lc) env) β0->ar G G'->iw B H H'->VO Γ.K B H G' H' .w (.list xs0) v->Q v H':=h
 obtain⟨G2,I2,s2⟩:=I1.aY Lc hLc
 rw[<-cA] at I2
 obtain⟨q1,q2,q3,q4⟩:=I2.fresh hD
 have Ib0:=I2.block own ixs hD
 generalize hbr:yR (benv own ixs (aY (Li ++ Lc) env))=br at Ib0
 have hbo:∀j,Hw own ixs Lc j=true->br j=false:=by
  intro j hj
  rw[<-hbr]
  unfold yR
  split
  ·rename_i d e
   exfalso
   unfold benv at e
   by_cases hjo:j < own
   ·rw[O0 (by simpa using hjo),PH,Ov hjo] at e;cases e
   ·rw[O2 (by simpa using hjo),Pe,OK] at e
    unfold Hw at hj
    rw[ON hjo,Bool.false_or] at hj
    cases ek:ixs[j - own]? with
    |none=>rw[ek] at hj;cases hj
    |some k=>
     rw[ek] at hj e
     have hk:k∈Lc:=by simpa using hj
     have e:Ku (aY (Li ++ Lc) env)[k]? =.br d:=Option.some.inj e
     cases q:(aY (Li ++ Lc) env)[k]? with
     |none=>rw[q] at e;cases e
     |some s=>
      rw[q] at e
      cases s with
      |no=>cases e
      |fz _=>cases e
      |bx=>cases e
      |br d'=>
       obtain⟨b1,_⟩:=I2.slot k _ q
       rw[hLc k hk] at b1;cases b1
      |ow d'=>
       rw[cA] at q
       have key:∀(M:@G_) (en:En),k∈M->∀d',(aY M en)[k]?≠some (.ow d'):=by
        intro M
        induction M with
        |nil=>intro en hm;cases hm
        |cons i M ih=>
         intro en hm d' z
         rcases OC.mp hm with y |y
         ·subst y
          have z1:(gX en k)[k]? =some (.ow d'):=rP (L:=M) z
          have z2:=vf z1
          unfold gX at z1
          rw[z2] at z1
          dsimp only at z1
          rw[OJ (Oy.mp z2).1] at z1;cases z1
         ·exact ih (gX en i) y d' z
       exact key Lc _ hk d' q
  ·rfl
 have evb:vl (benv own ixs (aY (Li ++ Lc) env))=i5 own ixs (vl env):=by rw[GD,dS]
 refine⟨λi n σ' H'=>n=ds.length - i/\i<=ds.length/\∃envb Gc β' acc accd,SR (Γ.eV (upd H1 Da (.lst [])) G2 (Da :: B.toList) br B) B Gc H' σ' envb β'/\(envb=benv own ixs (aY (Li ++ Lc) env)\/∃d,gY t d (benv own ixs (aY (Li ++ Lc) env))=some envb)/\
   H' Da=some (.lst acc)/\cQ Γ.K Gc acc accd/\accd.length<=i/\∃xs,ja t ft fe (i5 own ixs (vl env)) (ds.drop i) β'=.ok xs β0/\accd ++ xs=xs0,
  ⟨ds.length,by simp,O7 _,_,G2,β1,[],[],Ib0,.inl rfl,az,.nil,O7 _,xs0,by rw[List.drop_zero];exact e0,rfl⟩,?_⟩
 rintro i n σ' H' ⟨rfl,hi',envb,Gc,β',acc,accd,Ib,eb,hacc,racc,lacc,xs,ec,exs⟩
 obtain⟨Io,mv,gD⟩:=I2.unblock hD Ib
 obtain⟨w1,w2⟩:=wk Gc H' i (s2.trans Ib.old) Ib.sub mv
 by_cases hlt:i < ds.length
 ·obtain⟨go,yl⟩:=w1 hlt
  refine .inr ⟨go,λσ' H'=>∃envb Gc β' acc accd,SR (Γ.eV (upd H1 Da (.lst [])) G2 (Da :: B.toList) br B) B Gc H' σ' envb β'/\(envb=benv own ixs (aY (Li ++ Lc) env)\/∃d,gY t d (benv own ixs (aY (Li ++ Lc) env))=some envb)/\
   H' Da=some (.lst acc)/\cQ Γ.K Gc acc accd/\accd.length<=i + 1/\∃xs,ja t ft fe (i5 own ixs (vl env)) (ds.drop (i + 1)) β'=.ok xs β0/\accd ++ xs=xs0,λσ2 H2 hh=>⟨ds.length - (i + 1),@AT,rfl,hlt,hh⟩,λx H2 y=>?_⟩
  obtain⟨G3,d,x3,ed,rd⟩:=yl x H2 y
  have I3:=Ib.ext x3
  have ed':ds[i]=d:=by rw[Ot hlt] at ed;exact Option.some.inj ed
  rw[Qu hlt,ed'] at ec
  unfold ja at ec
  cases ebv:tL t d (i5 own ixs (vl env)) with
  |none=>rw[ebv] at ec;cases ec
  |some vs1=>
   rw[ebv] at ec
   dsimp only at ec
   obtain⟨env1,eb1,ev1⟩:∃env1,gY t d (benv own ixs (aY (Li ++ Lc) env))=some env1/\vl env1=vs1:=by
    have:=Fs t d (benv own ixs (aY (Li ++ Lc) env))
    rw[evb,ebv] at this
    cases q:gY t d (benv own ixs (aY (Li ++ Lc) env)) with
    |none=>rw[q] at this;cases this
    |some env1=>rw[q] at this;exact⟨env1,rfl,Option.some.inj this⟩
   have eb2:gY t d envb=some env1:=by
    rcases eb with rfl | ⟨d0,eb⟩
    ·exact eb1
    ·rw[A8 eb];exact eb1
   have no1:yE env1:=A9 (t9 _ _ _) eb1
   have a2:H2 Da=some (.lst acc):=x3.hh _ _ hacc
   refine⟨_,_,_,_,_,envb,G3,B,β',d,env1,I3,rd,eb2,λσ3 I4=>?_⟩
   refine⟨_,_,_,_,_,hbo,env1,G3,B,β',I4,?_⟩
   rw[ev1]
   cases et:ft vs1 β' with
   |exc c=>rw[et] at ec;cases ec
   |bad=>rw[et] at ec;cases ec
   |ok c β2=>
    rw[et] at ec
    intro G4 H4 I5 s4 m4
    rw[wa no1] at I5
    have a4:H4 Da=some (.lst acc):=m4.1 _ _ a2 q3
    cases c with
    |false=>
     refine pA ⟨env1,G4,β2,acc,accd,I5,.inr ⟨d,eb1⟩,a4,racc.mono (x3.gg.trans s4),@AT,xs,?_,exs⟩
     exact ec
    |true=>
     refine rq ⟨_,_,_,_,_,hbo,env1,G4,B,β2,I5,?_⟩
     rw[ev1]
     have ec:((fe vs1 β2).okb λx β3=>(ja t ft fe (i5 own ixs (vl env)) (ds.drop (i + 1)) β3).okb λxs β4=>R.ok (x :: xs) β4)=R.ok xs β0:=ec
     cases ee:fe vs1 β2 with
     |exc c=>rw[ee] at ec;cases ec
     |bad=>rw[ee] at ec;cases ec
     |ok dx β3=>
      rw[ee] at ec
      intro v G5 H5 I6 s5 m5 vo
      rw[wa no1] at I6
      have a5:H5 Da=some (.lst acc):=m5.1 _ _ a4 q3
      have ec:((ja t ft fe (i5 own ixs (vl env)) (ds.drop (i + 1)) β3).okb λxs β4=>R.ok (dx :: xs) β4)=R.ok xs β0:=ec
      cases er:ja t ft fe (i5 own ixs (vl env)) (ds.drop (i + 1)) β3 with
      |exc c=>rw[er] at ec;cases ec
      |bad=>rw[er] at ec;cases ec
      |ok ys β4=>
       rw[er] at ec
       cases ec
       refine⟨acc,a5,by rw[racc.len];omega,env1,G5,β3,acc ++ [v],accd ++ [dx],?_,.inr ⟨d,eb1⟩,az,(racc.mono ((x3.gg.trans s4).trans s5)).snoc vo,by rw[OT];simp;omega,ys,er,by rw[<-exs,Qe];rfl⟩
       refine I6.updD (OH ..) (Mx.lst (show upd H1 Da (.lst []) Da=some (.lst []) from az)) (I2.sub.free hD) q3
 ·have e:i=ds.length:=@AT
  subst e
  rw[QJ] at ec
  cases ec
  rw[Qa] at exs
  subst exs
  refine .inl ⟨w2 (Ox _),⟨acc,hacc⟩,h _ Gc H' Io ((s1.trans s2).trans Ib.old) (m1.trans mv) ⟨Da,rfl,fu m1 I1.boxThere hD,gD,acc,hacc,racc⟩⟩
def bU (hg:∀H0 G0 par br bx C ex s3 H3 pn,SG @Fk (Γ.eV H0 G0 par br bx) tg t)(C:Addr)(ex:List Addr)(s3:Shared)(H3:Hp)(pn:@B_):PG @Fk tg (gU Γ t):=by
 rintro pins s σ H v u Q I r ⟨H0,G0,par,br,bx,q⟩
 exact hg H0 G0 par br bx C ex s3 H3 pn pins s σ H v u Q I r q
def cK (Lc:@G_)(hc:X.calm=true)(S:bA X NB own ixs scope)(hLc:∀i,i∈Lc->Γ.br i=false)(hi:SI X Γ E tg iter fi Li .b)
  (hg:∀H0 G0 par br bx C ex s3 H3 pn,SG @Fk (Γ.eV H0 G0 par br bx) tg t)
  (ht:∀H0 G0 par br bx C ex s3 H3 pn,(∀j,Hw own ixs Lc j=true->br j=false)->yZ @Fk ifs (qT (Γ.eV H0 G0 par br bx) E0 ft Lt))
  (he:∀H0 G0 par br bx C ex s3 H3 pn,(∀j,Hw own ixs Lc j=true->br j=false)->SE @Fk (Γ.eV H0 G0 par br bx) E0 elt fe Le .v)
  (hs:∀x,foldedSetIterable iter X.env x=pure x:=by intro _;rfl) :
  SE X Γ E @IO (aU own ixs t fi ft fe) (Li ++ Lc) .w:=by
 refine PE.post' (wL (g:=gU Γ t) (tt:=tU Γ own ixs Lc ft Lt) (te:=eU Γ own ixs Lc fe Le) hc S hi (bU hg) (λC ex s3 H3 pn=>?_) (λC ex s3 H3 pn=>?_) hs) λσ H Q h=>Hl hLc h
 ·rintro pins s σ H Q I ⟨H0,G0,par,br,bx,b,q⟩
  exact ht H0 G0 par br bx C ex s3 H3 pn b pins s σ H Q I q
 ·rintro pins s σ H Q I ⟨H0,G0,par,br,bx,b,q⟩
  exact he H0 G0 par br bx C ex s3 H3 pn b pins s σ H Q I q
def nQ {i:Nat}{y:Str}{py spos:Pos}(Lc:@G_)(hc:X.calm=true)(S:bA X NB own ixs scope)(hLc:∀i,i∈Lc->Γ.br i=false)(hi:SI X Γ E tg iter fi Li .b)
  (hg:∀H0 G0 par br bx C ex s3 H3 pn,SG @Fk (Γ.eV H0 G0 par br bx) tg t)
  (ht:∀H0 G0 par br bx C ex s3 H3 pn,(∀j,Hw own ixs Lc j=true->br j=false)->yZ @Fk ifs (qT (Γ.eV H0 G0 par br bx) E0 ft Lt))
  (he:∀H0 G0 par br bx C ex s3 H3 pn,(∀j,Hw own ixs Lc j=true->br j=false)->SE @Fk (Γ.eV H0 G0 par br bx) E0 elt fe Le .v)
  (hN:X.N.Nodup) (hy:X.N[i]? =some y:=by rfl) (hl:X.env.scope.names.lookup y=some .local:=by rfl)
  (hsw:swapsWith @IO (some (.Name y py)) spos.line X.env=pure true:=by rfl)
  (hs:∀x,foldedSetIterable iter X.env x=pure x:=by intro _;rfl) :
  SS X Γ E (.Assign [.Name y py] @IO spos) (bK i (Li ++ Lc) (aU own ixs t fi ft fe)):=by
 refine PS.post (CC (g:=gU Γ t) (tt:=tU Γ own ixs Lc ft Lt) (te:=eU Γ own ixs Lc fe Le) hc S hi (bU hg) (λC ex s3 H3 pn=>?_) (λC ex s3 H3 pn=>?_) hN hy hl hsw hs) λN σ H ⟨env,G,B,β,I,o⟩=>?_
 ·rintro pins s σ H Q I ⟨H0,G0,par,br,bx,b,q⟩
  exact ht H0 G0 par br bx C ex s3 H3 pn b pins s σ H Q I q
 ·rintro pins s σ H Q I ⟨H0,G0,par,br,bx,b,q⟩
  exact he H0 G0 par br bx C ex s3 H3 pn b pins s σ H Q I q
 refine Hl hLc ⟨env,G,B,β,I,cR o λd β' k v G' H' I' s' m' vo=>?_⟩
 obtain⟨G2,I2,s2,r⟩:=I.letW I' vo
 exact k B G2 H' _ (I2.set' i r) (s'.trans s2)
end
def fin:SO->FR
 | .nx _ _=>.ok .none false
 | .rt d fr _=>.ok d fr
 | .exc c=>.exc c
 |_=>.bad
def yj (n:Nat)(ds:List D):En:=ds.map Sl.fz ++ List.replicate (n - ds.length) .no
def aW (n p:Nat)(m:SF):@Do:=λds=>if ds.length=p then fin (m (yj n ds) 0) else .bad
abbrev Fx.fn (K:Frag)(H G:Hp)(ca:Str->Addr):Fx:=⟨K,H,G,[],ca,λ_=>false,none⟩
def SR.start {K:Frag}{H G:Hp}{ca:Str->Addr}{N:@H_}{vs:List V}{ds:List D}(s:ar G H)(r:cQ K G vs ds)(hn:ds.length<=N.length):SR (Fx.fn K H G ca) none G H (start N vs) (yj N.length ds) 0:=by
 have hl:=r.len
 refine⟨s,ar.refl _,λb _ h=>h,λb o h _=>Kt.of h,λb h=>(by cases h),λb h=>(by cases h),λb h=>(by cases h),?_,λi t e=>?_,λi j a d e h=>?_⟩
 ·unfold L2.start yj;simp;omega
 ·unfold yj at e
  by_cases hi:i < ds.length
  ·rw[O0 (by simpa using hi),OK,Ot hi] at e
   cases e
   obtain⟨x,hx,rx⟩:=r.at (Ot hi)
   refine⟨x,?_,rx⟩
   unfold L2.start
   rw[O0 (by simpa[hl] using hi),OK,hx];rfl
  ·rw[O2 (by simpa using hi),PH] at e
   split at e
   ·cases e;trivial
   ·cases e
 ·unfold yj at h
  have hm:=OV h
  rcases OR.mp hm with z |z
  ·obtain⟨_,_,z⟩:=Pj.mp z;cases z
  ·have:=PD z;cases this
section
variable {P:Program}{w:World}{K:Frag}{mg:@FM}{base:Heap}{ca:Str->Addr}
def aZ {x qual:Str}{st:Stmt}{f:Addr}{fd:FuncData}{N ps:@H_}{k:Nat}{m:SF}(F:xV K x qual st f fd)(S:aF N ps (ah st))
  (hbody:∀(cdv:Value) (A:Around) (outer:List Env) (s:Shared) (H G:Hp) (E:XK),dN k (A.deeper (envOfC qual (ah st) s.heap.objs.size f cdv))->Ay (j9 (lg P w) P w K mg base N qual (ah st) f cdv A outer s H E) (Fx.fn K H G ca) E (cG st) m) :
  e8 P w K mg base (lg P w) (k + 1) f fd ps (Hu K ca ps.length (aW N.length ps.length m)):=by
 have hpn:ps.length<=N.length:=by have:=congrArg List.length S.pre;rw[Pu] at this;omega
 refine F.Hq S (λvs H Q E h=>?_) (λcdv A outer s H vs Q E hr h=>?_)
 ·obtain⟨G,ds,sG,hl,r,_⟩:=h
  rw[r.len];exact hl
 ·obtain⟨G,ds,sG,hl,r,h⟩:=h
  refine⟨_,hbody cdv A outer s H G E hr,?_⟩
  have I:=SR.start (ca:=ca) (N:=N) sG r (@AT)
  refine⟨_,G,none,0,I,?_⟩
  unfold aW at h
  rw[Ov hl] at h
  have fin':∀{B G' H' σ env β},SR (Fx.fn K H G ca) B G' H' σ env β->ar H H':=λJ b o e=>J.keep b o e (λz=>by cases z)
  cases q:m (yj N.length ds) 0 with
  |nx env β=>rw[q] at h;exact λB G' H' σ J s'=>h .non G' H' (fin' J) s' J.sub (λb h1 h2=>J.new b h1 h2) Rp.non
  |bk env β=>rw[q] at h;exact h.elim
  |ct env β=>rw[q] at h;exact h.elim
  |rt d fr β=>
   rw[q] at h
   refine λB G' H' σ env v J s' rv=>h v G' H' (fin' J) s' J.sub (λb h1 h2=>J.new b h1 h2) ?_
   cases fr with
   |true=>exact rv
   |false=>exact rv
  |exc c=>rw[q] at h;exact λH' kp=>h H' λb o e=>kp b o e (λz=>by cases z)
  |bad=>rw[q] at h;exact h.elim
def DH {f:Addr}{fd:FuncData}{ps:@H_}{k:Nat}:e8 P w K mg base (lg P w) k f fd ps (Hu K ca ps.length λ_=>.bad):=
 ⟨λvs H Q E h=>by obtain⟨_,_,_,_,_,h⟩:=h;exact h.elim,λA outer s H args us vs Q E _ _ _ _ h=>by obtain⟨_,_,_,_,_,h⟩:=h;exact h.elim⟩
def EL {n:Nat}{F F':@Do}(h:∀ds,ds.length=n->F' ds≠.bad->F ds=F' ds){vs:List V}{H:Hp}{Q:VK}{E:XK}(q:Hu K ca n F' vs H Q E):Hu K ca n F vs H Q E:=by
 obtain⟨G,ds,s,hl,r,q⟩:=q
 refine⟨G,ds,s,hl,r,?_⟩
 by_cases hb:F' ds=.bad
 ·rw[hb] at q;exact q.elim
 ·rw[h ds hl hb];exact q
def cu.imp {x:Str}{ps:@H_}{k:Nat}{F F':@Do}(h:cu P w K mg base ca x ps k F)(i:∀ds,F' ds≠.bad->F ds=F' ds):cu P w K mg base ca x ps k F':=by
 obtain⟨f,fd,a,b,c,d⟩:=h.ex
 exact⟨⟨f,fd,a,b,c,d.imp λvs H Q E q=>EL (λds _=>i ds) q⟩,λds hn=>h.len ds (by rw[i ds hn];exact hn)⟩
def aN {n p:Nat}{m:SF}(ds:List D)(h:aW n p m ds≠.bad):ds.length=p:=by
 unfold aW at h
 by_cases hl:ds.length=p
 ·exact hl
 ·rw[OA hl] at h;exact absurd rfl h
def we {N:@H_}{qual:Str}{scope:Scope}{f:Addr}{cd:Value}{A:Around}{outer:List Env}{s0:Shared}{H0:Hp}{E:XK}{Γ:Fx}{x:Str}{C:Addr}{np cpos pos:Pos}{e0:Expr}{es:List Expr}{fr:VF (List D)}{L:@G_}(q:PySem.W.excIn K C [.type "ValueError",.type "Exception",.type "BaseException",.type "object"] "ValueError.__new__"=true)(hca:Γ.ca x=C)
  (hg:Gl (j9 (lg P w) P w K mg base N qual scope f cd A outer s0 H0 E) x) (hm:mg x=some (.ref C)) (ha:SA (j9 (lg P w) P w K mg base N qual scope f cd A outer s0 H0 E) Γ E (e0 :: es) fr L)
  (he:starEach (e0 :: es) (@Fr)=(false,eval e0 (@Fr)) :: starEach es (@Fr):=by rfl)
  (hpl:(backTo cpos (starEach es (@Fr))).any (·.1)=false:=by rfl) (hdb:@FS:=by decide) :
  SS (j9 (lg P w) P w K mg base N qual scope f cd A outer s0 H0 E) Γ E (.Raise (some (.Call (.Name x np) (e0 :: es) [] cpos)) none pos) (λenv β=>toS (fr (vl env) β) λds _=>if ds.length<=sizeLine then .exc x else .bad):=by
 refine PS.post (Cr PySem.F.excBase_ValueError (@Ev) q hg hm ha he hpl hdb) λD σ H ⟨env,G,B,β,I,o⟩=>?_
 refine⟨env,G,B,β,I,cR o λds β' k vs G' H' I' s' m' r=>?_⟩
 by_cases hz:ds.length<=sizeLine
 ·rw[Ov hz] at k
  refine⟨by rw[r.len];exact hz,?_⟩
  have:=k H' (I'.kp (ar.refl _))
  rw[hca] at this
  exact this
 ·rw[OA hz] at k;exact k.elim
end
section
variable {X:Cx}{Γ:Fx}{E:XK}{e a b c:Expr}{f fa fb:VF D}{L La Lb:@G_}{md ma mb:Md}{pos apos cpos np:Pos}
def qv:Option Sl->Bool
 |some (.ow (.list _))=>true
 |_=>false
theorem nR {o:Option Sl}(h:qv o=true):∃ds,o=some (.ow (.list ds)):=by
 cases o with
 |none=>cases h
 |some s=>
  cases s with
  |ow d=>cases d with
   |list ds=>exact⟨ds,rfl⟩
   |_=>cases h
  |_=>cases h
def Hr (i:Nat)(env:En)(β:Int)(g:List D->Option (List D)):SO:=match env[i]? with
 |some (.ow (.list ds))=>(match g ds with
  |some es=>.nx (env.set i (.ow (.list es))) β
  |none=>.bad)
 |_=>.bad
def oB (i:Nat)(L:@G_)(f:VF D):SF:=λenv β=>if qv env[i]? =true then toS (f (vl env) β) λd β'=>Hr i (aY L env) β' λds=>if ds.length < sizeLine then some (ds ++ [d]) else none else .bad
def qb {Γ:Fx}{E:XK}{G:Hp}{N:Ends}{i:Nat}{env:En}{β:Int}{g:List D->Option (List D)}(h:tf Γ E G N (Hr i env β g)):∃ds es,env[i]? =some (.ow (.list ds))/\g ds=some es/\tf Γ E G N (.nx (env.set i (.ow (.list es))) β):=by
 unfold Hr at h
 split at h
 ·rename_i ds q
  cases e:g ds with
  |none=>rw[e] at h;exact h.elim
  |some es=>rw[e] at h;exact⟨ds,es,q,e,h⟩
 ·exact h.elim
def mP (i:Nat){x:Str}(hb:∀j,Γ.br j=false)(he:SE X Γ E e f L .v)(hN:X.N[i]? =some x:=by rfl)(hv:vS X.env.scope x:=by first |exact Or.inl rfl |exact Or.inr (Or.inl rfl) |exact Or.inr (Or.inr rfl))(hd:@FS:=by decide)
  (hcd:(x == ("__classdict__":Str))=false:=by decide)
  (hbase:attributeBase (.Name x np) "append" X.env (eval (.Name x np) X.env)=eval (.Name x np) X.env:=by rfl)
  (hfew:((backTo cpos (starEach [e] X.env)).all (λx=> !x.1) && (backToKw cpos (keywordEach [] X.env)).all (λx=>x.1.isSome)
   && decide ([e].length + ([]:List Keyword).length + (if ([]:List Keyword).isEmpty then 0 else 1) < 30))=true:=by rfl)
  (hline:(apos.endLine == cpos.line)=true:=by rfl) (hs:starEach [e] X.env=(false,eval e X.env) :: starEach [] X.env:=by rfl)
  (hsw:swapsWith (.Call (.Attribute (.Name x np) "append" apos) [e] [] cpos) none pos.line X.env=pure false:=by rfl) :
  SS X Γ E (.Expr (.Call (.Attribute (.Name x np) "append" apos) [e] [] cpos) pos) (oB i L f):=by
 refine PS.post (p8 (zF QC PySem.F.slot_list_append PySem.F.type_list_append mz (ip hN hv hd hcd) (aw he aR hs) hbase hfew hline hs rfl) hsw) λN σ H ⟨env,G,B,β,I,o⟩=>?_
 unfold oB at o
 by_cases hO:qv env[i]? =true
 case neg=>rw[OA hO] at o;exact o.elim
 rw[Ov hO] at o
 obtain⟨ds0,q0⟩:=nR hO
 obtain⟨p,h1,_,_,_,xs,h5,_⟩:=I.slot i _ q0
 refine⟨_,h1,.inl ⟨rfl,xs,.inl (.inl h5)⟩,?_⟩
 refine⟨env,G,B,β,I,cR o λd β' k v G' H' I' s' m' vo=>?_⟩
 obtain⟨ds,es,q,eg,k⟩:=qb k
 by_cases hz:ds.length < sizeLine
 case neg=>rw[OA hz] at eg;cases eg
 rw[Ov hz] at eg
 cases eg
 obtain⟨p',g1,_,_,_,ys,g5,g6⟩:=I'.slot i _ q
 rw[h1] at g1;cases g1
 refine⟨p,ys,v,rfl,rfl,g5,by rw[g6.len];exact hz,?_⟩
 exact k B G' _ σ (I'.write hb q h1 λH2 e2 s2=>⟨_,e2,g6.snoc vo⟩) s'
def J5:V->List V->Hp->VK->Prop:=λx vs H Q=>∃l b xs zs,x=.ref l/\vs= [.ref b]/\H l=some (.lst xs)/\Rd H b (.lst zs)/\xs.length + zs.length<=sizeLine/\Q .non (upd H l (.lst (xs ++ zs)))
def Inv.lstR {pins:@B_}{σ:St}{H:Hp}{s:Shared}{l:Addr}{xs:List V}(I:@At)(hH:Rd H l (.lst xs)):xs.length<=sizeLine/\∃(its:@GM) (n:Nat),Vals xs its/\xs.length=its.length/\s.heap.get? l=some {cls:=.type "list",data:=.seq its.toArray n}:=by
 obtain⟨z,its,n,r,e⟩:=hH.ok I.hok
 exact⟨z,its,n,r,r.length,e⟩
def GZ:J0 X "list.extend" J5:=by
 intro pins s σ H x vs v us Q I rx rv h
 obtain⟨l,b,xs,zs,rfl,rfl,hH,hB,hz,q⟩:=h
 cases rx
 obtain⟨u,rfl,ru⟩:=rv.one
 cases ru
 obtain⟨z,its,n,r,hl,e⟩:=I.lstM hH
 obtain⟨z2,its2,n2,r2,hl2,e2⟩:=I.lstR hB
 have hsz:its.toArray.size + its2.toArray.size<=sizeLine:=by rw[OD,OD];omega
 have hlong:¬(!its.toArray.isEmpty && Builtin.List.listTooLong (its.toArray.size + its2.toArray.size))=true:=by
  rw[qQ hsz,Bool.and_false]
  exact OI
 refine QY F.slot_list_extend ⟨_,e,rfl⟩ F.entry_list_extend (F.args_list_extend_2 _ _)
  (AutoSeq1.list_extend_list_list_0 l its.toArray n b its2.toArray n2 hlong (by rw[OD];omega) (@AT)) ⟨e,e2,?_⟩
 refine⟨.non,_,I.lset (its':=its ++ its2) hH e @IN (r.append r2) ?_,rfl,q⟩
 rw[OT]
 omega
def AM (i:Nat)(L:@G_)(f:VF D):SF:=λenv β=>if qv env[i]? =true then toS (f (vl env) β) λd β'=>Hr i (aY L env) β' λds=>match d with
 | .list es=>if ds.length + es.length<=sizeLine then some (ds ++ es) else none
 |_=>none else .bad
theorem BA (i:Nat){x:Str}(hb:∀j,Γ.br j=false)(he:SE X Γ E e f L md)(hN:X.N[i]? =some x:=by rfl)(hv:vS X.env.scope x:=by first |exact Or.inl rfl |exact Or.inr (Or.inl rfl) |exact Or.inr (Or.inr rfl))(hd:@FS:=by decide)
  (hcd:(x == ("__classdict__":Str))=false:=by decide)
  (hbase:attributeBase (.Name x np) "extend" X.env (eval (.Name x np) X.env)=eval (.Name x np) X.env:=by rfl)
  (hfew:((backTo cpos (starEach [e] X.env)).all (λx=> !x.1) && (backToKw cpos (keywordEach [] X.env)).all (λx=>x.1.isSome)
   && decide ([e].length + ([]:List Keyword).length + (if ([]:List Keyword).isEmpty then 0 else 1) < 30))=true:=by rfl)
  (hline:(apos.endLine == cpos.line)=true:=by rfl) (hs:starEach [e] X.env=(false,eval e X.env) :: starEach [] X.env:=by rfl)
  (hsw:swapsWith (.Call (.Attribute (.Name x np) "extend" apos) [e] [] cpos) none pos.line X.env=pure false:=by rfl) :
  SS X Γ E (.Expr (.Call (.Attribute (.Name x np) "extend" apos) [e] [] cpos) pos) (AM i L f):=by
 refine PS.post (p8 (zF QC PySem.F.slot_list_extend PySem.F.type_list_extend GZ (ip hN hv hd hcd) (aw he aR hs) hbase hfew hline hs rfl) hsw) λN σ H ⟨env,G,B,β,I,o⟩=>?_
 unfold AM at o
 by_cases hO:qv env[i]? =true
 case neg=>rw[OA hO] at o;exact o.elim
 rw[Ov hO] at o
 obtain⟨ds0,q0⟩:=nR hO
 obtain⟨p,h1,_,_,_,xs,h5,_⟩:=I.slot i _ q0
 refine⟨_,h1,.inl ⟨rfl,xs,.inl (.inl h5)⟩,?_⟩
 refine⟨env,G,B,β,I,cR o λd β' k v G' H' I' s' m' vo=>?_⟩
 obtain⟨ds,es,q,eg,k⟩:=qb k
 cases d with
 |list fs=>
  dsimp only at eg
  by_cases hz:ds.length + fs.length<=sizeLine
  case neg=>rw[OA hz] at eg;cases eg
  rw[Ov hz] at eg
  cases eg
  obtain⟨p',g1,_,_,_,ys,g5,g6⟩:=I'.slot i _ q
  rw[h1] at g1;cases g1
  obtain⟨pb,zs,rfl,hq,rz⟩:=(vo.brw I.boxThere).list I'.sub
  refine⟨p,pb,ys,zs,rfl,rfl,g5,hq,by rw[g6.len,rz.len];exact hz,?_⟩
  exact k B G' _ σ (I'.write hb q h1 λH2 e2 s2=>⟨_,e2,g6.append rz⟩) s'
 |_=>cases eg
def xu (i:Nat)(Le Li:@G_)(fe fi:VF D):SF:=λenv β=>toS (fe (vl env) β) λd β1=>if qv (aY Le env)[i]? =true then toS (fi (vl env) β1) λk β2=>Hr i (aY (Le ++ Li) env) β2 λds=>match k with
 | .int j=>(vR ds.length j).map λn=>ds.set n d
 |_=>none else .bad
theorem E4 (i:Nat){x:Str}{spos:Pos}(hb:∀j,Γ.br j=false)(he:SE X Γ E e f La .v)(hi:SE X Γ E a fa Lb mb)(hN:X.N[i]? =some x:=by rfl)(hv:vS X.env.scope x:=by first |exact Or.inl rfl |exact Or.inr (Or.inl rfl) |exact Or.inr (Or.inr rfl))(hd:@FS:=by decide)
  (hcd:(x == ("__classdict__":Str))=false:=by decide)
  (hA:∀v,assign (.Subscript (.Name x np) a spos) X.env v=(do
   let ov <-holding [v] (eval (.Name x np) X.env)
   let iv <-holding [v,ov] (eval a X.env)
   standAt spos
   holding [v,ov,iv] (setItem ov iv v)
   release [v,ov,iv] []):=by intro _;rfl)
  (hs:swapsWithSole [.Subscript (.Name x np) a spos] e pos.line X.env=pure false:=by rfl) (hw:swappedStores [.Subscript (.Name x np) a spos] e X.env=pure none:=by rfl)
  (h1:(assignEach [.Subscript (.Name x np) a spos] X.env).map (·.2)= [assign (.Subscript (.Name x np) a spos) X.env]:=by rfl) :
  SS X Γ E (.Assign [.Subscript (.Name x np) a spos] e pos) (xu i La Lb f fa):=by
 refine PS.post (qB he (uI (ip hN hv hd hcd) hi set_list hA) hs hw h1) λN σ H ⟨env,G,B,β,I,o⟩=>?_
 refine⟨env,G,B,β,I,cR o λd β1 o v G1 H1 I1 s1 m1 vo=>?_⟩
 by_cases hO:qv (aY La env)[i]? =true
 case neg=>rw[OA hO] at o;exact o.elim
 rw[Ov hO] at o
 obtain⟨ds0,q0⟩:=nR hO
 obtain⟨p,h1,_,_,_,xs,h5,_⟩:=I1.slot i _ q0
 refine⟨_,h1,aY La env,G1,B,β1,I1,?_⟩
 rw[dS]
 refine cR o λk β2 o w G2 H2 I2 s2 m2 vi=>?_
 rw[<-cA] at I2
 obtain⟨ds,es,q,eg,o⟩:=qb o
 cases k with
 |int j=>
  dsimp only at eg
  obtain rfl:=(vi.brw I1.boxThere).int
  obtain⟨p',g1,_,_,_,ys,g5,g6⟩:=I2.slot i _ q
  rw[h1] at g1;cases g1
  cases en:vR ds.length j with
  |none=>rw[en] at eg;cases eg
  |some n=>
   rw[en] at eg
   cases eg
   have vo:Rp Γ.K G1 v d:=vo
   refine⟨p,ys,j,n,rfl,rfl,g5,by rw[g6.len];exact en,?_⟩
   exact o B G2 _ σ (I2.write hb q h1 λH3 e3 s3=>⟨_,e3,g6.set (vo.mono s2) n⟩) (s1.trans s2)
 |_=>cases eg
end
structure fX (K:Frag)(mg:@FM)(x:Str)(st:Stmt)(ps:@H_)(f:Addr)(fd:FuncData):Prop where
 mg:mg x=some (.ref f)
 F:xV K x x st f fd
 b:Binds K fd ps []
structure Exc (K:Frag)(mg:@FM)(ca:Str->Addr)(x:Str):Prop where
 mg:mg x=some (.ref (ca x))
 ex:PySem.W.excIn K (ca x) [.type "ValueError",.type "Exception",.type "BaseException",.type "object"] "ValueError.__new__"=true
def Exc.ca {K:Frag}{mg:@FM}{ca:Str->Addr}{x:Str}(h:Exc K mg ca x):ca x=ca x:=rfl
structure ic (mg:@FM):Prop where
 len:mg "len"=none
 range:mg "range"=none
 enumerate:mg "enumerate"=none
 zip:mg "zip"=none
 min:mg "min"=none
 max:mg "max"=none
 sum:mg "sum"=none
 abs:mg "abs"=none
 sorted:mg "sorted"=none
 reversed:mg "reversed"=none
 int:mg "int"=none
 str:mg "str"=none
 bool:mg "bool"=none
 list:mg "list"=none
 tuple:mg "tuple"=none
 dict:mg "dict"=none
 set:mg "set"=none
 isinstance:mg "isinstance"=none
 repr:mg "repr"=none
 any:mg "any"=none
 all:mg "all"=none
 divmod:mg "divmod"=none
section
variable {X:Cx}{pins:@B_}{σ:St}{H:Hp}{s:Shared}
def Inv.turnedL {t':Nat}{ch:List Addr}{h':Heap}(I:@At)(k:∀b o,b∉ch->s.heap.get? b=some o->h'.get? b=some o)(hf:∀b∈ch,g9 X pins H b):Inv X pins σ H {s with heap:=h',toks:=t'}:=by
 have nit:∀b u,H b=some u->b∉ch:=λb u e z=>by rw[(hf b z).1] at e;cases e
 have nL:X.env.locals∉ch:=λz=>(hf _ z).2.1 rfl
 refine I.step (g':=s.gens) (d':=s.drawn) (ch:=ch) (λb hb=>?_) (λb o _ _ hc e _=>k b o hc e) (λb o _ _ hc e _=>⟨o.slots,k b o hc e⟩) (λ_ _ _ _ n=>n)
  (λb o hc e=>⟨o,k b o hc e⟩) (λ_ _ e=>e) (λ_ _ _ e=>e) (λb ps e=>⟨#[],by rw[e];simp⟩) (λm hm=>?_) (λb u e=>?_) I.bare
 ·obtain⟨f0,f1,f2,f3,f4,f5⟩:=hf b hb
  exact⟨f3,f1,f4,f5⟩
 ·obtain⟨o,es,ep,ho,r⟩:=hm
  exact⟨o,es,ep,k _ o nL ho,r⟩
 ·refine (I.hok b u e).stay (λc v hc q=>k c v ?_ q) (λ_ q=>q) λ_ _ q=>q
  rcases hc with z |z
  ·rw[z];exact nit b u e
  ·exact nit c _ z
end
def M5 {n:Nat}(i j:Nat)(h:(i == j)=false):(n + i:Nat)≠n + j:=by
 have:i≠j:=by simpa using h
 omega
section
variable {X:Cx}{Γ:Fx}{E:XK}{e a b c:Expr}{f fa fb:VF D}{L La Lb:@G_}{md ma mb:Md}{pos:Pos}
def E7:D->Option D
 | .int i=>some (.int i)
 | .bool k=>some (.int (if k then 1 else 0))
 |_=>none
theorem Jx {K:Frag}:D9 K (λx H Q=>(∃i,[x]= [.int i]/\Q (.int i) H)\/∃k,[x]= [.bl k]/\Q (.int (if k then 1 else 0)) H) E7 .v:=by
 intro B G H x dx d Q s hB bx e k
 cases dx with
 |int i=>cases e;obtain rfl:=bx.int;exact .inl ⟨i,rfl,k _ G H (Ext.refl s) (.int _)⟩
 |bool b=>cases e;obtain rfl:=bx.bool;exact .inr ⟨b,rfl,k _ G H (Ext.refl s) (.int _)⟩
 |_=>cases e
end
end L2
namespace L2
open PySem
section
variable {K:Frag}{h:Heap}{mg:@FM}
theorem xT {α:Type}{P:List α->Prop}(q:∀a,P [a]):∀us:List α,us.length=1->P us
 | [a],_=>q a
theorem ln2 {α:Type}{P:List α->Prop}(q:∀a b,P [a,b]):∀us:List α,us.length=2->P us
 | [a,b],_=>q a b
theorem Ee {α:Type}{P:List α->Prop}(q:∀a b c,P [a,b,c]):∀us:List α,us.length=3->P us
 | [a,b,c],_=>q a b c
theorem Oh {α:Type}{P:List α->Prop}(q:∀a b c d e,P [a,b,c,d,e]):∀us:List α,us.length=5->P us
 | [a,b,c,d,e],_=>q a b c d e
def aS (x:Str)(st:Stmt)(ps:@H_):Prop:=∀(kV doc pm:Value) (an:@Ix) (cdv ct:Value) (us:@GM),us.length=ps.length->bindArgs (PySem.W.fnOf x x (iJ st) (cG st) (ah st) .none kV doc pm an cdv ct) ⟨us,[]⟩=pure (ps.zip us)
structure Fo (K:Frag)(mg:@FM)(x:Str)(st:Stmt)(ps:@H_):Prop where
 ex:∃f fd,fX K mg x st ps f fd
def bh {x:Str}{st:Stmt}{ps:@H_}{f:Addr}{oc:Value}{od an:@Ix}{sl:Array (Option Value)}{kV doc pm cdv ct:Value}(X:K.In h)(G:h.Ns mainGlobals mg)(b:aS x st ps)(a:PySem.W.nsIn K mainGlobals x=some (some (.ref f)))
  (l:K.lookup f=some ⟨oc,od,.func (PySem.W.fnOf x x (iJ st) (cG st) (ah st) .none kV doc pm an cdv ct),sl⟩) (c:PySem.W.codeIn K cdv x=true) (k:PySem.W.keepIn K (.ref f)=true):Fo K mg x st ps:=
 ⟨⟨f,_,O1 X G a,rO l c k,(rO l c k).binds b⟩⟩
def MH:@H_:=["len","range","enumerate","zip","min","max","sum","abs","sorted","reversed","int","str","bool","list","tuple","dict","set","isinstance","repr","any","all","divmod"]
def NK (K:Frag):Bool:=MH.all λx=>match PySem.W.nsIn K mainGlobals x with
 |some none=>true
 |_=>false
def Jd (q:NK K=true){x:Str}(hx:x∈MH):PySem.W.nsIn K mainGlobals x=some none:=by
 have:=O9.mp q x hx
 split at this
 ·assumption
 ·cases this
def K6 (X:K.In h)(G:h.Ns mainGlobals mg)(q:NK K=true):ic mg:=by
 have key:∀{x:Str},x∈MH->mg x=none:=λhx=>PySem.W.mg_none_of X G (Jd q hx)
 constructor <;> exact key @Go
end
section
variable {X:Cx}{P:Program}{w:World}{K:Frag}{mg:@FM}{base:Heap}{ca:Str->Addr}
def pd (step:(@Do)->@Do):Nat->@Do
 | 0=>λ_=>.bad
 |n + 1=>step (pd step n)
theorem Ai {x:Str}{st:Stmt}{ps:@H_}{f:Addr}{fd:FuncData}{j:Nat}{step:(@Do)->@Do}(F:fX K mg x st ps f fd)
  (h:∀(k:Nat) (F':@Do),j<=k->cu P w K mg base ca x ps k F'->cu P w K mg base ca x ps (k + 1) (step F')):∀n,cu P w K mg base ca x ps (j + n) (pd step n)
 | 0=>⟨⟨f,fd,F.mg,F.F.kp,F.b,DH⟩,λds hn=>(hn rfl).elim⟩
 |n + 1=>h (j + n) _ (Nat.le_add_right _ _) (Ai F h n)
end
end L2
namespace L2
open PySem PyProof.Rows
section
variable {X:Cx}{K:Frag}{σ:St}{G H:Hp}{s:Shared}{E:XK}
theorem tI {α β:Type}{F:α->β->Prop}:∀{l₁:List α} {l₂:List β},Paired F l₁ l₂->∀{i:Nat} {a:α} {b:β},l₁[i]? =some a->l₂[i]? =some b->F a b
 |_,_,.nil,_,_,_,e,_=>by simp at e
 |_,_,.cons h t,0,_,_,e,e'=>by simp at e e';subst e e';exact h
 |_,_,.cons h t,i + 1,_,_,e,e'=>tI t (i:=i) (by simpa using e) (by simpa using e')
theorem nq (bt:Nat->Nat->Bool):∀k,argBest bt k<=k
 | 0=>Ox _
 |k + 1=>by
  unfold argBest
  split
  ·exact Ox _
  ·exact Nat.le_succ_of_le (nq bt k)
end
end L2
namespace L2.HM
open PySem PySem.W PySem.Spec PyProof.Rows
structure KV (V:@B_->Shared->Prop)(l:Addr)(n:Nat)(Pv:Nat->Value->Prop):Prop where
 get:∀own z,V own z->∀p,p∈own->z.heap.get? p.1=some p.2
 put:∀own own' z h' tk,V own z->(∀b o,b∉own.map (·.1)->z.heap.get? b=some o->h'.get? b=some o)->own'.map (·.1)=own.map (·.1)->(∀p,p∈own'->h'.get? p.1=some p.2/\∀v,p.2.data≠.cell v)->V own' {z with heap:=h',toks:=tk}
 drop:∀own z h' tk,V own z->(∀b o,b∉own.map (·.1)->z.heap.get? b=some o->h'.get? b=some o)->V [] {z with heap:=h',toks:=tk}
 lst:∀own z,V own z->∃its:@GM,z.heap.IsList l its.toArray/\its.length=n/\∀i v,its[i]? =some v->Pv i v
 add:∀z oI oS,oI.isFreed=false->oS.isFreed=false->(∀v,oI.data≠.cell v)->(∀v,oS.data≠.cell v)->V [] z->V [((z.heap.push oI).objs.size,oS),(z.heap.objs.size,oI)] {z with heap:=(z.heap.push oI).push oS}
section
variable {prog:Program}{w:World}{A:Around}{E:@Db}{l q I S:Addr}{n:Nat}{Pv:Nat->Value->Prop}{R:Result->Shared->Prop}{V:@B_->Shared->Prop}
theorem BJ (k:KV V l n Pv)(kf:Nat->Int)(hh:A.handled=none)(hlI:l≠I)(hSI:S≠I)
  (turn:∀(i:Nat) (v:Value) own z,Pv i v->V own z->wpAny (model prog w) A.in1 (call (.ref q) [v]) (λx z'=>∃t,x=.int (kf i) t/\V own z') (λ_ _=>False) z)
  (hR:∀i v z',Pv i v->(∀j,j < n->kf i<=kf j/\(j < i->kf i < kf j))->V [] z'->R (.ok (.ret v)) z') :
  ∀(r j i:Nat) (z:Shared) (vb:Value) (tb:Tok) (c:Nat) (oI:Obj),n - (j + 1)=r->j + 1<=n->
   V [(S,seqObj "list" #[vb,.int (kf i) tb] c),(I,oI)] z->z.heap.IsListIter I l (j + 1)->Pv i vb->i<=j->(∀j',j'<=j->kf i<=kf j'/\(j' < i->kf i < kf j'))->
   codeAny (model prog w) A (.builtin "min.loop" ⟨[.ref I,.ref q,.ref S],[]⟩) R z:=by
 have hname:(toString "min" ++ toString ".loop":String)="min.loop":=by decide
 intro r
 induction r with
 |zero=>
  intro j i z vb tb c oI hr hj hV hit hvb hij hbest
  have hin:j + 1=n:=@AT
  obtain⟨its,hls,hln,hpv⟩:=k.lst _ _ hV
  have W:=Walks.list (prog:=prog) (w:=w) (A:=A.in1) hh I l hlI its.toArray
  have hsz:its.toArray.size=n:=by rw[OD];exact hln
  have nS:=k.get _ _ hV (S,seqObj "list" #[vb,.int (kf i) tb] c) (.head _)
  refine codeAny_builtin PySem.F.entry_min_loop ?_
  rw[QL PR _]
  show wpAny _ A.in1 (seqItems? (.ref S) >>= _) _ _ _
  refine Ou (wpAny_seqItems nS rfl ?_)
  show wpAny _ A.in1 (tryCatch (pyNext (.ref I)) _ >>= _) _ _ _
  refine Ou (QI (W.done _ _ _ ⟨by rw[hsz,<-hin];exact hit,hls⟩ λh' tk' hk'=>?_))
  have hS':=hk' S _ (by simpa using hSI) nS
  show wpAny _ A.in1 (updateSeq S (λ_=>#[]) >>= _) _ _ _
  refine Ou ?_
  refine wpAny_updateSeq hS' rfl (Ou (wpAny_letGo (OZ ?_)))
  refine hR i vb _ hvb (λj' hj'=>hbest j' (@AT)) (k.drop _ z (h'.update S (Obj.mapSeq λ_=>(#[]:Array Value))) tk' hV λb o hb e=>?_)
  have hb1:b≠S:=λz=>hb (by rw[z];exact .head _)
  have hb2:b≠I:=λz=>hb (by rw[z];exact .tail _ (.head _))
  exact (Py _ _ (Ne.symm hb1)).trans (hk' b o (by simpa using hb2) e)
 |succ r ih=>
  intro j i z vb tb c oI hr hj hV hit hvb hij hbest
  have hlt:j + 1 < n:=@AT
  obtain⟨its,hls,hln,hpv⟩:=k.lst _ _ hV
  have W:=Walks.list (prog:=prog) (w:=w) (A:=A.in1) hh I l hlI its.toArray
  have hsz:its.toArray.size=n:=by rw[OD];exact hln
  have nS:=k.get _ _ hV (S,seqObj "list" #[vb,.int (kf i) tb] c) (.head _)
  refine codeAny_builtin PySem.F.entry_min_loop ?_
  rw[QL PR _]
  show wpAny _ A.in1 (seqItems? (.ref S) >>= _) _ _ _
  refine Ou (wpAny_seqItems nS rfl ?_)
  show wpAny _ A.in1 (tryCatch (pyNext (.ref I)) _ >>= _) _ _ _
  refine Ou (QI (W.item (j + 1) _ _ _ (by rw[hsz];exact hlt) ⟨hit,hls⟩ λv h' tk' hP hst' hk'=>?_))
  have hv:Pv (j + 1) v:=hpv _ _ (by simpa using hP)
  obtain⟨oI',hoI',hoc,hod⟩:=id hst'.1
  have V1:V [(S,seqObj "list" #[vb,.int (kf i) tb] c),(I,oI')] {z with heap:=h',toks:=tk'}:=k.put _ _ _ _ tk' hV (λb o hb e=>hk' b o (by simpa using λz=>hb (by rw[z];exact .tail _ (.head _))) e) rfl λp hp=>by
   rcases OC.mp hp with rfl |hp
   ·exact⟨hk' S _ (by simpa using hSI) nS,λv z=>by cases z⟩
   ·rw[OY.mp hp];exact⟨hoI',λv z=>by rw[hod] at z;cases z⟩
  show wpAny _ A.in1 (tryCatch (holding [v] (call (.ref q) [v])) _ >>= _) _ _ _
  refine Ou (QI (P8 (Pl (turn (j + 1) v _ _ hv V1) (λx s'' he=>?_) λ_ _ hF=>hF.elim)))
  obtain⟨t2,rfl,V2⟩:=he
  have nS2:=k.get _ _ V2 (S,seqObj "list" #[vb,.int (kf i) tb] c) (.head _)
  have nI2:=k.get _ _ V2 (I,oI') (.tail _ (.head _))
  have hit2:s''.heap.IsListIter I l (j + 1 + 1):=⟨oI',nI2,hoc,hod⟩
  show wpAny _ A.in1 (tryCatch (holding [v,.int (kf (j + 1)) t2] (richCompare .Lt (.int (kf (j + 1)) t2) (.int (kf i) tb) >>= _)) _ >>= _) _ _ _
  refine Ou (QI (P8 (Ou (CmpOf.ints_lt (prog:=prog) (w:=w) (A:=A.in1) (P:=λi v=>∃t,v=.int (kf i) t) kf (λi v h=>h) (j + 1) i _ _ _ _ _ ⟨t2,rfl⟩ ⟨tb,rfl⟩ ?_))))
  refine Ou (P8 (Px ?_))
  refine Ou (wpAny_letGo (OZ ?_))
  by_cases hb':kf (j + 1) < kf i
  ·have s1:=Heap.SameBut.update s''.heap S (Obj.mapSeq λ_=>#[v,.int (kf (j + 1)) t2])
   obtain⟨c2,hc2⟩:∃c2,(s''.heap.update S (Obj.mapSeq λ_=>#[v,.int (kf (j + 1)) t2])).get? S=some (seqObj "list" #[v,.int (kf (j + 1)) t2] c2):=⟨_,get?_update_seq nS2 λ_=>#[v,.int (kf (j + 1)) t2]⟩
   simp only[hb',decide_true,PL]
   refine Ou ?_
   refine wpAny_updateSeq nS2 rfl (Ou (wpAny_letGo ?_))
   rw[hname]
   refine OZ ⟨plainId_quiet PR _,ih (j + 1) (j + 1) _ v t2 c2 oI' (@AT) hlt (k.put _ _ _ _ s''.toks V2 (λb o hb e=>?_) rfl λp hp=>?_) ⟨oI',(s1.2 I hSI.symm).trans nI2,hoc,hod⟩ hv (Ox _) λj' hj'=>?_⟩
   ·exact (s1.2 b λz=>hb (by rw[z];exact .head _)).trans e
   ·rcases OC.mp hp with rfl |hp
    ·exact⟨hc2,λv z=>by cases z⟩
    ·rw[OY.mp hp]
     exact⟨(s1.2 I hSI.symm).trans nI2,λv z=>by rw[hod] at z;cases z⟩
   ·by_cases e:j'=j + 1
    ·subst e
     exact⟨@AT,λ_=>@AT ⟩
    ·have hb1:=hbest j' (@AT)
     have hb2:=hb1.1
     exact⟨@AT,λ_=>@AT ⟩
  ·simp only[hb',decide_false,Pn,PZ]
   refine Ou (wpAny_letGo ?_)
   rw[hname]
   refine OZ ⟨plainId_quiet PR _,ih (j + 1) i _ vb tb c oI' (@AT) hlt V2 hit2 hvb (@AT) λj' hj'=>?_⟩
   by_cases e:j'=j + 1
   ·subst e
    exact⟨@AT,λ_=>@AT ⟩
   ·exact hbest j' (@AT)
def ML {s:Shared}{Q:@Db}(k:KV V l n Pv)(kf:Nat->Int)(hh:A.handled=none)(hV:V [] s)(hne:0 < n)
  (turn:∀(i:Nat) (v:Value) own z,Pv i v->V own z->wpAny (model prog w) A.in1 (call (.ref q) [v]) (λx z'=>∃t,x=.int (kf i) t/\V own z') (λ_ _=>False) z)
  (hQ:∀i v z',Pv i v->(∀j,j < n->kf i<=kf j/\(j < i->kf i < kf j))->V [] z'->Q v z') :
  wpAny (model prog w) A (call (.builtin "min") [.ref l] [(Str.ofString "key",.ref q)]) Q E s:=by
 have hname:(toString "min" ++ toString ".loop":String)="min.loop":=by decide
 obtain⟨its0,hls,_,_⟩:=k.lst _ _ hV
 obtain⟨ol,hol,_⟩:=id hls
 have hll:l < s.heap.objs.size:=Oz hol
 refine kmk_tree PySem.F.kind_min PySem.F.plain_min PySem.F.entry_min (kmk_min_key _ _) ?_
 show wpAny _ A.in1 (Builtin.Builtins.bindParams "min" ["key","default"] 0 ⟨[],[(Str.ofString "key",.ref q)]⟩ >>= _) _ _ s
 refine Ou (wpAny_of_eq (show Builtin.Builtins.bindParams "min" ["key","default"] 0 ⟨[],[(Str.ofString "key",.ref q)]⟩=pure [some (.ref q),none] from rfl) ?_)
 refine Ou (OZ ?_)
 refine Ou (QF hls ?_)
 refine Ou (wpAny_newList ?_ (O7 _))
 rw[hname]
 have hS:(s.heap.push {cls:=.type "list_iterator",data:=.fields #[.ref l,.int 0 0]}).objs.size=s.heap.objs.size + 1:=P2 ..
 have hlI:l≠s.heap.objs.size:=OX hll
 have hSI:(s.heap.push {cls:=.type "list_iterator",data:=.fields #[.ref l,.int 0 0]}).objs.size≠s.heap.objs.size:=by rw[hS];exact Nat.ne_of_gt (Nat.lt_succ_self _)
 have V0:=k.add s {cls:=.type "list_iterator",data:=.fields #[.ref l,.int 0 0]} (seqObj "list" #[] 0) rfl rfl (λv z=>by cases z) (λv z=>by cases z) hV
 generalize hSd:(s.heap.push {cls:=.type "list_iterator",data:=.fields #[.ref l,.int 0 0]}).objs.size=S at hSI V0
 refine OZ ⟨plainId_quiet PR _,?_⟩
 have gS:=k.get _ _ V0 (S,seqObj "list" #[] 0) (.head _)
 have gI:=k.get _ _ V0 (s.heap.objs.size,_) (.tail _ (.head _))
 obtain⟨its,hls0,hln,hpv⟩:=k.lst _ _ V0
 have W:=Walks.list (prog:=prog) (w:=w) (A:=A.in1) hh s.heap.objs.size l hlI its.toArray
 have hsz:its.toArray.size=n:=by rw[OD];exact hln
 refine codeAny_builtin PySem.F.entry_min_loop ?_
 rw[QL PR _]
 show wpAny _ A.in1 (seqItems? (.ref _) >>= _) _ _ _
 refine Ou (wpAny_seqItems gS rfl ?_)
 show wpAny _ A.in1 (tryCatch (pyNext (.ref s.heap.objs.size)) _ >>= _) _ _ _
 refine Ou (QI (W.item 0 _ _ _ (by rw[hsz];exact hne) ⟨⟨_,gI,rfl,rfl⟩,hls0⟩ λv h' tk' hP hst' hk'=>?_))
 have hv:Pv 0 v:=hpv _ _ (by simpa using hP)
 obtain⟨oI',hoI',hoc,hod⟩:=id hst'.1
 have V1:=k.put _ [(S,seqObj "list" #[] 0),(s.heap.objs.size,oI')] _ h' tk' V0 (λb o hb e=>hk' b o (by simpa using λz=>hb (by rw[z];exact .tail _ (.head _))) e) rfl λp hp=>by
  rcases OC.mp hp with rfl |hp
  ·exact⟨hk' S _ (by simpa using hSI) gS,λv z=>by cases z⟩
  ·rw[OY.mp hp];exact⟨hoI',λv z=>by rw[hod] at z;cases z⟩
 show wpAny _ A.in1 (tryCatch (holding [v] (call (.ref q) [v])) _ >>= _) _ _ _
 refine Ou (QI (P8 (Pl (turn 0 v _ _ hv V1) (λx s'' he=>?_) λ_ _ hF=>hF.elim)))
 obtain⟨t2,rfl,V2⟩:=he
 have nS2:=k.get _ _ V2 (S,seqObj "list" #[] 0) (.head _)
 have nI2:=k.get _ _ V2 (s.heap.objs.size,oI') (.tail _ (.head _))
 have s1:=Heap.SameBut.update s''.heap S (Obj.mapSeq λ_=>#[v,.int (kf 0) t2])
 obtain⟨c2,hc2⟩:∃c2,(s''.heap.update S (Obj.mapSeq λ_=>#[v,.int (kf 0) t2])).get? S=some (seqObj "list" #[v,.int (kf 0) t2] c2):=⟨_,get?_update_seq nS2 λ_=>#[v,.int (kf 0) t2]⟩
 show wpAny _ A.in1 (updateSeq S (λ_=>#[v,.int (kf 0) t2]) >>= _) _ _ _
 refine Ou ?_
 refine wpAny_updateSeq nS2 rfl ?_
 rw[hname]
 refine OZ ⟨plainId_quiet PR _,BJ k kf hh hlI hSI turn hQ _ 0 0 _ v t2 c2 oI' rfl hne (k.put _ _ _ _ s''.toks V2 (λb o hb e=>(s1.2 b λz=>hb (by rw[z];exact .head _)).trans e) rfl λp hp=>?_) ⟨oI',(s1.2 _ hSI.symm).trans nI2,hoc,hod⟩ hv (Ox _) λj' hj'=>?_⟩
 ·rcases OC.mp hp with rfl |hp
  ·exact⟨hc2,λv z=>by cases z⟩
  ·rw[OY.mp hp]
   exact⟨(s1.2 _ hSI.symm).trans nI2,λv z=>by rw[hod] at z;cases z⟩
 ·have e:j'=0:=@AT
  subst e
  exact⟨@AT,λh=>absurd h (OU _)⟩
end
end L2.HM
namespace L2
open PySem PySem.Spec PyProof.Rows
section
variable {X:Cx}{pins:@B_}{σ:St}{H:Hp}{l:Addr}{xs:List V}
def Nw (X:Cx)(pins:@B_)(σ:St)(H:Hp)(own:@B_)(z:Shared):Prop:=∃H',Inv X (pins ++ own) σ H' z/\ar H H'/\∀p,p∈own->g9 X pins H' p.1
def Ij (hl:H l=some (.lst xs)):HM.KV (Nw X pins σ H) l xs.length (λi v=>∃x,xs[i]? =some x/\RelV x v):=by
 refine⟨λown z ⟨H',I,s,f⟩ p hp=>(I.pin p (OS _ (OS _ hp))).1,?_,?_,?_,?_⟩
 ·rintro own own' z h' tk ⟨H',I,s,f⟩ kk eo hg
  have hf:∀b,b∈own.map (·.1)->g9 X pins H' b:=λb hb=>by
   obtain⟨p,hp,rfl⟩:=Pj.mp hb
   exact f p hp
  have It:=I.unpinned.turnedL (t':=tk) (ch:=own.map (·.1)) kk hf
  have hf':∀p,p∈own'->g9 X pins H' p.1:=λp hp=>hf p.1 (by rw[<-eo];exact Pj.mpr ⟨p,hp,rfl⟩)
  refine⟨H',It.pins_of λp hp=>?_,s,hf'⟩
  rcases OR.mp hp with hp |hp
  ·exact It.pin p (OS _ hp)
  ·obtain⟨a1,a2,a3,_⟩:=hf' p hp
   exact⟨(hg p hp).1,a1,a2,a3,(hg p hp).2⟩
 ·rintro own z h' tk ⟨H',I,s,f⟩ kk
  have hf:∀b,b∈own.map (·.1)->g9 X pins H' b:=λb hb=>by
   obtain⟨p,hp,rfl⟩:=Pj.mp hb
   exact f p hp
  exact⟨H',by rw[Qa];exact I.unpinned.turnedL (t':=tk) (ch:=own.map (·.1)) kk hf,s,λp hp=>by cases hp⟩
 ·rintro own z ⟨H',I,s,f⟩
  obtain⟨its,rv,pl,hz⟩:=I.list (.inl (.inl (s _ _ hl)))
  refine⟨its,pl.isList,rv.length.symm,λi v e=>?_⟩
  have hi:i < xs.length:=by rw[rv.length];exact (Oy.mp e).1
  exact⟨xs[i],Ot hi,tI rv (Ot hi) e⟩
 ·rintro z oI oS n1 n2 h1 h2 ⟨H',I,s,f⟩
  rw[Qa] at I
  have kp:∀b u,z.heap.get? b=some u->((z.heap.push oI).push oS).get? b=some u:=λb u e=>Ow _ (Ow _ e)
  have I2:Inv X pins σ H' {z with heap:=(z.heap.push oI).push oS}:=I.kept (t':=z.toks) kp
  have sz:(z.heap.push oI).objs.size=z.heap.objs.size + 1:=P2 ..
  have fI:g9 X pins H' z.heap.objs.size:=I.fpOk (Ox _) (I.hok.fresh (Ox _))
  have fS:g9 X pins H' (z.heap.push oI).objs.size:=I.fpOk (by rw[sz];exact Nat.le_succ _) (I.hok.fresh (by rw[sz];exact Nat.le_succ _))
  have hf:∀p,p∈ [((z.heap.push oI).objs.size,oS),(z.heap.objs.size,oI)]->g9 X pins H' p.1:=λp hp=>by
   rcases OC.mp hp with rfl |hp
   ·exact fS
   ·rw[OY.mp hp];exact fI
  refine⟨H',I2.pins_of λp hp=>?_,s,hf⟩
  rcases OR.mp hp with hp |hp
  ·exact I2.pin p (OS _ hp)
  ·obtain⟨a1,a2,a3,_⟩:=hf p hp
   rcases OC.mp hp with rfl |hp
   ·exact⟨OQ _ n2,a1,a2,a3,h2⟩
   ·rw[OY.mp hp] at a1 a2 a3 ⊢
    exact⟨Ow _ (OQ _ n1),a1,a2,a3,h1⟩
def Eo {s:Shared}{q:Addr}{Q:VK}{E:@Db}(I:@At)(hh:X.A.handled=none)(hl:H l=some (.lst xs))(hne:0 < xs.length)(kf:Nat->Int)
  (turn:∀(i:Nat) (x:V) (v:Value) own z H',xs[i]? =some x->RelV x v->Inv X (pins ++ own) σ H' z->ar H H'->
   wpAny @Cl X.A.in1 (call (.ref q) [v]) (λu z'=>∃t H'',u=.int (kf i) t/\Inv X (pins ++ own) σ H'' z'/\ar H' H'') (λ_ _=>False) z)
  (hQ:∀i x H',xs[i]? =some x->(∀j,j < xs.length->kf i<=kf j/\(j < i->kf i < kf j))->ar H H'->Q x H') :
  wpAny @Cl X.A (call (.builtin "min") [.ref l] [(Str.ofString "key",.ref q)]) (EP X pins σ Q) E s:=by
 refine HM.ML (Ij (X:=X) (pins:=pins) (σ:=σ) hl) kf hh ⟨H,by rw[Qa];exact I,ar.refl _,λp hp=>by cases hp⟩ hne ?_ ?_
 ·rintro i v own z ⟨x,ex,rx⟩ ⟨H',I',s',f'⟩
  refine Pl (turn i x v own z H' ex rx I' s') (λu z' ⟨t,H'',e,I'',s''⟩=>⟨t,e,H'',I'',s'.trans s'',λp hp=>?_⟩) λ_ _ h=>h
  obtain⟨a1,a2⟩:=f' p hp
  exact⟨(I''.pin p (OS _ (OS _ hp))).2.1,a2⟩
 ·rintro i v z' ⟨x,ex,rx⟩ hb ⟨H',I',s',_⟩
  rw[Qa] at I'
  exact⟨x,H',I',rx,hQ i x H' ex hb s'⟩
end
abbrev EZ (X:Cx)(qual:Str)(scope:Scope)(C q:Addr)(cdv:Value):Env:=PySem.W.envX qual scope C q cdv (gc X.env.cells scope.names [])
def yr (X:Cx)(A:Around)(NB:@H_)(qual:Str)(scope:Scope)(q:Addr)(cdv:Value)(s3:Shared)(H3:Hp)(pn:@B_):Cx:=
 {X with A:=A.deeper (EZ X qual scope s3.heap.objs.size q cdv),N:=NB,s₀:=s3,H₀:=H3,env:=EZ X qual scope s3.heap.objs.size q cdv,outer:=X.stack,stack:=EZ X qual scope s3.heap.objs.size q cdv :: X.stack,ex:=[],fn:=λ_=>false,pn:=pn,xe:=λ_ _=>False}
section
variable {X:Cx}{NB:@H_}{ixs:@G_}{scope:Scope}{pins:@B_}{σ:St}{H:Hp}{s:Shared}
def Bd {A:Around}{qual:Str}{q:Addr}{cdv:Value}{y:Str}{v:V}{u:Value}(S:bA X NB 1 ixs scope)(nc:∀y∈scope.names,y.2≠.cell)(I:@At)(hA:A.frames=some X.stack)(hh:A.handled=none)(hy:NB[0]? =some y)(hloc:scope.names.lookup y=some .local)(rv:RelV v u){h1:Heap}{tk:Nat}
  (hn:h1.Ns s.heap.objs.size (λx=>[(y,u)].reverse.lookup x)) (hk:∀b o,s.heap.get? b=some o->h1.get? b=some o) :
  Inv (yr X A NB qual scope q cdv s H (X.pn ++ pins)) [] (some v :: ixs.map λi=>(σ[i]?).join) H {s with heap:=h1,toks:=tk}:=by
 have stk:=I.stack
 have frees:∀{x:Str},(x,NameKind.free)∈scope.names->∃c,X.env.cells.lookup x=some c:=λ{x} hx=>I.ok.has x (S.frees _ hx rfl)
 have clE:∀{x:Str} {c:Addr},(gc X.env.cells scope.names []).lookup x=some c->(x,NameKind.free)∈scope.names/\X.env.cells.lookup x=some c:=λ{x c} h=>by
  rcases jZ h with⟨a,b⟩ |a
  ·obtain⟨c',e⟩:=frees a
   rw[e] at b
   exact⟨a,by rw[e,b];rfl⟩
  ·simp at a
 have isFree:∀{x:Str},(scope.names.lookup x=some .cell\/scope.names.lookup x=some .free)->(x,NameKind.free)∈scope.names:=λ{x} h=>by
  rcases h with h |h
  ·exact absurd rfl (nc _ (Pg h))
  ·exact Pg h
 have neN:∀b o,s.heap.get? b=some o->b≠s.heap.objs.size:=λb o e=>OX (Oz e)
 have noA:∀b:Addr,b∉(yr X A NB qual scope q cdv s H (X.pn ++ pins)).ex:=λb z=>absurd (show b∈([]:List Addr) from z) @IN
 have ok:(yr X A NB qual scope q cdv s H (X.pn ++ pins)).Ok:=
  ⟨I.ok.mod,S.kind,rfl,rfl,Ox _,λx y c h1 h2=>I.ok.inj x y c (clE h1).2 (clE h2).2,λx hx=>⟨_,mh (.inl (isFree hx))⟩,λx c h=>(by cases h),λ_=>hh,Around.frames_deeper hA,.inr ⟨rfl,rfl⟩,λb hb=>absurd hb (noA b),I.bs,Pw I.ok.bsz I.sz,λb _ _=>noA b,λb hb=>absurd hb (noA b),stk,I.stkFree⟩
 refine⟨ok,rfl,I.bare,Un.kept hk,⟨_,hn,λi x v' h1' h2' h3'=>?_⟩,λx c h=>?_,I.hok.fresh (Ox _),λx c h=>I.freeC x c (clE h).2,λp hp=>?_,I.hok.kept hk,?_⟩
 ·have h1':NB[i]? =some x:=h1'
  cases i with
  |zero=>
   rw[hy] at h1'
   cases h1'
   have h2':some v=some v':=by simpa using h2'
   cases h2'
   exact⟨u,rv,.inl ⟨hloc,by simp⟩⟩
  |succ k=>
   have hk':k < ixs.length:=by
    have:=(Oy.mp h1').1
    rw[S.len] at this;omega
   obtain⟨e1,e2⟩:=S.at' k hk'
   rw[Nat.add_comm 1 k] at e1 e2
   have hm:=e2 x h1'
   rw[List.getElem?_cons_succ,OK,Ot hk'] at h2'
   simp only[Option.map_some,Option.some.injEq] at h2'
   have hix:ixs.getD k 0=ixs[k]:=by simp[hk']
   have hσ:σ[ixs[k]]? =some (some v'):=by
    cases e:σ[ixs[k]]? with
    |none=>rw[e] at h2';cases h2'
    |some o=>rw[e] at h2';simp at h2';rw[h2']
   rw[e1,hix] at h1'
   have hkind:=S.frees _ hm rfl
   have hvis:vS X.env.scope x:=hkind.elim (λz=>.inr (.inl z)) (λz=>.inr (.inr z))
   obtain⟨m,hm',hl⟩:=I.loc
   obtain⟨u',r,look⟩:=hl _ x v' h1' hσ hvis
   refine⟨u',r,.inr ⟨.inr (S.names _ hm),?_⟩⟩
   rcases look with⟨z,_⟩ | ⟨_,c,hc,hcell⟩
   ·rcases hkind with q |q
    ·rw[q] at z;cases z
    ·rw[q] at z;cases z
   ·refine⟨c,?_,?_⟩
    ·have:=mh (cells:=X.env.cells) (cs:=[]) (.inl hm)
     rw[hc] at this
     exact this
    ·obtain⟨o,ho,hd⟩:=hcell
     exact⟨o,hk _ _ ho,hd⟩
 ·obtain⟨v,o,ho,hd⟩:=I.cell x c (clE h).2
  exact⟨v,o,hk _ _ ho,hd⟩
 ·have hp':p∈X.pn ++ pins:=by
   rcases OR.mp hp with z |z
   ·exact z
   ·cases z
  obtain⟨e,n,ne,nf,d⟩:=I.pin p hp'
  refine⟨hk _ _ e,n,neN _ _ e,λz=>?_,d⟩
  rcases OC.mp (I.stkSub _ z) with q |q
  ·exact ne q
  ·exact nf q
 ·show (some v :: ixs.map λi=>(σ[i]?).join).length=NB.length
  rw[S.len];simp;omega
end
def AI {prog:Program}{w:World}{A:Around}{R:Result->Shared->Prop}{s:Shared}{a:Addr}{args:Args}{o:Obj}{fd:FuncData}{body:Expr}{qn:Str}(hroom:A.depth < recursionLimit)
  (ho:s.heap.get? a=some o)
  (hd':o.data=.func fd) (hco:fd.scope.isCoroutine=false) (hgen:fd.scope.isGenerator=false) (hbody:fd.body=.expr body) (hcd:s.heap.CodeRec fd.code qn)
  (h:wpAny (model prog w) A.in1 (bindArgs fd args) (λbinds s₁=>
   wpAny (model prog w) A.in1 (newFunctionEnv fd.scope fd.globals fd.closure binds (qn ++ ".<locals>.") (some a) fd.code none fd.builtins)
    (λenv s₂=>s₂.heap.NoLimit/\codeAny (model prog w) A (.expr body env) R s₂) (λe s'=>R (.error e) s') s₁) (λe s'=>R (.error e) s') s) :
  codeAny (model prog w) A (.call (.ref a) args) R s:=by
 refine codeAny_of_tree ?_
 show wpAny _ A.in1 (callAny (.ref a) args) _ _ s
 simp only[callAny]
 refine Ou (wpAny_load ho ?_)
 obtain⟨c,oc,vs,tq,hc,hoc,hdc,hq⟩:=hcd
 simp only[hd',callFunction,hco,hgen,hbody,hc]
 rw[hc] at h
 refine Ou (m:=field (.ref c) 1) (Qv hoc hdc hq (Ou (OZ ?_)))
 exact Ou (Pl h (λbinds s₁ h₁=>Ou (Pl h₁ (λenv s₂ h₂=>Ou (wpAny_enterFrame h₂.1 hroom
  (OZ (And.intro rfl h₂.2)))) λ_ _ h'=>h')) λ_ _ h'=>h')
section
variable {X:Cx}{NB:@H_}{ixs:@G_}{scope:Scope}{pins:@B_}{σ:St}{H:Hp}{s:Shared}
def Dj {A:Around}{name qual:Str}{params:Arguments}{body:Expr}{pm ctv:Value}{q c':Addr}{y:Str}{v:V}{u:Value}{te:TE}{Q:VK}{qn:Str}
  (S:bA X NB 1 ixs scope) (nc:∀y∈scope.names,y.2≠.cell) (hco:scope.isCoroutine=false) (hgen:scope.isGenerator=false) (I:@At) (hA:A.frames=some X.stack) (hh:A.handled=none) (hd:A.depth < recursionLimit) (hy:NB[0]? =some y) (hloc:scope.names.lookup y=some .local) (rv:RelV v u)
  (ho:s.heap.get? q=some (PySem.W.kla_obj name qual params body scope (gc X.env.cells scope.names []) pm c' ctv)) (hcd:s.heap.CodeRec (.ref c') qn)
  (hb:bindArgs (PySem.W.kla_fn name qual params body scope (gc X.env.cells scope.names []) pm (.ref c') ctv) ⟨[u],[]⟩=pure [(y,u)])
  (he:PE (yr X A NB qn scope q (.ref c') s H (X.pn ++ pins)) body te) (h:te (some v :: ixs.map λi=>(σ[i]?).join) H Q) :
  wpAny @Cl A (call (.ref q) [u]) (EP X pins σ Q) (λ_ _=>False) s:=by
 refine wpAny_call ?_
 refine AI hd ho rfl hco hgen rfl hcd ?_
 rw[hb]
 refine OZ (wpAny_newFunctionEnv nc (λx hx=>by rw[OY] at hx;rw[hx];exact hloc) (λh1 hn hsb=>?_) S.kind)
 have hk:∀b o,s.heap.get? b=some o->h1.get? b=some o:=λb o e=>hsb.extBut b o (OX (Oz e)) (Ow _ e)
 have lim:s.heap.NoLimit:=I.ok.mod.nolimit.keeps λb o e=>I.bk b o e
 refine⟨lim.keeps hk,?_⟩
 show codeAny _ _ (.expr body (EZ X qn scope s.heap.objs.size q (.ref c'))) _ _
 refine PySem.W.kla_codeExpr ?_
 have I':=Bd (qual:=qn) (q:=q) (cdv:=.ref c') (tk:=s.toks + [(y,u)].length) S nc I hA hh hy hloc rv hn hk
 refine Pl (he [] _ _ H Q I' h) (λu' s' ⟨x,H',I2,rx,qx⟩=>?_) λe s' hx=>hx.elim
 exact I.after ⟨x,H',I2.os,I2.bare,I2.base,I2.hok,rx,qx⟩
end
def Lo (X:Cx)(kr:St->V->V->Hp->VK->Prop):Prop:=∀(pins:@B_) (s:Shared) (σ:St) (H:Hp) (q:Addr) (x:V) (u:Value) (Q:VK),@At->RelV x u->kr σ (.ref q) x H Q->wpAny @Cl X.A.in1 (call (.ref q) [u]) (EP X pins σ Q) (λ_ _=>False) s
def Kk (kr:St->V->V->Hp->VK->Prop)(ta tl:TE):TE:=λσ H Q=>ta σ H λx H1=>tl σ H1 λf H2=>∃(l q:Addr) (xs:List V) (kf:Nat->Int),x=.ref l/\f=.ref q/\H2 l=some (.lst xs)/\0 < xs.length/\
 (∀(i:Nat) (y:V) (H':Hp),xs[i]? =some y->ar H2 H'->kr σ (.ref q) y H' λw H''=>w=.int (kf i)/\ar H' H'')/\
 ∀(i:Nat) (y:V) (H':Hp),xs[i]? =some y->(∀j,j < xs.length->kf i<=kf j/\(j < i->kf i < kf j))->ar H2 H'->Q y H'
section
variable {X:Cx}{a lam:Expr}{ta tl:TE}{p pos kp:Pos}{kr:St->V->V->Hp->VK->Prop}
theorem Bu (hc:X.calm=true)(hg:Gl X "min")(hm:X.mg "min"=none)(hkr:Lo X kr)(ha:PE X a ta)(hl:PE X lam tl)(hv:bootBuiltins "min"=some (.builtin "min"):=by decide +kernel)
  (he:starEach [a] X.env=(false,eval a X.env) :: starEach [] X.env:=by rfl):PE X (.Call (.Name "min" p) [a] [⟨some "key",lam,kp⟩] pos) (Kk kr ta tl):=by
 intro pins s σ H Q I h
 refine Ql (nu I hg hm hv ?_ @Go)
 let K2:V->V->Hp->Prop:=λx f H2=>∃(l q:Addr) (xs:List V) (kf:Nat->Int),x=.ref l/\f=.ref q/\H2 l=some (.lst xs)/\0 < xs.length/\
  (∀(i:Nat) (y:V) (H':Hp),xs[i]? =some y->ar H2 H'->kr σ (.ref q) y H' λw H''=>w=.int (kf i)/\ar H' H'')/\
  ∀(i:Nat) (y:V) (H':Hp),xs[i]? =some y->(∀j,j < xs.length->kf i<=kf j/\(j < i->kf i < kf j))->ar H2 H'->Q y H'
 let QK:V->List V->Hp->Prop:=λx fs H2=>match fs with
  | [f]=>K2 x f H2
  |_=>False
 let QA:List V->Hp->Prop:=λvs H1=>match vs with
  | [x]=>zI tl FK σ H1 (QK x)
  |_=>False
 have h':zI ta FK σ H QA:=h
 refine callWith_kw (cc (aw ha aR he pos pins s σ H QA I h') λus s1 ⟨vs,H1,I1,r1,q1⟩=>?_) (by rw[he];rfl) (by rw[he];rfl) rfl rfl
 match vs,r1,q1 with
 | [],_,q1=>exact q1.elim
 |_ :: _ :: _,_,q1=>exact q1.elim
 | [x],r1,q1=>
  refine cc (ES hl Ji pos pins s1 σ H1 (QK x) I1 q1) λws s2 ⟨zs,H2,I2,rz,q2⟩=>?_
  match zs,rz,q2 with
  | [],_,q2=>exact q2.elim
  |_ :: _ :: _,_,q2=>exact q2.elim
  | [f],rz,q2=>
   obtain⟨l,q,xs,kf,rfl,rfl,hL,hne,hk,hQ⟩:=q2
   obtain⟨u,rfl,ru⟩:=vals1 r1
   obtain⟨uf,rfl,rf⟩:=vals1 rz
   cases ru
   cases rf
   show wpAny @Cl X.A (call (.builtin "min") [.ref l] [(Str.ofString "key",.ref q)]) (EP X pins σ Q) _ s2
   refine Eo I2 (I2.ok.hd hc) hL hne kf (λi x v own z H' ex rx I' s'=>?_) λi x H' ex hb s'=>hQ i x H' ex hb s'
   refine Pl (hkr (pins ++ own) z σ H' q x v _ I' rx (hk i x H' ex s')) (λu' z' ⟨w,H'',I'',rw',e,s''⟩=>?_) λ_ _ hF=>hF
   subst e
   obtain⟨t,rfl⟩:=rw'
   exact⟨t,H'',rfl,I'',s''⟩
end
section
variable {X:Cx}{NB:@H_}{ixs:@G_}{scope:Scope}
def wz (X:Cx)(params:Arguments)(body:Expr)(scope:Scope)(q:Addr)(H:Hp):Prop:=∃(name qual:Str) (pm ctv:Value) (c':Addr) (oc:Obj),
 H q=some (.aY (PySem.W.kla_obj name qual params body scope (gc X.env.cells scope.names []) pm c' ctv) (.own 0))/\H c'=some (.aY oc (.own 0))/\E8 oc
def wz.step {params:Arguments}{body:Expr}{q:Addr}{H H':Hp}(h:wz X params body scope q H)(s:ar H H'):wz X params body scope q H':=by
 obtain⟨name,qual,pm,ctv,c',oc,h1,h2,h3⟩:=h
 exact⟨name,qual,pm,ctv,c',oc,s _ _ h1,s _ _ h2,h3⟩
def Ob (X:Cx)(params:Arguments)(body:Expr)(scope:Scope)(ixs:@G_)(te:TE):St->V->V->Hp->VK->Prop:=λσ f x H Q=>∃q,f=.ref q/\wz X params body scope q H/\te (some x :: ixs.map λi=>(σ[i]?).join) H Q
def Gp {params:Arguments}{body:Expr}{y:Str}{te:TE}(S:bA X NB 1 ixs scope)(nc:∀y∈scope.names,y.2≠.cell)(hco:scope.isCoroutine=false)(hgen:scope.isGenerator=false)(hc:X.calm=true)(hd:X.A.in1.depth < recursionLimit)(hy:NB[0]? =some y)(hloc:scope.names.lookup y=some .local)
  (hb:∀(name qual:Str) (pm ctv:Value) (c':Addr) (u:Value),bindArgs (PySem.W.kla_fn name qual params body scope (gc X.env.cells scope.names []) pm (.ref c') ctv) ⟨[u],[]⟩=pure [(y,u)])
  (he:∀qn q c' s H pn,PE (yr X X.A.in1 NB qn scope q (.ref c') s H pn) body te):Lo X (Ob X params body scope ixs te):=by
 rintro pins s σ H q x u Q I rx ⟨q',e,⟨name,qual,pm,ctv,c',oc,h1,h2,vs,qn,t,d1,d2⟩,h⟩
 cases e
 have g1:=(I.hok _ _ h1).1
 have g2:=(I.hok _ _ h2).1
 exact Dj S nc hco hgen I I.env0.in1.frames (I.ok.hd hc) hd hy hloc rx g1 ⟨c',oc,vs,t,rfl,g2,d1,d2⟩ (hb name qual pm ctv c' u) (he qn q c' s H _) h
end
def Lq (X:Cx)(Tb:Hp->Prop)(params:Arguments)(body:Expr)(scope:Scope):TE:=λσ H Q=>Tb H/\∀q H',ar H H'->wz X params body scope q H'->Q (.ref q) H'
def l0 (fb:VF D)(dr:D)(β:Int)(d:D):Option Int:=match fb [.da d,.da dr] β with
 | .ok (.int k) _=>some k
 |_=>none
def w9 (ks:List Int):Nat:=argBest (λi j=>decide (ks.getD i 0 < ks.getD j 0)) (ks.length - 1)
def zM (ir:Nat)(fa fb:VF D):VF D:=λvs β=>(fa vs β).bnd λx β1=>match x,dat vs[ir]? with
 | .list ds,some dr=>if 0 < ds.length/\ds.all (λd=>(l0 fb dr β1 d).isSome)=true then R.of ds[w9 (ds.map λd=>(l0 fb dr β1 d).getD 0)]? β1 else .bad
 |_,_=>.bad
def qH {ks:List Int}(h:0 < ks.length):w9 ks < ks.length/\∀i,i < ks.length->(∀j,j < ks.length->ks.getD i 0<=ks.getD j 0/\(j < i->ks.getD i 0 < ks.getD j 0))->i=w9 ks:=by
 have h1:=nq (λi j=>decide (ks.getD i 0 < ks.getD j 0)) (ks.length - 1)
 refine⟨by unfold w9;omega,λi hi hb=>?_⟩
 have first:∀n:Nat,n < ks.length->∀j,j<=n->ks.getD (argBest (λi j=>decide (ks.getD i 0 < ks.getD j 0)) n) 0<=ks.getD j 0/\(j < argBest (λi j=>decide (ks.getD i 0 < ks.getD j 0)) n->ks.getD (argBest (λi j=>decide (ks.getD i 0 < ks.getD j 0)) n) 0 < ks.getD j 0):=by
  intro n
  induction n with
  |zero=>
   intro _ j hj
   have:j=0:=@AT
   subst this
   exact⟨Int.le_refl _,λz=>absurd z (OU _)⟩
  |succ n ih=>
   intro hn j hj
   have ihn:=ih (@AT)
   have le:=nq (λi j=>decide (ks.getD i 0 < ks.getD j 0)) n
   unfold argBest
   by_cases c:ks.getD (n + 1) 0 < ks.getD (argBest (λi j=>decide (ks.getD i 0 < ks.getD j 0)) n) 0
   ·rw[Ov (OE c)]
    by_cases e:j=n + 1
    ·subst e;exact⟨Int.le_refl _,λz=>absurd z (OU _)⟩
    ·have:=(ihn j (@AT)).1
     exact⟨@AT,λ_=>@AT ⟩
   ·rw[OA (by rw[OP];exact c)]
    by_cases e:j=n + 1
    ·subst e;exact⟨@AT,λz=>@AT ⟩
    ·exact ihn j (@AT)
 have hB:=first (ks.length - 1) (@AT)
 show i=argBest _ (ks.length - 1)
 generalize argBest (λi j=>decide (ks.getD i 0 < ks.getD j 0)) (ks.length - 1)=b at hB h1
 have a1:=hB i (@AT)
 have a2:=hb b (@AT)
 rcases Nat.lt_trichotomy i b with z |z |z
 ·have:=a1.2 z;omega
 ·exact z
 ·have:=a2.2 z;omega
section
variable {X:Cx}{Γ:Fx}{E:XK}{a lam:Expr}{fa fb:VF D}{La Lb:@G_}{ma mb:Md}{p pos kp:Pos}{NB:@H_}{scope:Scope}{params:Arguments}{body:Expr}{y:Str}{ir:Nat}{Tb:Hp->Prop}
theorem BQ (hc:X.calm=true)(hK:X.K=Γ.K)(hg:Gl X "min")(hm:X.mg "min"=none)(ha:SE X Γ E a fa La .v)(hl:PE X lam (Lq X Tb params body scope))(hT:∀(B:@Ix) (G H:Hp) σ env β,@GT->Tb H)
  (S:bA X NB 1 [ir] scope) (nc:∀y∈scope.names,y.2≠.cell) (hco:scope.isCoroutine=false) (hgen:scope.isGenerator=false) (hd:X.A.in1.depth < recursionLimit) (hy:NB[0]? =some y) (hloc:scope.names.lookup y=some .local)
  (hb:∀(name qual:Str) (pm ctv:Value) (c':Addr) (u:Value),bindArgs (PySem.W.kla_fn name qual params body scope (gc X.env.cells scope.names []) pm (.ref c') ctv) ⟨[u],[]⟩=pure [(y,u)])
  (he:∀H0 G0 qn q c' s H pn,SE (yr X X.A.in1 NB qn scope q (.ref c') s H pn) (Γ.eV H0 G0 [] (λ_=>false) none) E0 body fb Lb .v)
  (hst:starEach [a] X.env=(false,eval a X.env) :: starEach [] X.env:=by rfl):SE X Γ E (.Call (.Name "min" p) [a] [⟨some "key",lam,kp⟩] pos) (zM ir fa fb) La .v:=by
 let te:TE:=λσ H Q=>∃H0 G0,pT (Γ.eV H0 G0 [] (λ_=>false) none) E0 fb Lb .v σ H Q
 have hkr:=Gp (te:=te) S nc hco hgen hc hd hy hloc hb λqn q c' s H pn pins s' σ' H' Q I ⟨H0,G0,h⟩=>he H0 G0 qn q c' s H pn pins s' σ' H' Q I h
 refine PE.post' (Bu hc hg hm hkr ha hl (he:=hst)) λσ H Q ⟨env,G,B,β,I,o⟩=>?_
 refine⟨env,G,B,β,I,o.bnd.imp λd1 β1 h x G1 H1 I1 s1 m1 vx=>?_⟩
 refine⟨hT B G1 H1 σ _ β1 I1,λq H2 s2 hlam=>?_⟩
 cases d1 with
 |list ds=>
  cases edr:dat (vl env)[ir]? with
  |none=>rw[edr] at h;exact h.elim
  |some dr=>
  rw[edr] at h
  dsimp only at h
  by_cases hz:0 < ds.length/\ds.all (λd=>(l0 fb dr β1 d).isSome)=true
  case neg=>rw[OA hz] at h;exact h.elim
  rw[Ov hz] at h
  obtain⟨d,ed,k⟩:=h.of
  have vx:Rp Γ.K G1 x (.list ds):=vx
  cases vx with
  | @lst l xs _ hq r=>
  have hl2:H2 l=some (.lst xs):=s2 _ _ (I1.sub _ _ hq)
  have hlen:=r.len
  refine⟨l,q,xs,λi=>(ds.map λd=>(l0 fb dr β1 d).getD 0).getD i 0,rfl,rfl,hl2,@AT,λi y H' ey s'=>?_,λi y H' ey hbest s'=>?_⟩
  ·refine⟨q,rfl,hlam.step s',H',H',?_⟩
   obtain⟨di,edi,rdi⟩:=r.at' ey
   have sH:ar H1 H':=s2.trans s'
   have ry:Rp Γ.K H' y di:=rdi.mono (I1.sub.trans sH)
   have e1:(vl (aY La env))[ir]? =some (.da dr):=by rw[dS];exact join_some edr
   obtain⟨v,hv,rv⟩:∃v,σ[ir]? =some (some v)/\Rp Γ.K H' v dr:=by
    rcases Eg e1 with z |z |z
    ·obtain⟨v,w1,w2⟩:=I1.slot ir _ z
     exact⟨v,w1,w2.mono (I1.sub.trans sH)⟩
    ·obtain⟨c,w1,w2,w3,w4,w5⟩:=I1.slot ir _ z
     exact⟨_,w1,(mS.rpH (B:=B) (.inr ⟨c,rfl,w4,w5⟩) I1.sub).mono sH⟩
    ·obtain⟨_,c,w1,w4,_,w5⟩:=I1.slot ir _ z
     exact⟨_,w1,(mS.rpH (B:=B) (.inr ⟨c,rfl,w4,w5⟩) I1.sub).mono sH⟩
   have J:SR (Γ.eV H' H' [] (λ_=>false) none) none H' H' (some y :: [ir].map λi=>(σ[i]?).join) [.fz di,.fz dr] β1:=by
    refine⟨ar.refl _,ar.refl _,λb _ h=>h,λb o e _=>Kt.of e,(λb hb=>by cases hb),λb e=>e,(λb e=>by cases e),rfl,λi t e=>?_,λi j c d1 d2 e=>?_⟩
    ·match i,e with
     | 0,e=>cases e;exact⟨y,rfl,ry⟩
     | 1,e=>cases e;exact⟨v,by simp[hv],rv⟩
     |i + 2,e=>simp at e
    ·match i,e with
     | 0,e=>cases e
     | 1,e=>cases e
     |i + 2,e=>simp at e
   refine⟨_,H',none,β1,J,?_⟩
   show Out _ _ (fb [.da di,.da dr] β1) _
   have hs:=O9.mp hz.2 di (OV edi)
   have ek:(ds.map λd=>(l0 fb dr β1 d).getD 0).getD i 0=(l0 fb dr β1 di).getD 0:=by
    rw[O6,OK,edi];rfl
   cases ef:fb [.da di,.da dr] β1 with
   |exc c=>unfold l0 at hs;rw[ef] at hs;cases hs
   |bad=>unfold l0 at hs;rw[ef] at hs;cases hs
   |ok dk β'=>
    unfold l0 at hs
    rw[ef] at hs
    cases dk with
    |int kk=>
     intro w G'' H'' J2 _ _ vo
     have vo:Rp Γ.K G'' w (.int kk):=vo
     cases vo
     have e2:l0 fb dr β1 di=some kk:=by unfold l0;rw[ef]
     exact⟨by dsimp only;rw[ek,e2];rfl,λb o e=>J2.keep b o e (by intro z;cases z)⟩
    |_=>cases hs
  ·have hks:(ds.map λd=>(l0 fb dr β1 d).getD 0).length=ds.length:=OB ..
   have hi:i < xs.length:=(Oy.mp ey).1
   have ei:=(qH (ks:=ds.map λd=>(l0 fb dr β1 d).getD 0) (@AT)).2 i (@AT) λj hj=>hbest j (@AT)
   rw[<-ei] at ed
   obtain⟨y',ey',ry⟩:=r.at ed
   rw[ey] at ey'
   cases ey'
   have sH:ar H1 H':=s2.trans s'
   exact k y G1 H' (I1.ext ⟨sH,ar.refl _,I1.sub.trans sH,λ_ _=>rfl⟩) s1 (m1.trans (sH.mov B)) ry
 |_=>exact h.elim
end
section
variable {X:Cx}{pins:@B_}{σ:St}{H:Hp}{s:Shared}
def Inv.grow {P c':Addr}{ps more:Array Value}{oc:Obj}{h':Heap}{tk:Nat}(I:@At)(hP:H P=some (.tbl ps))(hx:Heap.ExtBut P s.heap h')(htb:h'.get? P=some (PySem.W.tabObj (ps ++ more)))(hge:s.heap.objs.size<=c')(hoc:h'.get? c'=some oc) :
  Inv X pins σ (upd (upd H P (.tbl (ps ++ more))) c' (.aY oc (.own 0))) {s with heap:=h',toks:=tk}:=by
 have lt:∀{b:Addr} {o:HO},H b=some o->b≠c':=λ{b o} e z=>by
  have:=I.hok.lt e
  rw[z] at this
  exact OU _ (OO this hge)
 have lts:∀{b:Addr} {o:Obj},s.heap.get? b=some o->b≠c':=λ{b o} e z=>by
  have:=Oz e
  rw[z] at this
  exact OU _ (OO this hge)
 have nP:∀{b:Addr},H b=none->b≠P:=λ{b} e z=>by rw[z,hP] at e;cases e
 have up:∀{b:Addr} {o:HO},H b=some o->b≠P->upd (upd H P (.tbl (ps ++ more))) c' (.aY oc (.own 0)) b=some o:=λ{b o} e n=>by rw[aE (lt e),aE n];exact e
 refine I.step (g':=s.gens) (d':=s.drawn) (t':=tk) (ch:=[]) (λ_ z=>nomatch z) (λb o _ _ _ e n=>hx b o (nP n) e) (λb o _ _ _ e n=>⟨o.slots,hx b o (nP n) e⟩) (λb o _ e n=>by rw[aE (lts e),aE (nP n)];exact n) (λb o _ e=>?_)
  (λb xs e=>up e λz=>by rw[z,hP] at e;cases e) (λb o u e=>up e λz=>by rw[z,hP] at e;cases e) (λb ps' e=>?_) (λm hn=>hn.extBut hx (nP I.free)) (λb u e=>?_) I.bare
 ·by_cases z:b=P
  ·rw[z];exact⟨_,htb⟩
  ·exact⟨o,hx b o z e⟩
 ·by_cases z:b=P
  ·subst z
   rw[hP] at e
   cases e
   exact⟨more,by rw[aE (lt hP),az]⟩
  ·exact⟨#[],by rw[up e z];simp⟩
 ·by_cases zc:b=c'
  ·subst zc
   rw[az] at e
   cases e
   exact⟨hoc,oc,hoc⟩
  ·rw[aE zc] at e
   by_cases z:b=P
   ·subst z
    rw[az] at e
    cases e
    exact htb
   ·rw[aE z] at e
    refine (I.hok b u e).stay (λb' u' hb' q=>hx b' u' (λzz=>?_) q) (λb' q=>up q λzz=>by rw[zz,hP] at q;cases q) λb' xs q=>?_
    ·rcases hb' with rfl |hb'
     ·exact z zz
     ·rw[zz,hP] at hb';cases hb'
    ·rcases q with q | ⟨o,q⟩
     ·exact .inl (up q λzz=>by rw[zz,hP] at q;cases q)
     ·exact .inr ⟨o,up q λzz=>by rw[zz,hP] at q;cases q⟩
def ar.grow_tbl {P c':Addr}{ps:Array Value}{oc:Obj}{l k:Value}(hP:H P=some (.tbl ps))(hc:H c'=none)(hi:E8 oc)(hl:∃i t,l=.int i t)(hk:∃i t,k=.int i t):ar H (upd (upd H P (.tbl (ps ++ #[l,k,.ref c']))) c' (.aY oc (.own 0))):=by
 obtain⟨il,tl,rfl⟩:=hl
 obtain⟨ik,tk,rfl⟩:=hk
 intro b o e
 have nc:b≠c':=λz=>by rw[z,hc] at e;cases e
 have Pc:P≠c':=λz=>by rw[z,hc] at hP;cases hP
 by_cases z:b=P
 ·subst z
  rw[hP] at e
  cases e
  refine⟨#[.int il tl,.int ik tk,.ref c'],by rw[aE nc,az],trivial,λc hcm=>?_⟩
  have:c=c':=by
   simp only[OC,PB,Qz] at hcm
   rcases hcm with z |z |z
   ·cases z
   ·cases z
   ·cases z;rfl
  subst this
  exact⟨oc,az,hi⟩
 ·exact Kt.of (by rw[aE nc,aE z];exact e)
end
theorem Er:∀{l:@GM},Eu l->TriplesOk l
 | [],_=>trivial
 | .int _ _ :: .int _ _ :: .ref _ :: r,h=>Er (l:=r) h
theorem z8 {pos:Pos}{cv:Value}:∀{l:@GM},Eu l->codeAmong pos l=some cv->∃c,cv=.ref c/\Value.ref c∈l
 | [],_,h=>by cases h
 | .int a b :: .int c d :: .ref e :: r,h,hc=>by
  unfold codeAmong at hc
  split at hc
  ·cases hc;exact⟨e,rfl,by simp⟩
  ·obtain⟨c,e1,e2⟩:=z8 (l:=r) h hc
   exact⟨c,e1,by simp[e2]⟩
def Ah (P:Addr)(H:Hp):Prop:=∃ps,H P=some (.tbl ps)/\Eu ps.toList/\∀c,Value.ref c∈ps.toList->∃o,H c=some (.aY o (.own 0))/\E8 o
section
variable {X:Cx}{NB:@H_}{own:Nat}{ixs:@G_}{scope:Scope}{params:Arguments}{body:Expr}{pos:Pos}{c P:Addr}
theorem Ig (S:bA X NB own ixs scope)(hdef:defaultsOf params X.env=([],[]))(hcode:X.env.code=.ref c)(C:PySem.W.CodeHd X.base c P)(hb:X.base.BuiltinsAt X.mg P)(hgP:mainGlobals≠P):PE X (.Lambda params body scope pos) (Lq X (Ah P) params body scope):=by
 rintro pins s σ H Q I ⟨⟨ps,hP,htr,hrefs⟩,h⟩
 refine PySem.W.kla_eval hdef ?_
 have hcl:closureFor scope X.env=pure (gc X.env.cells scope.names []):=kU λy hy e=>I.ok.has _ (S.frees y hy e)
 have hb':s.heap.BuiltinsAt X.mg P:=by
  obtain⟨bm,o,b1,b2,b3,b4,b5,b6⟩:=hb
  exact⟨bm,o,b1,b2,b3,b4,I.bk _ _ b5,b6⟩
 cases hca:codeAmong pos ps.toList with
 |none=>
  refine PySem.W.kla_makeFunction hcl I.ok.glob (I.mod.glob.keeps I.bk) hcode (C.keeps I.bk) (I.hok P _ hP) (Er htr) hca hgP hb' λc' ctv h' tk hx hge hlt hrec htb=>?_
  obtain⟨c2,oc,vs,t,e2,hoc,hd,hv⟩:=hrec
  cases e2
  have I1:=I.grow (tk:=tk) hP hx htb hge hoc
  have hc0:H c'=none:=I.hok.fresh hge
  have sm:=ar.grow_tbl (l:=rawInt pos.line) (k:=rawInt pos.col) hP hc0 (oc:=oc) ⟨vs,_,t,hd,hv⟩ ⟨_,_,rfl⟩ ⟨_,_,rfl⟩
  generalize hH1:upd (upd H P (.tbl (ps ++ #[rawInt pos.line,rawInt pos.col,.ref c']))) c' (.aY oc (.own 0))=H1 at I1 sm
  have ec:H1 c'=some (.aY oc (.own 0)):=by rw[<-hH1,az]
  have ff:H1 h'.objs.size=none:=I1.hok.fresh (Ox _)
  have I2:=I1.laid (a:=h'.objs.size) (o:=.aY (PySem.W.kla_obj "<lambda>" (X.env.qual ++ "<lambda>") params body scope (gc X.env.cells scope.names []) ((X.mg "__name__").getD .none) c' ctv) (.own 0)) (t':=tk) (h':=h'.push (PySem.W.kla_obj "<lambda>" (X.env.qual ++ "<lambda>") params body scope (gc X.env.cells scope.names []) ((X.mg "__name__").getD .none) c' ctv)) (λb u e=>Ow _ e) (Ox _) ⟨OQ _ rfl,_,OQ _ rfl⟩
  exact⟨.ref h'.objs.size,_,I2,rfl,h _ _ (sm.trans (ar.new ff)) ⟨_,_,_,_,c',oc,az,by rw[aE (aM ec ff)];exact ec,vs,_,t,hd,hv⟩⟩
 |some cv=>
  obtain⟨c',rfl,hm⟩:=z8 htr hca
  obtain⟨oc,ec,hi⟩:=hrefs c' hm
  refine PySem.W.kla_makeFunctionHit hcl I.ok.glob (I.mod.glob.keeps I.bk) hcode (C.keeps I.bk) (I.hok P _ hP) (Er htr) hca hb' λctv h' tk hk hsz=>?_
  have I1:Inv X pins σ H {s with heap:=h',toks:=tk}:=I.kept (t':=tk) hk
  have ff:H h'.objs.size=none:=I1.hok.fresh (Ox _)
  have I2:=I1.laid (a:=h'.objs.size) (o:=.aY (PySem.W.kla_obj "<lambda>" (X.env.qual ++ "<lambda>") params body scope (gc X.env.cells scope.names []) ((X.mg "__name__").getD .none) c' ctv) (.own 0)) (t':=tk) (h':=h'.push (PySem.W.kla_obj "<lambda>" (X.env.qual ++ "<lambda>") params body scope (gc X.env.cells scope.names []) ((X.mg "__name__").getD .none) c' ctv)) (λb u e=>Ow _ e) (Ox _) ⟨OQ _ rfl,_,OQ _ rfl⟩
  exact⟨.ref h'.objs.size,_,I2,rfl,h _ _ (ar.new ff) ⟨_,_,_,_,c',oc,az,by rw[aE (aM ec ff)];exact ec,hi⟩⟩
end
def Ah.mono {P:Addr}{G G':Hp}(h:Ah P G)(s:ar G G'):Ah P G':=by
 obtain⟨ps,e,t,k⟩:=h
 obtain⟨m,e2,t2,k2⟩:=s P _ e
 refine⟨ps ++ m,e2,by rw[Qg];exact t.app t2,λc hc=>?_⟩
 rw[Qg,OR] at hc
 rcases hc with hc |hc
 ·obtain⟨o,eo,io⟩:=k c hc;exact⟨o,s c _ eo,io⟩
 ·exact k2 c hc
def spT (T:Addr)(K:Frag)(ca:Str->Addr)(n:Nat)(F:@Do):Sp:=λvs H Q E=>∃G ds,Ah T G/\ar G H/\ds.length=n/\cQ K G vs ds/\match F ds with
 | .ok d fr=>∀v G' H',ar H H'->ar G G'->ar G' H'->(∀b,Mx H b->G b=none->G' b=none)->FV K H G' H' fr d v->Q v H'
 | .exc c=>∀H',ar H H'->E (.ref (ca c)) none H'
 | .bad=>False
structure jF (T:Addr)(P:Program)(w:World)(K:Frag)(mg:@FM)(base:Heap)(ca:Str->Addr)(x:Str)(ps:@H_)(k:Nat)(F:@Do):Prop where
 ex:∃f fd,mg x=some (.ref f)/\PySem.W.keepIn K (.ref f)=true/\Binds K fd ps []/\e8 P w K mg base (lg P w) k f fd ps (spT T K ca ps.length F)
 len:∀ds,F ds≠.bad->ds.length=ps.length
section
variable {P:Program}{w:World}{K:Frag}{mg:@FM}{base:Heap}{ca:Str->Addr}{T:Addr}
def NC {x qual:Str}{st:Stmt}{f:Addr}{fd:FuncData}{N ps:@H_}{k:Nat}{sp:Sp}(F:xV K x qual st f fd)(S:aF N ps (ah st))(len:∀vs H Q E,sp vs H Q E->vs.length=ps.length)
  (hbody:∀(cdv:Value) (A:Around) (outer:List Env) (s:Shared) (H:Hp) (vs:List V) (Q:VK) (E:XK),fd.code=cdv->dN k (A.deeper (envOfC qual (ah st) s.heap.objs.size f cdv))->sp vs H Q E->
   ∃t,pw (j9 (lg P w) P w K mg base N qual (ah st) f cdv A outer s H E) (cG st) t/\t {nx:=λ_ H'=>Q .non H',rt:=Q} (start N vs) H):e8 P w K mg base (lg P w) (k + 1) f fd ps sp:=by
 obtain⟨oc,od,kV,doc,pm,an,cdv,ct,osl,rfl,lk,hcd⟩:=F.ex
 exact Eh lk hcd S len λA outer s H vs Q E hr hsp=>hbody cdv A outer s H vs Q E rfl hr hsp
def gW {x qual:Str}{st:Stmt}{f:Addr}{fd:FuncData}{N ps:@H_}{k:Nat}{m:SF}(F:xV K x qual st f fd)(S:aF N ps (ah st))
  (hbody:∀(cdv:Value) (A:Around) (outer:List Env) (s:Shared) (H G:Hp) (E:XK),fd.code=cdv->Ah T G->dN k (A.deeper (envOfC qual (ah st) s.heap.objs.size f cdv))->Ay (j9 (lg P w) P w K mg base N qual (ah st) f cdv A outer s H E) (Fx.fn K H G ca) E (cG st) m) :
  e8 P w K mg base (lg P w) (k + 1) f fd ps (spT T K ca ps.length (aW N.length ps.length m)):=by
 have hpn:ps.length<=N.length:=by have:=congrArg List.length S.pre;rw[Pu] at this;omega
 refine NC F S (λvs H Q E h=>?_) (λcdv A outer s H vs Q E hcd hr h=>?_)
 ·obtain⟨G,ds,_,sG,hl,r,_⟩:=h
  rw[r.len];exact hl
 ·obtain⟨G,ds,tG,sG,hl,r,h⟩:=h
  refine⟨_,hbody cdv A outer s H G E hcd tG hr,?_⟩
  have I:=SR.start (ca:=ca) (N:=N) sG r (@AT)
  refine⟨_,G,none,0,I,?_⟩
  unfold aW at h
  rw[Ov hl] at h
  have fin':∀{B G' H' σ env β},SR (Fx.fn K H G ca) B G' H' σ env β->ar H H':=λJ b o e=>J.keep b o e (λz=>by cases z)
  cases q:m (yj N.length ds) 0 with
  |nx env β=>rw[q] at h;exact λB G' H' σ J s'=>h .non G' H' (fin' J) s' J.sub (λb h1 h2=>J.new b h1 h2) Rp.non
  |bk env β=>rw[q] at h;exact h.elim
  |ct env β=>rw[q] at h;exact h.elim
  |rt d fr β=>
   rw[q] at h
   refine λB G' H' σ env v J s' rv=>h v G' H' (fin' J) s' J.sub (λb h1 h2=>J.new b h1 h2) ?_
   cases fr with
   |true=>exact rv
   |false=>exact rv
  |exc c=>rw[q] at h;exact λH' kp=>h H' λb o e=>kp b o e (λz=>by cases z)
  |bad=>rw[q] at h;exact h.elim
def Bh {f:Addr}{fd:FuncData}{ps:@H_}{k:Nat}:e8 P w K mg base (lg P w) k f fd ps (spT T K ca ps.length λ_=>.bad):=
 ⟨λvs H Q E h=>by obtain⟨_,_,_,_,_,_,h⟩:=h;exact h.elim,λA outer s H args us vs Q E _ _ _ _ h=>by obtain⟨_,_,_,_,_,_,h⟩:=h;exact h.elim⟩
theorem xh {x:Str}{st:Stmt}{ps:@H_}{f:Addr}{fd:FuncData}{j:Nat}{step:(@Do)->@Do}(F:fX K mg x st ps f fd)
  (h:∀(k:Nat) (F':@Do),j<=k->jF T P w K mg base ca x ps k F'->jF T P w K mg base ca x ps (k + 2) (step F')):∀n,jF T P w K mg base ca x ps (j + 2 * n) (pd step n)
 | 0=>⟨⟨f,fd,F.mg,F.F.kp,F.b,Bh⟩,λds hn=>(hn rfl).elim⟩
 |n + 1=>h (j + 2 * n) _ (Nat.le_add_right _ _) (xh F h n)
end
section
variable {X:Cx}{Γ:Fx}{E:XK}{a:Expr}{es:List Expr}{fr:VF (List D)}{L:@G_}{pos:Pos}{T:Addr}
theorem yx {F:@Do}{ps:@H_}{Q:VK}{B:@Ix}{G H:Hp}{σ:St}{env:En}{β:Int}(hT:Ah T Γ.G0)(I:@GT)(hK:X.K=Γ.K){wv:Bool}
  (h:Out Γ E (if wv=true then uh F fr (vl env) β else au F fr (vl env) β) λd β'=>∀v G' H',SR Γ B G' H' σ (aY L env) β'->ar G G'->iw B H H'->VO Γ.K B H G' H' (if wv=true then .w else .v) d v->Q v H') (hl:∀ds,F ds≠.bad->ds.length=ps.length) :
  aT Γ E fr L σ H λvs H1=>spT T X.K Γ.ca ps.length F vs H1 Q E:=by
 refine⟨env,G,B,β,I,?_⟩
 have h:Out Γ E (fr (vl env) β) λds β1=>Out Γ E (match F ds with
   | .ok d true=>.ok d β1
   | .ok d false=>if wv=true then .bad else .ok d β1
   | .exc c=>.exc c
   | .bad=>.bad) λd β'=>∀v G' H',SR Γ B G' H' σ (aY L env) β'->ar G G'->iw B H H'->VO Γ.K B H G' H' (if wv=true then .w else .v) d v->Q v H':=by
  cases wv with
  |true=>
   simp only[PL] at h ⊢
   refine h.bnd.imp λds β1 h=>?_
   cases q:F ds with
   |ok d b=>rw[q] at h;cases b <;> exact h
   |exc c=>rw[q] at h;exact h
   |bad=>rw[q] at h;exact h
  |false=>
   simp only[Pn,PZ] at h ⊢
   refine h.bnd.imp λds β1 h=>?_
   cases q:F ds with
   |ok d b=>rw[q] at h;cases b <;> exact h
   |exc c=>rw[q] at h;exact h
   |bad=>rw[q] at h;exact h
 refine h.imp λds β1 k vs G1 H1 I1 s1 m1 r=>?_
 refine⟨G1,ds,hT.mono I1.old,I1.sub,?_,by rw[hK];exact r,?_⟩
 ·exact hl ds λz=>by rw[z] at k;exact k
 cases q:F ds with
 |bad=>rw[q] at k;exact k
 |exc c=>rw[q] at k;exact λH' s=>k H' (I1.kp s)
 |ok d b=>
  rw[q] at k
  intro v G' H' hh hg hs hn fv
  obtain⟨I2,m2⟩:=I1.called hh hg hs hn
  cases b with
  |true=>
   obtain⟨p,rfl,p1,p2,p3⟩:∃a,v=.ref a/\H1 a=none/\G' a=none/\Own X.K G' H' a d:=fv
   rw[hK] at p3
   have hp:=fu m1 I1.boxThere p1
   cases wv with
   |true=>exact k _ G' H' I2 (s1.trans hg) (m1.trans m2) ⟨p,rfl,hp,p2,p3⟩
   |false=>
    obtain⟨q1,q2,q3,q4⟩:=I1.fresh p1
    obtain⟨G3,I3,s3,r3⟩:=I2.letIn q1 p2 q3 q4 p3
    exact k _ G3 H' I3 ((s1.trans hg).trans s3) (m1.trans m2) r3
  |false=>
   cases wv with
   |true=>exact k.elim
   |false=>
    have fv:Rp X.K G' v d:=fv
    rw[hK] at fv
    exact k _ G' H' I2 (s1.trans hg) (m1.trans m2) fv
def cJ {x:Str}{ps:@H_}{k:Nat}{F:@Do}{p:Pos}(hT:Ah T Γ.G0)(hf:jF T X.prog X.w X.K X.mg X.base Γ.ca x ps k F)(hr:dN k X.A)(hx:Passes (lg X.prog X.w) X E)(hK:X.K=Γ.K)(hg:Gl X x)(ha:SA X Γ E (a :: es) fr L)(hdb:@FS:=by decide)
  (he:starEach (a :: es) X.env=(false,eval a X.env) :: starEach es X.env:=by rfl) (hpl:(backTo pos (starEach es X.env)).any (·.1)=false:=by rfl):SE X Γ E (.Call (.Name x p) (a :: es) [] pos) (au F fr) L .v:=by
 obtain⟨f,fd,hm,hk,hb,hF⟩:=hf.ex
 refine PE.post' (ot (dvs:=[]) hF hr hg hm hk hb .nil hx ha hdb he hpl) λσ H Q ⟨env,G,B,β,I,o⟩=>?_
 show aT Γ E fr L σ H λvs H1=>spT T X.K Γ.ca ps.length F (vs ++ []) H1 Q E
 have:=yx (Q:=Q) (wv:=false) (ps:=ps) hT I hK o hf.len
 simpa using this
end
structure BK (mg:@FM)(base:Heap)(c T:Addr):Prop where
 hd:PySem.W.CodeHd base c T
 bt:base.BuiltinsAt mg T
 ne:mainGlobals≠T
def KL {X:Cx}{A:Around}{NB:@H_}{qual:Str}{scope:Scope}{q:Addr}{cdv:Value}{s3:Shared}{H3:Hp}{pn:@B_}{P:Program}{w:World}:Passes (lg P w) (yr X A NB qual scope q cdv s3 H3 pn) E0:=λpins σ H s e s' I h=>by
 obtain⟨_,_,_,_,_,_,_,_,_,q⟩:=h
 exact q.elim
theorem Ba {P:Program}{w:World}{K:Frag}{mg mb:@FM}{CX:vB}{k:Nat}{fa a T c:Addr}{fd:FuncData}{x:Str}{sp:Sp}{s₁:Shared}{vs:@GM}{ns:List Int}
  (KX:K.In s₁.heap) (hns:s₁.heap.Ns mainGlobals mg) (hb:s₁.heap.Ns builtinsNs mb) (hbb:∀x:Str,x≠"__name__"->mb x=bootBuiltins x) (hlim:s₁.heap.NoLimit) (hsys:∃mm,s₁.heap.Ns sysModules mm) (hg:s₁.gens=#[])
  (hbm:∃bm ob,mg "__builtins__"=some (.ref bm)/\bm≠builtinsNs/\s₁.heap.get? bm=some ob/\ob.cls=.type "module"/\ob.dict=some builtinsNs/\ob.data=.plain)
  (hT:s₁.heap.get? T=some (PySem.W.tabObj #[])) (hKT:K.lookup T=none) (hcd:PySem.W.codeHdIn K c T=true)
  (ha:s₁.heap.get? a=some {cls:=.type "list",data:=.seq vs.toArray}) (hi:IntsAre vs ns) (hl:ns.length<=sizeLine) (hr:dN k callerA)
  (F:∀base:Heap,K.In base->base.Ns mainGlobals mg->BK mg base c T->e8 P w K mg base CX k fa fd [x] sp) (hbind:∀(s:Shared) (u:Value),BindsTo s fd ⟨[u],[]⟩ [(x,u)])
  (hsp:∀H:Hp,H T=some (.tbl #[])->iY K H a (ns.map V.int)->sp [.ref a] H (λv _=>v=.bl true) λ_ _ _=>False)
  (hCX:∀H e s',CX [] H s₁ (λ_ _ _=>False) e s'->False) :
  codeAny (model P w) callerA (.call (.ref fa) ⟨[.ref a],[]⟩) (λr s'=>r=.ok (.ret (.bool true))/\OldK s₁.heap s'.heap/\s'.os=s₁.os/\AllBare s'.gens) s₁:=by
 have rv:=tW hi
 have lenV:=hi.length
 have aT:a≠T:=λz=>by rw[z,hT] at ha;cases ha
 have tabs:s₁.heap.TableAt c T #[]:=(PySem.W.codeHd_of_K KX hcd).tab hT
 have core:∀H:Hp,(∀b,b≠T->H b=none\/∃o xs,H b=some (.aY o (.lst xs)))->H T=some (.tbl #[])->iY K H a (ns.map V.int)->lq P w H s₁.heap->(∀b,H b≠none->b=a\/b=T)->(H a≠none->K.lookup a=none)->
   codeAny (model P w) callerA (.call (.ref fa) ⟨[.ref a],[]⟩) (λr s'=>r=.ok (.ret (.bool true))/\OldK s₁.heap s'.heap/\s'.os=s₁.os/\AllBare s'.gens) s₁:=by
  intro H hO hHT hS hok hA hK
  have base_of:∀{b:Addr} {o:Obj},s₁.heap.get? b=some o->H b=none->(sF s₁.heap H).get? b=some o:=λe n=>CW e n
  have noO:∀{b:Addr} {o:Obj},s₁.heap.get? b=some o->(∀xs n,o.data≠.seq xs n)->(∀ps,o.data≠.fields ps)->H b=none:=λ{b o} e d1 d2=>by
   cases q:H b with
   |none=>rfl
   |some u=>
    rcases hA b (by rw[q];simp) with e' |e'
    ·subst e'
     rw[ha] at e;cases e
     exact absurd rfl (d1 _ _)
    ·subst e'
     rw[hT] at e;cases e
     exact absurd rfl (d2 _)
  have nsK:∀{b:Addr} {m:@FM},s₁.heap.Ns b m->(sF s₁.heap H).Ns b m:=λ{b m} ⟨o,es,ep,e,d,r⟩=>⟨o,es,ep,base_of e (noO e (λxs n z=>by rw[d] at z;cases z) λps z=>by rw[d] at z;cases z),d,r⟩
  have hKb:K.In (sF s₁.heap H):=λb o e=>base_of (KX b o e) (by
   cases q:H b with
   |none=>rfl
   |some u=>
    rcases hA b (by rw[q];simp) with e' |e'
    ·subst e'
     rw[hK (by rw[q];simp)] at e;cases e
    ·subst e'
     rw[hKT] at e;cases e)
  have hM:Mod K mg (sF s₁.heap H):=⟨hKb,nsK hns,⟨mb,nsK hb,hbb⟩,let ⟨mc,h1,h2⟩:=hlim;⟨mc,nsK h1,h2⟩,let ⟨mm,h1⟩:=hsys;⟨mm,nsK h1⟩⟩
  have neM:mainGlobals≠T:=λz=>by
   obtain⟨o,es,ep,e,d,_⟩:=hns
   rw[z,hT] at e
   cases e
   have d':Data.fields #[]=Data.dict es ep:=d
   cases d'
  have hL:BK mg (sF s₁.heap H) c T:=by
   refine⟨PySem.W.codeHd_of_K hKb hcd,?_,neM⟩
   obtain⟨bm,ob,b1,b2,b3,b4,b5,b6⟩:=hbm
   refine⟨bm,ob,b1,b2,λz=>?_,λz=>?_,base_of b3 (noO b3 (λxs n z=>by rw[b6] at z;cases z) λps z=>by rw[b6] at z;cases z),b4,b5,b6⟩
   ·obtain⟨o,es,ep,e,d,_⟩:=hns
    rw[<-z,b3] at e
    cases e
    rw[b6] at d
    cases d
   ·rw[z,hT] at b3
    cases b3
    cases b4
  have e0:rR P w K mg (sF s₁.heap H) callerA [] s₁ H:=⟨rfl,hM,λb o e=>GY e,Nat.le_of_eq (AJ _ _),trivial,λb hb=>absurd (show b∈([]:List Addr) from hb) @IN,hok,.of_eq hg⟩
  refine QS ((F _ hKb (nsK hns) hL).run callerA [] s₁ H ⟨[.ref a],[]⟩ [.ref a] [.ref a] _ _ hr e0 (hbind s₁ (.ref a)) (.cons rfl .nil) (hsp H hHT hS)) λr s' h=>?_
  cases r with
  |error e=>exact (hCX H e s' h).elim
  |ok fl=>
   cases fl with
   |next=>exact False.elim h
   |brk=>exact False.elim h
   |cont=>exact False.elim h
   |ret u=>
    obtain⟨v,H',os,bare,un,hok',r',q⟩:=h
    have q':v=.bl true:=q
    subst q'
    obtain rfl:u=Value.bool true:=r'
    refine⟨rfl,⟨λb o e=>?_,λb o e=>?_⟩,os,bare⟩
    ·by_cases bT:b=T
     ·subst bT
      rw[hT] at e
      cases e
      obtain⟨more,e2⟩:=un.tbls b _ hHT
      exact .inr (.inl ⟨tabs.isCodeTable,rfl,#[],more,rfl,hok' b _ e2⟩)
     ·refine .inl ?_
      cases q:H b with
      |none=>exact un.keep b o e q (by intro z;exact absurd (show b∈([]:List Addr) from z) @IN) @IN
      |some u=>
       rcases hO b bT with z | ⟨ob,xs,z⟩
       ·rw[q] at z;cases z
       ·have z2:=un.frzs b ob _ z
        obtain⟨e1,_⟩:=hok b _ z
        obtain⟨e2,_⟩:=hok' b _ z2
        rw[e] at e1;cases e1
        exact e2
    ·by_cases bT:b=T
     ·subst bT
      obtain⟨more,e2⟩:=un.tbls b _ hHT
      exact⟨_,hok' b _ e2⟩
     ·cases q:H b with
      |none=>exact⟨o,un.keep b o e q (by intro z;exact absurd (show b∈([]:List Addr) from z) @IN) @IN ⟩
      |some u=>
       rcases hO b bT with z | ⟨ob,xs,z⟩
       ·rw[q] at z;cases z
       ·exact⟨_,(hok' b _ (un.frzs b ob _ z)).1⟩
 cases hk:K.lookup a with
 |some o=>
  have e:=KX a o hk
  rw[ha] at e
  cases e
  refine core (λb=>if b=T then some (.tbl #[]) else none) (λb n=>.inl (OA n)) (Ov rfl) (.inr ⟨_,vs.toArray,_,hk,rfl,rfl,rfl,by rw[OD,lenV];exact hl,by simpa using rv⟩) (λb u z=>?_) (λb z=>?_) λz=>absurd (OA aT) z
  ·by_cases hb:b=T
   ·have z':=(Ov hb).symm.trans z
    cases z'
    subst hb
    exact hT
   ·have z':=(OA hb).symm.trans z
    cases z'
  ·by_cases hb:b=T
   ·exact .inr hb
   ·exact absurd (OA hb) z
 |none=>
  refine core (λb=>if b=T then some (.tbl #[]) else if b=a then some (.aY {cls:=.type "list",data:=.seq vs.toArray} (.lst (ns.map V.int))) else none) (λb n=>?_) (Ov rfl) (.inl (.inr ⟨{cls:=.type "list",data:=.seq vs.toArray},(OA aT).trans (Ov rfl)⟩)) (λb u z=>?_) (λb z=>?_) λ_=>hk
  ·by_cases hb:b=a
   ·exact .inr ⟨_,_,(OA n).trans (Ov hb)⟩
   ·exact .inl ((OA n).trans (OA hb))
  ·by_cases hbT:b=T
   ·have z':=(Ov hbT).symm.trans z
    cases z'
    subst hbT
    exact hT
   ·have z:=(OA hbT).symm.trans z
    by_cases hb:b=a
    ·have z':=(Ov hb).symm.trans z
     cases z'
     subst hb
     exact⟨ha,by rw[OB];exact hl,vs,_,rv,ha⟩
    ·have z':=(OA hb).symm.trans z
     cases z'
  ·by_cases hbT:b=T
   ·exact .inr hbT
   ·by_cases hb:b=a
    ·exact .inl hb
    ·exact absurd ((OA hbT).trans (OA hb)) z
def vv (T:Addr)(K:Frag):Sp:=λvs H Q _=>∃(a:Addr) (ns:List Int),vs= [.ref a]/\H T=some (.tbl #[])/\iY K H a (ns.map V.int)/\∀H',ar H H'->Q (.bl true) H'
def De {l:PySem.W.OpenLaw}{n k:Nat}{q:Program}{loose:@H_}{XP:(@FM)->Heap->Prop}{YP:World->Heap->Prop}{d:DefRec}{K:Params->Frag}{T c:Addr}
  (hn:l.most=some n) (hn2:n<=sizeLine) (hdf:d.params.defaults= []) (hi:PyProof.Rows.importsNone q=true) (hr:dN k callerA)
  (hY:∀(w:World) (h:Heap),YP w h->(K w.params).In h) (hYT:∀(w:World) (h:Heap),YP w h->h.get? T=some (PySem.W.tabObj #[])) (hKT:∀p,(K p).lookup T=none) (hcd:∀p,PySem.W.codeHdIn (K p) c T=true)
  (F:∀(w:World) (mg:@FM) (fa:Addr) (h:Heap),(K w.params).In h->h.Ns mainGlobals mg->mg d.name=some (.ref fa)->
   ∃fd:FuncData,(∀(s:Shared) (u:Value),BindsTo s fd ⟨[u],[]⟩ [("script",u)])/\
    ∀base:Heap,(K w.params).In base->base.Ns mainGlobals mg->BK mg base c T->e8 l.prog w (K w.params) mg base (lg l.prog w) k fa fd ["script"] (vv T (K w.params))) :
  PySem.W.WalkO q loose XP YP l.row.toRowW d [] (λf vs=>PySem.call f vs):=by
 refine Att.wc hn hdf λw s₀ s₁ mg mb fa o pm cd doc a vs ns G Y ho hd hcd' hmg hobj hints hlen hg=>?_
 have KX:=hY w _ Y
 obtain⟨fd,hb,hF⟩:=F w mg fa _ KX G.T.g hmg
 exact Ba KX G.T.g G.T.b G.T.builtins G.T.nolimit (let ⟨mm,h1,_⟩:=(G.T.seer hi).mods;⟨mm,h1⟩) hg G.T.bmain (hYT w _ Y) (hKT _) (hcd _) hobj hints (Pw hlen hn2) hr hF hb (λH hO hS=>⟨a,ns,rfl,hO,hS,λ_ _=>rfl⟩) λH e s' z=>by
  obtain⟨_,_,_,_,_,_,_,_,_,z⟩:=z
  exact z
structure N0 (K:Frag)(mg:@FM)(x:Str)(st:Stmt)(ps:@H_)(c:Addr):Prop where
 ex:∃f fd,fX K mg x st ps f fd/\fd.code=.ref c
def JC {K:Frag}{mg:@FM}{h:Heap}{x:Str}{st:Stmt}{ps:@H_}{f c:Addr}{oc:Value}{od an:@Ix}{sl:Array (Option Value)}{kV doc pm ct:Value}(X:K.In h)(G:h.Ns mainGlobals mg)(b:aS x st ps)(a:PySem.W.nsIn K mainGlobals x=some (some (.ref f)))
  (l:K.lookup f=some ⟨oc,od,.func (PySem.W.fnOf x x (iJ st) (cG st) (ah st) .none kV doc pm an (.ref c) ct),sl⟩) (hc:PySem.W.codeIn K (.ref c) x=true) (k:PySem.W.keepIn K (.ref f)=true):N0 K mg x st ps c:=
 ⟨⟨f,_,⟨O1 X G a,rO l hc k,(rO l hc k).binds b⟩,rfl⟩⟩
def M9 {T:Addr}{H:Hp}(h:H T=some (.tbl #[])):Ah T H:=⟨#[],h,trivial,λc hc=>by simp at hc⟩
end L2
section
set_option Elab.async false
namespace RO
open PySem L2
def rg:aS "_law_classes" jW ["e"]:=λ_ _ _ _ _ _=>xT λ_=>rfl
def xK:aS "_law_only" wy ["e","place"]:=@I_
def yd:aS "is_whole" RQ.kQ ["thing"]:=λ_ _ _ _ _ _=>xT λ_=>rfl
def yJ:aS "is_below" RQ.kB ["thing","bound"]:=@I_
def A3:aS "is_many" RQ.mM ["thing"]:=λ_ _ _ _ _ _=>xT λ_=>rfl
def AF:aS "is_pair" RQ.ml ["thing","many"]:=@I_
def vI:aS "every_pair" RQ.fL ["many"]:=λ_ _ _ _ _ _=>xT λ_=>rfl
def CA:aS "closed" ou ["many","pairs"]:=@I_
def yP:aS "has_ring" RQ.kn ["pairs"]:=λ_ _ _ _ _ _=>xT λ_=>rfl
def zo:aS "is_order" RQ.kL ["thing"]:=λ_ _ _ _ _ _=>xT λ_=>rfl
def uL:aS "need_order" RQ.iN ["thing"]:=λ_ _ _ _ _ _=>xT λ_=>rfl
def xp:aS "are_apart" RQ.jt ["order","a","b"]:=λ_ _ _ _ _ _=>Ee λ_ _ _=>rfl
def uA:aS "with_thing" RQ.iM ["placed","thing"]:=@I_
def sW:aS "masks_ahead" RQ.gK ["order"]:=λ_ _ _ _ _ _=>xT λ_=>rfl
def tj:aS "free_things" RQ.gM ["masks","placed"]:=@I_
def wR:aS "row_along" RQ.jz ["masks","late"]:=@I_
def FW:aS "turns" RQ.qi ["order"]:=λ_ _ _ _ _ _=>xT λ_=>rfl
def yt:aS "is_sharp" RQ.j8 ["order","a","b"]:=λ_ _ _ _ _ _=>Ee λ_ _ _=>rfl
def sY:aS "sharp_turns" RQ.gL ["order"]:=λ_ _ _ _ _ _=>xT λ_=>rfl
def AG:aS "is_turn" RQ.mw ["thing","order"]:=@I_
def xt:aS "are_turns" RQ.jq ["thing","order"]:=@I_
def yu:aS "leads_on" RQ.k8 ["order","turn","other"]:=λ_ _ _ _ _ _=>Ee λ_ _ _=>rfl
def yk:aS "is_ahead" RQ.k7 ["masks","a","b"]:=λ_ _ _ _ _ _=>Ee λ_ _ _=>rfl
def wI:aS "is_turned" RQ.jv ["masks","turn"]:=@I_
def xj:aS "is_barred" RQ.jA ["masks","turn"]:=@I_
def x8:aS "put_turn" RQ.kl ["masks","turn"]:=@I_
def wg:aS "ring_with" RQ.jm ["order","put","turn"]:=λ_ _ _ _ _ _=>Ee λ_ _ _=>rfl
def BE:aS "case_of" RQ.mi ["order","left","rows","number","turn"]:=λ_ _ _ _ _ _=>Oh λ_ _ _ _ _=>rfl
def vY:aS "free_rows" RQ.jk ["rows","turn"]:=@I_
def yw:aS "cases_on" RQ.kc ["order","left","rows"]:=λ_ _ _ _ _ _=>Ee λ_ _ _=>rfl
def Gv:aS "cases" RQ.qm ["order","count"]:=@I_
def tw:aS "fewest_rows" RQ.gH ["order"]:=λ_ _ _ _ _ _=>xT λ_=>rfl
def DB:aS "fewest" RQ.oi ["order"]:=λ_ _ _ _ _ _=>xT λ_=>rfl
def uE:aS "need_count" RQ.iH ["thing"]:=λ_ _ _ _ _ _=>xT λ_=>rfl
def vd:aS "case_paper" RQ.iO ["order","count"]:=@I_
def Js:aS "bars" RQ.uM ["thing","order","puts"]:=λ_ _ _ _ _ _=>Ee λ_ _ _=>rfl
def p0:aS "is_case_paper" RQ.eS ["thing","order","count"]:=λ_ _ _ _ _ _=>Ee λ_ _ _=>rfl
def EF:aS "cross" RQ.qc ["order","turn","other"]:=λ_ _ _ _ _ _=>Ee λ_ _ _=>rfl
def yH:aS "do_cross" RQ.ku ["thing","order"]:=@I_
def pU:aS "crossing_from" RQ.eT ["order","chosen","left"]:=λ_ _ _ _ _ _=>Ee λ_ _ _=>rfl
def vD:aS "most_cross" RQ.iC ["order"]:=λ_ _ _ _ _ _=>xT λ_=>rfl
def yO:aS "_law_box" RQ.kP ["script","k"]:=@I_
def wt:aS "_law_take" RQ.jy ["box","many"]:=@I_
def pO:aS "_law_no_order" RQ.eQ ["box"]:=λ_ _ _ _ _ _=>xT λ_=>rfl
def pQ:aS "_law_shuffled" RQ.eJ ["box","some"]:=@I_
def wu:aS "_law_told" RQ.ji ["many","rows"]:=@I_
def vO:aS "_law_order" RQ.iB ["box","most"]:=@I_
def rX:aS "_law_told_by" RQ.fJ ["way_here","order","count"]:=λ_ _ _ _ _ _=>Ee λ_ _ _=>rfl
def HI:Prop:=∀{T c0:Addr} {l:PySem.W.OpenLaw} {w:World} {K:Frag} {h:Heap} {mg:@FM} {fa f49 R q0 q1 q2 q3 q4 q5 q6 q7 q8 q9 q10 q11 q12 q13 q14 q15:Addr} (X:K.In h) (G:h.Ns mainGlobals mg) (hfa:mg "law"=some (.ref fa))
  {od49 an49:@Ix} {sl49:Array (Option Value)} {oc49 kV49 dc49 pm49 cd49 ct49:Value} {tMOST_ROWS:Tok} {tMOST_THINGS:Tok}
  (F1:Fo K mg "_law_classes" jW ["e"])
  (F2:Fo K mg "_law_only" wy ["e","place"])
  (F3:Fo K mg "is_whole" RQ.kQ ["thing"])
  (F4:Fo K mg "is_below" RQ.kB ["thing","bound"])
  (F5:Fo K mg "is_many" RQ.mM ["thing"])
  (F6:Fo K mg "is_pair" RQ.ml ["thing","many"])
  (F7:Fo K mg "every_pair" RQ.fL ["many"])
  (F8:Fo K mg "closed" ou ["many","pairs"])
  (F9:Fo K mg "has_ring" RQ.kn ["pairs"])
  (F10:Fo K mg "is_order" RQ.kL ["thing"])
  (F11:Fo K mg "need_order" RQ.iN ["thing"])
  (F12:Fo K mg "are_apart" RQ.jt ["order","a","b"])
  (F13:Fo K mg "with_thing" RQ.iM ["placed","thing"])
  (F14:Fo K mg "masks_ahead" RQ.gK ["order"])
  (F15:Fo K mg "free_things" RQ.gM ["masks","placed"])
  (F16:Fo K mg "row_along" RQ.jz ["masks","late"])
  (F17:Fo K mg "turns" RQ.qi ["order"])
  (F18:Fo K mg "is_sharp" RQ.j8 ["order","a","b"])
  (F19:Fo K mg "sharp_turns" RQ.gL ["order"])
  (F20:Fo K mg "is_turn" RQ.mw ["thing","order"])
  (F21:Fo K mg "are_turns" RQ.jq ["thing","order"])
  (F22:Fo K mg "leads_on" RQ.k8 ["order","turn","other"])
  (F23:Fo K mg "is_ahead" RQ.k7 ["masks","a","b"])
  (F24:Fo K mg "is_turned" RQ.jv ["masks","turn"])
  (F25:Fo K mg "is_barred" RQ.jA ["masks","turn"])
  (F26:Fo K mg "put_turn" RQ.kl ["masks","turn"])
  (F27:Fo K mg "ring_with" RQ.jm ["order","put","turn"])
  (F28:Fo K mg "case_of" RQ.mi ["order","left","rows","number","turn"])
  (F29:Fo K mg "free_rows" RQ.jk ["rows","turn"])
  (F30:N0 K mg "cases_on" RQ.kc ["order","left","rows"] c0)
  (F31:Fo K mg "cases" RQ.qm ["order","count"])
  (F32:Fo K mg "fewest_rows" RQ.gH ["order"])
  (F33:Fo K mg "fewest" RQ.oi ["order"])
  (F34:Fo K mg "need_count" RQ.iH ["thing"])
  (F35:Fo K mg "case_paper" RQ.iO ["order","count"])
  (F36:Fo K mg "bars" RQ.uM ["thing","order","puts"])
  (F37:Fo K mg "is_case_paper" RQ.eS ["thing","order","count"])
  (F38:Fo K mg "cross" RQ.qc ["order","turn","other"])
  (F39:Fo K mg "do_cross" RQ.ku ["thing","order"])
  (F40:Fo K mg "crossing_from" RQ.eT ["order","chosen","left"])
  (F41:Fo K mg "most_cross" RQ.iC ["order"])
  (F42:Fo K mg "_law_box" RQ.kP ["script","k"])
  (F43:Fo K mg "_law_take" RQ.jy ["box","many"])
  (F44:Fo K mg "_law_no_order" RQ.eQ ["box"])
  (F45:Fo K mg "_law_shuffled" RQ.eJ ["box","some"])
  (F46:Fo K mg "_law_told" RQ.ji ["many","rows"])
  (F47:Fo K mg "_law_order" RQ.iB ["box","most"])
  (F48:Fo K mg "_law_told_by" RQ.fJ ["way_here","order","count"])
  (a49:PySem.W.nsIn K mainGlobals "law"=some (some (.ref f49))) (l49:K.lookup f49=some ⟨oc49,od49,.func (PySem.W.fnOf "law" "law" (iJ RQ.mU) (cG RQ.mU) (ah RQ.mU) .none kV49 dc49 pm49 an49 cd49 ct49),sl49⟩) (c49:PySem.W.codeIn K cd49 "law"=true) (k49:PySem.W.keepIn K (.ref f49)=true)
  (zB:NK K=true)
  (yMOST_ROWS:PySem.W.nsIn K mainGlobals "MOST_ROWS"=some (some (.int 8 tMOST_ROWS)))
  (yMOST_THINGS:PySem.W.nsIn K mainGlobals "MOST_THINGS"=some (some (.int 8 tMOST_THINGS)))
  (mR:PySem.W.nsIn K mainGlobals "RankError"=some (some (.ref R)))
  (n0:PySem.W.nsIn K mainGlobals "NoOrder"=some (some (.ref q0)))
  (n1:PySem.W.nsIn K mainGlobals "NoMany"=some (some (.ref q1)))
  (n2:PySem.W.nsIn K mainGlobals "NoPairs"=some (some (.ref q2)))
  (n3:PySem.W.nsIn K mainGlobals "Ring"=some (some (.ref q3)))
  (n4:PySem.W.nsIn K mainGlobals "NoThing"=some (some (.ref q4)))
  (n5:PySem.W.nsIn K mainGlobals "NoRow"=some (some (.ref q5)))
  (n6:PySem.W.nsIn K mainGlobals "NoRows"=some (some (.ref q6)))
  (n7:PySem.W.nsIn K mainGlobals "NoNumber"=some (some (.ref q7)))
  (n8:PySem.W.nsIn K mainGlobals "NoChain"=some (some (.ref q8)))
  (n9:PySem.W.nsIn K mainGlobals "NoTurns"=some (some (.ref q9)))
  (n10:PySem.W.nsIn K mainGlobals "NoPoints"=some (some (.ref q10)))
  (n11:PySem.W.nsIn K mainGlobals "NoKind"=some (some (.ref q11)))
  (n12:PySem.W.nsIn K mainGlobals "TooMany"=some (some (.ref q12)))
  (n13:PySem.W.nsIn K mainGlobals "Bare"=some (some (.ref q13)))
  (n14:PySem.W.nsIn K mainGlobals "NoLine"=some (some (.ref q14)))
  (n15:PySem.W.nsIn K mainGlobals "NoText"=some (some (.ref q15)))
  (zV:PySem.W.nsIn K mainGlobals "ValueError"=some none)
  (eR:PySem.W.excIn K R [.type "ValueError",.type "Exception",.type "BaseException",.type "object"] "ValueError.__new__"=true)
  (e0:PySem.W.excIn K q7 [.type "ValueError",.type "Exception",.type "BaseException",.type "object"] "ValueError.__new__"=true)
  (e1:PySem.W.excIn K q0 [.type "ValueError",.type "Exception",.type "BaseException",.type "object"] "ValueError.__new__"=true)
  (up0:(L2.mroIn K q0).contains (.ref R)=true)
  (g1_0:(PySem.W.clsIn K q0).isSome=true)
  (g2_0:PySem.W.findIn K (.ref q0) "__getattribute__"=some (some (.builtin "BaseException.__getattribute__")))
  (g3_0:PySem.W.findIn K (.ref q0) "__getattr__"=some none)
  (g4_0:PySem.W.findIn K (.ref q0) "__class__"=some (some (.builtin "object.__class__")))
  (g7_0:PySem.W.mroIn K q0 (.type "object")=some true)
  (g8_0:PySem.W.mroIn K q0 (.type "BaseException")=some true)
  (kR0:PySem.W.kitOne K (.ref q0) (.ref R)=some true)
  (kV0:PySem.W.kitOne K (.ref q0) (.type "ValueError")=some true)
  (kt0_0:PySem.W.kitOne K (.ref q0) (.ref q0)=some true)
  (kt0_1:PySem.W.kitOne K (.ref q0) (.ref q1)=some false)
  (kt0_2:PySem.W.kitOne K (.ref q0) (.ref q2)=some false)
  (kt0_3:PySem.W.kitOne K (.ref q0) (.ref q3)=some false)
  (kt0_4:PySem.W.kitOne K (.ref q0) (.ref q4)=some false)
  (kt0_5:PySem.W.kitOne K (.ref q0) (.ref q5)=some false)
  (kt0_6:PySem.W.kitOne K (.ref q0) (.ref q6)=some false)
  (kt0_7:PySem.W.kitOne K (.ref q0) (.ref q7)=some false)
  (kt0_8:PySem.W.kitOne K (.ref q0) (.ref q8)=some false)
  (kt0_9:PySem.W.kitOne K (.ref q0) (.ref q9)=some false)
  (kt0_10:PySem.W.kitOne K (.ref q0) (.ref q10)=some false)
  (kt0_11:PySem.W.kitOne K (.ref q0) (.ref q11)=some false)
  (kt0_12:PySem.W.kitOne K (.ref q0) (.ref q12)=some false)
  (kt0_13:PySem.W.kitOne K (.ref q0) (.ref q13)=some false)
  (kt0_14:PySem.W.kitOne K (.ref q0) (.ref q14)=some false)
  (kt0_15:PySem.W.kitOne K (.ref q0) (.ref q15)=some false)
  (up7:(L2.mroIn K q7).contains (.ref R)=true)
  (g1_7:(PySem.W.clsIn K q7).isSome=true)
  (g2_7:PySem.W.findIn K (.ref q7) "__getattribute__"=some (some (.builtin "BaseException.__getattribute__")))
  (g3_7:PySem.W.findIn K (.ref q7) "__getattr__"=some none)
  (g4_7:PySem.W.findIn K (.ref q7) "__class__"=some (some (.builtin "object.__class__")))
  (g7_7:PySem.W.mroIn K q7 (.type "object")=some true)
  (g8_7:PySem.W.mroIn K q7 (.type "BaseException")=some true)
  (kR7:PySem.W.kitOne K (.ref q7) (.ref R)=some true)
  (kV7:PySem.W.kitOne K (.ref q7) (.type "ValueError")=some true)
  (kt7_0:PySem.W.kitOne K (.ref q7) (.ref q0)=some false)
  (kt7_1:PySem.W.kitOne K (.ref q7) (.ref q1)=some false)
  (kt7_2:PySem.W.kitOne K (.ref q7) (.ref q2)=some false)
  (kt7_3:PySem.W.kitOne K (.ref q7) (.ref q3)=some false)
  (kt7_4:PySem.W.kitOne K (.ref q7) (.ref q4)=some false)
  (kt7_5:PySem.W.kitOne K (.ref q7) (.ref q5)=some false)
  (kt7_6:PySem.W.kitOne K (.ref q7) (.ref q6)=some false)
  (kt7_7:PySem.W.kitOne K (.ref q7) (.ref q7)=some true)
  (kt7_8:PySem.W.kitOne K (.ref q7) (.ref q8)=some false)
  (kt7_9:PySem.W.kitOne K (.ref q7) (.ref q9)=some false)
  (kt7_10:PySem.W.kitOne K (.ref q7) (.ref q10)=some false)
  (kt7_11:PySem.W.kitOne K (.ref q7) (.ref q11)=some false)
  (kt7_12:PySem.W.kitOne K (.ref q7) (.ref q12)=some false)
  (kt7_13:PySem.W.kitOne K (.ref q7) (.ref q13)=some false)
  (kt7_14:PySem.W.kitOne K (.ref q7) (.ref q14)=some false)
  (kt7_15:PySem.W.kitOne K (.ref q7) (.ref q15)=some false)
  (g5:PySem.W.specialIn K (.builtin "object.__class__") "__get__"=some (some (.builtin "getset_descriptor.__get__")))
  (g6:PySem.W.takesIn K (.builtin "object.__class__")=some true),∃fd:FuncData,(∀(s:Shared) (v:Value),BindsTo s fd ⟨[v],[]⟩ [("script",v)])/\∀base:Heap,K.In base->base.Ns mainGlobals mg->BK mg base c0 T->e8 l.prog w K mg base (lg l.prog w) 92 fa fd ["script"] (vv T K)
def walk {l:PySem.W.OpenLaw}{q:Program}{loose:@H_}{XP:(@FM)->Heap->Prop}{YP:World->Heap->Prop}{d:DefRec}{K:Params->Frag}(hn:l.most=some 63)(hdf:d.params.defaults= [])(hi:PyProof.Rows.importsNone q=true)
  {T c:Addr} (hY:∀(w:World) (h:Heap),YP w h->(K w.params).In h) (hYT:∀(w:World) (h:Heap),YP w h->h.get? T=some (PySem.W.tabObj #[])) (hKT:∀p,(K p).lookup T=none) (hcd:∀p,PySem.W.codeHdIn (K p) c T=true)
  (F:∀(w:World) (mg:@FM) (fa:Addr) (h:Heap),(K w.params).In h->h.Ns mainGlobals mg->mg d.name=some (.ref fa)->
   ∃fd:FuncData,(∀(s:Shared) (u:Value),BindsTo s fd ⟨[u],[]⟩ [("script",u)])/\∀base:Heap,(K w.params).In base->base.Ns mainGlobals mg->BK mg base c T->e8 l.prog w (K w.params) mg base (lg l.prog w) 92 fa fd ["script"] (vv T (K w.params))) :
  PySem.W.WalkO q loose XP YP l.row.toRowW d [] (λf vs=>PySem.call f vs):=
 L2.De (n:=63) (k:=92) hn @Go hdf hi ⟨rfl,by decide,by decide,rfl⟩ hY hYT hKT hcd F
end RO
namespace HD
noncomputable def vw:PySem.Program:=PySem.W.view PySem.Challenge.pw_rowsorder_k46_fewest_refused [1,2,3,4,5,6,8,9,10,11,12,13,14,15,16,17,18,19,20,21,22,23,24,26,27,28,29,30,32,33,34,35,37,38,39,40,41,42,43,44,45,46,47,48,50,51,52,53,54,55,56,57,58,59,60,61,62,63,64,65,66,68,69,70,71,72,73,74,75,76,77]
def Fg:PySem.Challenge.rw_rowsorder_k46_fewest_refused.wellSaid=true:=by kernel_rfl
end HD
section
set_option hygiene false in
local macro_rules | `(tactic|o_head $H)=>`(tactic|exact h)
set_option maxHeartbeats 0 in
theorem HD.d (h:PySem.Challenge.rw_rowsorder_k46_fewest_refused.row.Holds):PySem.Challenge.rw_rowsorder_k46_fewest_refused.Holds:=by
 w_on;(refine PySem.W.holds_law HD.Fg λFg=>?_);k_head
end
abbrev HD.aa:@G_:=[2,3,15,17,18,20,21,22,24,25,27,28,29,31,32,34,35,36,38,39,41,42,43,46,47,48,55,56,57,58,61,68,69,70,73,80,81,82,85,92,93,94,97,104,105,106,109,116,117,118,121,128,129,130,133,140,141,142,145,152,153,154,157,164,165,166,169,176,177,178,181,188,189,190,193,200,201,202,205,212,213,214,217,224,225,226,229,236,237,238,241,248,250,251,253,254,255,256,257,260,263,264,265,268,269,270,273,274,275,277,278,280,281,282,284,285,287,288,289,291,292,294,295,296,298,299,301,302,303,305,306,308,309,310,313,314,315,318,319,320,323,324,325,328,329,330,332,333,335,336,337,340,341,342,344,345,347,348,349,352,353,354,356,357,359,360,361,363,364,366,367,368,370,371,373,374,375,378,379,380,383,384,385,387,388,390,391,392,394,395,397,398,399,401,402,404,405,406,408,409,411,412,413,415,416,418,419,420,423,424,425,428,429,430,432,433,435,436,437,439,440,442,443,444,446,447,449,450,451,454,455,456,458,459,461,462,463,466,467,468,471,472,473,475,476,478,479,480,483,484,485,487,488,490,491,492,494,495,497,498,499,501,502,504,505,506,508,509,511,512,513,516,517,518,521,522,523,525,526,528,529,530,533,534,535,538,539,540,542,543,545,546]
def HD.ke:∀P,HD.aa=(HD.d.heap_1 P).map (·.1):=λ_=>by kernel_rfl
def HD.l1:∀w os,(HD.DV PySem.Challenge.rw_rowsorder_k46_fewest_refused.row.prog 10540 w os).map (λs=>(HD.zJ PySem.Challenge.rw_rowsorder_k46_fewest_refused.row.prog w s.abs,(PySem.W.openSeen HD.vw [] (PySem.importedModules PySem.Challenge.rw_rowsorder_k46_fewest_refused.row.prog.main.body) (λs=>PySem.W.xlAt HD.vw [] s && PySem.W.recOk PySem.Challenge.rw_rowsorder_k46_fewest_refused.row.records s) true s.abs).1,(PySem.W.kmHook HD.d.heap_1 HD.aa HD.ke [421]).obs s.abs))=some (true,(PySem.W.openGood HD.vw []).1,(PySem.W.kmHook HD.d.heap_1 HD.aa HD.ke [421]).val w):=λw os=>by kernel_rfl
def HD.l2:∀w os,(HD.DV PySem.Challenge.rw_rowsorder_k46_fewest_refused.row.prog 10540 w os).map (λs=>(PySem.W.openSeen HD.vw [] (PySem.importedModules PySem.Challenge.rw_rowsorder_k46_fewest_refused.row.prog.main.body) (λs=>PySem.W.xlAt HD.vw [] s && PySem.W.recOk PySem.Challenge.rw_rowsorder_k46_fewest_refused.row.records s) true s.abs).2)=some (PySem.W.openGood HD.vw []).2:=λw os=>by kernel_rfl
def HD.left:PySem.W.LeftO PySem.Challenge.rw_rowsorder_k46_fewest_refused.row.prog HD.vw [] (λs=>PySem.W.xlAt HD.vw [] s && PySem.W.recOk PySem.Challenge.rw_rowsorder_k46_fewest_refused.row.records s) (PySem.W.kmHook HD.d.heap_1 HD.aa HD.ke [421]).obs (PySem.W.kmHook HD.d.heap_1 HD.aa HD.ke [421]).val 10540:=
 HD.Gu (by kernel_rfl) (by kernel_rfl) (λs=>by kernel_rfl) HD.l1 HD.l2
open PySem PySem.W PyProof.Rows L2
set_option maxRecDepth 100000 in
set_option maxHeartbeats 0 in
theorem RO.head (hA:RO.HI):PySem.Challenge.rw_rowsorder_k46_fewest_refused.Holds:=by
 w_on;(refine PySem.W.holds_law HD.Fg λFg=>?_)
 refine PySem.W.holds_open (q:=HD.vw) (loose:=[]) (Xt:=λs=>PySem.W.xlAt HD.vw [] s && PySem.W.recOk (PySem.W.RowW.records _) s) (XP:=PySem.W.XL HD.vw []) (Yf:=PySem.W.Hook.obs (kmHook HD.d.heap_1 HD.aa HD.ke [421])) (Ya:=PySem.W.Hook.val (kmHook HD.d.heap_1 HD.aa HD.ke [421])) (YP:=PySem.W.Hook.says (kmHook HD.d.heap_1 HD.aa HD.ke [421])) (N:=10540) HD.left (PySem.W.Hook.of (kmHook HD.d.heap_1 HD.aa HD.ke [421])) (PySem.W.Hook.keeps (kmHook HD.d.heap_1 HD.aa HD.ke [421])) (λs e=>PySem.W.xl_of s (Bool.and_eq_true_iff.mp e).1) PySem.W.XL.keeps (by rfl) (by rfl) (by rfl) (λs e=>PySem.W.recFacts_of (Bool.and_eq_true_iff.mp e).2) (by rfl) (by first |assumption |decide +kernel) (@Ev) ⟨rfl,rfl,rfl,rfl,rfl,@Ev ⟩ ?hw ?hc
 (case hw=>w_witness2)
 k_fill
 refine RO.walk (l:=PySem.Challenge.rw_rowsorder_k46_fewest_refused) (c:=423) (T:=421) rfl rfl ?hi (λw h Y=>PySem.W.km_in_of Y) (λw h Y=>PySem.W.km_tabs_of Y _ (OH ..)) ?hKT ?hcd ?F
 case hi=>kernel_rfl
 case hKT=>exact λp=>by kernel_rfl
 case hcd=>exact λp=>by kernel_rfl
 case F=>
  intro w mg fa h KX G hmg
  refine' hA KX G hmg ?F1 ?F2 ?F3 ?F4 ?F5 ?F6 ?F7 ?F8 ?F9 ?F10 ?F11 ?F12 ?F13 ?F14 ?F15 ?F16 ?F17 ?F18 ?F19 ?F20 ?F21 ?F22 ?F23 ?F24 ?F25 ?F26 ?F27 ?F28 ?F29 ?F30 ?F31 ?F32 ?F33 ?F34 ?F35 ?F36 ?F37 ?F38 ?F39 ?F40 ?F41 ?F42 ?F43 ?F44 ?F45 ?F46 ?F47 ?F48 ?a49 ?l49 ?c49 ?k49 ?zB ?yMOST_ROWS ?yMOST_THINGS ?mR ?n0 ?n1 ?n2 ?n3 ?n4 ?n5 ?n6 ?n7 ?n8 ?n9 ?n10 ?n11 ?n12 ?n13 ?n14 ?n15 ?zV ?eR ?e0 ?e1 ?up0 ?g1_0 ?g2_0 ?g3_0 ?g4_0 ?g7_0 ?g8_0 ?kR0 ?kV0 ?kt0_0 ?kt0_1 ?kt0_2 ?kt0_3 ?kt0_4 ?kt0_5 ?kt0_6 ?kt0_7 ?kt0_8 ?kt0_9 ?kt0_10 ?kt0_11 ?kt0_12 ?kt0_13 ?kt0_14 ?kt0_15 ?up7 ?g1_7 ?g2_7 ?g3_7 ?g4_7 ?g7_7 ?g8_7 ?kR7 ?kV7 ?kt7_0 ?kt7_1 ?kt7_2 ?kt7_3 ?kt7_4 ?kt7_5 ?kt7_6 ?kt7_7 ?kt7_8 ?kt7_9 ?kt7_10 ?kt7_11 ?kt7_12 ?kt7_13 ?kt7_14 ?kt7_15 ?g5 ?g6
  case F1=>refine' bh KX G RO.rg ?a ?l ?c ?k;(case a=>k_is);(case l=>k_is);(case c=>k_is);(case k=>k_is)
  case F2=>refine' bh KX G RO.xK ?a ?l ?c ?k;(case a=>k_is);(case l=>k_is);(case c=>k_is);(case k=>k_is)
  case F3=>refine' bh KX G RO.yd ?a ?l ?c ?k;(case a=>k_is);(case l=>k_is);(case c=>k_is);(case k=>k_is)
  case F4=>refine' bh KX G RO.yJ ?a ?l ?c ?k;(case a=>k_is);(case l=>k_is);(case c=>k_is);(case k=>k_is)
  case F5=>refine' bh KX G RO.A3 ?a ?l ?c ?k;(case a=>k_is);(case l=>k_is);(case c=>k_is);(case k=>k_is)
  case F6=>refine' bh KX G RO.AF ?a ?l ?c ?k;(case a=>k_is);(case l=>k_is);(case c=>k_is);(case k=>k_is)
  case F7=>refine' bh KX G RO.vI ?a ?l ?c ?k;(case a=>k_is);(case l=>k_is);(case c=>k_is);(case k=>k_is)
  case F8=>refine' bh KX G RO.CA ?a ?l ?c ?k;(case a=>k_is);(case l=>k_is);(case c=>k_is);(case k=>k_is)
  case F9=>refine' bh KX G RO.yP ?a ?l ?c ?k;(case a=>k_is);(case l=>k_is);(case c=>k_is);(case k=>k_is)
  case F10=>refine' bh KX G RO.zo ?a ?l ?c ?k;(case a=>k_is);(case l=>k_is);(case c=>k_is);(case k=>k_is)
  case F11=>refine' bh KX G RO.uL ?a ?l ?c ?k;(case a=>k_is);(case l=>k_is);(case c=>k_is);(case k=>k_is)
  case F12=>refine' bh KX G RO.xp ?a ?l ?c ?k;(case a=>k_is);(case l=>k_is);(case c=>k_is);(case k=>k_is)
  case F13=>refine' bh KX G RO.uA ?a ?l ?c ?k;(case a=>k_is);(case l=>k_is);(case c=>k_is);(case k=>k_is)
  case F14=>refine' bh KX G RO.sW ?a ?l ?c ?k;(case a=>k_is);(case l=>k_is);(case c=>k_is);(case k=>k_is)
  case F15=>refine' bh KX G RO.tj ?a ?l ?c ?k;(case a=>k_is);(case l=>k_is);(case c=>k_is);(case k=>k_is)
  case F16=>refine' bh KX G RO.wR ?a ?l ?c ?k;(case a=>k_is);(case l=>k_is);(case c=>k_is);(case k=>k_is)
  case F17=>refine' bh KX G RO.FW ?a ?l ?c ?k;(case a=>k_is);(case l=>k_is);(case c=>k_is);(case k=>k_is)
  case F18=>refine' bh KX G RO.yt ?a ?l ?c ?k;(case a=>k_is);(case l=>k_is);(case c=>k_is);(case k=>k_is)
  case F19=>refine' bh KX G RO.sY ?a ?l ?c ?k;(case a=>k_is);(case l=>k_is);(case c=>k_is);(case k=>k_is)
  case F20=>refine' bh KX G RO.AG ?a ?l ?c ?k;(case a=>k_is);(case l=>k_is);(case c=>k_is);(case k=>k_is)
  case F21=>refine' bh KX G RO.xt ?a ?l ?c ?k;(case a=>k_is);(case l=>k_is);(case c=>k_is);(case k=>k_is)
  case F22=>refine' bh KX G RO.yu ?a ?l ?c ?k;(case a=>k_is);(case l=>k_is);(case c=>k_is);(case k=>k_is)
  case F23=>refine' bh KX G RO.yk ?a ?l ?c ?k;(case a=>k_is);(case l=>k_is);(case c=>k_is);(case k=>k_is)
  case F24=>refine' bh KX G RO.wI ?a ?l ?c ?k;(case a=>k_is);(case l=>k_is);(case c=>k_is);(case k=>k_is)
  case F25=>refine' bh KX G RO.xj ?a ?l ?c ?k;(case a=>k_is);(case l=>k_is);(case c=>k_is);(case k=>k_is)
  case F26=>refine' bh KX G RO.x8 ?a ?l ?c ?k;(case a=>k_is);(case l=>k_is);(case c=>k_is);(case k=>k_is)
  case F27=>refine' bh KX G RO.wg ?a ?l ?c ?k;(case a=>k_is);(case l=>k_is);(case c=>k_is);(case k=>k_is)
  case F28=>refine' bh KX G RO.BE ?a ?l ?c ?k;(case a=>k_is);(case l=>k_is);(case c=>k_is);(case k=>k_is)
  case F29=>refine' bh KX G RO.vY ?a ?l ?c ?k;(case a=>k_is);(case l=>k_is);(case c=>k_is);(case k=>k_is)
  case F30=>refine' JC KX G RO.yw ?a ?l ?c ?k;(case a=>k_is);(case l=>k_is);(case c=>k_is);(case k=>k_is)
  case F31=>refine' bh KX G RO.Gv ?a ?l ?c ?k;(case a=>k_is);(case l=>k_is);(case c=>k_is);(case k=>k_is)
  case F32=>refine' bh KX G RO.tw ?a ?l ?c ?k;(case a=>k_is);(case l=>k_is);(case c=>k_is);(case k=>k_is)
  case F33=>refine' bh KX G RO.DB ?a ?l ?c ?k;(case a=>k_is);(case l=>k_is);(case c=>k_is);(case k=>k_is)
  case F34=>refine' bh KX G RO.uE ?a ?l ?c ?k;(case a=>k_is);(case l=>k_is);(case c=>k_is);(case k=>k_is)
  case F35=>refine' bh KX G RO.vd ?a ?l ?c ?k;(case a=>k_is);(case l=>k_is);(case c=>k_is);(case k=>k_is)
  case F36=>refine' bh KX G RO.Js ?a ?l ?c ?k;(case a=>k_is);(case l=>k_is);(case c=>k_is);(case k=>k_is)
  case F37=>refine' bh KX G RO.p0 ?a ?l ?c ?k;(case a=>k_is);(case l=>k_is);(case c=>k_is);(case k=>k_is)
  case F38=>refine' bh KX G RO.EF ?a ?l ?c ?k;(case a=>k_is);(case l=>k_is);(case c=>k_is);(case k=>k_is)
  case F39=>refine' bh KX G RO.yH ?a ?l ?c ?k;(case a=>k_is);(case l=>k_is);(case c=>k_is);(case k=>k_is)
  case F40=>refine' bh KX G RO.pU ?a ?l ?c ?k;(case a=>k_is);(case l=>k_is);(case c=>k_is);(case k=>k_is)
  case F41=>refine' bh KX G RO.vD ?a ?l ?c ?k;(case a=>k_is);(case l=>k_is);(case c=>k_is);(case k=>k_is)
  case F42=>refine' bh KX G RO.yO ?a ?l ?c ?k;(case a=>k_is);(case l=>k_is);(case c=>k_is);(case k=>k_is)
  case F43=>refine' bh KX G RO.wt ?a ?l ?c ?k;(case a=>k_is);(case l=>k_is);(case c=>k_is);(case k=>k_is)
  case F44=>refine' bh KX G RO.pO ?a ?l ?c ?k;(case a=>k_is);(case l=>k_is);(case c=>k_is);(case k=>k_is)
  case F45=>refine' bh KX G RO.pQ ?a ?l ?c ?k;(case a=>k_is);(case l=>k_is);(case c=>k_is);(case k=>k_is)
  case F46=>refine' bh KX G RO.wu ?a ?l ?c ?k;(case a=>k_is);(case l=>k_is);(case c=>k_is);(case k=>k_is)
  case F47=>refine' bh KX G RO.vO ?a ?l ?c ?k;(case a=>k_is);(case l=>k_is);(case c=>k_is);(case k=>k_is)
  case F48=>refine' bh KX G RO.rX ?a ?l ?c ?k;(case a=>k_is);(case l=>k_is);(case c=>k_is);(case k=>k_is)
  case a49=>k_is
  case l49=>k_is
  case c49=>k_is
  case k49=>k_is
  case zB=>kernel_rfl
  case yMOST_ROWS=>k_is
  case yMOST_THINGS=>k_is
  case mR=>k_is
  case n0=>k_is
  case n1=>k_is
  case n2=>k_is
  case n3=>k_is
  case n4=>k_is
  case n5=>k_is
  case n6=>k_is
  case n7=>k_is
  case n8=>k_is
  case n9=>k_is
  case n10=>k_is
  case n11=>k_is
  case n12=>k_is
  case n13=>k_is
  case n14=>k_is
  case n15=>k_is
  case zV=>k_is
  case eR=>kernel_rfl
  case e0=>kernel_rfl
  case e1=>kernel_rfl
  case up0=>kernel_rfl
  case g1_0=>kernel_rfl
  case g2_0=>kernel_rfl
  case g3_0=>kernel_rfl
  case g4_0=>kernel_rfl
  case g7_0=>kernel_rfl
  case g8_0=>kernel_rfl
  case kR0=>kit_is
  case kV0=>kit_is
  case kt0_0=>kit_is
  case kt0_1=>kit_is
  case kt0_2=>kit_is
  case kt0_3=>kit_is
  case kt0_4=>kit_is
  case kt0_5=>kit_is
  case kt0_6=>kit_is
  case kt0_7=>kit_is
  case kt0_8=>kit_is
  case kt0_9=>kit_is
  case kt0_10=>kit_is
  case kt0_11=>kit_is
  case kt0_12=>kit_is
  case kt0_13=>kit_is
  case kt0_14=>kit_is
  case kt0_15=>kit_is
  case up7=>kernel_rfl
  case g1_7=>kernel_rfl
  case g2_7=>kernel_rfl
  case g3_7=>kernel_rfl
  case g4_7=>kernel_rfl
  case g7_7=>kernel_rfl
  case g8_7=>kernel_rfl
  case kR7=>kit_is
  case kV7=>kit_is
  case kt7_0=>kit_is
  case kt7_1=>kit_is
  case kt7_2=>kit_is
  case kt7_3=>kit_is
  case kt7_4=>kit_is
  case kt7_5=>kit_is
  case kt7_6=>kit_is
  case kt7_7=>kit_is
  case kt7_8=>kit_is
  case kt7_9=>kit_is
  case kt7_10=>kit_is
  case kt7_11=>kit_is
  case kt7_12=>kit_is
  case kt7_13=>kit_is
  case kt7_14=>kit_is
  case kt7_15=>kit_is
  case g5=>kernel_rfl
  case g6=>kernel_rfl
end
namespace L2.ST
open PySem PySem.SetTable
def Og (mask i perturb:Nat):Probe:={j:=i,more:=runEnd mask i - i,i,perturb,dummy:=none}
def st (mask:Nat)(h:Int):Probe:=Og mask (bits h % (mask + 1)) (bits h)
def nx (mask i:Nat):Nat:=(i * 5 + 1) % (mask + 1)
abbrev own (o:Array (Option Nat))(j:Nat):Option Nat:=o.getD j none
end L2.ST
namespace L2
open PySem PySem.Spec PyProof.Rows
section
variable {prog:Program}{w:World}{A:Around}{E:@Db}{s:Shared}{K:Frag}{x D:Addr}{ox:Obj}
structure xD (K:Frag)(D:Addr):Prop where
 cl:(PySem.W.clsIn K D).isSome=true
 ga:PySem.W.findIn K (.ref D) "__getattribute__"=some (some (.builtin "BaseException.__getattribute__"))
 gn:PySem.W.findIn K (.ref D) "__getattr__"=some none
 cls:PySem.W.findIn K (.ref D) "__class__"=some (some (.builtin "object.__class__"))
 get:PySem.W.specialIn K (.builtin "object.__class__") "__get__"=some (some (.builtin "getset_descriptor.__get__"))
 tk:PySem.W.takesIn K (.builtin "object.__class__")=some true
 ob:PySem.W.mroIn K D (.type "object")=some true
 be:PySem.W.mroIn K D (.type "BaseException")=some true
def CI (e:xD K D):PySem.W.findObj K D none "__class__"=some (.bind (.builtin "getset_descriptor.__get__") (.builtin "object.__class__")):=by
 obtain⟨cd,hc⟩:=Qb.mp e.cl
 unfold PySem.W.findObj
 rw[hc,Option.bind_some,e.cls,Option.bind_some]
 simp[e.get,e.tk]
def BL {M:Model}{nameV:Value}{Q:Unit->Shared->Prop}(e:xD K D)(X:K.In s.heap)(I:PySem.W.InstAt s.heap x ox D none)(hq:Q () s):wpAny M A (checkBuiltinCall "BaseException.__getattribute__" ⟨[.ref x,nameV],[]⟩) Q E s:=by
 have hk:builtinKind "BaseException.__getattribute__"=some .slot:=@Ev
 have hsp:splitId "BaseException.__getattribute__"=some ("BaseException","__getattribute__"):=@Ev
 have ha:=F.args_bexc_ga (.ref x) nameV
 have L0:=I.type (M:=M)
 have L1:=PySem.W.looks_mroIn (M:=M) X e.be
 simp only[checkBuiltinCall,hk,hsp]
 obtain⟨hh,g,d,t,os⟩:=s
 refine Ou ?_
 unfold isInstance
 repeat (first
  |with_reducible refine L0.at ?_
  |with_reducible refine L1.at ?_
  |wp_step)
 exact hq
def FO {tk:Tok}{Q:Fin->Shared->Prop}(e:xD K D)(X:K.In s.heap)(I:PySem.W.InstAt s.heap x ox D none)(hq:Q (.done (.ret (.ref D))) s):wpAny (model prog w) A (Builtin.«object.__getattribute__» ⟨[.ref x,.str "__class__" tk],[]⟩) Q E s:=by
 have L0:=I.type (M:=model prog w)
 have L1:=PySem.W.looks_find (M:=model prog w) X I (CI e)
 obtain⟨hh,g,d,t,os⟩:=s
 repeat (any_goals (first
  |assumption
  |with_reducible refine L0.at ?_
  |with_reducible refine L1.at ?_
  |wp_step))
 exact PySem.W.class_get X I e.ob (OZ hq)
def HL {tk:Tok}{Q:@Db}(FB:ExcAttrFacts "ValueError")(e:xD K D)(X:K.In s.heap)(I:PySem.W.InstAt s.heap x ox D none)(hq:Q (.ref D) s):wpAny (model prog w) A (getAttrBy (.ref x) (.str "__class__" tk) false) Q E s:=by
 have f3:=FB.ga.bind (.ref x)
 have hx2:(Value.builtin "BaseException.__getattribute__" == Value.builtin "object.__getattribute__")=false:=@Ev
 have hx1:(onTheHeap (Value.ref D) && Value.builtin "BaseException.__getattribute__" == Value.builtin "object.__getattribute__")=false:=by rw[hx2];rfl
 have L0:=I.type (M:=model prog w)
 have L1:=PySem.W.looks_findIn (M:=model prog w) X e.ga
 have L2:=PySem.W.looks_findIn (M:=model prog w) X e.gn
 obtain⟨hh,g,d,t,os⟩:=s
 repeat (any_goals (first
  |assumption
  |with_reducible refine L0.at ?_
  |with_reducible refine L1.at ?_
  |with_reducible refine L2.at ?_
  |wp_step))
 exact codeAny_call_builtin FB.ga.plain F.entry_bexc_ga (BL e X I (FO e X I (PySem.W.handed_on rfl hq)))
def CJ {Q:Option Value->Shared->Prop}(FB:ExcAttrFacts "ValueError")(e:xD K D)(X:K.In s.heap)(I:PySem.W.InstAt s.heap x ox D none)(hq:Q (some (.ref D)) {s with toks:=s.toks + 1}):wpAny (model prog w) A (getAttr? (.ref x) "__class__") Q E s:=by
 unfold getAttr? getAttrBy?
 exact Ou (wpAny_mkText (Ou (wpAny_attempt (HL FB e X I (OZ hq)))))
def fH.inst {h:Heap}(i:fH x (.ref D) h):∃ox,PySem.W.InstAt h x ox D none:=by
 obtain⟨o,vs,a,b,c,d,_⟩:=i
 exact⟨o,a,b,by unfold PySem.W.notCls;rw[d],by rw[c];trivial⟩
def B0 (e:xD K D):PySem.W.KitX K (.ref x) (.ref D) (fH x (.ref D)) where
 ty:=λ_ _ _ i=>let ⟨_,I⟩:=i.inst;I.type
 it:=λ_ _ X _=>by
  obtain⟨cdD,hcD⟩:=Qb.mp e.cl
  unfold PySem.W.clsIn at hcD
  split at hcD
  ·rename_i c' d' cd' sl' ho
   intro A' Q' E' s' k q
   unfold isType loadHead
   exact Ou (wpAny_loadPart (k _ _ (X _ _ ho)) (OZ q))
  ·cases hcD
 ne:=λh tp dd its n sl X htp=>by
  obtain⟨cdD,hcD⟩:=Qb.mp e.cl
  refine Bool.eq_false_iff.mpr λq=>?_
  have e:D=tp:=Value.ref.inj (beq_iff_eq.mp q)
  subst e
  unfold PySem.W.clsIn at hcD
  split at hcD
  ·rename_i c' d' cd' sl' ho
   have z:=(X _ _ ho).symm.trans htp
   cases z
  ·cases hcD
 ca:=λX i k=>let ⟨_,I⟩:=i.inst;CJ F.excAttr_ValueError e X I k
end
end L2
namespace L2
open PySem PySem.SeqAt PySem.Spec PyProof.Rows
section
variable {X:Cx}
def Ki (K:Frag):List V->Hp->VK->Prop:=λxs H Q=>∃(x D:Addr) (c:V) (C:Value) (b:Bool),xs= [.ref x,c]/\(∀u,RelV c u->u=C)/\H x=some (.ext (fH x (.ref D)))/\xD K D/\PySem.W.kitOne K (.ref D) C=some b/\Q (.bl b) H
def bG:fA X (.builtin "isinstance") (Ki X.K):=by
 intro pins s σ H xs us Q I r h
 obtain⟨x,D,c,C,b,rfl,hc,hx,e,k,q⟩:=h
 obtain⟨u,v,rfl,rx,rc⟩:=vals2 r
 cases rx
 rw[hc v rc]
 obtain⟨p,_,_⟩:=(show cw X.prog X.w H s.heap x (.ext (fH x (.ref D))) from I.hok x _ hx)
 exact Pk (B0 e) I.kIn p k (λz=>nomatch z) λtk=>⟨.bl b,H,I.tok tk,rfl,q⟩
end
end L2
namespace L2
open PySem PySem.Spec PyProof.Rows
section
variable {X:Cx}
def my (hu:X.A.units + 100 < cLine):kW X (compareOp .NotIn) (HP X.K true):=by
 intro pins s σ H x y v u Q I rx ry h
 obtain⟨p,xs,d,ds,rfl,hq,hs,hx,s1,s2,q⟩:=h
 cases ry
 obtain⟨bs,r2⟩:=hx.reads I rx
 have key:∀{e:PyData} {as:List Addr} {u:Value},SeqAt.shaped e=true->Reads s.heap u e as->SeqAt.EqAt X.A.in1 s u v (PyData.eqv e d):=λ{e as u} h1 h2=>by
  refine SeqAt.eqAt_reads _ _ _ _ _ _ _ _ h2 r2 (P6 h1) (P6 s1) ?_
  have:=SeqAt.depth_of_shaped h1
  show X.A.units + 1 + _ < _
  omega
 rcases hq with hq |hq
 ·obtain⟨its,r,pl,hz⟩:=I.list hq
  obtain⟨f,e1,e2⟩:=nM I d r hs s2
  refine SeqAt.notIn_listAt f pl.isList (λw hw=>?_) ⟨.bl _,H,I,rfl,?_⟩
  ·obtain⟨e,as,hm,rd,ef⟩:=e2 w (by simpa using hw)
   rw[ef];exact key (s2 e hm) rd
  ·rw[show its.toArray.any f=its.any f by simp,e1];exact q
 ·obtain⟨its,r,pl,hz⟩:=I.tuple hq
  obtain⟨f,e1,e2⟩:=nM I d r hs s2
  refine SeqAt.notIn_tupleAt f pl (λw hw=>?_) ⟨.bl _,H,I,rfl,?_⟩
  ·obtain⟨e,as,hm,rd,ef⟩:=e2 w (by simpa using hw)
   rw[ef];exact key (s2 e hm) rd
  ·rw[show its.toArray.any f=its.any f by simp,e1];exact q
end
section
variable {K:Frag}{X:Cx}
def qL {g:Int->Int->V}{gd:D->D->Option D}(h:∀dx dy d,gd dx dy=some d->∃i j,dx=.int i/\dy=.int j/\∀G,Rp K G (g i j) d):nj K (xR g) gd .v:=by
 intro B G H x y dx dy d Q s hB bx by' e k
 obtain⟨i,j,rfl,rfl,r⟩:=h _ _ _ e
 obtain rfl:=bx.int
 obtain rfl:=by'.int
 exact⟨i,j,rfl,rfl,k _ G H (Ext.refl s) (r G)⟩
def wj {C:Int->Int->Prop}{g:Int->Int->V}{gd:D->D->Option D}(h:∀dx dy d,gd dx dy=some d->∃i j,dx=.int i/\dy=.int j/\C i j/\∀G,Rp K G (g i j) d):nj K (rI C g) gd .v:=by
 intro B G H x y dx dy d Q s hB bx by' e k
 obtain⟨i,j,rfl,rfl,c,r⟩:=h _ _ _ e
 obtain rfl:=bx.int
 obtain rfl:=by'.int
 exact⟨i,j,rfl,rfl,c,k _ G H (Ext.refl s) (r G)⟩
def gI (c:Int->Int->Bool)(g:Int->Int->D):D->D->Option D
 | .int i,.int j=>if c i j=true then some (g i j) else none
 |_,_=>none
def xl (g:Int->Int->D):D->D->Option D
 | .int i,.int j=>some (g i j)
 |_,_=>none
def xO {c:Int->Int->Bool}{g:Int->Int->D}{dx dy d:D}(h:gI c g dx dy=some d):∃i j,dx=.int i/\dy=.int j/\c i j=true/\d=g i j:=by
 unfold gI at h
 split at h
 ·split at h
  ·cases h;exact⟨_,_,rfl,rfl,by assumption,rfl⟩
  ·cases h
 ·cases h
def kO {g:Int->Int->D}{dx dy d:D}(h:xl g dx dy=some d):∃i j,dx=.int i/\dy=.int j/\d=g i j:=by
 unfold xl at h
 split at h
 ·cases h;exact⟨_,_,rfl,rfl,rfl⟩
 ·cases h
def DM:D->D->Option D:=xl λi j=>.int (i - j)
def KR:nj K (xR λi j=>.int (i - j)) DM .v:=qL λdx dy d h=>by obtain⟨i,j,rfl,rfl,rfl⟩:=kO h;exact⟨i,j,rfl,rfl,λ_=>.int _⟩
def Jp:D->D->Option D:=gI (λ_ j=>decide (0 < j) && decide (j < 1073741824)) λi j=>.int (i / j)
def LH:nj K (rI ER λi j=>.int (i / j)) Jp .v:=wj λdx dy d h=>by obtain⟨i,j,rfl,rfl,c,rfl⟩:=xO h;exact⟨i,j,rfl,rfl,by simpa[ER] using c,λ_=>.int _⟩
def lu:D->D->Option D:=gI (λ_ j=>decide (0 < j)) λi j=>.int (i % j)
def ua:nj K (rI (λ_ j=>0 < j) λi j=>.int (i % j)) lu .v:=wj λdx dy d h=>by obtain⟨i,j,rfl,rfl,c,rfl⟩:=xO h;exact⟨i,j,rfl,rfl,by simpa using c,λ_=>.int _⟩
def EW (i j:Int):Bool:=decide (0<=j) && decide (j<=1000000) && decide (i.natAbs < 2 ^ 64)
def ED:D->D->Option D:=gI EW λi j=>.int (i ^ j.toNat)
def zH {i j:Int}(h:EW i j=true):Co i j:=by
 unfold EW at h
 simp only[OW,OP] at h
 exact⟨h.1.1,h.1.2,h.2⟩
def HF:nj K (rI Co λi j=>.int (i ^ j.toNat)) ED .v:=wj λdx dy d h=>by obtain⟨i,j,rfl,rfl,c,rfl⟩:=xO h;exact⟨i,j,rfl,rfl,zH c,λ_=>.int _⟩
def HS:D->D->Option D:=gI EW λi j=>.int (i * 2 ^ j.toNat)
def Kz:nj K (rI Co λi j=>.int (i * 2 ^ j.toNat)) HS .v:=wj λdx dy d h=>by obtain⟨i,j,rfl,rfl,c,rfl⟩:=xO h;exact⟨i,j,rfl,rfl,zH c,λ_=>.int _⟩
def Dg:D->D->Option D:=xl λi j=>.int (Builtin.bitAnd i j)
def Kq:nj K (xR λi j=>.int (Builtin.bitAnd i j)) Dg .v:=qL λdx dy d h=>by obtain⟨i,j,rfl,rfl,rfl⟩:=kO h;exact⟨i,j,rfl,rfl,λ_=>.int _⟩
def L9:D->D->Option D:=xl λi j=>.int (Builtin.bitOr i j)
def Lw:nj K (xR λi j=>.int (Builtin.bitOr i j)) L9 .v:=qL λdx dy d h=>by obtain⟨i,j,rfl,rfl,rfl⟩:=kO h;exact⟨i,j,rfl,rfl,λ_=>.int _⟩
def uk:D->D->Option D:=xl λi j=>.bool (decide (i < j))
def u7:D->D->Option D:=xl λi j=>.bool (decide (i<=j))
def L4:D->D->Option D:=xl λi j=>.bool (decide (j < i))
def CS:nj K (xR λi j=>.bl (decide (i < j))) uk .v:=qL λdx dy d h=>by obtain⟨i,j,rfl,rfl,rfl⟩:=kO h;exact⟨i,j,rfl,rfl,λ_=>.bl _⟩
def D5:nj K (xR λi j=>.bl (decide (i<=j))) u7 .v:=qL λdx dy d h=>by obtain⟨i,j,rfl,rfl,rfl⟩:=kO h;exact⟨i,j,rfl,rfl,λ_=>.bl _⟩
def MZ:nj K (xR λi j=>.bl (decide (j < i))) L4 .v:=qL λdx dy d h=>by obtain⟨i,j,rfl,rfl,rfl⟩:=kO h;exact⟨i,j,rfl,rfl,λ_=>.bl _⟩
mutual
theorem zT:∀d:D,d.canLay0=true->Dr d=true
 | .none,_=>rfl
 | .bool _,_=>rfl
 | .int _,_=>rfl
 | .str _,_=>rfl
 | .list ds,h=>by simp only[PyData.canLay0] at h;simp only[Dr];exact rA ds h
 | .tuple ds,h=>by simp only[PyData.canLay0] at h;simp only[Dr];exact rA ds h
 | .dict _,h=>by simp[PyData.canLay0] at h
theorem rA:∀ds:List D,PyData.canLayAll0 ds=true->sE ds=true
 | [],_=>rfl
 |d :: ds,h=>by
  simp only[PyData.canLayAll0,OW] at h
  simp only[sE,OW]
  exact⟨zT d h.1,rA ds h.2⟩
end
def vC {d:D}(h:SeqAt.shaped d=true):Dr d=true:=zT d (P6 h)
theorem zR:∀{ds:List D},(ds.all SeqAt.shaped)=true->sE ds=true
 | [],_=>rfl
 |d :: ds,h=>by
  rw[List.all_cons,OW] at h
  simp only[sE,OW]
  exact⟨vC h.1,zR h.2⟩
def c9 (neg:Bool)(x y:D):Option D:=if (SeqAt.shaped x && SeqAt.shaped y)=true then some (.bool (if neg then !PyData.eqv x y else PyData.eqv x y)) else none
def dU {neg:Bool}:nj K (JA K neg) (c9 neg) .v:=by
 intro B G H x y dx dy d Q s hB bx by' e k
 unfold c9 at e
 split at e
 ·rename_i h
  rw[OW] at h
  cases e
  exact⟨dx,dy,(bx.rpH s).rep (vC h.1),(by'.rpH s).rep (vC h.2),h.1,h.2,k _ G H (Ext.refl s) (.bl _)⟩
 ·cases e
def nU (neg:Bool)(x y:D):Option D:=match p6 y with
 |some ds=>if (SeqAt.shaped x && ds.all SeqAt.shaped)=true then some (.bool (if neg then !(ds.any λe=>PyData.eqv e x) else ds.any λe=>PyData.eqv e x)) else none
 |none=>none
theorem mS.seq {B:@Ix}{G H:Hp}{v:V}{d:D}{ds:List D}(h:mS K B G H v d)(e:p6 d=some ds)(s:ar G H):∃a xs,v=.ref a/\(iY K H a xs\/hW K H a xs)/\cQ K G xs ds:=by
 cases d with
 |list l=>cases e;obtain⟨a,xs,e,q,r⟩:=h.list s;exact⟨a,xs,e,.inl (.inl q),r⟩
 |tuple l=>cases e;obtain⟨a,xs,e,q,r⟩:=h.tuple s;exact⟨a,xs,e,.inr q,r⟩
 |_=>cases e
theorem xI {neg:Bool}:nj K (HP K neg) (nU neg) .v:=by
 intro B G H x y dx dy d Q s hB bx by' e k
 unfold nU at e
 cases q:p6 dy with
 |none=>rw[q] at e;cases e
 |some ds=>
  rw[q] at e
  dsimp only at e
  split at e
  ·rename_i h
   rw[OW] at h
   cases e
   obtain⟨a,xs,rfl,hq,r⟩:=by'.seq q s
   refine⟨a,xs,dx,ds,rfl,hq,(r.mono s).reps (zR h.2),(bx.rpH s).rep (vC h.1),h.1,λe he=>O9.mp h.2 e he,k _ G H (Ext.refl s) (.bl _)⟩
  ·cases e
def Gs:D->Bool
 | .none=>true
 |_=>false
theorem cQ.ints {G:Hp}:∀ns:List Int,cQ K G (ns.map V.int) (ns.map int)
 | []=>.nil
 |n :: ns=>.cons (.int n) (cQ.ints ns)
theorem BX.noNone {G:Hp}{kvs:List (Key×V)}{d:D}{r:List (D×D)}(h:BX K G kvs ((.none,d) :: r)):False:=by
 generalize e:(PyData.none,d) :: r=l at h
 cases h with
 |nil=>cases e
 | @cons k x xs d' ds _ _=>
  injection e with e1 _
  injection e1 with e2 _
  cases k <;> cases e2
theorem BY.noNone {G:Hp}{kvs:List (List Key×V)}{d:D}{r:List (D×D)}(h:BY K G kvs ((.none,d) :: r)):False:=by
 generalize e:(PyData.none,d) :: r=l at h
 cases h with
 |nil=>cases e
 | @cons k x xs d' ds _ _=>
  injection e with e1 _
  injection e1 with e2 _
  cases e2
def mS.scr {B:@Ix}{G H:Hp}{v:V}{ds:List D}(h:mS K B G H v (.dict [(.none,.list ds)]))(s:ar G H):∃a xs,v=.ref a/\iY K H a xs/\cQ K G xs ds:=by
 rcases h with h | ⟨a,rfl,n,h⟩
 ·cases h with
  | @scr a ns q=>exact⟨a,_,rfl,s.seq q,cQ.ints ns⟩
  |dK _ r=>exact r.noNone.elim
  |dT _ r=>exact r.noNone.elim
 ·rcases h with⟨_,_,r⟩ | ⟨_,_,r⟩
  ·exact r.noNone.elim
  ·exact r.noNone.elim
def b7:D->D->Option D
 | .list ds,.int i=>mT ds i
 | .tuple ds,.int i=>mT ds i
 | .str z,.int i=>if z.length<=sizeLine then (mT z.cps.toList i).map λc=>.str ⟨#[c]⟩ else none
 | .dict [(.none,.list ds)],.int i=>mT ds i
 |_,_=>none
theorem vP {G:Hp}{xs:List V}{ds:List D}{i:Int}{d:D}(r:cQ K G xs ds)(h:mT ds i=some d):∃x,mT xs i=some x/\Rp K G x d:=by
 unfold mT at h ⊢
 rw[r.len]
 cases e:vR ds.length i with
 |none=>rw[e] at h;cases h
 |some j=>rw[e] at h;exact r.at h
theorem bZ:nj K (NV K) b7 .v:=by
 intro B G H x y dx dy d Q s hB bx by' e k
 cases dx with
 |list ds=>
  cases dy with
  |int i=>
   obtain rfl:=by'.int
   obtain⟨a,xs,rfl,q,r⟩:=bx.list s
   obtain⟨v,ev,rv⟩:=vP r e
   exact .inl ⟨a,xs,i,v,rfl,rfl,.inl q,ev,k _ G H (Ext.refl s) rv⟩
  |_=>cases e
 |tuple ds=>
  cases dy with
  |int i=>
   obtain rfl:=by'.int
   obtain⟨a,xs,rfl,q,r⟩:=bx.tuple s
   obtain⟨v,ev,rv⟩:=vP r e
   exact .inr (.inl ⟨a,xs,i,v,rfl,rfl,q,ev,k _ G H (Ext.refl s) rv⟩)
  |_=>cases e
 |str z=>
  cases dy with
  |int i=>
   obtain rfl:=by'.int
   obtain rfl:=bx.str
   simp only[b7] at e
   split at e
   ·rename_i hz
    cases q:mT z.cps.toList i with
    |none=>rw[q] at e;cases e
    |some c=>rw[q] at e;cases e;exact .inr (.inr ⟨z,i,c,rfl,rfl,hz,q,k _ G H (Ext.refl s) (.str _)⟩)
   ·cases e
  |_=>cases e
 |none=>cases dy <;> cases e
 |bool b=>cases dy <;> cases e
 |int b=>cases dy <;> cases e
 |dict b=>
  obtain⟨ds,i,rfl,rfl,e⟩:∃ds i,b= [(.none,.list ds)]/\dy=.int i/\mT ds i=some d:=by
   unfold b7 at e
   split at e
   ·contradiction
   ·contradiction
   ·contradiction
   ·rename_i h;cases h;exact⟨_,_,rfl,rfl,e⟩
   ·cases e
  obtain rfl:=by'.int
  obtain⟨a,xs,rfl,q,r⟩:=bx.scr s
  obtain⟨v,ev,rv⟩:=vP r e
  exact .inl ⟨a,xs,i,v,rfl,rfl,q,ev,k _ G H (Ext.refl s) rv⟩
def c6:D->Option D
 | .list ds=>some (.int ds.length)
 | .tuple ds=>some (.int ds.length)
 | .str z=>if z.length<=sizeLine then some (.int z.length) else none
 | .dict [(.none,.list ds)]=>some (.int ds.length)
 |_=>none
def NJ (K:Frag):List V->Hp->VK->Prop:=λxs H Q=>∃x n,xs= [x]/\Lu K x H n/\Q (.int n) H
def i3:D9 K (λx=>NJ K [x]) c6 .v:=by
 intro B G H x dx d Q s hB bx e k
 unfold c6 at e
 split at e
 ·cases e;obtain⟨a,xs,rfl,q,r⟩:=bx.list s;exact⟨_,_,rfl,.inl ⟨xs,.inl q,r.len.symm⟩,k _ G H (Ext.refl s) (.int _)⟩
 ·cases e;obtain⟨a,xs,rfl,q,r⟩:=bx.tuple s;exact⟨_,_,rfl,.inr ⟨xs,q,r.len.symm⟩,k _ G H (Ext.refl s) (.int _)⟩
 ·obtain rfl:=bx.str
  split at e
  ·rename_i hz;cases e;exact⟨_,_,rfl,⟨hz,rfl⟩,k _ G H (Ext.refl s) (.int _)⟩
  ·cases e
 ·cases e;obtain⟨a,xs,rfl,q,r⟩:=bx.scr s;exact⟨_,_,rfl,.inl ⟨xs,q,r.len.symm⟩,k _ G H (Ext.refl s) (.int _)⟩
 ·cases e
def oX:D->Option D
 | .list ds=>some (.tuple ds)
 | .tuple ds=>some (.tuple ds)
 |_=>none
theorem oA:D9 K (λx H Q=>∃p ys,[x]= [.ref p]/\((iY K H p ys/\∀l,H l=none->Q (.ref l) (upd H l (.tup ys)))\/(hW K H p ys/\Q (.ref p) H))) oX .v:=by
 intro B G H x dx d Q s hB bx e k
 cases dx with
 |list ds=>
  cases e
  obtain⟨a,xs,rfl,q,r⟩:=bx.list s
  refine⟨a,xs,rfl,.inl ⟨.inl q,λl hl=>?_⟩⟩
  have x:=Ext.new s (o:=.tup xs) hl
  exact k _ _ _ x (.tup (.inl (.inl az)) (r.mono x.gg))
 |tuple ds=>
  cases e
  rcases bx with bx | ⟨_,_,_,z⟩
  ·cases bx with
   | @tup a xs _ hq r=>exact⟨a,xs,rfl,.inr ⟨hq.grow s.grow,k _ G H (Ext.refl s) (.tup hq r)⟩⟩
  ·exact z.elim
 |_=>cases e
def Ho:D->Option D
 | .list ds=>some (.list ds)
 | .tuple ds=>some (.list ds)
 |_=>none
def Il:D9 K (λx H Q=>∃p ys,[x]= [.ref p]/\(iY K H p ys\/hW K H p ys)/\∀l,H l=none->Q (.ref l) (upd H l (.lst ys))) Ho .w:=by
 intro B G H x dx d Q s hB bx e k
 obtain⟨ds,e1,rfl⟩:∃ds,p6 dx=some ds/\d=.list ds:=by
  cases dx <;> cases e <;> exact⟨_,rfl,rfl⟩
 obtain⟨a,xs,rfl,hq,r⟩:=bx.seq e1 s
 refine⟨a,xs,rfl,hq,λl hl=>?_⟩
 exact k _ _ _ (Ext.own s (o:=.lst xs) hl) ⟨l,rfl,hl,s.free hl,xs,az,r⟩
def lS:List D->Option (List Bool)
 | []=>some []
 | .bool b :: ds=>(lS ds).map (b :: ·)
 |_=>none
theorem tS {G:Hp}:∀{ds:List D} {bs:List Bool} {xs:List V},lS ds=some bs->cQ K G xs ds->xs=bs.map V.bl
 | [],bs,xs,e,r=>by cases e;cases r;rfl
 | .bool b :: ds,bs,xs,e,r=>by
  cases r with
  |cons r1 r2=>
   cases r1
   simp only[lS] at e
   cases q:lS ds with
   |none=>rw[q] at e;cases e
   |some cs=>rw[q] at e;cases e;rw[tS q r2];rfl
 | .none :: _,_,_,e,_=>by cases e
 | .int _ :: _,_,_,e,_=>by cases e
 | .str _ :: _,_,_,e,_=>by cases e
 | .list _ :: _,_,_,e,_=>by cases e
 | .tuple _ :: _,_,_,e,_=>by cases e
 | .dict _ :: _,_,_,e,_=>by cases e
def b9 (f:List Bool->Bool):D->Option D
 | .list ds=>(lS ds).map λbs=>.bool (f bs)
 |_=>none
theorem kh {f:List Bool->Bool}:D9 K (λx=>yz K f [x]) (b9 f) .v:=by
 intro B G H x dx d Q s hB bx e k
 cases dx with
 |list ds=>
  simp only[b9] at e
  cases q:lS ds with
  |none=>rw[q] at e;cases e
  |some bs=>
   rw[q] at e
   cases e
   obtain⟨a,xs,rfl,hq,r⟩:=bx.list s
   obtain rfl:=tS q r
   exact⟨a,bs,rfl,.inl hq,k _ G H (Ext.refl s) (.bl _)⟩
 |_=>cases e
def Hf:R2:=λx y H Q=>∃l b xs zs,x=.ref l/\y=.ref b/\Rd H l (.lst xs)/\Rd H b (.lst zs)/\xs.length + zs.length<=sizeLine/\∀p,H p=none->Q (.ref p) (upd H p (.lst (xs ++ zs)))
def kM:kW X (binaryOp .Add) Hf:=by
 intro pins s σ H x y v u Q I rx ry h
 obtain⟨l,b,xs,zs,rfl,rfl,hH,hB,hz,q⟩:=h
 cases rx
 cases ry
 obtain⟨z,its,n,r,hl,e⟩:=I.lstR hH
 obtain⟨z2,its2,n2,r2,hl2,e2⟩:=I.lstR hB
 refine PySem.P.add_list e e2 ?_ (by rw[OD,OD];omega)
 have ea:its.toArray ++ its2.toArray=(its ++ its2).toArray:=by simp
 rw[ea]
 exact⟨.ref _,_,I.lnew (t':=s.toks) (r.append r2) (by rw[OT];omega),rfl,q _ I.fresh⟩
def kZ:D->D->Option D
 | .list a,.list b=>if a.length + b.length<=sizeLine then some (.list (a ++ b)) else none
 |_,_=>none
def rb:nj K Hf kZ .w:=by
 intro B G H x y dx dy d Q s hB bx by' e k
 cases dx <;> cases dy <;> first | (cases e;done) |skip
 rename_i a b
 simp only[kZ] at e
 split at e
 ·rename_i hz
  cases e
  obtain⟨p,xs,rfl,q1,r1⟩:=bx.list s
  obtain⟨p2,ys,rfl,q2,r2⟩:=by'.list s
  refine⟨p,p2,xs,ys,rfl,rfl,q1,q2,by rw[r1.len,r2.len];exact hz,λl hl=>?_⟩
  exact k _ _ _ (Ext.own s (o:=.lst (xs ++ ys)) hl) ⟨l,rfl,hl,s.free hl,_,az,r1.append r2⟩
 ·cases e
def cj:D->D->Option D:=xl λi j=>.int (i + j)
def ie:nj K (xR λi j=>.int (i + j)) cj .v:=qL λdx dy d h=>by obtain⟨i,j,rfl,rfl,rfl⟩:=kO h;exact⟨i,j,rfl,rfl,λ_=>.int _⟩
def dw:D->D->Option D:=gI (λi j=>(decide (-(2 ^ 64) < i) && decide (i < 2 ^ 64)) || (decide (-(2 ^ 64) < j) && decide (j < 2 ^ 64))) λi j=>.int (i * j)
def ni:nj K (rI CY λi j=>.int (i * j)) dw .v:=wj λdx dy d h=>by obtain⟨i,j,rfl,rfl,c,rfl⟩:=xO h;exact⟨i,j,rfl,rfl,by simpa[CY] using c,λ_=>.int _⟩
def rC:D->D->Option D
 | .list a,.int k=>if -(2 ^ 63)<=k/\k < 2 ^ 63/\a.length * k.toNat<=sizeLine then some (.list (List.replicate k.toNat a).flatten) else none
 |_,_=>none
def yS {a b:Expr}{fa fb:VF D}{La Lb:@G_}{mb:Md}{Γ:Fx}{E:XK}{pos:Pos}(ha:SE X Γ E a fa La .w)(hb:SE X Γ E b fb Lb mb):SE X Γ E (.BinOp a .Mult b pos) (f2 fa fb rC) (La ++ Lb) .w:=by
 refine PE.post' (oF B4 ha hb) λσ H Q ⟨env,G,B,β,I,o⟩=>?_
 refine⟨env,G,B,β,I,o.bnd.imp λd1 β1 h x G1 H1 I1 s1 m1 vx=>⟨aY La env,G1,B,β1,I1,?_⟩⟩
 rw[dS]
 refine h.bnd.imp λd2 β2 h y G2 H2 I2 s2 m2 vy=>?_
 obtain⟨d,e,k⟩:=h.of
 rw[<-cA] at I2
 obtain⟨p,rfl,p1,p2,p3⟩:=vx
 have by':=vy.brw I1.boxThere
 cases d1 <;> cases d2 <;> first | (cases e;done) |skip
 rename_i l j
 obtain rfl:=by'.int
 simp only[rC] at e
 split at e
 ·rename_i hz
  cases e
  obtain⟨xs,q,r⟩:=p3
  obtain⟨q1,q2,q3,q4⟩:=I.fresh p1
  have r2:=r.mono s2
  refine⟨p,j,xs,rfl,rfl,m2.1 _ _ q q3,hz.1,hz.2.1,by rw[r.len];exact hz.2.2,λl hl=>?_⟩
  have x:=Ext.own I2.sub (o:=.lst (List.replicate j.toNat xs).flatten) hl
  exact k _ _ _ (I2.ext x) ((s1.trans s2).trans x.gg) ((m1.trans m2).trans (x.hh.mov B)) ⟨l,rfl,fu (m1.trans m2) I2.boxThere hl,I2.sub.free hl,_,az,r2.rep⟩
 ·cases e
def nV:D->Option D
 | .int i=>some (.int (-i))
 |_=>none
theorem xG:D9 K (rU λi=>.int (-i)) nV .v:=by
 intro B G H x dx d Q s hB bx e k
 cases dx with
 |int i=>cases e;obtain rfl:=bx.int;exact⟨i,rfl,k _ G H (Ext.refl s) (.int _)⟩
 |_=>cases e
def KS:D->String
 | .none=>"NoneType"
 | .bool _=>"bool"
 | .int _=>"int"
 | .str _=>"str"
 | .list _=>"list"
 | .tuple _=>"tuple"
 | .dict _=>"dict"
def DY (d:D)(T:String):Bool:=KS d == T || (T == "int" && KS d == "bool")
def iy:D->Bool
 | .dict ((.none,_) :: _)=>true
 |_=>false
def lx (T:String)(d:D):Option D:=if iy d=true then none else some (.bool (DY d T))
def NX (K:Frag)(H:Hp)(x:V)(t:String):Prop:=GI K H x t\/(t="dict"/\∃a kvs,x=.ref a/\H a=some (.dT kvs))
def Lv (K:Frag):List V->Hp->VK->Prop:=λxs H Q=>∃x T t b,xs= [x,.ty T]/\NX K H x t/\PySem.W.kitOne K (.type t) (.type T)=some b/\Q (.bl b) H
def D0:fA X (.builtin "isinstance") (Lv X.K):=by
 intro pins s σ H xs us Q I r h
 obtain⟨x,T,t,b,rfl,ty,e,q⟩:=h
 rcases ty with ty | ⟨rfl,a,kvs,rfl,hk⟩
 ·exact Cb pins s σ H _ us Q I r ⟨x,T,t,b,rfl,ty,e,q⟩
 ·obtain⟨u,c,rfl,rx,rc⟩:=vals2 r
  cases rc
  cases rx
  obtain⟨_,_,_,_,o,_,_,e2,ex,_⟩:=I.hok a _ hk
  exact Pk PySem.W.kitx_dict I.kIn ⟨o,e2,ex.1⟩ e (λz=>nomatch z) λtk=>⟨.bl b,H,I.tok tk,rfl,q⟩
theorem mS.ty {B:@Ix}{G H:Hp}{v:V}{d:D}(h:mS K B G H v d)(s:ar G H)(n:iy d=false):NX K H v (KS d):=by
 cases d with
 |none=>obtain rfl:=h.none;exact .inl .non
 |bool b=>obtain rfl:=h.bool;exact .inl (.bl b)
 |int b=>obtain rfl:=h.int;exact .inl (.int b)
 |str b=>obtain rfl:=h.str;exact .inl (.str b)
 |list b=>obtain⟨a,xs,rfl,q,_⟩:=h.list s;exact .inl (.lst (.inl q))
 |tuple b=>obtain⟨a,xs,rfl,q,_⟩:=h.tuple s;exact .inl (.tup q)
 |dict b=>
  rcases h with h | ⟨a,rfl,_,h⟩
  ·cases h with
   |scr _=>cases n
   |dK q _=>exact .inl (.dic (s _ _ q))
   |dT q _=>exact .inr ⟨rfl,_,_,rfl,s _ _ q⟩
  ·rcases h with⟨_,q,_⟩ | ⟨_,q,_⟩
   ·exact .inl (.dic q)
   ·exact .inr ⟨rfl,_,_,rfl,q⟩
theorem J9 {d:D}{T:String}(hT:T∈ ["int","bool","str","list","tuple","dict"]):PySem.W.kitOne K (.type (KS d)) (.type T)=some (DY d T):=by
 simp only[OC,PB,Qz] at hT
 cases d with
 |dict l=>rcases hT with rfl |rfl |rfl |rfl |rfl |rfl <;> rfl
 |none=>rcases hT with rfl |rfl |rfl |rfl |rfl |rfl <;> rfl
 |bool _=>rcases hT with rfl |rfl |rfl |rfl |rfl |rfl <;> rfl
 |int _=>rcases hT with rfl |rfl |rfl |rfl |rfl |rfl <;> rfl
 |str _=>rcases hT with rfl |rfl |rfl |rfl |rfl |rfl <;> rfl
 |list _=>rcases hT with rfl |rfl |rfl |rfl |rfl |rfl <;> rfl
 |tuple _=>rcases hT with rfl |rfl |rfl |rfl |rfl |rfl <;> rfl
def nG {a:Expr}{fa:VF D}{La:@G_}{ma:Md}{Γ:Fx}{E:XK}{pos p p2:Pos}(T:String){y:Str}(hT:T∈ ["int","bool","str","list","tuple","dict"])(hK:X.K=Γ.K)(hg:Gl X "isinstance")(hm:X.mg "isinstance"=none)(hgT:Gl X y)(hmT:X.mg y=none)(hvT:bootBuiltins y=some (.type T))(ha:SE X Γ E a fa La ma)
  (hnT:y≠"__name__":=by decide) (hdT:(y == ("__debug__":Str))=false:=by decide)
  (he:starEach [a,.Name y p2] X.env=(false,eval a X.env) :: starEach [.Name y p2] X.env:=by rfl) (he2:starEach [.Name y p2] X.env=(false,eval (.Name y p2) X.env) :: starEach [] X.env:=by rfl) (hpl:(backTo pos (starEach [.Name y p2] X.env)).any (·.1)=false:=by rfl) :
  SE X Γ E (.Call (.Name "isinstance" p) [a,.Name y p2] [] pos) (f1 fa (lx T)) La .v:=by
 refine PE.post' (bB D0 hg hm (@Ev) (aw ha (aw (zL hgT hmT hvT (show RelV (.ty T) _ from rfl) hnT hdT) aR he2) he) @Go @Go he hpl) λσ H Q ⟨env,G,B,β,I,o⟩=>?_
 refine mr (r:=λx H1 Q=>Lv X.K [x,.ty T] H1 Q) ?_ I o
 intro B G H x dx d Q s hB bx e k
 unfold lx at e
 split at e
 ·cases e
 ·rename_i hn
  cases e
  rw[hK]
  exact⟨x,T,KS dx,DY dx T,rfl,bx.ty s (by simpa using hn),J9 hT,k _ G H (Ext.refl s) (.bl _)⟩
def fU (fa fb fc:VF D)(g g':D->D->Option D):VF D:=λvs β=>(fa vs β).bnd λx β1=>(fb vs β1).bnd λy β2=>match g x y with
 |some (.bool true)=>(fc vs β2).bnd λz β3=>R.of (g' y z) β3
 |some (.bool false)=>.ok (.bool false) β2
 |_=>.bad
theorem wM {a b c:Expr}{fa fb fc:VF D}{ma mb mc:Md}{Γ:Fx}{E:XK}{pos:Pos}{op op':CmpOp}{r r':R2}{g g':D->D->Option D}(ho:kW X (compareOp op) r)(ho':kW X (compareOp op') r')(pr:nj Γ.K r g .v)(pr':nj Γ.K r' g' .v)(ha:SE X Γ E a fa [] ma)(hb:SE X Γ E b fb [] mb)(hc:SE X Γ E c fc [] mc)
  (hm:lastMarks [op,op'] [b,c]=false:=by with_unfolding_all rfl):SE X Γ E (.Compare a [op,op'] [b,c] pos) (fU fa fb fc g g') [] .v:=by
 refine PE.post' (Df ho ho' ha hb hc hm) λσ H Q ⟨env,G,B,β,I,o⟩=>?_
 refine two (W:=λx y H2=>r x y H2 λz H3=>∃k,z=.bl k/\(if k=true then pT Γ E fc [] mc σ H3 λw' H4=>r' y w' H4 Q else Q (.bl false) H3)) I (o.bnd.imp λd1 β1 h=>h.bnd.imp λd2 β2 h x y G2 H2 I2 s2 m2 bx by'=>?_)
 obtain⟨cb,ec,h⟩:∃cb,g d1 d2=some (.bool cb)/\Out Γ E (if cb=true then (fc (vl env) β2).bnd λz β3=>R.of (g' d2 z) β3 else .ok (.bool false) β2) λd β'=>∀v G' H',SR Γ B G' H' σ (aY [] env) β'->ar G G'->iw B H H'->VO Γ.K B H G' H' .v d v->Q v H':=by
  split at h
  ·rename_i q;exact⟨true,q,by rw[Ov rfl];exact h⟩
  ·rename_i q;exact⟨false,q,by rw[OA OI];exact h⟩
  ·exact h.elim
 refine pr B G2 H2 x y d1 d2 _ _ I2.sub I2.boxThere bx by' ec λv G' H' x' vo=>?_
 cases vo
 refine⟨cb,rfl,?_⟩
 have I3:=I2.ext x'
 cases cb with
 |false=>rw[OA OI] at h;exact pA (h _ G' H' I3 (s2.trans x'.gg) (m2.trans (x'.mov B)) (.bl false))
 |true=>
  rw[Ov rfl] at h
  refine rq ⟨env,G',B,β2,I3,h.bnd.imp λd3 β3 h z G4 H4 I4 s4 m4 vz=>?_⟩
  obtain⟨d,e,k⟩:=h.of
  refine pr' B G4 H4 y z d2 d3 d Q I4.sub I4.boxThere (by'.mono (x'.gg.trans s4) ((x'.mov B).trans m4)) (vz.brw I3.boxThere) e λv G5 H5 x5 vo=>?_
  exact k v G5 H5 (I4.ext x5) (((s2.trans x'.gg).trans s4).trans x5.gg) (((m2.trans (x'.mov B)).trans m4).trans (x5.mov B)) vo
end
def dN.u1 {k:Nat}{A:Around}(r:dN k A):A.units + 100 < cLine:=by have:=r.un;omega
def NQ (N:@H_)(sc:Scope)(NB:@H_)(own:Nat)(ixs:@G_)(scope:Scope):Bool:=
 decide (scope.kind=.function) && (scope.names.all λy=>decide (scope.names.lookup y.1=some y.2)) &&
 (scope.names.all λy=>decide (y.2=.free->(sc.names.lookup y.1=some .cell\/sc.names.lookup y.1=some .free))) && decide NB.Nodup && decide (NB.length=own + ixs.length) &&
 ((List.range ixs.length).all λk=>decide (NB[own + k]? =N[ixs.getD k 0]?) && (match NB[own + k]? with |some x=>decide ((x,NameKind.free)∈scope.names) |none=>true))
def cf {X:Cx}{NB:@H_}{own:Nat}{ixs:@G_}{scope:Scope}(h:NQ X.N X.env.scope NB own ixs scope=true):bA X NB own ixs scope:=by
 unfold NQ at h
 simp only[OW,O9,OP,Po] at h
 obtain⟨⟨⟨⟨⟨h1,h3⟩,h4⟩,h5⟩,h6⟩,h7⟩:=h
 refine⟨h1,h3,h4,h5,h6,λk hk=>⟨(h7 k hk).1,λx hx=>?_⟩⟩
 have:=(h7 k hk).2
 rw[hx] at this
 simpa using this
section
variable {X:Cx}{Γ:Fx}{E:XK}{e a b c:Expr}{f fa fb fc:VF D}{L La Lb:@G_}{md ma mb mc:Md}{pos:Pos}{K:Frag}
theorem D8 {op op':CmpOp}{r r':R2}{g g':D->D->Option D}(ho:kW X (compareOp op) r)(ho':kW X (compareOp op') r')(pr:nj Γ.K r g .v)(pr':nj Γ.K r' g' .v)(ha:SE X Γ E a fa [] ma)(hb:SE X Γ E b fb [] mb)(hc:SE X Γ E c fc [] mc)
  (hm:lastMarks [op,op'] [b,c]=false:=by with_unfolding_all rfl):zy X Γ E (.Compare a [op,op'] [b,c] pos) (cP (fU fa fb fc g g')) []:=by
 refine PT.post (CK ho ho' ha hb hc hm) λσ H Q ⟨env,G,B,β,I,o⟩=>?_
 refine two (W:=λx y H2=>r x y H2 λz H3=>∃k,z=.bl k/\(if k=true then pT Γ E fc [] mc σ H3 λw' H4=>r' y w' H4 (λx H'=>∃k,x=.bl k/\Q k H') else ∃k,V.bl false=.bl k/\Q k H3)) I (o.bnd.bnd.imp λd1 β1 h=>h.bnd.imp λd2 β2 h x y G2 H2 I2 s2 m2 bx by'=>?_)
 obtain⟨cb,ec,h⟩:∃cb,g d1 d2=some (.bool cb)/\Out Γ E (if cb=true then (fc (vl env) β2).bnd λz β3=>R.of (g' d2 z) β3 else .ok (.bool false) β2) λd β'=>Out Γ E (match d with | .bool c=>R.ok c β' |_=>.bad) λc β'=>∀G' H',SR Γ B G' H' σ (aY [] env) β'->ar G G'->iw B H H'->Q c H':=by
  split at h
  ·rename_i q;exact⟨true,q,by rw[Ov rfl];exact h⟩
  ·rename_i q;exact⟨false,q,by rw[OA OI];exact h⟩
  ·exact h.elim
 refine pr B G2 H2 x y d1 d2 _ _ I2.sub I2.boxThere bx by' ec λv G' H' x' vo=>?_
 cases vo
 refine⟨cb,rfl,?_⟩
 have I3:=I2.ext x'
 cases cb with
 |false=>rw[OA OI] at h;exact pA ⟨false,rfl,h G' H' I3 (s2.trans x'.gg) (m2.trans (x'.mov B))⟩
 |true=>
  rw[Ov rfl] at h
  refine rq ⟨env,G',B,β2,I3,h.bnd.imp λd3 β3 h z G4 H4 I4 s4 m4 vz=>?_⟩
  obtain⟨d,e,k⟩:=h.of
  refine pr' B G4 H4 y z d2 d3 d _ I4.sub I4.boxThere (by'.mono (x'.gg.trans s4) ((x'.mov B).trans m4)) (vz.brw I3.boxThere) e λv G5 H5 x5 vo=>?_
  cases d with
  |bool c=>cases vo;exact⟨c,rfl,k G5 H5 (I4.ext x5) (((s2.trans x'.gg).trans s4).trans x5.gg) (((m2.trans (x'.mov B)).trans m4).trans (x5.mov B))⟩
  |_=>exact k.elim
def tN (fa:VF D)(neg:Bool):VF Bool:=λvs β=>(fa vs β).bnd λx β1=>.ok (if neg then !Gs x else Gs x) β1
def oT (Γ:Fx)(E:XK)(f:VF (Option Int))(L:@G_):TO:=λσ H Q=>∃env G B β,@GT/\
 Out Γ E (f (vl env) β) λd β'=>∀G' H',SR Γ B G' H' σ (aY L env) β'->ar G G'->iw B H H'->Q d H'
def Mg (X:Cx)(Γ:Fx)(E:XK)(e:Option Expr)(f:VF (Option Int))(L:@G_):Prop:=PO X e (oT Γ E f L)
def uH:Mg X Γ E none (λ_ β=>.ok none β) []:=λpins s σ H Q I ⟨env,G,B,β,J,o⟩=>Gh pins s σ H Q I (o G H J (ar.refl _) (iw.refl _ _))
def BR (fa:VF D):VF (Option Int):=λvs β=>(fa vs β).bnd λx β1=>match x with
 | .int i=>.ok (some i) β1
 |_=>.bad
theorem uF (ha:SE X Γ E a fa La ma):Mg X Γ E (some a) (BR fa) La:=λpins s σ H Q I ⟨env,G,B,β,J,o⟩=>by
 refine Fp ha pins s σ H Q I ⟨env,G,B,β,J,o.bnd.imp λd1 β1 h x G1 H1 I1 s1 m1 vx=>?_⟩
 cases d1 with
 |int i=>exact⟨i,(vx.brw J.boxThere).int,h G1 H1 I1 s1 m1⟩
 |_=>exact h.elim
def cutD (xs:List D)(lo hi:Option Int):List D:=(xs.drop (HT.ue xs.length 0 lo)).take (HT.ue xs.length xs.length hi - HT.ue xs.length 0 lo)
def EN {G:Hp}{xs:List V}{ds:List D}(r:cQ K G xs ds)(lo hi:Option Int):cQ K G (xZ xs lo hi) (cutD ds lo hi):=by
 unfold xZ cutD
 rw[r.len]
 exact (r.drop _).take _
def By (fa:VF D)(fl fh:VF (Option Int)):VF D:=λvs β=>(fa vs β).bnd λx β1=>(fl vs β1).bnd λl β2=>(fh vs β2).bnd λh β3=>match x with
 | .list ds=>.ok (.list (cutD ds l h)) β3
 |_=>.bad
theorem qy {lo hi:Option Expr}{fl fh:VF (Option Int)}{Ll Lh:@G_}{p2:Pos}(hK:X.K=Γ.K)(ha:SE X Γ E a fa La ma)(hl:Mg X Γ E lo fl Ll)(hh:Mg X Γ E hi fh Lh):SE X Γ E (.Subscript a (.Slice lo hi none p2) pos) (By fa fl fh) (La ++ Ll ++ Lh) .w:=by
 refine PE.post' (Cs Gf ha hl hh) λσ H Q ⟨env,G,B,β,I,o⟩=>?_
 refine⟨env,G,B,β,I,o.bnd.imp λd1 β1 h x G1 H1 I1 s1 m1 vx=>⟨aY La env,G1,B,β1,I1,?_⟩⟩
 rw[dS]
 refine h.bnd.imp λl β2 h G2 H2 I2 s2 m2=>⟨aY Ll (aY La env),G2,B,β2,I2,?_⟩
 rw[dS,dS]
 refine h.bnd.imp λu β3 h G3 H3 I3 s3 m3=>?_
 rw[<-cA,<-cA,<-Qe] at I3
 have bx:=((vx.brw I.boxThere).mono s2 m2).mono s3 m3
 cases d1 with
 |list ds=>
  obtain⟨p,xs,rfl,hq,r⟩:=bx.list I3.sub
  rw[hK]
  refine⟨p,xs,rfl,.inl hq,λq hn=>?_⟩
  have x:=Ext.own I3.sub (o:=.lst (xZ xs l u)) hn
  exact h _ _ _ (I3.ext x) ((s1.trans s2).trans s3) (((m1.trans m2).trans m3).trans (x.mov B)) ⟨q,rfl,fu ((m1.trans m2).trans m3) I3.boxThere hn,I3.sub.free hn,_,az,EN r l u⟩
 |_=>exact h.elim
def HZ:nj K (λx y H Q=>∃i j,[x,y]= [.int i,.int j]/\Q (.int (if j > i then j else i)) H) (xl λi j=>.int (if j > i then j else i)) .v:=by
 intro B G H x y dx dy d Q s hB bx by' e k
 obtain⟨i,j,rfl,rfl,rfl⟩:=kO e
 obtain rfl:=bx.int
 obtain rfl:=by'.int
 exact⟨i,j,rfl,k _ G H (Ext.refl s) (.int _)⟩
def JB:nj K (λx y H Q=>∃i j,[x,y]= [.int i,.int j]/\Q (.int (if j < i then j else i)) H) (xl λi j=>.int (if j < i then j else i)) .v:=by
 intro B G H x y dx dy d Q s hB bx by' e k
 obtain⟨i,j,rfl,rfl,rfl⟩:=kO e
 obtain rfl:=bx.int
 obtain rfl:=by'.int
 exact⟨i,j,rfl,k _ G H (Ext.refl s) (.int _)⟩
end
inductive FB where
 |ok (d:D) (fresh:Bool) (β:Int)
 |bad
def BW (K:Frag)(n:Nat)(F:List D->Int->FB):Sp:=λvs H Q _=>∃b rest G ds β,vs=.ref b :: rest/\H b=some (.lst [.int β])/\G b=none/\ar G H/\ds.length=n/\cQ K G rest ds/\match F ds β with
 | .ok d fr β'=>∀v G' H',iw (some b) H H'->H' b=some (.lst [.int β'])->ar G G'->ar G' H'->(∀c,Mx H c->G c=none->G' c=none)->FV K H G' H' fr d v->Q v H'
 | .bad=>False
structure pR (P:Program)(w:World)(K:Frag)(mg:@FM)(base:Heap)(x:Str)(ps:@H_)(k:Nat)(F:List D->Int->FB):Prop where
 ex:∃f fd,mg x=some (.ref f)/\PySem.W.keepIn K (.ref f)=true/\Binds K fd ps []/\e8 P w K mg base (lg P w) k f fd ps (BW K (ps.length - 1) F)
 len:∀ds β,F ds β≠.bad->ds.length=ps.length - 1
def xX (vs:List Nv)(i:Nat):Bool:=match vs[i]? with
 |some .bx=>true
 |_=>false
def oN (i:Nat)(F:List D->Int->FB)(fr:VF (List D)):VF D:=λvs β=>if xX vs i=true then (fr vs β).bnd λds β1=>match F ds β1 with
 | .ok d _ β2=>.ok d β2
 | .bad=>.bad else .bad
def MF (i:Nat)(F:List D->Int->FB)(fr:VF (List D)):VF D:=λvs β=>if xX vs i=true then (fr vs β).bnd λds β1=>match F ds β1 with
 | .ok d true β2=>.ok d β2
 |_=>.bad else .bad
section
variable {X:Cx}{Γ:Fx}{E:XK}{e a b c:Expr}{f fa fb fc:VF D}{L La Lb:@G_}{md ma mb mc:Md}{pos:Pos}{K:Frag}{es:List Expr}{fr:VF (List D)}
def Fl {env:En}{i:Nat}(h:xX (vl env) i=true):env[i]? =some .bx:=by
 unfold xX at h
 split at h
 ·exact K1 (by assumption)
 ·cases h
def ET {env:En}{i j:Nat}{d:D}(h:(gX env i)[j]? =some (.br d)):env[j]? =some (.br d):=by
 unfold gX at h
 split at h
 ·rename_i d' e
  by_cases z:i=j
  ·subst z
   rw[OJ (Oy.mp e).1] at h;cases h
  ·rw[OL z] at h;exact h
 ·exact h
theorem IW {L:@G_}{env:En}{j:Nat}{d:D}(h:(aY L env)[j]? =some (.br d)):env[j]? =some (.br d):=by
 unfold aY at h
 induction L generalizing env with
 |nil=>exact h
 |cons i L ih=>exact ET (ih h)
def SR.calledB {p:Addr}{β β':Int}{G1 H1 G2 H2:Hp}{σ:St}{env:En}(I1:SR Γ (some p) G1 H1 σ env β)(h:iw (some p) H1 H2)(hp:H2 p=some (.lst [.int β']))(g:ar G1 G2)(s:ar G2 H2)(n:∀b,Mx H1 b->G1 b=none->G2 b=none):SR Γ (some p) G2 H2 σ env β':=by
 obtain⟨b1,b2,b3⟩:=I1.box p rfl
 refine⟨s,I1.old.trans g,λb n1 n2=>n b (I1.thereM n1) (I1.new b n1 n2),λb o e np=>x6 (I1.keep b o e np) h λz=>?_,λb hb=>?_,I1.fix,λb e=>?_,I1.len,λi t e=>?_,I1.sep⟩
 ·cases z
  rcases b3 with b3 |b3
  ·exact np b3
  ·rw[e] at b3;cases b3
 ·by_cases z:p=b
  ·subst z;exact Mx.lst hp
  ·exact (I1.pin b hb).same λo q=>h.1 b o q λy=>z (Option.some.inj y)
 ·cases e
  exact⟨hp,n p (Mx.lst b1) b2,b3⟩
 ·have q:=I1.slot i t e
  cases t with
  |no=>trivial
  |fz d=>obtain⟨v,h1,h2⟩:=q;exact⟨v,h1,h2.mono g⟩
  |ow d=>
   obtain⟨c,h1,h2,h3,h4,h5⟩:=q
   exact⟨c,h1,h2,n c h5.mx h3,h4,h5.mono g λo q=>h.1 c o q h4⟩
  |bx=>exact q
  |br d=>obtain⟨b1,c,h1,h4,hpp,h5⟩:=q;exact⟨b1,c,h1,h4,hpp,h5.mono g λo q=>h.1 c o q h4⟩
theorem Gd {F:List D->Int->FB}{ps:@H_}{Q:VK}{B:@Ix}{G H:Hp}{σ:St}{env:En}{β:Int}{i:Nat}{p:Addr}(I:@GT)(hK:X.K=Γ.K)(hp:B=some p){wv:Bool}
  (h:Out Γ E (fr (vl env) β) λds β1=>Out Γ E (match F ds β1 with
   | .ok d true β2=>.ok d β2
   | .ok d false β2=>if wv=true then .bad else .ok d β2
   | .bad=>.bad) λd β'=>∀v G' H',SR Γ B G' H' σ (aY L env) β'->ar G G'->iw B H H'->VO Γ.K B H G' H' (if wv=true then .w else .v) d v->Q v H') (hl:∀ds β,F ds β≠.bad->ds.length=ps.length - 1) :
  aT Γ E fr L σ H λvs H1=>BW X.K (ps.length - 1) F (.ref p :: vs) H1 Q E:=by
 subst hp
 refine⟨env,G,_,β,I,h.imp λds β1 k vs G1 H1 I1 s1 m1 r=>?_⟩
 obtain⟨b1,b2,b3⟩:=I1.box p rfl
 refine⟨p,vs,G1,ds,β1,rfl,b1,b2,I1.sub,hl ds β1 λz=>by rw[z] at k;exact k,by rw[hK];exact r,?_⟩
 cases q:F ds β1 with
 |bad=>rw[q] at k;exact k
 |ok d fr' β2=>
  rw[q] at k
  intro v G' H' hh hb hg hs hn fv
  have I2:=I1.calledB hh hb hg hs hn
  cases fr' with
  |true=>
   obtain⟨c,rfl,p1,p2,p3⟩:∃a,v=.ref a/\H1 a=none/\G' a=none/\Own X.K G' H' a d:=fv
   rw[hK] at p3
   have hp:=fu m1 I1.boxThere p1
   cases wv with
   |true=>exact k _ G' H' I2 (s1.trans hg) (m1.trans hh) ⟨c,rfl,hp,p2,p3⟩
   |false=>
    obtain⟨q1,q2,q3,q4⟩:=I1.fresh p1
    obtain⟨G3,I3,s3,r3⟩:=I2.letIn q1 p2 q3 q4 p3
    exact k _ G3 H' I3 ((s1.trans hg).trans s3) (m1.trans hh) r3
  |false=>
   cases wv with
   |true=>exact k.elim
   |false=>
    have fv:Rp X.K G' v d:=fv
    rw[hK] at fv
    exact k _ G' H' I2 (s1.trans hg) (m1.trans hh) fv
theorem HQ {F:List D->Int->FB}{ps:@H_}{Q:VK}{i:Nat}{σ:St}{H:Hp}(hK:X.K=Γ.K){wv:Bool}(hl:∀ds β,F ds β≠.bad->ds.length=ps.length - 1)(h:pT Γ E (if wv=true then MF i F fr else oN i F fr) L (if wv=true then .w else .v) σ H Q) :
  AZ i σ H λx H1=>aT Γ E fr L σ H1 λvs H2=>BW X.K (ps.length - 1) F (x :: vs) H2 Q E:=by
 obtain⟨env,G,B,β,I,o⟩:=h
 have hi:xX (vl env) i=true:=by
  by_cases hi:xX (vl env) i=true
  ·exact hi
  ·exfalso
   cases wv with
   |true=>simp only[PL] at o;unfold MF at o;rw[OA hi] at o;exact o
   |false=>simp only[Pn,PZ] at o;unfold oN at o;rw[OA hi] at o;exact o
 obtain⟨p,e1,e2⟩:=I.slot i _ (Fl hi)
 refine⟨.ref p,e1,Gd (i:=i) (ps:=ps) I hK e2 (wv:=wv) ?_ hl⟩
 cases wv with
 |true=>
  simp only[PL] at o ⊢
  unfold MF at o
  rw[Ov hi] at o
  refine o.bnd.imp λds β1 h=>?_
  cases q:F ds β1 with
  |bad=>rw[q] at h;exact h
  |ok d b β2=>rw[q] at h;cases b <;> exact h
 |false=>
  simp only[Pn,PZ] at o ⊢
  unfold oN at o
  rw[Ov hi] at o
  refine o.bnd.imp λds β1 h=>?_
  cases q:F ds β1 with
  |bad=>rw[q] at h;exact h
  |ok d b β2=>rw[q] at h;cases b <;> exact h
def lM {x y:Str}{ps:@H_}{k:Nat}{F:List D->Int->FB}{p np:Pos}(i:Nat)(hf:pR X.prog X.w X.K X.mg X.base x ps k F)(hr:dN k X.A)(hx:Passes (lg X.prog X.w) X E)(hK:X.K=Γ.K)(hg:Gl X x)(ha:SA X Γ E es fr L)(hN:X.N[i]? =some y:=by rfl)(hv:vS X.env.scope y:=by first |exact Or.inl rfl |exact Or.inr (Or.inl rfl) |exact Or.inr (Or.inr rfl))(hd:(y == ("__debug__":Str))=false:=by decide)
  (hcd:(y == ("__classdict__":Str))=false:=by decide) (hdb:@FS:=by decide)
  (he:starEach (.Name y np :: es) X.env=(false,eval (.Name y np) X.env) :: starEach es X.env:=by rfl) (hpl:(backTo pos (starEach es X.env)).any (·.1)=false:=by rfl):SE X Γ E (.Call (.Name x p) (.Name y np :: es) [] pos) (oN i F fr) L .v:=by
 obtain⟨f,fd,hm,hk,hb,hF⟩:=hf.ex
 refine PE.post' (ot (dvs:=[]) hF hr hg hm hk hb .nil hx (aw (ip hN hv hd hcd) ha he) hdb he hpl) λσ H Q h=>?_
 have:=HQ (Q:=Q) (wv:=false) (ps:=ps) hK hf.len (by simpa using h)
 show AZ i σ H λx H1=>aT Γ E fr L σ H1 λvs H2=>BW X.K (ps.length - 1) F ((x :: vs) ++ []) H2 Q E
 simpa using this
def C0:D->Option Int
 | .list [.int z]=>some z
 |_=>none
def Fu {d:D}{z:Int}(h:C0 d=some z):d=.list [.int z]:=by
 unfold C0 at h
 split at h
 ·cases h;rfl
 ·cases h
def Oq (f0:VF D)(F:List D->Int->FB)(n:Int):VF D:=λvs β=>(f0 vs β).bnd λd0 β1=>match C0 d0 with
 |some z=>(match F [.int n] z with
  | .ok d _ _=>.ok d β1
  | .bad=>.bad)
 |none=>.bad
def sQ (env:En):En:=env.map λs=>match s with
 | .bx=>.no
 |s=>s
theorem DO {env:En}{i:Nat}{s:Sl}(h:(sQ env)[i]? =some s)(n:s≠.no):env[i]? =some s/\s≠.bx:=by
 unfold sQ at h
 rw[OK] at h
 cases e:env[i]? with
 |none=>rw[e] at h;cases h
 |some t=>
  rw[e] at h
  have h:=Option.some.inj h
  cases t with
  |bx=>exact absurd h.symm n
  |no=>exact absurd h.symm n
  |fz d=>subst h;exact⟨rfl,λz=>by cases z⟩
  |ow d=>subst h;exact⟨rfl,λz=>by cases z⟩
  |br d=>subst h;exact⟨rfl,λz=>by cases z⟩
def zS (i:Nat)(L:@G_)(f:VF D):SF:=λenv β=>toS (f (vl env) β) λd _=>match C0 d with
 |some z=>.nx ((sQ (aY L env)).set i .bx) z
 |none=>.bad
theorem EY {i:Nat}{x:Str}{pos':Pos}(hbx:Γ.bx=none)(he:SE X Γ E e f L .w)(hN:X.N.Nodup)(hi:X.N[i]? =some x:=by rfl)(hx:Loc X.env.scope x:=by first |exact Or.inl rfl |exact Or.inr rfl)(hs:swapsWith e (some (.Name x pos')) pos.line X.env=pure false:=by rfl)(hf:X.fn x=true\/X.env.scope.names.lookup x=some .local:=by first |exact .inl rfl |exact .inr rfl |assumption) :
  SS X Γ E (.Assign [.Name x pos'] e pos) (zS i L f):=by
 refine PS.post (lP hN hi hx he hs hf) λN σ H ⟨env,G,B,β,I,o⟩=>?_
 refine⟨env,G,B,β,I,cR o λd β' k v G' H' I' s' m' vo=>?_⟩
 cases q:C0 d with
 |none=>rw[q] at k;exact k.elim
 |some z=>
  rw[q] at k
  obtain rfl:=Fu q
  obtain⟨p,rfl,h1,h2,xs,h3,r⟩:=vo
  have hx2:H' p=some (.lst [.int z]):=by
   cases r with
   |cons r1 r2=>
    cases r1
    cases r2
    exact h3
  obtain⟨q1,q2,q3,q4⟩:=I.fresh h1
  refine k (some p) G' H' _ ⟨I'.sub,I'.old,I'.new,I'.keep,I'.pin,λb e=>(by rw[hbx] at e;cases e),λb e=>?_,?_,λj t e=>?_,λj j' c d1 d2 e1 e2 e3 e4=>?_⟩ s'
  ·cases e;exact⟨hx2,h2,.inr q1⟩
  ·rw[PQ,PQ];unfold sQ;rw[OB];exact I'.len
  ·by_cases hj:j=i
   ·subst hj
    by_cases hl:j < (sQ (aY L env)).length
    ·rw[OJ hl] at e
     cases e
     refine⟨p,?_,rfl⟩
     rw[OJ]
     rw[I'.len];unfold sQ at hl;simpa using hl
    ·rw[PY (by rw[PQ];omega)] at e;cases e
   ·rw[OL (Ne.symm hj)] at e ⊢
    by_cases hn:t=.no
    ·subst hn;trivial
    ·obtain⟨e1,nb⟩:=DO e hn
     have w:=I'.slot j t e1
     cases t with
     |no=>trivial
     |fz d=>exact w
     |bx=>exact absurd rfl nb
     |ow d=>
      obtain⟨a',g1,g2,g3,g4,g5⟩:=w
      exact⟨a',g1,g2,g3,λy=>q4 j d (rP e1) (by cases y;exact g1),g5⟩
     |br d=>
      obtain⟨b1,a',g1,g4,hpp,g5⟩:=w
      have e0:env[j]? =some (.br d):=IW e1
      obtain⟨_,a2,f1,_,_,f5⟩:=I.slot j _ e0
      rw[g1] at f1;cases f1
      obtain⟨o,ho⟩:=f5.obj
      exact⟨b1,a',g1,λy=>(by cases y;rw[h1] at ho;cases ho),hpp,g5⟩
  ·have back:∀{j:Nat} {d1:D},((sQ (aY L env)).set i Sl.bx)[j]? =some (.ow d1)->j≠i/\(aY L env)[j]? =some (.ow d1):=λ{j d1} e=>by
    by_cases hj:j=i
    ·subst hj
     by_cases hl:j < (sQ (aY L env)).length
     ·rw[OJ hl] at e;cases e
     ·rw[PY (by rw[PQ];omega)] at e;cases e
    ·rw[OL (Ne.symm hj)] at e
     exact⟨hj,(DO e (λy=>by cases y)).1⟩
   obtain⟨n1,w1⟩:=back e1
   obtain⟨n2,w2⟩:=back e2
   rw[OL (Ne.symm n1)] at e3
   rw[OL (Ne.symm n2)] at e4
   exact I'.sep j j' c d1 d2 w1 w2 e3 e4
end
section
variable {P:Program}{w:World}{K:Frag}{mg:@FM}{base:Heap}{ca:Str->Addr}
def Cf:SO->FB
 | .nx _ β=>.ok .none false β
 | .rt d fr β=>.ok d fr β
 |_=>.bad
def yi (n:Nat)(ds:List D):En:=.bx :: ds.map Sl.fz ++ List.replicate (n - 1 - ds.length) .no
def sZ (n p:Nat)(m:SF):List D->Int->FB:=λds β=>if ds.length=p then Cf (m (yi n ds) β) else .bad
abbrev Fx.fb (K:Frag)(H G:Hp)(ca:Str->Addr)(b:Addr):Fx:=⟨K,H,G,[b],ca,λ_=>false,some b⟩
def SR.startB {H G:Hp}{N:@H_}{b:Addr}{vs:List V}{ds:List D}{β:Int}(s:ar G H)(hb:H b=some (.lst [.int β]))(gb:G b=none)(r:cQ K G vs ds)(hn:ds.length + 1<=N.length):SR (Fx.fb K H G ca b) (some b) G H (L2.start N (.ref b :: vs)) (yi N.length ds) β:=by
 have hl:=r.len
 refine⟨s,ar.refl _,λc _ h=>h,λc o h _=>Kt.of h,λc h=>?_,λc h=>h,λc h=>?_,?_,λi t e=>?_,λi j a d e h=>?_⟩
 ·have:c=b:=by simpa using h
  subst this;exact Mx.lst hb
 ·cases h;exact⟨hb,gb,.inl @IN ⟩
 ·unfold L2.start yi;simp;omega
 ·cases i with
  |zero=>
   unfold yi at e
   cases e
   exact⟨b,rfl,rfl⟩
  |succ i=>
   unfold yi at e
   have e:(ds.map Sl.fz ++ List.replicate (N.length - 1 - ds.length) Sl.no)[i]? =some t:=by simpa using e
   by_cases hi:i < ds.length
   ·rw[O0 (by simpa using hi),OK,Ot hi] at e
    cases e
    obtain⟨x,hx,rx⟩:=r.at (Ot hi)
    refine⟨x,?_,rx⟩
    unfold L2.start
    have hi':i < vs.length:=by rw[hl];exact hi
    rw[O0 (by simp;exact hi'),OK,List.getElem?_cons_succ,hx];rfl
   ·rw[O2 (by simpa using hi),PH] at e
    split at e
    ·cases e;trivial
    ·cases e
 ·unfold yi at h
  have hm:=OV h
  rcases OC.mp hm with z |hm
  ·cases z
  rcases OR.mp hm with z |z
  ·obtain⟨_,_,z⟩:=Pj.mp z;cases z
  ·have:=PD z;cases this
def rl {x qual:Str}{st:Stmt}{f:Addr}{fd:FuncData}{N:@H_}{ps:@H_}{k:Nat}{m:SF}(F:xV K x qual st f fd)(S:aF N ps (ah st))(hp:1<=ps.length)
  (hbody:∀(cdv:Value) (A:Around) (outer:List Env) (s:Shared) (H G:Hp) (b:Addr) (E:XK),dN k (A.deeper (envOfC qual (ah st) s.heap.objs.size f cdv))->Ay (j9 (lg P w) P w K mg base N qual (ah st) f cdv A outer s H E) (Fx.fb K H G ca b) E (cG st) m) :
  e8 P w K mg base (lg P w) (k + 1) f fd ps (BW K (ps.length - 1) (sZ N.length (ps.length - 1) m)):=by
 have hpn:ps.length<=N.length:=by have:=congrArg List.length S.pre;rw[Pu] at this;omega
 refine F.Hq S (λvs H Q E h=>?_) (λcdv A outer s H vs Q E hr h=>?_)
 ·obtain⟨b,rest,G,ds,β,rfl,hb,gb,sG,hl,r,_⟩:=h
  rw[O5,r.len];omega
 ·obtain⟨b,rest,G,ds,β,rfl,hb,gb,sG,hl,r,h⟩:=h
  refine⟨_,hbody cdv A outer s H G b E hr,?_⟩
  have I:=SR.startB (ca:=ca) (N:=N) sG hb gb r (@AT)
  refine⟨_,G,some b,β,I,?_⟩
  unfold sZ at h
  rw[Ov hl] at h
  have fin':∀{B G' H' σ env β},SR (Fx.fb K H G ca b) B G' H' σ env β->iw (some b) H H'/\H' b=some (.lst [.int β]):=λJ=>by
   have e:=J.fix b rfl
   have k:∀c o,H c=some o->some b≠some c->Kt _ c o:=λc o ec n=>J.keep c o ec λz=>n (show some b=some c by rw[show c=b by simpa using z])
   exact⟨⟨k,λc o u ec=>k c _ ec λz=>by cases z;rw[hb] at ec;cases ec⟩,(J.box b e).1⟩
  cases q:m (yi N.length ds) β with
  |nx env β'=>rw[q] at h;exact λB G' H' σ J s'=>h .non G' H' (fin' J).1 (fin' J).2 s' J.sub (λc h1 h2=>J.new c h1 h2) Rp.non
  |bk env β'=>rw[q] at h;exact h.elim
  |ct env β'=>rw[q] at h;exact h.elim
  |rt d fr β'=>
   rw[q] at h
   refine λB G' H' σ env v J s' rv=>h v G' H' (fin' J).1 (fin' J).2 s' J.sub (λc h1 h2=>J.new c h1 h2) ?_
   cases fr with
   |true=>exact rv
   |false=>exact rv
  |exc c=>rw[q] at h;exact h.elim
  |bad=>rw[q] at h;exact h.elim
def rS {n p:Nat}{m:SF}(ds:List D)(β:Int)(h:sZ n p m ds β≠.bad):ds.length=p:=by
 unfold sZ at h
 by_cases hl:ds.length=p
 ·exact hl
 ·rw[OA hl] at h;exact absurd rfl h
end
def aB (p:Pr):D:=.tuple [.int p.1,.int p.2]
def wU:D->Option Pr
 | .tuple [.int a,.int b]=>some (a,b)
 |_=>none
def DT {d:D}{p:Pr}(h:wU d=some p):d=aB p:=by
 unfold wU at h
 split at h
 ·cases h;rfl
 ·cases h
def Bx (p:Pr):wU (aB p)=some p:=rfl
def i9:List D->Option (@C_)
 | []=>some []
 |d :: ds=>match wU d,i9 ds with
  |some p,some ps=>some (p :: ps)
  |_,_=>none
theorem mC:∀{ds:List D} {ps:@C_},i9 ds=some ps->ds=ps.map aB
 | [],ps,h=>by cases h;rfl
 |d :: ds,ps,h=>by
  unfold i9 at h
  split at h
  ·rename_i p qs h1 h2;cases h;rw[DT h1,mC h2];rfl
  ·cases h
theorem kR:∀ps:@C_,i9 (ps.map aB)=some ps
 | []=>rfl
 |p :: ps=>by
  show (match wU (aB p),i9 (ps.map aB) with
   |some p,some ps=>some (p :: ps)
   |_,_=>none)=_
  rw[Bx,kR ps]
section
variable {K:Frag}{X:Cx}{G H:Hp}
theorem cQ.pairs:∀{ps:@C_} {xs:List V},cQ K G xs (ps.map aB)->bg K G xs ps
 | [],_,.nil=>.nil
 |p :: ps,_,.cons r t=>by
  cases r with
  |tup hq r=>
   cases r with
   |cons r1 r=>
    cases r with
    |cons r2 r=>cases r;cases r1;cases r2;exact .cons ⟨_,rfl,hq⟩ (cQ.pairs t)
theorem bg.rps:∀{ps:@C_} {xs:List V},bg K G xs ps->cQ K G xs (ps.map aB)
 | [],_,.nil=>.nil
 |p :: ps,_,.cons r t=>by
  obtain⟨a,rfl,q⟩:=r
  exact .cons (.tup q (.cons (.int _) (.cons (.int _) .nil))) (bg.rps t)
def Mk (p:Pr):Bool:=decide (0<=p.1) && decide (p.1 < 8) && decide (0<=p.2) && decide (p.2 < 8)
def Jh {p:Pr}(h:Mk p=true):Sm p:=by
 unfold Mk at h
 simp only[OW,OP] at h
 exact⟨⟨h.1.1.1,h.1.1.2⟩,h.1.2,h.2⟩
variable {Γ:Fx}{E:XK}{e a b c:Expr}{f fa fb fc:VF D}{L La Lb:@G_}{md ma mb mc:Md}{pos:Pos}
end
section
variable {K:Frag}{X:Cx}{G H:Hp}{Γ:Fx}{E:XK}{e a b c:Expr}{f fa fb fc:VF D}{L La Lb:@G_}{md ma mb mc:Md}{pos apos cpos np:Pos}
def gN:D->Option D
 | .int n=>if 0<=n/\n<=1000 then some (.list (fO 0 n.toNat)) else none
 |_=>none
def AQ (n:Nat):cQ K G ((List.range n).map λ(i:Nat)=>V.int (i:Int)) (fO 0 n):=by
 have key:∀l:@G_,cQ K G (l.map λ(i:Nat)=>V.int (i:Int)) (l.map λ(k:Nat)=>int (0 + k)):=by
  intro l
  induction l with
  |nil=>exact .nil
  |cons x l ih=>exact .cons (by show Rp K G (.int (x:Int)) (.int (0 + (x:Int)));rw[PN];exact .int _) ih
 exact key _
theorem rZ {p1 p2 pos2:Pos}(hc:X.calm=true)(hg:Gl X "list")(hm:X.mg "list"=none)(hg2:Gl X "range")(hm2:X.mg "range"=none)(ha:SE X Γ E a fa La ma)
  (he:starEach [a] X.env=(false,eval a X.env) :: starEach [] X.env:=by rfl)
  (he2:starEach [.Call (.Name "range" p2) [a] [] pos2] X.env=(false,eval (.Call (.Name "range" p2) [a] [] pos2) X.env) :: starEach [] X.env:=by rfl) :
  SE X Γ E (.Call (.Name "list" p1) [.Call (.Name "range" p2) [a] [] pos2] [] pos) (f1 fa gN) La .w:=by
 refine PE.post' (mD (sR hc) hg hm (@Ev) (aw (mD B7 hg2 hm2 (@Ev) (aw ha aR he) @Go @Go he) aR he2) @Go @Go he2) λσ H Q ⟨env,G,B,β,I,o⟩=>?_
 refine mr (r:=λx H1 Q=>∃n:Int,[x]= [.int n]/\∀p,H1 p=none->(λ(y:V) (H2:Hp)=>∃(p:Addr) (n:Int),[y]= [V.ref p]/\H2 p=some (.iE 0 n)/\0<=n/\n<=1000/\∀l,H2 l=none->Q (.ref l) (upd H2 l (.lst ((List.range n.toNat).map λ(i:Nat)=>V.int (i:Int))))) (V.ref p) (upd H1 p (.iE 0 n))) ?_ I o
 intro B G H x dx d Q s hB bx e k
 cases dx with
 |int n=>
  obtain rfl:=bx.int
  simp only[gN] at e
  split at e
  ·rename_i hh
   cases e
   refine⟨n,rfl,λp hp=>⟨p,n,rfl,az,hh.1,hh.2,λl hl=>?_⟩⟩
   have hlp:l≠p:=λz=>by subst z;rw[az] at hl;cases hl
   have hlH:H l=none:=by rw[aE hlp] at hl;exact hl
   have x1:=Ext.own s (o:=.iE 0 n) hp
   have x2:=Ext.own x1.gh (o:=.lst ((List.range n.toNat).map λ(i:Nat)=>V.int (i:Int))) hl
   exact k _ _ _ (x1.trans x2) ⟨l,rfl,hlH,s.free hlH,_,az,AQ _⟩
  ·cases e
 |_=>cases e
noncomputable def yQ (d:D):Option D:=match d with
 | .list ds=>(match i9 ds with
  |some ps=>if ps.all Mk=true/\ps.Nodup/\ps.length < 64 then some (.list ((OM.jV 8 (OM.Mem ps)).map aB)) else none
  |none=>none)
 |_=>none
theorem Fd:D9 K (λx=>zq K [x]) yQ .w:=by
 intro B G H x dx d Q s hB bx e k
 cases dx with
 |list ds=>
  simp only[yQ] at e
  cases q2:i9 ds with
  |none=>rw[q2] at e;cases e
  |some ps=>
   rw[q2] at e
   dsimp only at e
   split at e
   ·rename_i hh
    obtain⟨h1,h2,h3⟩:=hh
    cases e
    obtain⟨p,xs,rfl,hq,r⟩:=bx.list s
    rw[mC q2] at r
    have pv:=(r.mono s).pairs
    have sm:∀p,p∈ps->Sm p:=λp hp=>Jh (O9.mp h1 p hp)
    refine⟨p,xs,ps,rfl,.inl hq,pv,sm,h2,h3,λl ws rs hl hpw hr hmem=>?_⟩
    have ers:rs=OM.jV 8 (OM.Mem ps):=OM.mG hr (OM.oz _ _) λx=>by
     rw[hmem x,OM.lH]
     constructor
     ·intro hx;have hs:=sm x hx;exact⟨⟨⟨hs.1.1,hs.1.2⟩,hs.2.1,hs.2.2⟩,hx⟩
     ·intro hx;exact hx.2
    subst ers
    have hh:ar H (upd H l (.lst ws)):=ar.new hl
    refine k _ _ _ (Ext.tups s hh) ⟨l,rfl,hl,?_,ws,az,?_⟩
    ·unfold oR
     rw[s.free hl,az]
     exact OA λy=>y
    ·refine bg.rps (Paired.mapP hpw λv p ⟨a,ea,qa⟩=>⟨a,ea,rL (s.trans hh) ?_⟩)
     exact qa.grow (jP.new hl)
   ·cases e
 |_=>cases e
def BS (ds:List D)(k:D):Option (D×List D):=match k with
 | .int i=>if -(2 ^ 63)<=i/\i < 2 ^ 63 then (match seqIndex? i ds.length with
  |some n=>(match ds[n]? with
   |some d=>some (d,ds.eraseIdx n)
   |none=>none)
  |none=>none) else none
 |_=>none
def kA (i j:Nat)(L:@G_)(f:VF D):SF:=λenv β=>if qv env[i]? =true/\qv env[j]? =true/\i≠j then toS (f (vl env) β) λk β'=>match (aY L env)[j]? with
 |some (.ow (.list es))=>(match BS es k with
  |some (d,es')=>Hr i ((aY L env).set j (.ow (.list es'))) β' λds=>if ds.length < sizeLine then some (ds ++ [d]) else none
  |none=>.bad)
 |_=>.bad else .bad
theorem cQ.eraseIdx:∀{xs:List V} {ds:List D} (i:Nat),cQ K G xs ds->cQ K G (xs.eraseIdx i) (ds.eraseIdx i)
 |_,_,_,.nil=>.nil
 |_,_,0,.cons _ t=>t
 |_,_,i + 1,.cons r t=>.cons r (cQ.eraseIdx i t)
theorem BP (i j:Nat){x y:Str}{np2 apos2 cpos2:Pos}(hb:∀j,Γ.br j=false)(he:SE X Γ E e f L md)(hN:X.N[i]? =some x:=by rfl)(hv:vS X.env.scope x:=by first |exact Or.inl rfl |exact Or.inr (Or.inl rfl) |exact Or.inr (Or.inr rfl))(hd:@FS:=by decide)
  (hcd:(x == ("__classdict__":Str))=false:=by decide)
  (hN2:X.N[j]? =some y:=by rfl) (hv2:vS X.env.scope y:=by first |exact Or.inl rfl |exact Or.inr (Or.inl rfl) |exact Or.inr (Or.inr rfl)) (hd2:(y == ("__debug__":Str))=false:=by decide)
  (hcd2:(y == ("__classdict__":Str))=false:=by decide)
  (hbase:attributeBase (.Name x np) "append" X.env (eval (.Name x np) X.env)=eval (.Name x np) X.env:=by rfl)
  (hfew:((backTo cpos (starEach [.Call (.Attribute (.Name y np2) "pop" apos2) [e] [] cpos2] X.env)).all (λx=> !x.1) && (backToKw cpos (keywordEach [] X.env)).all (λx=>x.1.isSome)
   && decide ([Expr.Call (.Attribute (.Name y np2) "pop" apos2) [e] [] cpos2].length + ([]:List Keyword).length + (if ([]:List Keyword).isEmpty then 0 else 1) < 30))=true:=by rfl)
  (hline:(apos.endLine == cpos.line)=true:=by rfl) (hs:starEach [.Call (.Attribute (.Name y np2) "pop" apos2) [e] [] cpos2] X.env=(false,eval (.Call (.Attribute (.Name y np2) "pop" apos2) [e] [] cpos2) X.env) :: starEach [] X.env:=by rfl)
  (hbase2:attributeBase (.Name y np2) "pop" X.env (eval (.Name y np2) X.env)=eval (.Name y np2) X.env:=by rfl)
  (hfew2:((backTo cpos2 (starEach [e] X.env)).all (λx=> !x.1) && (backToKw cpos2 (keywordEach [] X.env)).all (λx=>x.1.isSome)
   && decide ([e].length + ([]:List Keyword).length + (if ([]:List Keyword).isEmpty then 0 else 1) < 30))=true:=by rfl)
  (hline2:(apos2.endLine == cpos2.line)=true:=by rfl) (hs2:starEach [e] X.env=(false,eval e X.env) :: starEach [] X.env:=by rfl)
  (hsw:swapsWith (.Call (.Attribute (.Name x np) "append" apos) [.Call (.Attribute (.Name y np2) "pop" apos2) [e] [] cpos2] [] cpos) none pos.line X.env=pure false:=by rfl) :
  SS X Γ E (.Expr (.Call (.Attribute (.Name x np) "append" apos) [.Call (.Attribute (.Name y np2) "pop" apos2) [e] [] cpos2] [] cpos) pos) (kA i j L f):=by
 refine PS.post (p8 (zF QC PySem.F.slot_list_append PySem.F.type_list_append mz (ip hN hv hd hcd)
  (aw (zF QC PySem.F.slot_list_pop PySem.F.type_list_pop CP (ip hN2 hv2 hd2 hcd2) (aw he aR hs2) hbase2 hfew2 hline2 hs2 rfl) aR hs) hbase hfew hline hs rfl) hsw) λN σ H ⟨env,G,B,β,I,o⟩=>?_
 unfold kA at o
 by_cases hO:qv env[i]? =true/\qv env[j]? =true/\i≠j
 case neg=>rw[OA hO] at o;exact o.elim
 rw[Ov hO] at o
 obtain⟨hO1,hO2,hij⟩:=hO
 obtain⟨ds0,q0⟩:=nR hO1
 obtain⟨es0,w0⟩:=nR hO2
 obtain⟨p,h1,_,_,_,xs,h5,_⟩:=I.slot i _ q0
 obtain⟨q,k1,_,_,_,ys,k5,_⟩:=I.slot j _ w0
 refine⟨_,h1,.inl ⟨rfl,xs,.inl (.inl h5)⟩,?_⟩
 refine⟨_,k1,.inl ⟨rfl,ys,.inl (.inl k5)⟩,?_⟩
 refine⟨env,G,B,β,I,cR o λkd β' k v G' H' I' s' m' vo=>?_⟩
 cases ej:(aY L env)[j]? with
 |none=>rw[ej] at k;exact k.elim
 |some sj=>
  rw[ej] at k
  cases sj with
  |ow dj=>
   cases dj with
   |list es=>
    dsimp only at k
    cases ep:BS es kd with
    |none=>rw[ep] at k;exact k.elim
    |some pr=>
     obtain⟨d,es'⟩:=pr
     rw[ep] at k
     dsimp only at k
     unfold BS at ep
     cases kd <;> first | (cases ep;done) |skip
     rename_i ii
     dsimp only at ep
     split at ep
     ·rename_i hr
      cases eI:seqIndex? ii es.length with
      |none=>rw[eI] at ep;cases ep
      |some n=>
       rw[eI] at ep
       dsimp only at ep
       cases eD:es[n]? with
       |none=>rw[eD] at ep;cases ep
       |some d0=>
        rw[eD] at ep
        cases ep
        obtain rfl:=(vo.brw I.boxThere).int
        obtain⟨q',g1,_,_,_,zs,g5,g6⟩:=I'.slot j _ ej
        rw[k1] at g1;cases g1
        obtain⟨xv,ex,rx⟩:=g6.at eD
        refine⟨q,zs,ii,n,xv,rfl,rfl,g5,hr.1,hr.2,by rw[g6.len];exact eI,ex,?_⟩
        have I2:=I'.write hb ej k1 (o:=.lst (zs.eraseIdx n)) (d':=.list (es.eraseIdx n)) λH2 e2 s2=>⟨_,e2,g6.eraseIdx n⟩
        obtain⟨ds,fs,eq,eg,k⟩:=qb k
        by_cases hz:ds.length < sizeLine
        case neg=>rw[OA hz] at eg;cases eg
        rw[Ov hz] at eg
        cases eg
        obtain⟨p',f1,_,_,_,us,f5,f6⟩:=I2.slot i _ eq
        rw[h1] at f1;cases f1
        refine⟨p,us,xv,rfl,rfl,f5,by rw[f6.len];exact hz,?_⟩
        exact k B G' _ σ (I2.write hb eq h1 λH2 e2 s2=>⟨_,e2,f6.snoc rx⟩) s'
     ·cases ep
   |_=>exact k.elim
  |_=>exact k.elim
end
def dP:List D->Int->FB
 | [.int m],β=>if 0 < m/\m < 1073741824 then .ok (.int (β % m)) false (β / m) else .bad
 |_,_=>.bad
def Af {ds:List D}{β:Int}(h:dP ds β≠.bad):∃m,ds= [.int m]/\0 < m/\m < 1073741824:=by
 unfold dP at h
 split at h
 ·rename_i m
  by_cases hh:0 < m/\m < 1073741824
  ·exact⟨m,rfl,hh.1,hh.2⟩
  ·rw[OA hh] at h;exact absurd rfl h
 ·exact absurd rfl h
def vG {m β:Int}(h0:0 < m)(h1:m < 1073741824):dP [.int m] β=.ok (.int (β % m)) false (β / m):=Ov ⟨h0,h1⟩
section
variable {P:Program}{w:World}{K:Frag}{mg:@FM}{base:Heap}
def GK {X:Cx}{i j:Nat}{x y:Str}{px py pos:Pos}{k:Nat}(hN:X.N.Nodup)(hi:X.N[i]? =some x)(hj:X.N[j]? =some y)(hx:X.env.scope.names.lookup x=some .local)(hy:X.env.scope.names.lookup y=some .local)(hc:X.calm=true) :
  PG X (.Tuple [.Name x px,.Name y py] k pos) (Gn X.K 2 (qp (la i) (qp (la j) Ga))):=
 rG hc (dW (cS hN hi (Or.inl hx) (Or.inr hx)) (dW (cS hN hj (Or.inl hy) (Or.inr hy)) og))
def Cv {b:Addr}{β m:Int}{H:Hp}{Q:VK}{G:Hp}(hb:H b=some (.lst [.int β]))(s:ar G H){p:Addr}(hp:H p=none)
  (kk:∀v G' H',iw (some b) H H'->H' b=some (.lst [.int (β / m)])->ar G G'->ar G' H'->(∀c,Mx H c->G c=none->G' c=none)->FV K H G' H' false (.int (β % m)) v->Q v H') (gb:G b=none) :
  Q (.int (β % m)) (upd (upd H p (.tup [.int (β / m),.int (β % m)])) b (.lst [.int (β / m)])):=by
 have hbp:b≠p:=aM hb hp
 refine kk _ G _ ⟨λc o e n=>Kt.of (by rw[aE (λz=>n (by rw[z])),aE (aM e hp)];exact e),λc o u e=>by rw[aE (λz=>by rw[z,hb] at e;cases e),aE (aM e hp)];exact e⟩ az (ar.refl _) (λc o e=>?_) (λc _ h=>h) (.int _)
 obtain⟨u,eu,_⟩:=(s c o e).some
 exact jC (jC (s c o e) (aM eu hp) λx y w=>by rw[hp] at w;cases w) (λz=>by rw[z,gb] at e;cases e) λx y w=>by rw[aE hbp,hb] at w;cases w
end
end L2
namespace L2
open PySem PySem.SeqAt PySem.Spec PyProof.Rows
def vL {M:Model}{A:Around}{E:@Db}{s:Shared}{β:Type}{b:Nat}(f:Nat->β->Sem (ForInStep β))(I:@G_->β->Shared->Prop)(Q:β->Shared->Prop)
  (turn:∀x rest b s,I (x :: rest) b s->wpAny M A (f x b) (λr s'=>match r with | .yield b'=>I rest b' s' | .done b'=>Q b' s') E s)
  (fin:∀b s,I [] b s->Q b s) (c:β) (h:I (List.range' 0 b) c s):wpAny M A (forIn [0:b] c f) Q E s:=by
 rw[Std.Legacy.Range.forIn_eq_forIn_range']
 simp only[Std.Legacy.Range.size,Nat.sub_zero,Nat.add_sub_cancel,Nat.div_one]
 exact wpAny_forIn_list f I Q turn fin _ c h
def sP (l:Addr)(items:Array Value)(n:Nat)(dd:@Ix)(sl:Array (Option Value))(x:Value)(e:Value->Bool)(j:Nat)(hj:j < items.size)
  (hit:e items[j]=true) (hno:∀m (hm:m < items.size),m < j->e items[m]=false) :
  Meets (Builtin.«tuple.index» ⟨[.ref l,x],[]⟩)
   (λA R s=>s.heap.get? l=some {cls:=.type "tuple",dict:=dd,data:=.seq items n,slots:=sl}/\(∀y,y∈items->EqAt A.in1 s y x (e y))/\R (.ok (.ret (.int j s.toks))) {s with toks:=s.toks + 1}):=
 .of_wp λprog w A R s h=>by
  obtain⟨hp,g,d,tk,os⟩:=s;obtain⟨hl,he,h⟩:=h
  wp_walk using wpAny_loadPart' hl,vL _ (λrest b s'=>b.1=none/\s'=⟨hp,g,d,tk,os⟩/\∃i,i<=j/\rest=List.range' i (items.size - i)) _
  case turn=>
   rintro y rest b s' ⟨hb,rfl,i,hi,hr⟩
   obtain⟨m,hm⟩:∃m,items.size - i=m + 1:=⟨items.size - i - 1,@AT ⟩
   rw[hm,List.range'_succ] at hr
   obtain⟨rfl,rfl⟩:=List.cons.inj hr
   have hlt:y < items.size:=@AT
   have e1:items[y]? =some items[y]:=by simp[hlt]
   simp only[e1]
   refine Ou (he _ (Array.getElem_mem hlt) prog w _ _ ?_)
   by_cases z:y=j
   ·subst z
    rw[hit]
    wp_walk
    exact⟨_,rfl,h⟩
   ·rw[hno y hlt (@AT)]
    wp_walk
    exact⟨rfl,rfl,y + 1,@AT,by congr 1;omega⟩
  case fin=>
   rintro b s' ⟨hb,rfl,i,hi,hr⟩
   obtain⟨m,hm⟩:∃m,items.size - i=m + 1:=⟨items.size - i - 1,@AT ⟩
   rw[hm,List.range'_succ] at hr
   cases hr
  case h=>
   exact⟨rfl,rfl,0,O7 _,by rw[Nat.min_self];rfl⟩
section
variable {K:Frag}{X:Cx}{G H:Hp}{Γ:Fx}{E:XK}{e a b c:Expr}{f fa fb fc:VF D}{L La Lb:@G_}{md ma mb mc:Md}{pos apos cpos np:Pos}
def ye (k:Int):Value->Bool
 | .int i _=>i == k
 |_=>false
theorem nA {k:Int}:∀{ns:List Int} {us:@GM} (i:Nat) (h:i < us.length) (h2:i < ns.length),Vals (ns.map V.int) us->ye k us[i]=(ns[i] == k)
 | [],_,_,_,h2,_=>absurd h2 (Nat.not_lt_zero _)
 |n :: ns,_,0,_,_,.cons r _=>by obtain⟨t,rfl⟩:=r;rfl
 |n :: ns,_,i + 1,h,h2,.cons _ rs=>nA i (Nat.lt_of_succ_lt_succ h) (Nat.lt_of_succ_lt_succ h2) rs
theorem v5 {k:Int}{t:Tok}(A:Around)(s:Shared):∀{ns:List Int} {us:@GM},Vals (ns.map V.int) us->∀y∈us,EqAt A s y (.int k t) (ye k y)
 | [],_,.nil,y,hy=>by cases hy
 |n :: ns,_,.cons r rs,y,hy=>by
  rcases OC.mp hy with z |z
  ·subst z;obtain⟨t',rfl⟩:=r;exact EqAt.int_int n t' k t
  ·exact v5 A s rs y z
def GN (K:Frag):V->List V->Hp->VK->Prop:=λx vs H Q=>∃(a:Addr) (ns:List Int) (k:Int),x=.ref a/\vs= [.int k]/\hW K H a (ns.map V.int)/\k∈ns/\Q (.int (ns.idxOf k:Nat)) H
def Bg:J0 X "tuple.index" (GN X.K):=by
 intro pins s σ H x vs v us Q I rx rv h
 obtain⟨a,ns,k,rfl,rfl,hq,hk,q⟩:=h
 cases rx
 obtain⟨u,rfl,ru⟩:=vals1 rv
 obtain⟨t,rfl⟩:=ru
 obtain⟨its,rs,pl,hz⟩:=I.tuple hq
 obtain⟨⟨cls,dd,data,sl⟩,ho,hc,n,hd⟩:=id pl
 simp only at hc hd
 subst hc hd
 have hj:ns.idxOf k < ns.length:=List.idxOf_lt_length_iff.mpr hk
 have hlen:its.length=ns.length:=by rw[<-rs.length,OB]
 refine QY PySem.F.slot_tuple_index ⟨_,ho,rfl⟩ PySem.F.entry_tuple_index (PySem.F.args_tuple_index_2 _ _)
  (sP a its.toArray n dd sl (.int k t) (ye k) (ns.idxOf k) (by simpa[hlen] using hj) ?_ ?_) ⟨ho,λy hy=>v5 _ _ rs y (by simpa using hy),?_⟩
 ·have:=nA (k:=k) (ns.idxOf k) (@AT) hj rs
  simpa[List.getElem_idxOf hj] using this
 ·intro m hm hlt
  have hm':m < ns.length:=by simpa[hlen] using hm
  have hne:ns[m]≠k:=λz=>by
   have:=List.not_of_lt_findIdx (p:=(· == k)) hlt
   simp[z] at this
  have:=nA (k:=k) m (@AT) hm' rs
  rw[beq_eq_false_iff_ne.mpr hne] at this;simpa using this
 ·exact⟨.int (ns.idxOf k:Nat),H,I.tok _,⟨_,rfl⟩,q⟩
def Inv.tupleP {pins:@B_}{σ:St}{s:Shared}{p:Addr}{xs:List V}(I:@At)(h:hW X.K H p xs):s.TypeIs (.ref p) "tuple"/\∀a,Value.ref p=.ref a->∃ob,s.heap.get? a=some ob/\ob.dict=none:=by
 rcases h with h | ⟨o,its,n,hk,hc,hs,hz,r,hd⟩
 ·obtain⟨_,_,_,o,e,c,n,d,hd⟩:=h.ok I.hok
  exact⟨⟨o,e,c⟩,λa z=>by cases z;exact⟨o,e,hd⟩⟩
 ·exact⟨⟨o,I.kIn p o hk,hc⟩,λa z=>by cases z;exact⟨o,I.kIn p o hk,hd⟩⟩
def MB (K:Frag)(r:V->List V->Hp->VK->Prop)(to:TE)(t:TA):TE:=λσ H Q=>to σ H λx H1=>(∃p xs,x=.ref p/\hW K H1 p xs)/\t σ H1 λxs H2=>r x xs H2 Q
def Jc {o e:Expr}{es:List Expr}{to:TE}{t:TA}{name:Str}{apos cpos:Pos}{id:String}{r:V->List V->Hp->VK->Prop}(slot:Slot "tuple" name id)(hty:typeOf (.builtin id)=pure (.type "method_descriptor"))(hm:J0 X id r)(ho:PE X o to)(ha:PA X (e :: es) t)
  (hbase:attributeBase o name X.env (eval o X.env)=eval o X.env:=by rfl)
  (hfew:((backTo cpos (starEach (e :: es) X.env)).all (λx=> !x.1) && (backToKw cpos (keywordEach [] X.env)).all (λx=>x.1.isSome)
   && decide ((e :: es).length + ([]:List Keyword).length + (if ([]:List Keyword).isEmpty then 0 else 1) < 30))=true:=by rfl)
  (hline:(apos.endLine == cpos.line)=true:=by rfl) (hs:starEach (e :: es) X.env=(false,eval e X.env) :: starEach es X.env:=by rfl) (hplain:(backTo cpos (starEach es X.env)).any (·.1)=false:=by rfl) :
  PE X (.Call (.Attribute o name apos) (e :: es) [] cpos) (MB X.K r to t):=by
 intro pins s σ H Q I h
 refine wpAny_Call_method_late hbase hfew hline rfl (cc (ho pins s σ H _ I h) λv s1 ⟨x,H1,I1,r1,⟨p,ys,ex,hr⟩,q1⟩=>?_)
 subst ex
 cases r1
 obtain⟨h1,h2⟩:=I1.tupleP hr
 refine⟨"tuple",id,PySem.F.plainAttrs_tuple,slot,hty,h1,h2,?_⟩
 have hA:=ha cpos pins s1 σ H1 _ I1 q1
 rw[hs] at hA ⊢
 refine Calls.callWith_builtin (by show (false || (backTo cpos (starEach es X.env)).any (·.1))=false;rw[hplain] <;> rfl) (Calls.evalArgs_plain ?_)
 exact cc hA λus s2 ⟨vs,H2,I2,r2,q2⟩=>hm pins s2 σ H2 (.ref p) vs (.ref p) us Q I2 rfl r2 q2
def mV:List D->Option (List Int)
 | []=>some []
 | .int i :: ds=>(mV ds).map (i :: ·)
 |_=>none
theorem xk:∀{ds:List D} {ns:List Int},mV ds=some ns->ds=ns.map int
 | [],ns,h=>by cases h;rfl
 | .int i :: ds,ns,h=>by
  unfold mV at h
  cases q:mV ds with
  |none=>rw[q] at h;cases h
  |some ms=>rw[q] at h;cases h;rw[xk q];rfl
 | .none :: _,_,h=>by cases h
 | .bool _ :: _,_,h=>by cases h
 | .str _ :: _,_,h=>by cases h
 | .list _ :: _,_,h=>by cases h
 | .tuple _ :: _,_,h=>by cases h
 | .dict _ :: _,_,h=>by cases h
theorem me:∀ns:List Int,mV (ns.map int)=some ns
 | []=>rfl
 |n :: ns=>by show (mV (ns.map int)).map (n :: ·)=_;rw[me ns];rfl
theorem rE:∀{ns:List Int} {xs:List V},cQ K G xs (ns.map int)->xs=ns.map V.int
 | [],_,.nil=>rfl
 |n :: ns,_,.cons r t=>by cases r;rw[rE t];rfl
def FD (d y:D):Option D:=match d,y with
 | .tuple ds,.int k=>(match mV ds with
  |some ns=>if k∈ns then some (.int (ns.idxOf k:Nat)) else none
  |none=>none)
 |_,_=>none
def zZ:D->Bool
 | .tuple _=>true
 |_=>false
def oW (fa fb:VF D):VF D:=λvs β=>(fa vs β).bnd λx β1=>if zZ x=true then (fb vs β1).bnd λy β2=>R.of (FD x y) β2 else .bad
theorem xm (hK:X.K=Γ.K)(ha:SE X Γ E a fa La ma)(hb:SE X Γ E b fb Lb mb)
  (hbase:attributeBase a "index" X.env (eval a X.env)=eval a X.env:=by rfl)
  (hfew:((backTo cpos (starEach [b] X.env)).all (λx=> !x.1) && (backToKw cpos (keywordEach [] X.env)).all (λx=>x.1.isSome)
   && decide ([b].length + ([]:List Keyword).length + (if ([]:List Keyword).isEmpty then 0 else 1) < 30))=true:=by rfl)
  (hline:(apos.endLine == cpos.line)=true:=by rfl) (hs:starEach [b] X.env=(false,eval b X.env) :: starEach [] X.env:=by rfl) :
  SE X Γ E (.Call (.Attribute a "index" apos) [b] [] cpos) (oW fa fb) (La ++ Lb) .v:=by
 refine PE.post' (Jc PySem.F.slot_tuple_index PySem.F.type_tuple_index Bg ha (aw hb aR hs) hbase hfew hline hs rfl) λσ H Q ⟨env,G,B,β,I,o⟩=>?_
 refine⟨env,G,B,β,I,o.bnd.imp λd1 β1 h x G1 H1 I1 s1 m1 vx=>?_⟩
 have vx:=vx.brw I.boxThere
 cases d1 with
 |tuple ds=>
  rw[Ov (show zZ (.tuple ds)=true from rfl)] at h
  obtain⟨p,xs,rfl,hq,r⟩:=vx.tuple I1.sub
  refine⟨⟨p,xs,rfl,by rw[hK];exact hq⟩,?_⟩
  refine⟨aY La env,G1,B,β1,I1,?_⟩
  rw[dS]
  refine h.bnd.imp λd2 β2 h y G2 H2 I2 s2 m2 vy=>?_
  obtain⟨d,e,k⟩:=h.of
  have vy:=vy.brw I1.boxThere
  cases d2 with
  |int kk=>
   obtain rfl:=vy.int
   simp only[FD] at e
   cases q:mV ds with
   |none=>rw[q] at e;cases e
   |some ns=>
    rw[q] at e
    dsimp only at e
    split at e
    ·rename_i hk
     cases e
     have eds:=xk q
     subst eds
     have exs:=rE r
     subst exs
     have hq2:hW X.K H2 p (ns.map V.int):=by
      rw[hK]
      rcases hq with hq |hq
      ·rcases vx with vx | ⟨_,_,_,vx⟩
       ·cases vx with
        |tup g1 r9=>have z9:=rE r9;subst z9;exact (g1.grow (s2.trans I2.sub).grow)
       ·exact vx.elim
      ·exact .inr hq
     exact⟨p,ns,kk,rfl,rfl,hq2,hk,k _ G2 H2 (by rw[cA];exact I2) (s1.trans s2) (m1.trans m2) (.int _)⟩
    ·cases e
  |_=>simp only[FD] at e;cases e
 |_=>exact h.elim
end
end L2
namespace L2
open PySem PySem.Spec PyProof.Rows
def kS:En->Bool
 | []=>true
 | .no :: env=>kS env
 | .fz _ :: env=>kS env
 |_=>false
theorem iU:∀{env:En} {i:Nat} {s:Sl},kS env=true->env[i]? =some s->s=.no\/∃d,s=.fz d
 | [],_,_,_,e=>by simp at e
 | .no :: env,0,_,_,e=>by simp at e;exact .inl e.symm
 | .fz d :: env,0,_,_,e=>by simp at e;exact .inr ⟨d,e.symm⟩
 | .no :: env,i + 1,s,h,e=>iU (env:=env) h (by simpa using e)
 | .fz d :: env,i + 1,s,h,e=>iU (env:=env) h (by simpa using e)
 | .ow _ :: _,_,_,h,_=>by cases h
 | .br _ :: _,_,_,h,_=>by cases h
 | .bx :: _,_,_,h,_=>by cases h
section
variable {X:Cx}{Γ:Fx}{E:XK}{m:SF}
def SR.drop {B:@Ix}{G H:Hp}{σ:St}{env:En}{β:Int}(I:@GT)(hf:kS env=true):SR (Fx.fn Γ.K H G Γ.ca) none G H σ env 0:=by
 refine⟨I.sub,ar.refl _,λb _ h=>h,λb o h _=>Kt.of h,λb h=>(by cases h),λb h=>(by cases h),λb h=>(by cases h),I.len,λi s e=>?_,λi j a d e h=>?_⟩
 ·rcases iU hf e with rfl | ⟨d,rfl⟩
  ·trivial
  ·exact I.slot i _ e
 ·rcases iU hf h with z | ⟨_,z⟩ <;> cases z
def SR.undrop {B B':@Ix}{G H G' H':Hp}{σ σ':St}{env env':En}{β β':Int}(I:@GT)(J:SR (Fx.fn Γ.K H G Γ.ca) B' G' H' σ' env' β'):SR Γ B G' H' σ (List.replicate env.length .no) β:=by
 have kp:∀b o,H b=some o->Kt H' b o:=λb o e=>J.keep b o e @IN
 have ks:ar H H':=kp
 refine⟨J.sub,I.old.trans J.old,λb h1 h2=>J.new b (I.thereM h1) (I.new b h1 h2),λb o h1 h2=>(I.keep b o h1 h2).step ks,λb hb=>(I.pin b hb).same (kp b),I.fix,λb e=>?_,by rw[Pe];exact I.len,λi s e=>?_,λi j a d e h=>?_⟩
 ·obtain⟨h1,h2,h3⟩:=I.box b e
  exact⟨kp b _ h1,J.new b (Mx.lst h1) h2,h3⟩
 ·rw[PD (OV e)];trivial
 ·have:=PD (OV h);cases this
def SR.forget {B:@Ix}{G H H':Hp}{σ:St}{env:En}{β:Int}(I:@GT)(hh:ar H H'):SR Γ B G H' σ env β:=I.ext ⟨hh,ar.refl _,I.sub.trans hh,λ_ _=>rfl⟩
end
section
variable {κ:Type}[DecidableEq κ]
def putK (kvs:List (κ×V))(k:κ)(v:V):List (κ×V):=
 if (kvs.any λkv=>decide (kv.1=k))=true then kvs.map (λkv=>if kv.1=k then (kv.1,v) else kv) else kvs ++ [(k,v)]
def xw (kvs:List (κ×V))(k:κ)(v:V):(putK kvs k v).length<=kvs.length + 1:=by
 unfold putK
 split
 ·rw[OB];omega
 ·rw[OT,O5,length_nil];omega
theorem KV.any {kvs:List (κ×V)}{vs:List (κ×Value)}(r:KV kvs vs)(k:κ):(kvs.any λkv=>decide (kv.1=k))=vs.any λkv=>decide (kv.1=k):=by
 unfold KV at r
 induction r with
 |nil=>rfl
 |cons h t ih=>rw[Qo,Qo,ih,h.1]
theorem KV.repl {kvs:List (κ×V)}{vs:List (κ×Value)}(r:KV kvs vs)(k:κ){y:V}{u:Value}(ry:RelV y u) :
  KV (kvs.map λkv=>if kv.1=k then (kv.1,y) else kv) (vs.map λkv=>if kv.1=k then (kv.1,u) else kv):=by
 unfold KV at r ⊢
 induction r with
 |nil=>exact .nil
 | @cons p q ps qs h t ih=>
  rw[PM,PM]
  refine .cons ?_ ih
  obtain⟨h1,h2⟩:=h
  by_cases e:p.1=k
  ·rw[Ov e,Ov (h1.symm.trans e)];exact⟨h1,ry⟩
  ·rw[OA e,OA (λz=>e (h1.trans z))];exact⟨h1,h2⟩
def KV.put {kvs:List (κ×V)}{vs:List (κ×Value)}(r:KV kvs vs)(k:κ){y:V}{u:Value}(ry:RelV y u):KV (putK kvs k y) (stored vs k u):=by
 unfold putK stored
 rw[r.any k]
 by_cases e:(vs.any λkv=>decide (kv.1=k))=true
 ·rw[Ov e,Ov e];exact r.repl k ry
 ·rw[OA e,OA e];exact Paired.snoc r ⟨rfl,ry⟩
end
theorem Lj {P:Program}{w:World}{k:Key}{u:Value}(r:RelV (kV k) u):(fK P w).is k u=true:=by
 cases k with
 |inl i=>obtain⟨t,e⟩:=(show ∃t,u=Value.int i t from r);subst e;exact vZ P w i t
 |inr x=>obtain⟨t,e⟩:=(show ∃t,u=Value.str x t from r);subst e;exact wO P w x t
section
variable {P:Program}{w:World}{H:Hp}{h:Heap}{a:Addr}
def Lf {u:HO}(ok:lq P w H h)(e:Rd H a u):cw P w H h a u:=e.ok ok
def K3 {kvs:List (Key×V)}(ok:lq P w H h)(e:Rd H a (.dK kvs)):kvs.length<=sizeLine/\(a == sysModules)=false/\∃vs,KV kvs vs/\h.DictOf (fK P w) a vs:=
 show cw P w H h a (.dK kvs) from Lf ok e
def KJ {kvs:List (Key×V)}(ok:lq P w H h)(e:H a=some (.dK kvs)):kvs.length<=sizeLine/\(a == sysModules)=false/\∃vs,KV kvs vs/\h.DictOf (fK P w) a vs:=K3 ok (.inl e)
end
section
variable {X:Cx}{pins:@B_}{σ:St}{H:Hp}{s:Shared}{a:Addr}{y v:V}{u r:Value}{o:Option V}{A:Around}{E:@Db}
def Inv.big (I:@At):sysModules < s.heap.objs.size:=by
 have h:mainGlobals < s.heap.objs.size:=(I.mod.glob.keeps I.bk).lt
 exact Qy @Go h
def EC {h':Heap}{t':Nat}{ob:HO}(I:@At)(mu:Kr (H a))(hs:Heap.SameBut a s.heap h')(he:∃q,h'.get? a=some q)(new:cw X.prog X.w (upd H a ob) h' a ob) :
  Inv X pins σ (upd H a ob) {s with heap:=h',toks:=t'}:=
 I.write (x:=a) (e:=a) mu (.inl rfl) (λb q hb z=>(hs.2 b hb).trans z) he new
def HX {P:Program}{w:World}{H':Hp}{h':Heap}{kvs:List (Key×V)}{vs:List (Key×Value)}(z:kvs.length<=sizeLine)(hd:(a == sysModules)=false)(rel:KV kvs vs)(dd:h'.DictOf (fK P w) a vs) :
  cw P w H' h' a (.dK kvs):=⟨z,hd,vs,rel,dd⟩
end
def DF {P:Program}{w:World}{H:Hp}(h:Heap)(hb:sysModules < h.objs.size):cw P w H (h.push {cls:=.type "dict",data:=.dict #[]}) h.objs.size (.dK []):=
 ⟨O7 _,beq_eq_false_iff_ne.mpr (Ne.symm (OX hb)),[],.nil,Heap.DictOf.new h⟩
def zm:List (TE×TE)->St->Hp->(List (V×V)->Hp->Prop)->Prop
 | [],_,H,Q=>Q [] H
 | (tk,tv) :: r,σ,H,Q=>tk σ H λx H1=>tv σ H1 λy H2=>zm r σ H2 λps H3=>Q ((x,y) :: ps) H3
abbrev VV:List (V×V)->List (Value×Value)->Prop:=Paired λp q=>RelV p.1 q.1/\RelV p.2 q.2
def LW (X:Cx)(pos:Pos)(keys:List (Option Expr))(values:List Expr)(trs:List (TE×TE)):Prop:=
 ∀(pins:@B_) (s:Shared) (σ:St) (H:Hp) (Q:List (V×V)->Hp->Prop),@At->zm trs σ H Q->
  wpAny @Cl X.A (evalPairs (pairTrees keys values X.env pos)) (λvs s'=>∃ps H',Inv X pins σ H' s'/\VV ps vs/\Q ps H') X.xe s
def GC {X:Cx}{pos:Pos}:LW X pos [] [] []:=λpins s σ H Q I h=>pairTrees_nil_walk ⟨[],H,I,.nil,h⟩
def Ek {X:Cx}{pos:Pos}{k v:Expr}{ks:List (Option Expr)}{vs:List Expr}{tk tv:TE}{trs:List (TE×TE)}(hk:PE X k tk)(hv:PE X v tv)(hr:LW X pos ks vs trs) :
  LW X pos (some k :: ks) (v :: vs) ((tk,tv) :: trs):=λpins s σ H Q I h=>
 pairTrees_cons_walk (cc (hk pins s σ H _ I h) λu s1 ⟨x,H1,I1,rx,q1⟩=>cc (hv pins s1 σ H1 _ I1 q1) λw2 s2 ⟨y,H2,I2,ry,q2⟩=>
  cc (hr pins s2 σ H2 _ I2 q2) λws s3 ⟨ps,H3,I3,rel,q3⟩=>⟨(x,y) :: ps,H3,I3,.cons ⟨rx,ry⟩ rel,q3⟩)
def rW (kvs more:List (Key×V)):List (Key×V):=more.foldl (λacc kv=>putK acc kv.1 kv.2) kvs
theorem KV.merge:∀{more:List (Key×V)} {rs:List (Key×Value)} {kvs:List (Key×V)} {vs:List (Key×Value)},KV more rs->KV kvs vs->KV (rW kvs more) (merged vs rs):=by
 intro more rs kvs vs r
 unfold KV at r
 induction r generalizing kvs vs with
 |nil=>intro q;exact q
 | @cons p q ps qs h t ih=>
  intro r0
  have e:KV (putK kvs p.1 p.2) (stored vs q.1 q.2):=by
   have:=r0.put p.1 h.2
   rw[<-h.1];exact this
  exact ih e
theorem mW:∀(more kvs:List (Key×V)),(rW kvs more).length<=kvs.length + more.length
 | [],kvs=>by show kvs.length<=kvs.length + 0;omega
 |p :: r,kvs=>by
  have h1:=mW r (putK kvs p.1 p.2)
  have h2:=xw kvs p.1 p.2
  show (rW (putK kvs p.1 p.2) r).length<=_
  rw[O5];omega
theorem qW {P:Program}{w:World}:∀{kvs:List (Key×V)} {ws:List (Value×Value)},VV (kvs.map λkv=>(kV kv.1,kv.2)) ws->∃rs,Carries (fK P w) ws rs/\KV kvs rs
 | [],_,r=>by rw[List.map_nil] at r;cases r;exact⟨[],True.intro,.nil⟩
 |p :: kvs,_,r=>by
  rw[PM] at r
  cases r with
  | @cons a b as bs h t=>
   obtain⟨rs,c,q⟩:=qW (P:=P) (w:=w) t
   obtain⟨b1,b2⟩:=b
   exact⟨(p.1,b2) :: rs,⟨Lj h.1,rfl,c⟩,.cons ⟨rfl,h.2⟩ q⟩
def Ln (trs:List (TE×TE)):TE:=λσ H Q=>∀p,H p=none->zm trs σ (upd H p (.dK [])) λps H2=>H2 p=some (.dK [])/\∃kvs:List (Key×V),ps=kvs.map (λkv=>(kV kv.1,kv.2))/\kvs.length<=15/\Q (.ref p) (upd H2 p (.dK (rW [] kvs)))
def FT {X:Cx}{pos:Pos}{keys:List (Option Expr)}{values:List Expr}{trs:List (TE×TE)}(h:LW X pos keys values trs)(hall:keys.all (·.isSome)=true)(hl:keys.length=values.length)(h0:keys≠ [])
  (h15:keys.length<=15):PE X (.Dict keys values pos) (Ln trs):=by
 intro pins s σ H Q I q
 have hn:=I.hok.fresh (Ox s.heap.objs.size)
 have I1:=I.laid (a:=s.heap.objs.size) (o:=.dK []) (h':=s.heap.push {cls:=.type "dict",data:=.dict #[]}) (t':=s.toks) (λ_ _ q=>Ow _ q) (Ox _) (DF s.heap I.big)
 refine wpAny_Dict_walk (knd:=fK X.prog X.w) hall hl h0 h15 (cc (h pins _ σ _ _ I1 (q _ hn)) λws s2 ⟨ps,H2,I2,rel,e,kvs,ep,lk,q2⟩=>?_)
 subst ep
 obtain⟨rs,c,rk⟩:=qW (P:=X.prog) (w:=X.w) rel
 obtain⟨z,hd,vs0,r0,dd⟩:=KJ I2.hok e
 cases r0
 refine⟨rs,c,dd,λh' dd' hs=>⟨.ref s.heap.objs.size,_,?_,rfl,q2⟩⟩
 have hz:(rW [] kvs).length<=sizeLine:=by
  have h1:=mW kvs []
  rw[length_nil] at h1
  rw[O4];omega
 have he:∃q,h'.get? s.heap.objs.size=some q:=let ⟨q,_,_,hq,_⟩:=dd';⟨q,hq⟩
 exact EC I2 (by rw[e];exact True.intro) hs he (HX hz hd (rk.merge .nil) dd')
section
variable {X:Cx}{Γ:Fx}{E:XK}{pos:Pos}
def GX {k:Str}{i:Int}{j j'}{p p':Pos}:SE X Γ E (.Dict [some (.Constant (.str k) j p)] [.Constant (.int i) j' p'] pos) (cst (.dict [(.str k,.int i)])) [] .v:=by
 refine PE.post' (FT (Ek Cd pB GC) rfl rfl @IN @IN) ?_
 rintro σ H Q ⟨env,G,B,β,I,o⟩ p hp
 have o:∀v G' H',SR Γ B G' H' σ (aY [] env) β->ar G G'->iw B H H'->Rp Γ.K G' v (.dict [(.str k,.int i)])->Q v H':=o
 refine⟨az,[(.inr k,.int i)],rfl,by simp,?_⟩
 rw[EK]
 have xn:=Ext.new I.sub (o:=.dK [((.inr k:Key),V.int i)]) hp
 exact o _ _ _ (I.ext xn) xn.gg (xn.hh.mov B) (.dK (kvs:=[((.inr k:Key),V.int i)]) az (.cons (.int i) .nil))
end
abbrev EB (n:Nat):@G_:=[n + 1,n]
def Bo:bootBuiltins "enumerate"=some (.type "enumerate"):=@Ev
section
variable {X:Cx}{Γ:Fx}{E:XK}{e a b c:Expr}{f fa fb:VF D}{L La Lb:@G_}{md ma mb:Md}{pos:Pos}
def fV (ds:List D):List D:=ds.mapIdx λi d=>.tuple [.int i,d]
end
end L2
namespace L2
open PySem PySem.Spec PyProof.Rows PySem.MeetsSeq PySem.MeetsSeq2 PySem.MeetsSeq3
def Hd (K:Frag):R2:=λx y H Q=>∃a b xs ys,x=.ref a/\y=.ref b/\hW K H a xs/\hW K H b ys/\xs.length + ys.length<=sizeLine/\
 (xs= []->Q (.ref b) H)/\(xs≠ []->ys= []->Q (.ref a) H)/\(xs≠ []->ys≠ []->∀p,H p=none->Q (.ref p) (upd H p (.tup (xs ++ ys))))
section
variable {X:Cx}
def Dd:kW X (binaryOp .Add) (Hd X.K):=by
 intro pins s σ H x y v u Q I rx ry h
 obtain⟨a,b,xs,ys,rfl,rfl,ha,hb,hz,q0,q1,q2⟩:=h
 by_cases hx:xs= []
 ·cases rx
  cases ry
  obtain⟨its,r1,p1,_⟩:=I.tuple ha
  obtain⟨its2,r2,p2,_⟩:=I.tuple hb
  obtain⟨⟨cls,dd,data,sl⟩,ho,hc,n,hd⟩:=id p1
  obtain⟨⟨cls2,dd2,data2,sl2⟩,ho2,hc2,n2,hd2⟩:=id p2
  simp only at hc hd hc2 hd2
  subst hc hd hc2 hd2
  have he:its= []:=r1.nil_iff.mpr hx
  exact concat_meets ⟨_,ho,rfl⟩ ⟨_,ho2,rfl⟩ noFill_tuple_add seq_tuple_add PySem.F.slot_tuple_add PySem.F.entry_tuple_add (QT _ _)
   (tuple_addW0 a b its.toArray its2.toArray n n2 dd dd2 sl sl2 (by simp[he])) ⟨ho,ho2,.ref b,H,I,rfl,q0 hx⟩
 ·exact E3 pins s σ H _ _ v u Q I rx ry ⟨a,b,xs,ys,rfl,rfl,ha,hb,hx,hz,q1 hx,q2 hx⟩
end
def qz:D->D->Option D
 | .tuple a,.tuple b=>if a.length + b.length<=sizeLine then some (.tuple (a ++ b)) else none
 |_,_=>none
def IM {K:Frag}:nj K (Hd K) qz .v:=by
 intro B G H x y dx dy d Q s hB bx by' e k
 cases dx <;> cases dy <;> first | (cases e;done) |skip
 rename_i a b
 simp only[qz] at e
 split at e
 ·rename_i hz
  cases e
  rcases bx with bx | ⟨_,_,_,q⟩
  case inr=>exact q.elim
  rcases by' with by' | ⟨_,_,_,q⟩
  case inr=>exact q.elim
  cases bx with
  | @tup p xs _ hp r1=>
   cases by' with
   | @tup q ys _ hq r2=>
    refine⟨p,q,xs,ys,rfl,rfl,hp.grow s.grow,hq.grow s.grow,by rw[r1.len,r2.len];exact hz,λz=>?_,λz z'=>?_,λ_ _ l hl=>?_⟩
    ·subst z
     cases r1
     exact k _ G H (Ext.refl s) (.tup hq r2)
    ·subst z'
     cases r2
     rw[Qa] at k
     exact k _ G H (Ext.refl s) (.tup hp r1)
    ·have xn:=Ext.new s (o:=.tup (xs ++ ys)) hl
     exact k _ _ _ xn (.tup (.inl (.inl az)) ((r1.append r2).mono xn.gg))
 ·cases e
end L2
namespace L2
open PySem PySem.Spec PyProof.Rows
def isStar:Expr->Bool
 | .Starred _ _=>true
 |_=>false
def AY {a:Expr}{es:List Expr}{env:Env}(h:isStar a=false):starEach (a :: es) env=(false,eval a env) :: starEach es env:=by
 cases a <;> first |rfl |cases h
def Jf (sc:Scope)(x:Str):Bool:=match sc.names.lookup x with
 |some .local=>true
 |some .cell=>true
 |some .free=>true
 |_=>false
def FX {sc:Scope}{x:Str}(h:Jf sc x=true):vS sc x:=by
 unfold Jf at h
 unfold vS
 split at h
 ·exact .inl (by assumption)
 ·exact .inr (.inl (by assumption))
 ·exact .inr (.inr (by assumption))
 ·cases h
def y6 (N:@H_)(sc:Scope):List (Str×Nat)->Bool
 | []=>true
 | (x,i) :: r=>decide (N[i]? =some x) && (Jf sc x && ((!(x == ("__debug__":Str))) && ((!(x == ("__classdict__":Str))) && y6 N sc r)))
theorem zA {N:@H_}{sc:Scope}:∀{l:List (Str×Nat)} {x:Str} {i:Nat},y6 N sc l=true->l.lookup x=some i->N[i]? =some x/\vS sc x/\@FS/\(x == ("__classdict__":Str))=false
 | [],_,_,_,h=>by cases h
 | (y,j) :: r,x,i,h,e=>by
  simp only[y6,OW,OP,P5] at h
  obtain⟨h1,h2,h3,h4,h5⟩:=h
  rw[Qx] at e
  split at e
  ·rename_i q
   have q:x=y:=by simpa using q
   subst q
   cases e
   exact⟨h1,FX h2,h3,h4⟩
  ·exact zA h5 e
def BN:Expr->Option Int
 | .Constant (.int i) _ _=>some i
 |_=>none
theorem qd {e:Expr}{i:Int}(h:BN e=some i):∃j p,e=.Constant (.int i) j p:=by
 cases e with
 |Constant c j p=>cases c <;> first | (cases h;exact⟨_,_,rfl⟩) |cases h
 |_=>cases h
def MN (op:UnaryOp)(e:Expr):Option Int:=match op with
 | .USub=>BN e
 |_=>none
def G8:Operator->Bool
 | .Pow=>true
 |_=>false
def DG {o:Operator}(h:G8 o=true):o=.Pow:=by cases o <;> first |rfl |cases h
def JO (ks:List (Option Expr))(vs:List Expr):Option (Str×Int):=match ks,vs with
 | [some (.Constant (.str k) _ _)],[v]=>(BN v).map λi=>(k,i)
 |_,_=>none
def Fe {ks:List (Option Expr)}{vs:List Expr}{r:Str×Int}(h:JO ks vs=some r):∃j p j' p',ks= [some (.Constant (.str r.1) j p)]/\vs= [.Constant (.int r.2) j' p']:=by
 unfold JO at h
 split at h
 ·rename_i k j p v
  cases q:BN v with
  |none=>rw[q] at h;cases h
  |some i=>
   rw[q] at h
   cases h
   obtain⟨j',p',rfl⟩:=qd q
   exact⟨_,_,_,_,rfl,rfl⟩
 ·cases h
def NA:Const->Option D
 | .int i=>some (.int i)
 | .bool b=>some (.bool b)
 | .none=>some .none
 | .str x=>some (.str x)
 |_=>none
mutual
def rD (nm:List (Str×Nat)):Expr->Option (VF D×@G_)
 | .Name x _=>(nm.lookup x).map λi=>(gv i,[i])
 | .Constant c _ _=>(NA c).map λd=>(cst d,[])
 | .UnaryOp op a _=>(MN op a).map λi=>(cst (.int (-i)),[])
 | .BinOp a o b _=>if G8 o=true then (BN a).bind λi=>(BN b).map λj=>(f2 (cst (.int i)) (cst (.int j)) ED,[]) else none
 | .Dict ks vs _=>(JO ks vs).map λr=>(cst (.dict [(.str r.1,.int r.2)]),[])
 | .Tuple es _ _=>(HB nm es).map λr=>(aO r.1,r.2)
 | .List es _=>(HB nm es).map λr=>(bz r.1,r.2)
 | .BoolOp ..=>none
 | .NamedExpr ..=>none
 | .Lambda ..=>none
 | .IfExp ..=>none
 | .Set ..=>none
 | .ListComp ..=>none
 | .SetComp ..=>none
 | .DictComp ..=>none
 | .GeneratorExp ..=>none
 | .Await ..=>none
 | .Yield ..=>none
 | .YieldFrom ..=>none
 | .Compare ..=>none
 | .Call ..=>none
 | .FormattedValue ..=>none
 | .JoinedStr ..=>none
 | .Attribute ..=>none
 | .Subscript ..=>none
 | .Starred ..=>none
 | .Slice ..=>none
def HB (nm:List (Str×Nat)):List Expr->Option (VF (List D)×@G_)
 | []=>some (ag,[])
 |e :: es=>(rD nm e).bind λr=>(HB nm es).map λq=>(ae r.1 q.1,r.2 ++ q.2)
end
section
variable {X:Cx}{Γ:Fx}{E:XK}{nm:List (Str×Nat)}
theorem lY {α β:Type}{o:Option α}{f:α->β}{b:β}(h:o.map f=some b):∃a,o=some a/\f a=b:=by
 cases o with
 |none=>cases h
 |some a=>exact⟨a,rfl,Option.some.inj h⟩
theorem Am {α β:Type}{o:Option α}{f:α->Option β}{b:β}(h:o.bind f=some b):∃a,o=some a/\f a=some b:=by
 cases o with
 |none=>cases h
 |some a=>exact⟨a,rfl,h⟩
mutual
theorem LQ (hc:y6 X.N X.env.scope nm=true)(hb:∀i,Γ.br i=false):∀{e:Expr} {f:VF D} {L:@G_},rD nm e=some (f,L)->SE X Γ E e f L .v/\isStar e=false
 | .Name x p,f,L,h=>by
  rw[rD] at h
  obtain⟨i,q,e⟩:=lY h
  cases e
  obtain⟨h1,h2,h3,h4⟩:=zA hc q
  exact⟨aq i (hb i) h1 h2 h3 h4,rfl⟩
 | .Constant c j p,f,L,h=>by
  rw[rD] at h
  obtain⟨d,q,e⟩:=lY h
  cases e
  cases c <;> first | (cases q;first |exact⟨ax,rfl⟩ |exact⟨jT,rfl⟩ |exact⟨qN,rfl⟩ |exact⟨jJ,rfl⟩) |cases q
 | .UnaryOp op a p,f,L,h=>by
  rw[rD] at h
  obtain⟨i,q,e⟩:=lY h
  cases e
  cases op <;> first | (cases q;done) |skip
  obtain⟨j,p,rfl⟩:=qd q
  exact⟨v8 qF xG ax,rfl⟩
 | .BinOp a op b p,f,L,h=>by
  rw[rD] at h
  split at h
  ·rename_i ho
   obtain rfl:=DG ho
   obtain⟨i,q,h⟩:=Am h
   obtain⟨j,q2,e⟩:=lY h
   cases e
   obtain⟨j1,p1,rfl⟩:=qd q
   obtain⟨j2,p2,rfl⟩:=qd q2
   exact⟨bL Cg HF ax ax,rfl⟩
  ·cases h
 | .Dict ks vs p,f,L,h=>by
  rw[rD] at h
  obtain⟨r,q,e⟩:=lY h
  cases e
  obtain⟨_,_,_,_,rfl,rfl⟩:=Fe q
  exact⟨GX,rfl⟩
 | .Tuple es c p,f,L,h=>by
  rw[rD] at h
  obtain⟨r,q,e⟩:=lY h
  cases e
  exact⟨cC (uG hc hb q),rfl⟩
 | .List es p,f,L,h=>by
  rw[rD] at h
  obtain⟨r,q,e⟩:=lY h
  cases e
  exact⟨SE.wv (bN (uG hc hb q)),rfl⟩
 | .BoolOp ..,_,_,h=>by rw[rD] at h;cases h
 | .NamedExpr ..,_,_,h=>by rw[rD] at h;cases h
 | .Lambda ..,_,_,h=>by rw[rD] at h;cases h
 | .IfExp ..,_,_,h=>by rw[rD] at h;cases h
 | .Set ..,_,_,h=>by rw[rD] at h;cases h
 | .ListComp ..,_,_,h=>by rw[rD] at h;cases h
 | .SetComp ..,_,_,h=>by rw[rD] at h;cases h
 | .DictComp ..,_,_,h=>by rw[rD] at h;cases h
 | .GeneratorExp ..,_,_,h=>by rw[rD] at h;cases h
 | .Await ..,_,_,h=>by rw[rD] at h;cases h
 | .Yield ..,_,_,h=>by rw[rD] at h;cases h
 | .YieldFrom ..,_,_,h=>by rw[rD] at h;cases h
 | .Compare ..,_,_,h=>by rw[rD] at h;cases h
 | .Call ..,_,_,h=>by rw[rD] at h;cases h
 | .FormattedValue ..,_,_,h=>by rw[rD] at h;cases h
 | .JoinedStr ..,_,_,h=>by rw[rD] at h;cases h
 | .Attribute ..,_,_,h=>by rw[rD] at h;cases h
 | .Subscript ..,_,_,h=>by rw[rD] at h;cases h
 | .Starred ..,_,_,h=>by rw[rD] at h;cases h
 | .Slice ..,_,_,h=>by rw[rD] at h;cases h
theorem uG (hc:y6 X.N X.env.scope nm=true)(hb:∀i,Γ.br i=false):∀{es:List Expr} {f:VF (List D)} {L:@G_},HB nm es=some (f,L)->SA X Γ E es f L
 | [],f,L,h=>by rw[HB] at h;cases h;exact ao
 |e :: es,f,L,h=>by
  rw[HB] at h
  obtain⟨r,q,h⟩:=Am h
  obtain⟨r2,q2,e⟩:=lY h
  cases e
  obtain⟨a,b⟩:=LQ hc hb q
  exact af a (uG hc hb q2) (AY b)
end
def FC {es:List Expr}{p:Pos}{t:Option Expr}{l:Nat}{env:Env}:swapsWith (.List es p) t l env=pure false:=rfl
def Ht {es:List Expr}{f:VF (List D)}{L:@G_}{pos:Pos}(nm:List (Str×Nat))(hc:y6 X.N X.env.scope nm=true)(hb:∀i,Γ.br i=false)(h:HB nm es=some (f,L)):SE X Γ E (.List es pos) (bz f) L .w:=bN (uG hc hb h)
def Km {i:Nat}{x:Str}{es:List Expr}{f:VF (List D)}{L:@G_}{pos' p pos:Pos}(nm:List (Str×Nat))(hc:y6 X.N X.env.scope nm=true)(hb:∀i,Γ.br i=false)(h:HB nm es=some (f,L))(hN:X.N.Nodup)(hi:X.N[i]? =some x)(hx:Loc X.env.scope x)(hf:X.fn x=true\/X.env.scope.names.lookup x=some .local) :
  SS X Γ E (.Assign [.Name x pos'] (.List es p) pos) (bK i L (bz f)):=a9 (SE.wv (Ht nm hc hb h)) hN hi hx FC hf
end
def GO {prog:Program}{w:World}{A:Around}{it t:Addr}{xs:Array Value}(hh:A.handled=none)(i:Nat)(hx:xs[i]? =none):Draws prog w A it [it,t] i (λ_ _=>False) (λj h=>j=i/\h.IsListIter it t i/\h.IsList t xs) where
 live:=λ_ _ st=>let ⟨o,ho,_⟩:=st.2.1;⟨o,ho⟩
 frame:=λ_ _ _ st hk=>⟨st.1,st.2.1.at λo e=>hk it @IN o e,st.2.2.at λo e=>hk t @IN o e⟩
 item:=λj s Q E hi st k=>absurd st.1 (@AT)
 done:=λs Q E st k=>wpAny_nextOf_list_end hh st.2.1 st.2.2 hx k
def HW (K:Frag)(a:Addr):It:=
 ⟨λi H=>∃xs x,iY K H a xs/\xs[i]? =some x,
  λi H v H'=>∃x t,H t=none/\(∀xs,iY K H a xs->xs[i]? =some x)/\v=.ref t/\H'=upd H t (.tup [.int i,x]),
  λi H=>∃xs,iY K H a xs/\xs.length<=i⟩
def Bs {h:Heap}{a n:Addr}{i:Nat}{its:Array Value}{b:Addr}(p:h.IsList a its)(q:h.IsListIter n b i):a≠n:=λz=>by
 subst z
 obtain⟨o,e,c,_⟩:=p
 obtain⟨o',e',c',_⟩:=q
 rw[e] at e';cases e'
 rw[c] at c'
 simp at c'
def Bf {h:Heap}{a n it:Addr}{i:Int}{its:Array Value}{old:Value}(p:h.IsList a its)(q:IsEnum h n it i old):n≠a:=λz=>by
 subst z
 obtain⟨o,e,c,_⟩:=p
 rw[q] at e;cases e
 simp at c
def y0 {P:Program}{w:World}{K:Frag}{elts:List Expr}{x1}{pos:Pos}(a:Addr)(n:Nat):Turn P w K (.Tuple elts x1 pos) (HW K a) (EB n) (n + 1)
  (λi h=>(∃old,IsEnum h (n + 1) n i old)/\h.IsListIter n a i) where
 mem:=by simp
 obj:=λi h st c hc=>by
  obtain⟨⟨old,z1⟩,⟨o2,z2,_,d2⟩⟩:=st
  simp only[EB,OC,PB,Qz] at hc
  rcases hc with rfl |rfl
  ·exact⟨_,z1,λv z=>by
    have z':Data.fields _=Data.cell v:=z
    cases z'⟩
  ·exact⟨o2,z2,λv z=>by rw[d2] at z;cases z⟩
 keep:=λi h h' st k=>by
  obtain⟨⟨old,z1⟩,z2⟩:=st
  exact⟨⟨old,k _ @IN _ z1⟩,z2.at λo e=>k _ @IN o e⟩
 item:=by
  intro X hP hw hK hc i pins s σ H E I hf st hg
  subst hP hw hK
  obtain⟨xs,x,ha,hx⟩:=hg
  obtain⟨its,rv,p,hz⟩:=I.list ha
  have p:s.heap.IsList a its.toArray:=p.isList
  obtain⟨u0,hu0,ru0⟩:=rv.get hx
  obtain⟨⟨old,z1⟩,z2⟩:=st
  have hh:X.A.in1.handled=none:=I.ok.hd hc
  have hlt:i < its.toArray.size:=by
   have:=Oy.mp hu0
   simpa using this.1
  refine wpAny_pyNext_enum_itemD (Draws.list hh n a (Bs p z2) its.toArray) z1 ⟨z2,p⟩ hlt (M5 1 0 rfl) (by
   simp only[OC,PB,Qz,not_or]
   exact⟨M5 1 0 rfl,Bf p z1⟩) λu h' tk hu q1 q2 q3 q4 q5=>?_
  have eu:u0=u:=by
   have hu:its.toArray[i]? =some u:=hu
   rw[List.getElem?_toArray,hu0] at hu
   exact Option.some.inj hu
  subst eu
  refine⟨_,rfl,wpAny_letOwnedTupleGo_enum (s:={s with heap:=h',toks:=tk + 1}) q1 λh2 r1 r2=>?_⟩
  have r2:∀c,c≠n + 1->h2.get? c=h'.get? c:=r2.2
  have lz:n + 1 < s.heap.objs.size:=Oz z1
  have hT:H s.heap.objs.size=none:=I.hok.fresh (Ox _)
  have I1:Inv X pins σ (upd H s.heap.objs.size (.tup [.int i,x])) {s with heap:=s.heap.push {cls:=.type "tuple",data:=.seq #[.int i tk,u0]},toks:=s.toks}:=
   I.laid (λb o e=>Ow _ e) (Ox _) ⟨by show 2<=sizeLine;rw[O4];omega,[.int i tk,u0],.cons ⟨tk,rfl⟩ (.cons ru0 .nil),vp.new _ _⟩
  have hf':∀c∈EB n,g9 X pins (upd H s.heap.objs.size (.tup [.int i,x])) c:=λc hc=>⟨by
   rw[aE (λz=>?_)]
   ·exact (hf c hc).1
   ·subst z
    simp only[EB,OC,PB,Qz] at hc
    omega,(hf c hc).2⟩
  have I2:Inv X pins σ (upd H s.heap.objs.size (.tup [.int i,x])) {s with heap:=h2,toks:=tk + 1}:=by
   refine I1.turnedL (ch:=EB n) (λc o hc e=>?_) hf'
   have e:(s.heap.push {cls:=.type "tuple",data:=.seq #[.int i tk,u0]}).get? c=some o:=e
   simp only[EB,OC,PB,Qz,not_or] at hc
   rw[r2 c hc.1]
   by_cases z:c=s.heap.objs.size
   ·subst z
    rw[OQ _ rfl] at e
    rw[<-e];exact q3
   ·refine q5 c o hc.1 hc.2 ?_
    rw[Heap.get?_push_ne _ _ _ z] at e
    exact e
  refine⟨.ref s.heap.objs.size,_,I2,rfl,⟨x,_,hT,λxs' h'=>?_,rfl,rfl⟩,⟨⟨u0,r1⟩,q2.1.at λo e=>(r2 _ (M5 0 1 rfl)).trans e⟩,λc hc=>(hf' c hc).1⟩
  rw[I.list_inj h' ha];exact hx
 done:=by
  intro X hP hw hK hc i pins s σ H E I hf st hg
  subst hP hw hK
  obtain⟨xs,ha,hl⟩:=hg
  obtain⟨its,rv,p,hz⟩:=I.list ha
  obtain⟨⟨old,z1⟩,z2⟩:=st
  have hh:X.A.in1.handled=none:=I.ok.hd hc
  have l1:=rv.length
  refine wpAny_pyNext_enum_endD (GO hh i (xs:=its.toArray) (by simp;omega)) z1 ⟨rfl,z2,p.isList⟩ λh' q=>⟨rfl,?_⟩
  refine I.turnedL (t':=s.toks) (ch:=EB n) (λc o hc e=>?_) hf
  simp only[EB,OC,PB,Qz,not_or] at hc
  exact q c o hc.2 e
 self:=λ_ _ _ _ _ st h=>by
  obtain⟨⟨old,z1⟩,_⟩:=st
  exact wpAny_pyIter_enum z1 h
def Nj (K:Frag)(ta:TA):TI:=λσ H R=>ta σ H λvs H2=>∃a xs,vs= [.ref a]/\iY K H2 a xs/\R (HW K a) H2
section
variable {X:Cx}
theorem Jb {a:Expr}{ta:TA}{p pos pt:Pos}{elts:List Expr}{x1}(hg:Gl X "enumerate")(hm:X.mg "enumerate"=none)(ha:PA X [a] ta)(hs:starEach [a] X.env= [(false,eval a X.env)]:=by rfl) :
  PI X (.Tuple elts x1 pt) (.Call (.Name "enumerate" p) [a] [] pos) (Nj X.K ta):=by
 intro pins s σ H R I h
 refine Call_ (nu I hg hm Bo (Qj (cc (ha pos pins s σ H _ I h) λus s1 ⟨vs,H1,I1,r1,q1⟩=>?_) hs rfl))
 obtain⟨a,xs,e,h1,q⟩:=q1
 subst e
 cases r1 with
 |cons r rr=>
  cases rr
  cases r
  obtain⟨its,rv,p1,hz⟩:=I1.list h1
  refine call_enumerate_list p1.isList λh' z1 z2 _ z3=>?_
  refine wpAny_pyIter_enum z1 ⟨_,EB s1.heap.objs.size,_,_,H1,rfl,I1.kept (t':=s1.toks) z3,y0 a s1.heap.objs.size,⟨⟨_,z1⟩,z2⟩,λc hc=>?_,q⟩
  have:s1.heap.objs.size<=c:=by
   simp only[EB,OC,PB,Qz] at hc
   rcases hc with rfl |rfl <;> first |exact Ox _ |exact Nat.le_add_right _ _
  exact I1.fpOk this (I1.hok.fresh this)
end
section
variable {X:Cx}{Γ:Fx}{E:XK}{e a b c:Expr}{f fa fb:VF D}{L La Lb:@G_}{md ma mb:Md}{pos:Pos}
def El (fa:VF D):VF (List D):=λvs β=>(fa vs β).bnd λx β1=>match x with
 | .list ds=>.ok (fV ds) β1
 |_=>.bad
def B9 {K:Frag}{B:@Ix}{G H1:Hp}{p:Addr}{xs:List V}{ds:List D}(hp:∀Gc H,ar G Gc->ar Gc H->iw B H1 H->iY K H p xs)(r:cQ K G xs ds):Walk K B G H1 (fV ds) (HW K p):=λGc H i s1 s2 m=>by
 have hp':=hp Gc H s1 s2 m
 have l1:=r.len
 have lz:(fV ds).length=ds.length:=by unfold fV;rw[List.length_mapIdx]
 refine⟨λhi=>⟨?_,λx H' y=>?_⟩,λhi=>⟨xs,hp',@AT ⟩⟩
 ·have h1:i < xs.length:=@AT
  exact⟨xs,xs[i],hp',by simp[h1]⟩
 ·obtain⟨x,t,ht,hx,rfl,rfl⟩:=y
  obtain⟨d,ed,rd⟩:=r.at' (hx xs hp')
  have xn:=Ext.new s2 (o:=.tup [.int i,x]) ht
  refine⟨upd Gc t (.tup [.int i,x]),.tuple [.int i,d],xn,?_,.tup (.inl (.inl az)) (.cons (.int i) (.cons (rd.mono (s1.trans xn.gg)) .nil))⟩
  unfold fV
  rw[List.getElem?_mapIdx,ed];rfl
theorem sd {p pt:Pos}{elts:List Expr}{x1}(hK:X.K=Γ.K)(hg:Gl X "enumerate")(hm:X.mg "enumerate"=none)(ha:SE X Γ E a fa La .v)(hs:starEach [a] X.env= [(false,eval a X.env)]:=by rfl)(hs':starEach [a] X.env=(false,eval a X.env) :: starEach [] X.env:=by rfl) :
  SI X Γ E (.Tuple elts x1 pt) (.Call (.Name "enumerate" p) [a] [] pos) (El fa) La .v:=by
 refine PI.post (Jb hg hm (aw ha aR hs') hs) ?_
 rintro σ H Q ⟨env,G,B,β,I,o⟩
 refine⟨env,G,B,β,I,o.bnd.imp λd1 β1 h x G1 H1 I1 s1 m1 vx=>?_⟩
 have vx:Rp Γ.K G1 x d1:=vx
 rw[hK]
 cases d1 with
 |list ds=>
  cases vx with
  | @lst p xs _ hq r=>exact⟨p,xs,rfl,.inl (Rd.mono (.inl hq) I1.sub),h _ G1 H1 I1 s1 m1 (B9 (λGc H t1 t2 _=>.inl (Rd.mono (.inl hq) (t1.trans t2))) r)⟩
 |_=>exact h.elim
end
end L2
namespace L2
open PySem PyProof.Rows
section
variable {X:Cx}{K:Frag}{E:XK}
variable {Γ:Fx}{e a b c:Expr}{f fa fb fc:VF D}{L La Lb:@G_}{md ma mb mc:Md}{pos:Pos}
def SI.vb {tg:Expr}{fi:VF (List D)}(h:SI X Γ E tg e fi L .v):SI X Γ E tg e fi L .b:=PI.post h λσ H Q ⟨env,G,B,β,I,o⟩=>⟨env,G,B,β,I,o.imp λds β' k J G' H' a b c w=>k J G' H' a b c w.any⟩
end
end L2
namespace L2
open PySem PySem.Spec PyProof.Rows
section
variable {X:Cx}{Γ:Fx}{E:XK}{m:SF}
def SR.undropN {B B':@Ix}{G H G' H':Hp}{σ σ':St}{env env':En}{β β':Int}(I:@GT)(J:SR (Fx.fn Γ.K H G Γ.ca) B' G' H' σ' env' β')(hf:kS env'=true):SR Γ B G' H' σ' env' β:=by
 have kp:∀b o,H b=some o->Kt H' b o:=λb o e=>J.keep b o e @IN
 have ks:ar H H':=kp
 refine⟨J.sub,I.old.trans J.old,λb h1 h2=>J.new b (I.thereM h1) (I.new b h1 h2),λb o h1 h2=>(I.keep b o h1 h2).step ks,λb hb=>(I.pin b hb).same (kp b),I.fix,λb e=>?_,J.len,λi s e=>?_,λi j a d e h=>?_⟩
 ·obtain⟨h1,h2,h3⟩:=I.box b e
  exact⟨kp b _ h1,J.new b (Mx.lst h1) h2,h3⟩
 ·rcases iU hf e with rfl | ⟨d,rfl⟩
  ·trivial
  ·exact J.slot i _ e
 ·rcases iU hf h with z | ⟨_,z⟩ <;> cases z
end
def sv:entryFor table "proto.unchain"=some Builtin.«proto.unchain»:=entryFor_of_tree (by kernel_rfl)
def so:plainId "proto.unchain"=true:=@Ev
section
variable {prog:Program}{w:World}{A:Around}{E:@Db}{s:Shared}
def G6 {α:Type}{e h:Addr}{oe oh:Obj}{vs ws:Array Value}{Q:α->Shared->Prop}(hh:A.handled=some (.ref h))(ne:h≠e)(ho:s.heap.get? h=some oh)(hd:oh.data=.fields ws)(h2:ws[2]? =some .none)(he:s.heap.get? e=some oe)(hed:oe.data=.fields vs)(hs:2 < vs.size)
  (k:∀h',Heap.SameBut e s.heap h'->(∃o,h'.get? e=some o/\o.cls=oe.cls)->E (.ref e) {s with heap:=h'}):wpAny (model prog w) A (raiseNew (.ref e):Sem α) Q E s:=by
 unfold raiseNew
 refine Ou (wpAny_handled ?_)
 rw[hh]
 dsimp only
 have hne:(Value.ref h != Value.ref e)=true:=by simp[ne]
 rw[Ov hne]
 refine Ou (P8 (wpAny_runValue (codeAny_builtin sv ?_)))
 rw[QL so _]
 show wpAny _ A.in1 (field (.ref h) 2 >>= _) _ _ s
 refine Ou (Qv ho hd (x:=.none) h2 ?_)
 show wpAny _ A.in1 (ret .none) _ _ s
 refine OZ ?_
 show wpAny _ A (updateField e 2 (.ref h) >>= _) _ _ s
 refine Ou ?_
 obtain⟨c,d,dt,sl⟩:=oe
 have hed:dt=.fields vs:=hed
 subst hed
 unfold updateField
 refine Ou (wpAny_load he ?_)
 dsimp only
 rw[Ov hs]
 refine wpAny_update he (wpAny_throw (k _ (Heap.SameBut.update ..) ⟨_,QH _ he rfl,rfl⟩))
def CD {it h:Addr}{oh:Obj}{ws:Array Value}{x left step:Int}{Q:Option Value->Shared->Prop}(hh:A.handled=some (.ref h))(ho:s.heap.get? h=some oh)(hd:oh.data=.fields ws)(h2:ws[2]? =some .none)(hit:IsRangeIter s.heap it x left step)(hleft:left<=0)
  (hQ:∀h',Heap.ExtBut it s.heap h'->Q none {s with heap:=h'}):wpAny (model prog w) A (pyNext (.ref it)) Q E s:=by
 have hT:s.TypeIs (.ref it) "range_iterator":=⟨_,hit,rfl⟩
 unfold pyNext
 refine Ou (wpAny_attempt (wpAny_callSpecial?_slot (name:=Str.ofString "__next__") hT F.slot_range_iterator_next
  (wpAny_call_entry F.slot_range_iterator_next hT F.entry_range_iterator_next ?_ (F.args_range_iterator_next_1 _))))
 show wpAny _ _ (field (.ref it) 0 >>= _) _ _ s
 refine Ou (Qv hit rfl (x:=rawInt x) rfl ?_)
 show wpAny _ _ (field (.ref it) 1 >>= _) _ _ s
 refine Ou (Qv hit rfl (x:=rawInt left) rfl ?_)
 show wpAny _ _ (field (.ref it) 2 >>= _) _ _ s
 refine Ou (Qv hit rfl (x:=rawInt step) rfl ?_)
 show wpAny _ _ (if left<=0 then _ else _) _ _ s
 rw[Ov hleft]
 refine Ou (wpAny_rule (Ou ?_))
 show wpAny _ _ (newExc (.type "StopIteration") [] >>= _) _ _ _
 refine Ou ?_
 simp only[newExc,newTuple]
 refine Ou (wpAny_newObj_type ?_ (by size_fits))
 refine Ou (m:=firstArgMember _ _) (wpAny_of_eq (a:=Value.none) (by first |rfl | (simp only[firstArgMember];rfl)) ?_)
 refine wpAny_newObj_type ?_ (by size_fits)
 have lh:h < s.heap.objs.size:=Oz ho
 refine G6 (h:=h) (show A.in1.handled=some (.ref h) from hh) (OX (OO lh (by rw[P2];exact Nat.le_succ _))) (Ow _ (Ow _ ho)) hd h2 (OQ _ rfl) rfl (by simp;omega) λh' q1 ⟨o,q2,q3⟩=>?_
 refine Ou (wpAny_isInstance (T:="StopIteration") (b:=true) ⟨o,q2,q3⟩ isSubtype_stop (OZ (hQ _ λb ob hb e=>?_)))
 exact q1.extBut b ob (OX (OO (Oz e) (by rw[P2];exact Nat.le_succ _))) (Ow _ (Ow _ e))
end
def Jl:SF:=λ_ _=>.bad
section
variable {X:Cx}{Γ:Fx}{E:XK}
def zv {sts:List Stmt}:Ay X Γ E sts Jl:=λpins s σ H D I ⟨env,G,B,β,J,o⟩=>o.elim
end
end L2
namespace L2
open PySem
section
variable {α γ:Type}
@[simp] theorem qM (a:α)(β:Int)(k:α->Int->R γ):(R.ok a β).bnd k=k a β:=rfl
@[simp] theorem L6 (c:Str)(k:α->Int->R γ):(R.exc c:R α).bnd k=.exc c:=rfl
@[simp] theorem L3 (k:α->Int->R γ):(R.bad:R α).bnd k=.bad:=rfl
@[simp] theorem Nd (a:α)(β:Int)(k:α->Int->R γ):(R.ok a β).okb k=k a β:=rfl
@[simp] theorem uY (a:α)(β:Int):R.of (some a) β=.ok a β:=rfl
@[simp] theorem of_none (β:Int):(R.of none β:R α)=.bad:=rfl
@[simp] theorem Mn (a:α)(β:Int)(k:α->Int->SO):toS (.ok a β) k=k a β:=rfl
@[simp] theorem LX (c:Str)(k:α->Int->SO):toS (.exc c:R α) k=.exc c:=rfl
@[simp] theorem Mf (k:α->Int->SO):toS (.bad:R α) k=.bad:=rfl
end
section
variable (f fa fb fc:VF D)(t u:VF Bool)(m m':SF)(vs:List Nv)(β:Int)(env:En)(i j:Nat)(L:@G_)
@[simp] theorem HH:gv i vs β=R.of (dat vs[i]?) β:=rfl
@[simp] theorem yW (d:D):dat (some (.da d))=some d:=rfl
@[simp] theorem Nc (d:D):cst d vs β=.ok d β:=rfl
@[simp] theorem N6 (g:D->Option D):f1 fa g vs β=(fa vs β).bnd λx β1=>R.of (g x) β1:=rfl
@[simp] theorem NZ (g:D->D->Option D):f2 fa fb g vs β=(fa vs β).bnd λx β1=>(fb vs β1).bnd λy β2=>R.of (g x y) β2:=rfl
@[simp] theorem z5:ag vs β=.ok [] β:=rfl
@[simp] theorem cU (fr:VF (List D)):ae fa fr vs β=(fa vs β).bnd λx β1=>(fr vs β1).bnd λxs β2=>.ok (x :: xs) β2:=rfl
@[simp] theorem qV:i6 fa vs β=(fa vs β).bnd λx β1=>R.of (JP x) β1:=rfl
@[simp] theorem oP:pz t vs β=(t vs β).bnd λc β1=>.ok (!c) β1:=rfl
@[simp] theorem C8:BF t u vs β=(t vs β).bnd λc β1=>if c=true then u vs β1 else .ok false β1:=rfl
@[simp] theorem ka:nh t u vs β=(t vs β).bnd λc β1=>if c=true then .ok true β1 else u vs β1:=rfl
@[simp] theorem NT (n:Bool):tN fa n vs β=(fa vs β).bnd λx β1=>.ok (if n then !Gs x else Gs x) β1:=rfl
@[simp] theorem Jt:Mc t fa fb vs β=(t vs β).bnd λc β1=>if c=true then fa vs β1 else fb vs β1:=rfl
@[simp] theorem gr (c:Bool){β1:Int}(h:fa vs β=.ok (.bool c) β1):cP fa vs β=.ok c β1:=by unfold cP;rw[h];rfl
@[simp] theorem yG:vl []= []:=rfl
@[simp] theorem uO (s:Sl):vl (s :: env)=s.val :: vl env:=rfl
@[simp] theorem yy (d:D):(Sl.fz d).val=.da d:=rfl
@[simp] theorem M1 (d:D):(Sl.ow d).val=.da d:=rfl
@[simp] theorem Nm:Sl.no.val=.no:=rfl
@[simp] theorem Mw:Sl.bx.val=.bx:=rfl
@[simp] theorem L8:aY [] env=env:=rfl
@[simp] theorem KI:aY (i :: L) env=aY L (gX env i):=rfl
@[simp] theorem Ma:aK m m' env β=(match m env β with
 | .nx env' β'=>m' env' β'
 |r=>r):=rfl
@[simp] theorem MT:iF L t m m' env β=toS (t (vl env) β) λc β'=>if c=true then m (aY L env) β' else m' (aY L env) β':=rfl
@[simp] theorem gJ:bM f env β=toS (f (vl env) β) λd β'=>.rt d false β':=rfl
@[simp] theorem wC:j0 f env β=toS (f (vl env) β) λd β'=>.rt d true β':=rfl
@[simp] theorem Mz:mO env β=.nx env β:=rfl
@[simp] theorem cL:bK i L f env β=toS (f (vl env) β) λd β'=>.nx ((aY L env).set i (.fz d)) β':=rfl
@[simp] theorem lL:k9 i L f env β=toS (f (vl env) β) λd β'=>.nx ((aY L env).set i (.ow d)) β':=rfl
@[simp] theorem Lr:cB L f env β=toS (f (vl env) β) λ_ β'=>.nx (aY L env) β':=rfl
end
def aL {m m':SF}{env env':En}{β β':Int}(h:m env β=.nx env' β'):aK m m' env β=m' env' β':=by unfold aK;rw[h]
def mB {m m':SF}{env:En}{β β':Int}{d:D}{b:Bool}(h:m env β=.rt d b β'):aK m m' env β=.rt d b β':=by unfold aK;rw[h]
def Ep {m m':SF}{env:En}{β:Int}{c:Str}(h:m env β=.exc c):aK m m' env β=.exc c:=by unfold aK;rw[h]
def dQ {L:@G_}{t:VF Bool}{m m':SF}{env:En}{β β':Int}(h:t (vl env) β=.ok true β'):iF L t m m' env β=m (aY L env) β':=by unfold iF;rw[h];rfl
def bI {L:@G_}{t:VF Bool}{m m':SF}{env:En}{β β':Int}(h:t (vl env) β=.ok false β'):iF L t m m' env β=m' (aY L env) β':=by unfold iF;rw[h];rfl
def av {F:@Do}{fr:VF (List D)}{vs:List Nv}{β β1:Int}{ds:List D}{d:D}{b:Bool}(h:fr vs β=.ok ds β1)(e:F ds=.ok d b):au F fr vs β=.ok d β1:=by unfold au;rw[h];dsimp only[R.bnd];rw[e]
def bQ {F:@Do}{fr:VF (List D)}{vs:List Nv}{β β1:Int}{ds:List D}{c:Str}(h:fr vs β=.ok ds β1)(e:F ds=.exc c):au F fr vs β=.exc c:=by unfold au;rw[h];dsimp only[R.bnd];rw[e]
def C3 {F:@Do}{fr:VF (List D)}{vs:List Nv}{β β1:Int}{ds:List D}{d:D}(h:fr vs β=.ok ds β1)(e:F ds=.ok d true):uh F fr vs β=.ok d β1:=by unfold uh;rw[h];dsimp only[R.bnd];rw[e]
def j4 {fa:VF D}{g:D->Option D}{vs:List Nv}{β β1:Int}{x d:D}(h:fa vs β=.ok x β1)(e:g x=some d):f1 fa g vs β=.ok d β1:=by unfold f1;rw[h];dsimp only[R.bnd];rw[e];rfl
def aG {fa fb:VF D}{g:D->D->Option D}{vs:List Nv}{β β1 β2:Int}{x y d:D}(h:fa vs β=.ok x β1)(h':fb vs β1=.ok y β2)(e:g x y=some d):f2 fa fb g vs β=.ok d β2:=by unfold f2;rw[h];dsimp only[R.bnd];rw[h'];dsimp only[R.bnd];rw[e];rfl
def kC {i:Nat}{F:List D->Int->FB}{fr:VF (List D)}{vs:List Nv}{β β1 β2:Int}{ds:List D}{d:D}{b:Bool}(hi:xX vs i=true)(h:fr vs β=.ok ds β1)(e:F ds β1=.ok d b β2):oN i F fr vs β=.ok d β2:=by unfold oN;rw[Ov hi,h];dsimp only[R.bnd];rw[e]
def sz (n:Nat)(h:n<=1000):n<=sizeLine:=by rw[O4];omega
def Lm (n:Nat)(h:n<=1000):n < sizeLine:=by rw[O4];omega
def kG {fr:VF (List D)}{vs:List Nv}{β β1:Int}{ds:List D}(h:fr vs β=.ok ds β1)(hz:ds.length<=1000):aO fr vs β=.ok (.tuple ds) β1:=by unfold aO;rw[h];exact Ov (sz _ hz)
def kq {fr:VF (List D)}{vs:List Nv}{β β1:Int}{ds:List D}(h:fr vs β=.ok ds β1)(hz:ds.length<=1000):bz fr vs β=.ok (.list ds) β1:=by unfold bz;rw[h];exact Ov (sz _ hz)
def vk {i:Nat}{env:En}{β:Int}{g:List D->Option (List D)}{ds es:List D}(h:env[i]? =some (.ow (.list ds)))(e:g ds=some es):Hr i env β g=.nx (env.set i (.ow (.list es))) β:=by unfold Hr;rw[h];dsimp only;rw[e]
def p7 {i:Nat}{L:@G_}{f:VF D}{env:En}{β β':Int}{ds:List D}{d:D}(hi:env[i]? =some (.ow (.list ds)))(hf:f (vl env) β=.ok d β')(hL:(aY L env)[i]? =some (.ow (.list ds)))(hz:ds.length<=1000):oB i L f env β=.nx ((aY L env).set i (.ow (.list (ds ++ [d])))) β':=by
 unfold oB
 rw[Ov (by rw[hi];rfl),hf]
 exact vk hL (Ov (Lm _ hz))
def yg {i j:Nat}{L:@G_}{f:VF D}{env:En}{β β':Int}{ds es es':List D}{k d:D}(hi:env[i]? =some (.ow (.list ds)))(hj:env[j]? =some (.ow (.list es)))(hij:i≠j)(hf:f (vl env) β=.ok k β')(hL:aY L env=env)(hp:BS es k=some (d,es'))(hz:ds.length<=1000):kA i j L f env β=.nx ((env.set j (.ow (.list es'))).set i (.ow (.list (ds ++ [d])))) β':=by
 unfold kA
 rw[Ov ⟨by rw[hi];rfl,by rw[hj];rfl,hij⟩,hf,hL]
 dsimp only[toS]
 rw[hj]
 dsimp only
 rw[hp]
 exact vk (by rw[OL (Ne.symm hij)];exact hi) (Ov (Lm _ hz))
def Du {i:Nat}{Le Li:@G_}{fe fi:VF D}{env:En}{β β1 β2:Int}{ds:List D}{d:D}{k:Int}{n:Nat}(he:fe (vl env) β=.ok d β1)(h1:(aY Le env)[i]? =some (.ow (.list ds)))(hi:fi (vl env) β1=.ok (.int k) β2)(h2:(aY (Le ++ Li) env)[i]? =some (.ow (.list ds)))(hk:vR ds.length k=some n):xu i Le Li fe fi env β=.nx ((aY (Le ++ Li) env).set i (.ow (.list (ds.set n d)))) β2:=by
 unfold xu
 rw[he]
 dsimp only[toS]
 rw[Ov (by rw[h1];rfl),hi]
 exact vk h2 (by dsimp only;rw[hk];rfl)
def dC {α:Type}{own:Nat}{ixs:@G_}{t:Tg}{fi:VF (List D)}{fe:VF D}{vs:List Nv}{β β1:Int}{l:List α}{e:α->D}(h:α->D)(hi:fi vs β=.ok (l.map e) β1)(hz:l.length<=1000)
  (hh:∀x,x∈l->∃vs1,tL t (e x) (i5 own ixs vs)=some vs1/\fe vs1 β1=.ok (h x) β1):aU own ixs t fi nO fe vs β=.ok (.list (l.map h)) β1:=by
 unfold aU
 rw[hi]
 dsimp only[R.bnd]
 rw[Ov (sz _ (by rw[OB];exact hz))]
 have key:∀m:List α,(∀x,x∈m->x∈l)->ja t nO fe (i5 own ixs vs) (m.map e) β1=.ok (m.map h) β1:=by
  intro m
  induction m with
  |nil=>intro _;rfl
  |cons x m ih=>
   intro hm
   obtain⟨vs1,e1,e2⟩:=hh x (hm x (OH ..))
   rw[PM]
   unfold ja
   rw[e1]
   dsimp only
   show (R.ok true β1).okb _=_
   dsimp only[R.okb]
   rw[Ov rfl,e2]
   dsimp only
   rw[ih λy hy=>hm y (OF _ hy)];rfl
 rw[key l λ_ h=>h];rfl
def cx {α:Type}{own:Nat}{ixs:@G_}{t:Tg}{fi:VF (List D)}{ft:VF Bool}{fe:VF D}{vs:List Nv}{β β1:Int}{l:List α}{e:α->D}(g:α->Bool)(h:α->D)(hi:fi vs β=.ok (l.map e) β1)(hz:l.length<=1000)
  (hh:∀x,x∈l->∃vs1,tL t (e x) (i5 own ixs vs)=some vs1/\ft vs1 β1=.ok (g x) β1/\(g x=true->fe vs1 β1=.ok (h x) β1)):aU own ixs t fi ft fe vs β=.ok (.list ((l.filter g).map h)) β1:=by
 unfold aU
 rw[hi]
 dsimp only[R.bnd]
 rw[Ov (sz _ (by rw[OB];exact hz))]
 have key:∀m:List α,(∀x,x∈m->x∈l)->ja t ft fe (i5 own ixs vs) (m.map e) β1=.ok ((m.filter g).map h) β1:=by
  intro m
  induction m with
  |nil=>intro _;rfl
  |cons x m ih=>
   intro hm
   obtain⟨vs1,e1,e2,e3⟩:=hh x (hm x (OH ..))
   have ih:=ih λy hy=>hm y (OF _ hy)
   rw[PM]
   unfold ja
   rw[e1]
   dsimp only
   rw[e2]
   dsimp only[R.okb]
   cases q:g x with
   |true=>
    rw[Ov rfl,e3 q]
    dsimp only
    rw[ih,List.filter_cons_of_pos q];rfl
   |false=>
    rw[OA OI,ih,List.filter_cons_of_neg (by rw[q];exact OI)]
 rw[key l λ_ h=>h];rfl
theorem i4 {t:Tg}{m:SF}(Pv:Nat->En->Int->Prop):∀{ds:List D} {k:Nat} {env:En} {β:Int},Pv k env β->
  (∀i d env β,ds[i]? =some d->Pv (k + i) env β->∃env1,gY t d env=some env1/\∃env2 β2,m env1 β=.nx env2 β2/\Pv (k + i + 1) env2 β2)->∃env' β',ly t m ds env β=.nx env' β'/\Pv (k + ds.length) env' β'
 | [],k,env,β,h0,_=>⟨env,β,rfl,h0⟩
 |d :: ds,k,env,β,h0,hs=>by
  obtain⟨env1,e1,env2,β2,e2,h1⟩:=hs 0 d env β rfl h0
  obtain⟨env',β',e3,h2⟩:=i4 Pv (t:=t) (m:=m) (ds:=ds) (k:=k + 1) h1 λi d' en be hi hp=>by
   have:=hs (i + 1) d' en be (by simpa using hi) (by rw[show k + (i + 1)=k + 1 + i by omega];exact hp)
   rw[show k + (i + 1) + 1=k + 1 + i + 1 by omega] at this
   exact this
  refine⟨env',β',?_,by rw[O5,show k + (ds.length + 1)=k + 1 + ds.length by omega];exact h2⟩
  unfold ly
  rw[e1]
  dsimp only
  rw[e2]
  exact e3
theorem i8 {L:@G_}{t:VF Bool}{m:SF}(Pv:Nat->En->Int->Prop)(Dn:En->Int->Prop):∀{n k:Nat} {env:En} {β:Int},k < n->Pv k env β->
  (∀k env β,Pv k env β->∃c β1,t (vl env) β=.ok c β1/\((c=false/\Dn (aY L env) β1)\/(c=true/\∃env2 β2 k',m (aY L env) β1=.nx env2 β2/\k' < k/\Pv k' env2 β2)))->∃env' β',h9 L t m n env β=.nx env' β'/\Dn env' β'
 | 0,k,env,β,hk,_,_=>@AT
 |n + 1,k,env,β,hk,h0,hs=>by
  obtain⟨c,β1,e1,hc⟩:=hs k env β h0
  unfold h9
  rw[e1]
  dsimp only[toS]
  rcases hc with⟨rfl,hd⟩ | ⟨rfl,env2,β2,k',e2,hl,h1⟩
  ·exact⟨_,_,rfl,hd⟩
  ·rw[Ov rfl,e2]
   exact i8 Pv Dn (n:=n) (k:=k') (@AT) h1 hs
end L2
namespace RM
open PySem L2
def rh:SF:=(bM (jg (f1 (gv 0) (lx "int")) (f1 (f1 (gv 0) (lx "bool")) Ed)))
def qA (bD:@Do):SF:=(bM (jg (au bD (ae (gv 0) ag)) (fU @Fa (gv 0) (gv 1) u7 uk)))
def ur (bD:@Do):SF:=(bM (jg (au bD (ae (gv 0) ag)) (fU @Ch (gv 0) (cst (.int 8)) u7 u7)))
def mL (fk:@Do):SF:=(aK (iF ([] ++ @EQ) (nh (pz (i6 (f1 (gv 0) (lx "tuple")))) (cP (f2 (f1 (gv 0) c6) (cst (.int 2)) (c9 true))))
 (bM (cst (.bool false)))
 mO)
 (bM (jg (au fk (ae (f2 (gv 0) @Fa b7) @J_)) (au fk (ae (f2 (gv 0) @Ch b7) @J_)))))
def iD:SF:=(j0 (aU 1 [0] (.nm 0) (fm (f2 (gv 0) (gv 0) dw)) nO (aO (ae (f2 (gv 0) (gv 1) Jp) (ae (f2 (gv 0) (gv 1) lu) ag)))))
def rY:SF:=(bM (f1 (aU 2 [] (.two 0 1) (bR (gv 0)) nO (f2 (gv 0) (gv 1) (c9 false))) (b9 λbs=>bs.any id)))
def kg (iZ cT jU gy:@Do):SF:=(aK (iF ([] ++ @EQ) (nh (pz (i6 (f1 (gv 0) (lx "tuple")))) (cP (f2 (f1 (gv 0) c6) (cst (.int 2)) (c9 true))))
 (bM (cst (.bool false)))
 mO)
 (aK (bK 1 @EQ (f2 (gv 0) @Fa b7))
 (aK (bK 2 @EQ (f2 (gv 0) @Ch b7))
 (aK (iF (([1] ++ []) ++ []) (nh (pz (i6 (au iZ @J_))) (pz (i6 (f1 (gv 2) (lx "tuple")))))
 (bM (cst (.bool false)))
 mO)
 (aK (iF ([] ++ [1]) (pz (i6 (f1 (aU 1 [1] (.nm 0) (bR (gv 2)) nO (au cT (ae (gv 0) @J_))) (b9 λbs=>bs.all id))))
 (bM (cst (.bool false)))
 mO)
 (bM (jg (f2 (gv 2) (au jU (ae (gv 1) (ae (gv 2) ag))) (c9 false)) (f1 (au gy (ae (gv 2) ag)) Ed))))))))
def fR (gA:@Do):SF:=(iF ([0] ++ []) (pz (i6 (au gA (ae (gv 0) ag))))
 (λenv β=>toS ((ae (cst (.str "this is no order")) ag) (vl env) β) λds _=>if ds.length<=sizeLine then .exc "NoOrder" else .bad)
 mO)
def pN:SF:=(bM (jg (f2 (gv 1) (gv 2) (c9 true)) (jg (f2 (aO (ae (gv 1) (ae (gv 2) ag))) (f2 (gv 0) @Ch b7) (nU true)) (f2 (aO (ae (gv 2) @J_)) (f2 (gv 0) @Ch b7) (nU true)))))
def gB (aI c7 bY:@Do):SF:=(aK (cB ([0] ++ []) (au aI (ae (gv 0) ag)))
 (j0 (aU 2 [0] (.two 0 1) (bR (au c7 (ae (f2 (gv 0) @Fa b7) ag))) (i6 (au bY (ae (gv 2) (ae (gv 0) @J_)))) (aO (ae (gv 0) @J_)))))
def kY:SF:=(aK (bK 3 @EQ (f2 (gv 0) @Ch b7))
 (aK (iF ([] ++ [2]) (pz (i6 (f1 (aU 2 [1,2,3] (.two 0 1) (bR (gv 3)) (cP (f2 (gv 1) (gv 2) (c9 false))) (f2 (aO (ae (gv 0) (ae (gv 3) ag))) (gv 4) (nU false))) (b9 λbs=>bs.all id))))
 (bM (cst (.bool false)))
 mO)
 (bM (f1 (aU 2 [2,1,3] (.two 0 1) (bR (gv 3)) (cP (f2 (gv 0) (gv 2) (c9 false))) (f2 (aO (ae (gv 3) @J_)) (gv 4) (nU false))) (b9 λbs=>bs.all id)))))
def cn (kX gp:@Do):SF:=(j0 (aU 2 [0] (.two 0 1) (bR (au kX (ae (gv 0) ag))) (i6 (au gp (ae (gv 2) (ae (gv 0) @J_)))) (aO (ae (gv 0) @J_))))
def Iy:D->Bool
 | .int _=>true
 |_=>false
def fj:@Do
 | [d]=>if iy d=true then .bad else .ok (.bool (Iy d)) false
 |_=>.bad
def qk {d:D}(h:iy d=false):fj [d]=.ok (.bool (Iy d)) false:=OA (by rw[h];exact OI)
def Gi (ds:List D)(h:fj ds≠.bad):aW 1 1 rh ds=fj ds:=by
 unfold fj at h
 split at h
 ·rename_i d
  cases q:iy d with
  |true=>rw[q] at h;exact absurd rfl h
  |false=>
   rw[qk q]
   have e1:lx "int" d=some (.bool (DY d "int")):=by unfold lx;rw[q];rfl
   have e2:lx "bool" d=some (.bool (DY d "bool")):=by unfold lx;rw[q];rfl
   show fin (bM (jg (f1 (gv 0) (lx "int")) (f1 (f1 (gv 0) (lx "bool")) Ed)) [.fz d] 0)=_
   unfold bM jg f1 gv
   simp only[uO,yG,yy,List.getElem?_cons_zero,yW,uY,qM,e1,e2]
   cases d <;> rfl
 ·exact absurd rfl h
def lB (d:D)(n:Int):Bool:=match d with
 | .int i=>decide (0<=i/\i < n)
 |_=>false
def l4:@Do
 | [d,.int n]=>if iy d=true then .bad else .ok (.bool (lB d n)) false
 |_=>.bad
def vM {d:D}{n:Int}(h:iy d=false):l4 [d,.int n]=.ok (.bool (lB d n)) false:=OA (by rw[h];exact OI)
def qO {i lo n:Int}{vs:List Nv}{β:Int}{fa fb fc:VF D}{g':D->D->Option D}{q:Bool}(ha:fa vs β=.ok (.int lo) β)(hb:fb vs β=.ok (.int i) β)(hc:fc vs β=.ok (.int n) β)(hq:g' (.int i) (.int n)=some (.bool q)):fU fa fb fc u7 g' vs β=.ok (.bool (decide (lo<=i) && q)) β:=by
 unfold fU
 rw[ha];dsimp only[R.bnd];rw[hb];dsimp only[R.bnd]
 show (match (some (PyData.bool (decide (lo<=i))):Option D) with
  |some (.bool true)=>_
  |some (.bool false)=>_
  |_=>_)=_
 by_cases h:lo<=i
 ·rw[OE h]
  dsimp only
  rw[hc]
  dsimp only[R.bnd]
  rw[hq];rfl
 ·rw[ON h];rfl
def FE (ds:List D)(h:l4 ds≠.bad):aW 2 2 (qA fj) ds=l4 ds:=by
 unfold l4 at h
 split at h
 ·rename_i d n
  cases q:iy d with
  |true=>rw[q] at h;exact absurd rfl h
  |false=>
   rw[vM q]
   show fin (bM (jg (au fj (ae (gv 0) ag)) (fU @Fa (gv 0) (gv 1) u7 uk)) [.fz d,.fz (.int n)] 0)=_
   unfold bM jg au
   simp only[uO,yG,yy,cU,z5,HH,List.getElem?_cons_zero,yW,uY,qM,qk q]
   cases d with
   |int i=>
    show fin (toS (fU @Fa (gv 0) (gv 1) u7 uk [.da (.int i),.da (.int n)] 0) _)=_
    rw[qO (lo:=0) (i:=i) (n:=n) rfl rfl rfl rfl]
    show FR.ok (.bool (decide (0<=i) && decide (i < n))) false=.ok (.bool (decide (0<=i/\i < n))) false
    rw[Bool.decide_and]
   |_=>rfl
 ·exact absurd rfl h
def Hg (d:D):Bool:=match d with
 | .int i=>decide (1<=i/\i<=8)
 |_=>false
def nN:@Do
 | [d]=>if iy d=true then .bad else .ok (.bool (Hg d)) false
 |_=>.bad
def DC {d:D}(h:iy d=false):nN [d]=.ok (.bool (Hg d)) false:=OA (by rw[h];exact OI)
def Jz (ds:List D)(h:nN ds≠.bad):aW 1 1 (ur fj) ds=nN ds:=by
 unfold nN at h
 split at h
 ·rename_i d
  cases q:iy d with
  |true=>rw[q] at h;exact absurd rfl h
  |false=>
   rw[DC q]
   show fin (bM (jg (au fj (ae (gv 0) ag)) (fU @Ch (gv 0) (cst (.int 8)) u7 u7)) [.fz d] 0)=_
   unfold bM jg au
   simp only[uO,yG,yy,cU,z5,HH,List.getElem?_cons_zero,yW,uY,qM,qk q]
   cases d with
   |int i=>
    show fin (toS (fU @Ch (gv 0) (cst (.int 8)) u7 u7 [.da (.int i)] 0) _)=_
    rw[qO (lo:=1) (i:=i) (n:=8) rfl rfl rfl rfl]
    show FR.ok (.bool (decide (1<=i) && decide (i<=8))) false=.ok (.bool (decide (1<=i/\i<=8))) false
    rw[Bool.decide_and]
   |_=>rfl
 ·exact absurd rfl h
def aA (n:Nat)(l:@C_):D:=.tuple [.int n,.tuple (l.map aB)]
open Classical in
noncomputable def wX (f:Nat->@C_->FR):D->FR:=λd=>if h:∃nl:Nat×@C_,d=aA nl.1 nl.2/\OM.Ord nl.1 nl.2 then f (Classical.choose h).1 (Classical.choose h).2 else .bad
def Gx {p q:Pr}(h:aB p=aB q):p=q:=by
 obtain⟨a,b⟩:=p
 obtain⟨c,d⟩:=q
 unfold aB at h
 simp at h
 rw[h.1,h.2]
theorem pL:∀{l m:@C_},l.map aB=m.map aB->l=m
 | [],[],_=>rfl
 | [],_ :: _,h=>by cases h
 |_ :: _,[],h=>by cases h
 |p :: l,q :: m,h=>by
  simp only[PM,List.cons.injEq] at h
  rw[Gx h.1,pL h.2]
def CN {n m:Nat}{l k:@C_}(h:aA n l=aA m k):n=m/\l=k:=by
 unfold aA at h
 simp only[PyData.tuple.injEq,List.cons.injEq,int.injEq,and_true] at h
 exact⟨@AT,pL h.2⟩
def Ck {f:Nat->@C_->FR}{n:Nat}{l:@C_}(O:OM.Ord n l):wX f (aA n l)=f n l:=by
 unfold wX
 have h:∃nl:Nat×@C_,aA n l=aA nl.1 nl.2/\OM.Ord nl.1 nl.2:=⟨(n,l),rfl,O⟩
 rw[dif_pos h]
 obtain⟨e,_⟩:=Classical.choose_spec h
 obtain⟨e1,e2⟩:=CN e
 rw[<-e1,<-e2]
def DK {f:Nat->@C_->FR}{d:D}(h:wX f d≠.bad):∃n l,d=aA n l/\OM.Ord n l:=by
 unfold wX at h
 by_cases q:∃nl:Nat×@C_,d=aA nl.1 nl.2/\OM.Ord nl.1 nl.2
 ·obtain⟨nl,e,O⟩:=q;exact⟨nl.1,nl.2,e,O⟩
 ·rw[dif_neg q] at h;exact absurd rfl h
noncomputable def dY:@Do
 | [.int n,d]=>(match p6 d with
  |some ds=>(match i9 ds with
   |some ps=>(open Classical in if 1<=n/\n<=8/\OM.Wn n.toNat ps then .ok (.tuple ((OM.jV n.toNat (OM.Tr (OM.Mem ps))).map aB)) false else .bad)
   |none=>.bad)
  |none=>.bad)
 |_=>.bad
def CQ {n:Nat}{ps:@C_}(h1:1<=n)(h8:n<=8)(w:OM.Wn n ps):dY [.int n,.tuple (ps.map aB)]=.ok (.tuple ((OM.jV n (OM.Tr (OM.Mem ps))).map aB)) false:=by
 unfold dY
 simp only[p6,kR]
 rw[Ov ⟨@AT,@AT,by rw[O8];exact w⟩,O8]
def mZ:@Do
 | [.tuple ds]=>(match i9 ds with
  |some ps=>if ps.length<=1000 then .ok (.bool (ps.any λp=>decide (p.1=p.2))) false else .bad
  |none=>.bad)
 |_=>.bad
theorem iV {α:Type}(f:α->Bool):∀l:List α,lS (l.map λx=>PyData.bool (f x))=some (l.map f)
 | []=>rfl
 |x :: l=>by
  show (lS (l.map λx=>PyData.bool (f x))).map (f x :: ·)=_
  rw[iV f l];rfl
def Ju (ds:List D)(h:mZ ds≠.bad):aW 1 1 rY ds=mZ ds:=by
 unfold mZ at h
 split at h
 ·rename_i ds
  cases q:i9 ds with
  |none=>rw[q] at h;exact absurd rfl h
  |some ps=>
   rw[q] at h
   dsimp only at h
   by_cases hz:ps.length<=1000
   case neg=>rw[OA hz] at h;exact absurd rfl h
   obtain rfl:=mC q
   have e:mZ [.tuple (ps.map aB)]=.ok (.bool (ps.any λp=>decide (p.1=p.2))) false:=by
    unfold mZ;simp only[kR];rw[Ov hz]
   rw[e]
   have ec:aU 2 [] (.two 0 1) (bR (gv 0)) nO (f2 (gv 0) (gv 1) (c9 false)) [.da (.tuple (ps.map aB))] 0=.ok (.list (ps.map λp=>PyData.bool (decide (p.1=p.2)))) 0:=by
    exact dC (l:=ps) (e:=aB) (λp=>PyData.bool (decide (p.1=p.2))) rfl hz λp hp=>⟨_,rfl,rfl⟩
   show fin (toS ((aU 2 [] (.two 0 1) (bR (gv 0)) nO (f2 (gv 0) (gv 1) (c9 false)) [.da (.tuple (ps.map aB))] 0).bnd λx β1=>R.of (b9 (λbs=>bs.any id) x) β1) λd β'=>.rt d false β')=_
   rw[ec]
   simp only[qM,b9]
   rw[iV]
   simp[fin,List.any_map]
 ·exact absurd rfl h
def oU (p:Pr):SeqAt.shaped (aB p)=true:=rfl
theorem z6:∀l:@C_,PyData.canLayAll0 (l.map aB)=true
 | []=>rfl
 |p :: l=>by
  show ((aB p).canLay0 && PyData.canLayAll0 (l.map aB))=true
  rw[z6 l];rfl
theorem zx:∀l:@C_,PyData.depthAll (l.map aB)<=1
 | []=>by show (0:Nat)<=1;omega
 |p :: l=>by
  show max (aB p).depth (PyData.depthAll (l.map aB))<=1
  have h1:(aB p).depth=1:=by simp[aB,PyData.depth,PyData.depthAll]
  have h2:=zx l
  omega
def rJ (l:@C_):SeqAt.shaped (.tuple (l.map aB))=true:=by
 unfold SeqAt.shaped
 have h1:(PyData.tuple (l.map aB)).canLay0=true:=by simp only[PyData.canLay0];exact z6 l
 have h2:(PyData.tuple (l.map aB)).depth<=64:=by simp only[PyData.depth];have:=zx l;omega
 rw[h1,OE h2];rfl
def Cw (p q:Pr):PyData.eqv (aB p) (aB q)=decide (p=q):=by
 obtain⟨a,b⟩:=p
 obtain⟨c,d⟩:=q
 simp only[aB,PyData.eqv,PyData.eqvAll,Bool.and_true]
 rw[O3]
 simp
theorem zr:∀l m:@C_,PyData.eqvAll (l.map aB) (m.map aB)=decide (l=m)
 | [],[]=>rfl
 | [],_ :: _=>rfl
 |_ :: _,[]=>rfl
 |p :: l,q :: m=>by
  show (PyData.eqv (aB p) (aB q) && PyData.eqvAll (l.map aB) (m.map aB))=_
  rw[Cw,zr l m,O3]
  simp
def Ap {n:Nat}{l:@C_}(O:OM.Ord n l):l.length < 64:=by
 have h8:=O.hi
 have e:=O.closed
 by_cases h:l.length < 64
 ·exact h
 ·exfalso
  have h1:l.length<=n * n:=by rw[<-e];exact OM.CH _ _
  have h2:n * n<=64:=Qh h8 h8
  have hn:n=8:=by
   by_cases h7:n<=7
   ·have:n * n<=7 * 7:=Qh h7 h7
    omega
   ·omega
  have hlen:l.length=n * n:=by subst hn;omega
  have hg:l=OM.du n:=by
   refine OM.sub_eq O.ris (OM.jd n) (λx hx=>OM.bV.mpr (O.wn x hx)) ?_
   rw[hlen];unfold OM.du;simp
  have:((0:Int),(0:Int))∈l:=by rw[hg];exact OM.bV.mpr ⟨⟨@AT,@AT ⟩,@AT,@AT ⟩
  exact O.irr 0 this
def C6 {n:Nat}(h1:1<=n)(h8:n<=8):nN [.int n]=.ok (.bool true) false:=by
 rw[DC rfl]
 show FR.ok (.bool (decide (1<=(n:Int)/\(n:Int)<=8))) false=_
 rw[OE (@AT)]
def B3 (neg:Bool)(l m:@C_):c9 neg (.tuple (l.map aB)) (.tuple (m.map aB))=some (.bool (if neg then !decide (l=m) else decide (l=m))):=by
 unfold c9
 rw[rJ,rJ]
 simp only[Bool.and_self,PL,PyData.eqv,zr]
noncomputable def j7:@Do
 | [d]=>wX (λ_ _=>.ok .none false) d
 |_=>.bad
def rH {n:Nat}{l:@C_}(O:OM.Ord n l):j7 [aA n l]=.ok .none false:=by simp only[j7];exact Ck O
abbrev cZ (ns:List Int):D:=.dict [(.none,.list (ns.map int))]
def rm {i j:Int}(h: -(2 ^ 64) < i/\i < 2 ^ 64):dw (.int i) (.int j)=some (.int (i * j)):=Ov (by dsimp only;rw[OE h.1,OE h.2];rfl)
def BZ {i j:Int}(h: -(2 ^ 64) < j/\j < 2 ^ 64):dw (.int i) (.int j)=some (.int (i * j)):=Ov (by dsimp only;rw[OE h.1,OE h.2,Bool.and_self,Bool.or_true])
def pj {i j:Int}(h:0 < j):lu (.int i) (.int j)=some (.int (i % j)):=Ov (OE h)
def HE {i j:Int}(h:0 < j)(h2:j < 1073741824):Jp (.int i) (.int j)=some (.int (i / j)):=Ov (by dsimp only;rw[OE h,OE h2];rfl)
theorem zt {α β:Type}(f:α->β)(l:List α)(i:Int):mT (l.map f) i=(mT l i).map f:=by
 unfold mT
 rw[OB]
 cases vR l.length i with
 |none=>rfl
 |some j=>simp
def C2 {α:Type}{l:List α}{k:Nat}(h:k < l.length):mT l (k:Int)=some l[k]:=ko (Ot h)
def IF {fa fb:VF D}{vs:List Nv}{β β1 β2:Int}{i j:Int}(h:fa vs β=.ok (.int i) β1)(h':fb vs β1=.ok (.int j) β2):cP (f2 fa fb uk) vs β=.ok (decide (i < j)) β2:=gr _ _ _ _ (aG h h' rfl)
def js {neg:Bool}{fa fb:VF D}{vs:List Nv}{β β1 β2:Int}{i j:Int}(h:fa vs β=.ok (.int i) β1)(h':fb vs β1=.ok (.int j) β2):cP (f2 fa fb (c9 neg)) vs β=.ok (if neg then !decide (i=j) else decide (i=j)) β2:=by
 refine gr _ _ _ _ (aG h h' ?_)
 cases neg <;> rfl
theorem lay_ints:∀ns:List Int,PyData.canLayAll0 (ns.map int)=true
 | []=>rfl
 |n :: ns=>by
  show ((int n).canLay0 && PyData.canLayAll0 (ns.map int))=true
  rw[lay_ints ns];rfl
theorem wm:∀ns:List Int,PyData.depthAll (ns.map int)=0
 | []=>rfl
 |n :: ns=>by
  show max (int n).depth (PyData.depthAll (ns.map int))=0
  rw[wm ns];rfl
def shaped_ints (ns:List Int):SeqAt.shaped (.list (ns.map int))=true:=by
 unfold SeqAt.shaped
 have h1:(PyData.list (ns.map int)).canLay0=true:=by simp only[PyData.canLay0];exact lay_ints ns
 have h2:(PyData.list (ns.map int)).depth<=64:=by simp only[PyData.depth];rw[wm];omega
 rw[h1,OE h2];rfl
theorem xH:∀l m:List Int,PyData.eqvAll (l.map int) (m.map int)=decide (l=m)
 | [],[]=>rfl
 | [],_ :: _=>rfl
 |_ :: _,[]=>rfl
 |p :: l,q :: m=>by
  show ((p == q) && PyData.eqvAll (l.map int) (m.map int))=_
  rw[xH l m,O3]
  simp
def xy (neg:Bool)(l m:List Int):c9 neg (.list (l.map int)) (.list (m.map int))=some (.bool (if neg then !decide (l=m) else decide (l=m))):=by
 unfold c9
 rw[shaped_ints,shaped_ints]
 simp only[Bool.and_self,PL,PyData.eqv,xH]
theorem rj {α:Type}:∀{l:List α} {k:Nat} {x:α},l[k]? =some x->(x :: l.eraseIdx k).Perm l
 | [],_,_,h=>by simp at h
 |y :: l,0,x,h=>by simp at h;subst h;exact List.Perm.refl _
 |y :: l,k + 1,x,h=>by
  have h:l[k]? =some x:=by simpa using h
  have ih:=rj h
  show (x :: y :: l.eraseIdx k).Perm (y :: l)
  exact (List.Perm.swap y x _).trans (ih.cons y)
theorem um {α β:Type}(f:α->β):∀(l:List α) (k:Nat),(l.map f).eraseIdx k=(l.eraseIdx k).map f
 | [],_=>rfl
 |_ :: _,0=>rfl
 |x :: l,k + 1=>by simp[um f l k]
def oH {a b:List D}(h:a.length + b.length<=10000):kZ (.list a) (.list b)=some (.list (a ++ b)):=Ov (by rw[O4];omega)
def iE (n:Nat):List Int:=(List.range n).map λ(k:Nat)=>(k:Int)
def mf (n:Nat):(iE n).length=n:=by unfold iE;simp
def fW {n:Nat}{x:Int}:x∈iE n↔0<=x/\x < n:=by
 unfold iE
 rw[Pj]
 constructor
 ·rintro⟨k,hk,rfl⟩
  have:=Po.mp hk
  omega
 ·intro h
  exact⟨x.toNat,Po.mpr (@AT),@AT ⟩
def Bi (n:Nat):(iE n).Nodup:=by
 unfold iE
 rw[Qq,QZ]
 exact (Qq.mp List.nodup_range).imp λ{a b} h e=>h (@AT)
def ui (n:Nat):fO 0 n=(iE n).map int:=by
 unfold fO iE
 rw[QX]
 refine PV λk _=>?_
 show int (0 + (k:Int))=_
 rw[PN];rfl
theorem jS {lo:Int}{n i:Nat}{d:D}(h:(fO lo n)[i]? =some d):i < n/\d=.int (lo + i):=by
 unfold fO at h
 rw[OK] at h
 cases q:(List.range n)[i]? with
 |none=>rw[q] at h;cases h
 |some j=>
  rw[q] at h
  cases h
  obtain⟨hi,ej⟩:=Oy.mp q
  rw[PU] at hi
  rw[List.getElem_range] at ej
  subst ej
  exact⟨hi,rfl⟩
def wQ {n:Nat}(h:n<=1000):gN (.int n)=some (.list ((iE n).map int)):=by
 unfold gN
 dsimp only
 rw[Ov ⟨@AT,@AT ⟩,O8,ui]
def gO {fa:VF D}{vs:List Nv}{β β1:Int}{n:Nat}(h:fa vs β=.ok (.int n) β1)(hn:n<=1000):fm fa vs β=.ok (fO 0 n) β1:=by
 unfold fm
 rw[h]
 simp only[qM]
 rw[Ov (BG (@AT) (@AT)),O8]
def gP {t:Tg}{L:@G_}{fi:VF (List D)}{m:SF}{env:En}{β β1:Int}{ds:List D}(h:fi (vl env) β=.ok ds β1):iq t L fi m env β=ly t m ds (aY L env) β1:=by unfold iq;rw[h];rfl
def lF {m:Nat}(h:1<=m)(h2:m<=1000)(β:Int):∃j:Nat,j < m/\dP [.int m] β=.ok (.int (j:Int)) false (β / m):=by
 refine⟨(β % m).toNat,?_,?_⟩
 ·have h0:=QD β (b:=(m:Int)) (@AT)
  have h3:=QE β (b:=(m:Int)) (@AT)
  omega
 ·rw[vG (@AT) (@AT)]
  have h0:=QD β (b:=(m:Int)) (@AT)
  rw[show ((β % m).toNat:Int)=β % m by omega]
theorem vm (p:Pr):∀l:@C_,((l.map aB).any λe=>PyData.eqv e (aB p))=decide (p∈l)
 | []=>rfl
 |q :: l=>by
  rw[PM,Qo,vm p l,Cw,O3]
  simp only[PX,OP,OC]
  exact⟨λh=>h.imp Eq.symm id,λh=>h.imp Eq.symm id⟩
def Ax (l:@C_):(l.map aB).all SeqAt.shaped=true:=by
 rw[O9]
 intro d hd
 obtain⟨p,_,rfl⟩:=Pj.mp hd
 exact oU p
def nW (neg:Bool)(p:Pr)(l:@C_):nU neg (aB p) (.tuple (l.map aB))=some (.bool (if neg then !decide (p∈l) else decide (p∈l))):=by
 unfold nU
 simp only[p6,oU,Ax,Bool.and_self,PL,vm]
def Gq (neg:Bool)(p:Pr)(l:@C_):nU neg (aB p) (.list (l.map aB))=some (.bool (if neg then !decide (p∈l) else decide (p∈l))):=by
 unfold nU
 simp only[p6,oU,Ax,Bool.and_self,PL,vm]
def oo (neg:Bool)(i j:Int):c9 neg (.int i) (.int j)=some (.bool (if neg then !decide (i=j) else decide (i=j))):=rfl
theorem qf {fa fb:VF D}{vs:List Nv}{β:Int}{a b:Bool}(h:fa vs β=.ok (.bool a) β)(h':fb vs β=.ok (.bool b) β):jg fa fb vs β=.ok (.bool (a && b)) β:=by
 unfold jg
 rw[h]
 dsimp only[R.bnd]
 cases a with
 |true=>exact h'
 |false=>rfl
def fT {fa fb:VF D}{vs:List Nv}{β:Int}{a b:Int}(h:fa vs β=.ok (.int a) β)(h':fb vs β=.ok (.int b) β):aO (ae fa (ae fb ag)) vs β=.ok (aB (a,b)) β:=by
 refine kG (ds:=[.int a,.int b]) ?_ @IN
 rw[cU,h]
 dsimp only[R.bnd]
 rw[cU,h'];rfl
def JJ (l:@C_)(p:Pr):Bool:= !decide (p.1=p.2) && (!decide ((p.1,p.2)∈l) && !decide ((p.2,p.1)∈l))
def Mb {n:Nat}{l:@C_}{fa:VF D}{vs:List Nv}{β:Int}(h:fa vs β=.ok (aA n l) β):f2 fa @Ch b7 vs β=.ok (.tuple (l.map aB)) β:=aG h rfl rfl
def N9 {n:Nat}{l:@C_}{fa:VF D}{vs:List Nv}{β:Int}(h:fa vs β=.ok (aA n l) β):f2 fa @Fa b7 vs β=.ok (.int n) β:=aG h rfl rfl
def Ez:@Do:=aW 3 3 pN
def MY (n:Nat)(l:@C_)(a b:Int):Ez [aA n l,.int a,.int b]=.ok (.bool (JJ l (a,b))) false:=by
 show fin (toS (jg (f2 (gv 1) (gv 2) (c9 true)) (jg (f2 (aO (ae (gv 1) (ae (gv 2) ag))) (f2 (gv 0) @Ch b7) (nU true)) (f2 (aO (ae (gv 2) @J_)) (f2 (gv 0) @Ch b7) (nU true))) [.da (aA n l),.da (.int a),.da (.int b)] 0) _)=_
 rw[qf (aG (x:=.int a) (y:=.int b) rfl rfl (oo true a b)) (qf (aG (fT (a:=a) (b:=b) rfl rfl) (Mb (n:=n) (l:=l) rfl) (nW true (a,b) l)) (aG (fT (a:=b) (b:=a) rfl rfl) (Mb (n:=n) (l:=l) rfl) (nW true (b,a) l)))]
 rfl
def jH:@Do:=aW 1 1 iD
def Gb {n:Nat}(h1:1<=n)(h8:n<=8):jH [.int n]=.ok (.list ((OM.du n).map aB)) true:=by
 have hm:n * n<=64:=Qh h8 h8
 have e:aU 1 [0] (.nm 0) (fm (f2 (gv 0) (gv 0) dw)) nO (aO (ae (f2 (gv 0) (gv 1) Jp) (ae (f2 (gv 0) (gv 1) lu) ag))) [.da (.int n)] 0=.ok (.list ((OM.du n).map aB)) 0:=by
  have hi:fm (f2 (gv 0) (gv 0) dw) [.da (.int n)] 0=.ok ((List.range (n * n)).map λ(k:Nat)=>int (0 + (k:Int))) 0:=by
   refine gO (n:=n * n) (aG (x:=.int n) (y:=.int n) rfl rfl ?_) (@AT)
   rw[rm ⟨@AT,@AT ⟩];rfl
  rw[dC (l:=List.range (n * n)) (e:=λ(k:Nat)=>int (0 + (k:Int))) (λk=>aB (((k / n:Nat):Int),((k % n:Nat):Int))) hi (by rw[PU];omega) λk hk=>⟨_,rfl,?_⟩]
  ·unfold OM.du;rw[QX];rfl
  ·refine fT (aG (x:=.int (0 + (k:Int))) (y:=.int n) rfl rfl ?_) (aG (x:=.int (0 + (k:Int))) (y:=.int n) rfl rfl ?_)
   ·rw[HE (@AT) (@AT),PN];rfl
   ·rw[pj (@AT),PN];rfl
 show fin (iD [.fz (.int n)] 0)=_
 unfold iD
 rw[wC,show vl [Sl.fz (.int n)]= [.da (.int n)] from rfl,e];rfl
def si (n:Nat)(l:@C_):@C_:=(OM.du n).filter (JJ l)
def fP (n:Nat):(OM.du n).length=n * n:=by unfold OM.du;simp
def EM {n:Nat}{l:@C_}(h8:n<=8):(si n l).length<=64:=by
 have h1:(si n l).length<=(OM.du n).length:=Pa _ _
 rw[fP] at h1
 have:n * n<=64:=Qh h8 h8
 omega
def jn {n:Nat}{l:@C_}{p:Pr}:p∈si n l↔((0<=p.1/\p.1 < n)/\(0<=p.2/\p.2 < n))/\JJ l p=true:=by
 unfold si;rw[OG,OM.bV]
noncomputable def nH:@Do:=aW 1 1 (gB j7 jH Ez)
def iA {fa:VF D}{vs:List Nv}{β:Int}{c:Bool}(h:fa vs β=.ok (.bool c) β):i6 fa vs β=.ok c β:=by rw[qV,h];rfl
def vg {n:Nat}{l:@C_}(O:OM.Ord n l):nH [aA n l]=.ok (.list ((si n l).map aB)) true:=by
 have hm:n * n<=64:=Qh O.hi O.hi
 show fin (gB j7 jH Ez [@E_] 0)=_
 unfold gB
 rw[aL (env':=[@E_]) (β':=0) ?g1]
 case g1=>
  show toS (au j7 (ae (gv 0) ag) [.da (aA n l)] 0) _=_
  rw[av (ds:=[aA n l]) rfl (rH O)];rfl
 have e:aU 2 [0] (.two 0 1) (bR (au jH (ae (f2 (gv 0) @Fa b7) ag))) (i6 (au Ez (ae (gv 2) (ae (gv 0) @J_)))) (aO (ae (gv 0) @J_)) [.da (aA n l)] 0=.ok (.list ((si n l).map aB)) 0:=by
  have hi:bR (au jH (ae (f2 (gv 0) @Fa b7) ag)) [.da (aA n l)] 0=.ok ((OM.du n).map aB) 0:=by
   unfold bR
   rw[av (ds:=[.int n]) rfl (Gb O.lo O.hi)];rfl
  exact cx (l:=OM.du n) (e:=aB) (JJ l) aB hi (by rw[fP];omega) λp hp=>⟨_,rfl,iA (av (ds:=[aA n l,.int p.1,.int p.2]) rfl (MY n l p.1 p.2)),λ_=>fT rfl rfl⟩
 show fin (toS (aU 2 [0] (.two 0 1) (bR (au jH (ae (f2 (gv 0) @Fa b7) ag))) (i6 (au Ez (ae (gv 2) (ae (gv 0) @J_)))) (aO (ae (gv 0) @J_)) [.da (aA n l)] 0) _)=_
 rw[e];rfl
def iG:SF:=(aK (bK 2 (@EQ ++ []) (f2 (f2 (cst (.int 7919)) (gv 1) dw) (cst (.int 13)) cj))
 (aK (iF @EQ (cP (f2 (gv 1) (f1 (gv 0) c6) uk))
 (bK 2 @EQ (f2 (gv 0) (gv 1) b7))
 mO)
 (aK (iF (@EQ ++ []) (cP (f2 (f2 (gv 2) (cst (.int 2)) lu) @Fa (c9 false)))
 (j0 (bz (ae (f2 (gv 2) (cst (.int 2)) Jp) ag)))
 mO)
 (aK (bK 3 [] @Fa)
 (aK (iq (.nm 4) [] (fm (cst (.int 16)))
 (aK (bK 5 ((((@EQ ++ []) ++ @EQ) ++ []) ++ []) (f2 (f2 (f2 (f2 (f2 (gv 2) (cst (.int 2147483647)) lu) (cst (.int 48271)) dw) (f2 (cst (.int 7919)) (gv 4) dw) cj) @Ch cj) (cst (.int 2147483647)) lu))
 (aK (bK 5 (@EQ ++ []) (f2 (f2 (gv 5) (gv 5) dw) (cst (.int 2147483629)) lu))
 (bK 3 (@EQ ++ (([] ++ @EQ) ++ [])) (f2 (f2 (gv 3) (cst (.int 2147483647)) dw) (f2 (f2 (gv 5) (f2 (gv 5) (cst (.int 13)) cj) dw) (cst (.int 2147483647)) lu) cj)))))
 (j0 (bz (ae (gv 3) ag))))))))
def eH (aP:List D->Int->FB):SF:=(aK (k9 2 [] (f1 (gv 1) Ho))
 (aK (k9 3 [] (bz ag))
 (aK (h9 @EQ (cP (f2 (gv 2) (bz ag) (c9 true)))
 (kA 3 2 @EQ (oN 0 aP (ae (f1 (gv 2) c6) ag))) 1000)
 (bM (f1 (gv 3) oX)))))
def jB:SF:=(aK (k9 2 [] (bz ag))
 (aK (iq (.nm 3) [] (fm (gv 0))
 (iq (.nm 4) [] (fm (gv 0))
 (iF (@EQ ++ @EQ) (BF (cP (f2 (gv 3) (gv 4) (c9 true))) (i6 (f1 (aU 1 [3,4] (.nm 0) (bR (gv 1)) nO (f2 (oW (gv 0) (gv 1)) (oW (gv 0) (gv 2)) uk)) (b9 λbs=>bs.all id))))
 (oB 2 ([3] ++ ([4] ++ [])) (aO (ae (gv 3) (ae (gv 4) ag))))
 mO)))
 (bM (f1 (gv 2) oX))))
def iP:SF:=(bM (f2 (gv 0) (f2 @Ch (gv 1) HS) L9))
def gE (aJ:@Do):SF:=(aK (k9 1 (@EQ ++ @EQ) (f2 (bz (ae @Fa ag)) (f2 (gv 0) @Fa b7) rC))
 (aK (iq (.two 2 3) @EQ (bR (f2 (gv 0) @Ch b7))
 (xu 1 (@EQ ++ ([2] ++ [])) [] (au aJ (ae (f2 (gv 1) (gv 3) b7) (ae (gv 2) ag))) (gv 3)))
 (qG 1)))
def gC (aJ:@Do):SF:=(aK (k9 2 [] (bz ag))
 (aK (iq (.two 3 4) [0] (El (gv 0))
 (iF ((([1] ++ ([3] ++ [])) ++ []) ++ (@EQ ++ [])) (BF (cP (f2 (au aJ (ae (gv 1) (ae (gv 3) ag))) (gv 1) (c9 true))) (cP (f2 (f2 (gv 1) (gv 4) Dg) (gv 4) (c9 false))))
 (oB 2 [3] (gv 3))
 mO))
 (qG 2)))
def jj (dq aJ:@Do):SF:=(aK (k9 2 [] (bz ag))
 (aK (bK 3 [] @Fa)
 (aK (h9 @EQ (cP (f2 (f1 (gv 2) c6) (f1 (gv 0) c6) uk))
 (aK (bK 4 ([0] ++ ([3] ++ [])) (au dq (ae (gv 0) (ae (gv 3) ag))))
 (aK (bK 5 @EQ (aU 1 [1] (.nm 0) (bR (gv 4)) (cP (f2 (gv 0) (gv 1) (nU true))) (gv 0)))
 (aK (oB 2 (@EQ ++ []) (f2 (f2 (gv 5) (gv 4) kZ) @Fa b7))
 (bK 3 ([3] ++ (@EQ ++ [])) (au aJ (ae (gv 3) (ae (f2 (gv 2) (f1 @Ch nV) b7) ag))))))) 1000)
 (bM (f1 (gv 2) oX)))))
def kz:SF:=(bM (JR (f2 (f2 (gv 1) @Fa b7) (f2 (gv 2) @Ch b7) (c9 false)) (f2 (aO (ae (f2 (gv 1) @Fa b7) (ae (f2 (gv 2) @Ch b7) ag))) (f2 (gv 0) @Ch b7) (nU false))))
def kF (aJ:@Do):SF:=(bM (f2 (au aJ (ae (f2 (gv 0) (gv 2) b7) @J_)) (f2 (gv 0) (gv 2) b7) (c9 false)))
def ju (bE:@Do):SF:=(bM (au bE (ae (gv 0) (ae (f2 (gv 1) @Ch b7) (ae (f2 (gv 1) @Fa b7) ag)))))
def jw (bE:@Do):SF:=(bM (au bE (ae (gv 0) (ae (f2 (gv 1) @Fa b7) (ae (f2 (gv 1) @Ch b7) ag)))))
def km (bE aJ:@Do):SF:=(aK (bK 2 ([] ++ [0]) (aU 1 [1,0] (.nm 0) (fm (f1 (gv 0) c6)) (nh (cP (f2 (gv 0) (f2 (gv 1) @Fa b7) (c9 false))) (i6 (au bE (ae (gv 2) (ae (f2 (gv 1) @Fa b7) (ae (gv 0) ag)))))) (gv 0)))
 (aK (bK 3 (([] ++ @EQ) ++ (@EQ ++ [])) (au aJ (ae (f2 (gv 0) (f2 (gv 1) @Ch b7) b7) (ae (f2 (gv 1) @Ch b7) ag))))
 (j0 (aU 2 [2,3] (.two 0 1) (El (gv 0)) nO (Mc (cP (f2 (gv 0) (gv 2) (nU false))) (f2 (gv 1) (gv 3) L9) (gv 1))))))
def jl (bW:@Do):SF:=(aK (k9 3 (([2] ++ []) ++ []) (bz (ae (bz (ae (gv 2) ag)) ag)))
 (aK (bK 4 [1] (gv 1))
 (aK (bK 5 [] @Fa)
 (aK (h9 ([0] ++ ((@EQ ++ []) ++ ([2] ++ []))) (pz (i6 (au bW (ae (gv 0) (ae (f2 (f2 (gv 3) (gv 5) b7) (f1 @Ch nV) b7) (ae (gv 2) ag))))))
 (aK (bK 6 ([] ++ [0]) (aU 1 [0,3,5] (.nm 0) (bR (gv 4)) (i6 (au bW (ae (gv 1) (ae (f2 (f2 (gv 2) (gv 3) b7) (f1 @Ch nV) b7) (ae (gv 0) ag))))) (gv 0)))
 (aK (bK 4 @EQ (aU 1 [6] (.nm 0) (bR (gv 4)) (cP (f2 (gv 0) (gv 1) (nU true))) (gv 0)))
 (aK (AM 3 @EQ (aU 1 [3,5] (.nm 0) (bR (gv 6)) nO (f2 (f2 (gv 1) (gv 2) b7) (bz (ae (gv 0) ag)) kZ)))
 (bK 5 @EQ (f2 (gv 5) @Ch cj))))) 1000)
 (bM (f2 (gv 3) (gv 5) b7))))))
def iW (b8 bX fE gi:@Do):SF:=(aK (bK 5 (@EQ ++ []) (f2 (f2 (gv 2) (gv 3) b7) @Fa b7))
 (aK (bK 6 (@EQ ++ []) (f2 (f2 (gv 2) (gv 3) b7) @Ch b7))
 (aK (iF ([5] ++ ([4] ++ [])) (i6 (au bX (ae (gv 5) (ae (gv 4) ag))))
 (bM (aO (ae (cst (.str "ring")) (ae (gv 3) (ae (au fE (ae (gv 0) (ae (gv 6) (ae (gv 4) ag)))) ag)))))
 mO)
 (bM (au b8 (ae (gv 0) (ae (gv 1) (ae (f2 (f2 (By (gv 2) (λ_ β=>.ok none β) (BR (gv 3))) (bz (ae (aO (ae (au gi (ae (gv 5) (ae (gv 4) ag))) (ae (f2 (gv 6) (aO (ae (gv 4) ag)) qz) ag))) ag)) kZ) (By (gv 2) (BR (f2 (gv 3) @Ch cj)) (λ_ β=>.ok none β)) kZ) ag))))))))
def jx (bX:@Do):SF:=(bM (f1 (aU 2 [1] (.two 0 1) (bR (gv 0)) (pz (i6 (au bX (ae (gv 0) (ae (gv 2) ag))))) (gv 0)) c6))
def eZ (iX fx fF fB:@Do):SF:=(aK (bK 3 @EQ (aU 1 [2] (.nm 0) (bR (gv 1)) (pz (i6 (f1 (aU 2 [0] (.two 0 1) (bR (gv 1)) nO (au fx (ae (gv 0) (ae (gv 2) ag)))) (b9 λbs=>bs.any id)))) (gv 0)))
 (aK (iF @EQ (cP (f2 (f1 (gv 3) c6) @Fa (c9 false)))
 (bM (aO (ae (cst (.str "rows")) (ae (aU 2 [] (.two 0 1) (bR (gv 2)) nO (au fF (ae (gv 0) (ae (bz ag) ag)))) ag))))
 mO)
 (aK (bK 4 [3] (zM 2 (gv 3) (au fB (ae (gv 1) (ae (gv 0) ag)))))
 (aK (k9 5 [] (bz ag))
 (aK (iq (.nm 6) [] (fm (f1 (gv 2) c6))
 (aK (bK 7 ([0] ++ ([3] ++ ([2] ++ ([6] ++ ([4] ++ []))))) (au iX (ae (gv 0) (ae (gv 3) (ae (gv 2) (ae (gv 6) (ae (gv 4) ag)))))))
 (aK (iF (@EQ ++ []) (cP (f2 (f2 (gv 7) @Fa b7) (cst (.str "rows")) (c9 false)))
 (qG 7)
 mO)
 (oB 5 [7] (gv 7)))))
 (bM (aO (ae (cst (.str "turn")) (ae (gv 4) (ae (f1 (gv 5) oX) ag))))))))))
def qg (dg b8 bw:@Do):SF:=(aK (bK 2 (([0] ++ []) ++ @EQ) (aO (ae (au dg (ae (gv 0) ag)) (ae (aO ag) ag))))
 (bM (au b8 (ae (gv 0) (ae (au bw (ae (gv 0) ag)) (ae (f2 (bz (ae (gv 2) ag)) (gv 1) rC) ag))))))
def bJ (aI eN:@Do):SF:=(aK (cB ([0] ++ []) (au aI (ae (gv 0) ag)))
 (aK (bK 1 [] @Ch)
 (aK (bK 2 ([0] ++ ([1] ++ [])) (au eN (ae (gv 0) @J_)))
 (aK (h9 (@EQ ++ []) (cP (f2 (f2 (gv 2) @Fa b7) (cst (.str "rows")) (c9 true)))
 (aK (bK 1 @EQ (f2 (gv 1) @Ch cj))
 (bK 2 ([0] ++ ([1] ++ [])) (au eN (ae (gv 0) @J_)))) 1000)
 (bM (f2 (gv 2) @Ch b7))))))
def jR (bH:@Do):SF:=(bM (f1 (au bH (ae (gv 0) ag)) c6))
end RM
namespace L2
open PySem PySem.Spec PyProof.Rows
def ve (X:Cx)(H:Hp):Prop:=∃(e:Addr) (cls:Value),X.A.handled=some (.ref e)/\H e=some (.ext (fH e cls))
structure C4 (P:Program)(w:World)(K:Frag)(tg:Expr)(J:It)(fp:List Addr)(it:Addr)(tn:Nat->Heap->Prop):Prop where
 mem:it∈fp
 obj:∀i h,tn i h->∀b∈fp,∃o,h.get? b=some o/\∀v,o.data≠.cell v
 keep:∀i h h',tn i h->(∀b∈fp,∀o,h.get? b=some o->h'.get? b=some o)->tn i h'
 item:∀(X:Cx),X.prog=P->X.w=w->X.K=K->∀(i:Nat) (pins:@B_) (s:Shared) (σ:St) (H:Hp) (E:@Db),ve X H->@At->(∀b∈fp,g9 X pins H b)->tn i s.heap->J.go i H->
  wpAny (model P w) X.A (pyNext (.ref it)) (λr s1=>∃u,r=some u/\wpAny (model P w) X.A (letOwnedTupleGo tg (.ref it) u) (λ_ s2=>∃x H',Inv X pins σ H' s2/\RelV x u/\J.yld i H x H'/\tn (i + 1) s2.heap/\∀b∈fp,H' b=none) E s1) E s
 done:∀(X:Cx),X.prog=P->X.w=w->X.K=K->∀(i:Nat) (pins:@B_) (s:Shared) (σ:St) (H:Hp) (E:@Db),ve X H->@At->(∀b∈fp,g9 X pins H b)->tn i s.heap->J.stop i H->
  wpAny (model P w) X.A (pyNext (.ref it)) (λr s1=>r=none/\Inv X pins σ H s1) E s
 self:∀(A:Around) (i:Nat) (s:Shared) (Q:@Db) (E:@Db),tn i s.heap->Q (.ref it) s->wpAny (model P w) A (pyIter (.ref it)) Q E s
def A0 {P:Program}{w:World}{K:Frag}{tg:Expr}(it:Addr)(lo:Int)(n:Nat):C4 P w K tg (Bm lo n) [it] it (λi h=>IsRangeIter h it (lo + (i:Nat)) ((n:Int) - (i:Nat)) 1) where
 mem:=by simp
 obj:=λi h st b hb=>by
  obtain rfl:b=it:=by simpa using hb
  exact⟨_,st,λv z=>by
   have z':Data.fields _=Data.cell v:=z
   cases z'⟩
 keep:=λi h h' st k=>k it @IN _ st
 item:=by
  intro X hP hw hK i pins s σ H E _ I hf st hg
  subst hP hw hK
  obtain⟨f0,f1,f2,f3,f4,f5⟩:=hf it @IN
  have hg:i < n:=hg
  refine wpAny_pyNext_range_item st (@AT) λh' st' sb=>?_
  have I1:Inv X pins σ H {s with heap:=h',toks:=s.toks + 1}:=I.turned (λb o hb e=>sb.extBut b o hb e) f0 f1 f3 f4 f5
  have st2:IsRangeIter h' it (lo + ((i + 1:Nat):Int)) ((n:Int) - ((i + 1:Nat):Int)) 1:=by
   have e1:lo + ((i + 1:Nat):Int)=lo + (i:Int) + 1:=@AT
   have e2:(n:Int) - ((i + 1:Nat):Int)=(n:Int) - (i:Int) - 1:=@AT
   rw[e1,e2];exact st'
  exact⟨_,rfl,zu (s:={s with heap:=h',toks:=s.toks + 1}) (n:="range_iterator") st2 rfl rfl @Go ⟨.int (lo + i),H,I1,⟨s.toks,rfl⟩,⟨rfl,rfl⟩,st2,λb hb=>(hf b hb).1⟩⟩
 done:=by
  intro X hP hw hK i pins s σ H E hr I hf st hg
  subst hP hw hK
  obtain⟨f0,f1,f2,f3,f4,f5⟩:=hf it @IN
  obtain⟨e,cls,hh,he⟩:=hr
  obtain⟨⟨o,vs,ho,_,_,hd,h2⟩,_⟩:=(show cw X.prog X.w H s.heap e (.ext (fH e cls)) from I.hok e _ he)
  exact CD hh ho hd h2 st (by have:n<=i:=hg;omega) λh' eb=>⟨rfl,I.turned (t':=s.toks) (λb o hb e=>eb b o hb e) f0 f1 f3 f4 f5⟩
 self:=λ_ _ _ _ _ st h=>wpAny_pyIter_rangeiter st h
def MC (X:Cx)(pins:@B_)(σ:St)(tg:Expr)(R:It->Hp->Prop)(itv:Value)(s2:Shared):Prop:=
 ∃(it:Addr) (fp:List Addr) (tn:Nat->Heap->Prop) (J:It) (H':Hp),itv=.ref it/\Inv X pins σ H' s2/\C4 X.prog X.w X.K tg J fp it tn/\tn 0 s2.heap/\(∀b∈fp,g9 X pins H' b)/\R J H'
def MP (X:Cx)(tg iter:Expr)(wi:TI):Prop:=
 ∀(pins:@B_) (s:Shared) (σ:St) (H:Hp) (R:It->Hp->Prop),@At->wi σ H R->wpAny @Cl X.A (eval iter X.env) (λv s1=>wpAny @Cl X.A (pyIter v) (MC X pins σ tg R) X.xe s1) X.xe s
def HJ (X:Cx)(own:Nat)(ixs:@G_)(wi:TI)(g:TG)(tt:TT)(te:TE)(σ:St)(H:Hp)(Q:VK):Prop:=wi σ H λJ H1=>∀D,H1 D=none->∃W:Nat->Nat->St->Hp->Prop,(∀i m σ' H',W i m σ' H'->ve X H')/\(∃m,W 0 m (dv own ixs σ) (upd H1 D (.lst [])))/\∀i m σ' H',W i m σ' H'->
 (J.stop i H'/\(∃acc,H' D=some (.lst acc))/\Q (.ref D) H')\/
 (J.go i H'/\∃N:St->Hp->Prop,(∀σ2 H2,N σ2 H2->∃m',m' < m/\W (i + 1) m' σ2 H2)/\∀x H2,J.yld i H' x H2->g x σ' H2 λσ3 H3=>tt σ3 H3 λb H4=>
  @Is)
section
variable {X:Cx}{tg:Expr}
theorem zP {a:Expr}{ta:TA}{p pos:Pos}(hg:Gl X "range")(hm:X.mg "range"=none)(ha:PA X [a] ta)(hs:starEach [a] X.env= [(false,eval a X.env)]:=by rfl):MP X tg (.Call (.Name "range" p) [a] [] pos) (Hh ta):=by
 intro pins s σ H R I h
 refine Call_ (nu I hg hm boot_range (Qj (cc (ha pos pins s σ H _ I h) λus s1 ⟨vs,H1,I1,r1,q1⟩=>?_) hs rfl))
 obtain⟨j,e,q1,q2,q⟩:=q1
 subst e
 cases r1 with
 |cons r rr=>
  cases rr
  obtain⟨t,rfl⟩:=r
  refine call_range_1 (wpAny_pyIter_range (IsRange.new ..) (small_one (@AT) (@AT) q1 q2) ?_)
  have sz:∀(h:Heap) (o:Obj),h.objs.size<=(h.push o).objs.size:=λh o=>by rw[P2];omega
  refine⟨_,[_],_,_,H1,rfl,I1.kept λb o e=>Ow _ (Ow _ e),A0 _ 0 j.toNat,?_,λb hb=>?_,q⟩
  ·have e1:(0:Int) + ((0:Nat):Int)=0:=by simp
   have e2:((j.toNat:Nat):Int) - ((0:Nat):Int)=Builtin.Range.rangeSize 0 j 1:=by rw[rangeSize_one];split <;> omega
   show IsRangeIter _ _ ((0:Int) + ((0:Nat):Int)) (((j.toNat:Nat):Int) - ((0:Nat):Int)) 1
   rw[e1,e2]
   exact OQ _ rfl
  ·rw[OY] at hb
   subst hb
   exact I1.fpOk (sz _ _) (I1.hok.fresh (sz _ _))
end
section
variable {X:Cx}{NB:@H_}{own:Nat}{ixs:@G_}{scope:Scope}{elt tg iter:Expr}{ifs:List Expr}{pos:Pos}{wi:TI}{g:TG}{tt:TT}{te:TE}
def zi (S:bA X NB own ixs scope)
  (hg:∀C ex s3 H3 pn,PG @Fk tg g) (ht:∀C ex s3 H3 pn,yZ @Fk ifs tt) (he:∀C ex s3 H3 pn,PE @Fk elt te)
  {pins:@B_} {σ:St} {H1:Hp} {s2:Shared} {it:Addr} {fp:List Addr} {tn:Nat->Heap->Prop} {J:It} {Q:VK} (I2:Inv X pins σ H1 s2) (T:C4 X.prog X.w X.K tg J fp it tn) (st2:tn 0 s2.heap) (f2:∀b∈fp,g9 X pins H1 b)
  (hQ:∀D,H1 D=none->∃W:Nat->Nat->St->Hp->Prop,(∀i m σ' H',W i m σ' H'->ve X H')/\(∃m,W 0 m (dv own ixs σ) (upd H1 D (.lst [])))/\∀i m σ' H',W i m σ' H'->
   (J.stop i H'/\(∃acc,H' D=some (.lst acc))/\Q (.ref D) H')\/
   (J.go i H'/\∃N:St->Hp->Prop,(∀σ2 H2,N σ2 H2->∃m',m' < m/\W (i + 1) m' σ2 H2)/\∀x H2,J.yld i H' x H2->g x σ' H2 λσ3 H3=>tt σ3 H3 λb H4=>
    @Is))
  {E:@Db} {RR:Value->Addr->Result->Shared->Prop}
  (fin:∀D C H' s' m,Inv X pins σ H' s'->Q (.ref D) H'->s'.heap.Ns C m->H' C=none->C≠X.env.locals->(∀x c,X.env.cells.lookup x=some c->c≠C)->X.s₀.heap.objs.size<=C->(∀p∈X.pn ++ pins,p.1≠C)->RR (.ref D) C (.ok .next) s') :
  wpAny @Cl X.A (newList []) (λacc s3=>wpAny @Cl X.A (newFunctionEnv scope X.env.globals (gc X.env.cells scope.names []) [] X.env.qual none .none (some X.env)) (λcenv s4=>
   codeAny @Cl X.A (.compStart @IO 0 (.ref it) acc {cenv with scope:=relabel scope X.env}) (RR acc cenv.locals) s4) E s3) E s2:=by
 refine wpAny_newList ?_ (O7 _)
 have hD:H1 s2.heap.objs.size=none:=I2.hok.fresh (Ox _)
 obtain⟨W,wr,⟨m0,w0⟩,turn⟩:=hQ s2.heap.objs.size hD
 generalize hs3:({s2 with heap:=s2.heap.push (seqObj "list" ([]:@GM).toArray 0)}:Shared)=s3
 have I3:Inv X pins σ (upd H1 s2.heap.objs.size (.lst [])) s3:=by
  rw[<-hs3]
  exact I2.lnew (ys:=[]) (its:=[]) (t':=s2.toks) .nil (O7 _)
 have k3:∀b o,s2.heap.get? b=some o->s3.heap.get? b=some o:=λb o e=>by rw[<-hs3];exact Ow _ e
 have sz3:s3.heap.objs.size=s2.heap.objs.size + 1:=by rw[<-hs3];exact P2 ..
 have ob2:∀b∈fp,∃o,s2.heap.get? b=some o:=λb hb=>let ⟨o,e,_⟩:=T.obj 0 _ st2 b hb;⟨o,e⟩
 have neD:∀b∈fp,b≠s2.heap.objs.size:=λb hb=>let ⟨o,e⟩:=ob2 b hb;OX (Oz e)
 have f3:∀b∈fp,g9 X pins (upd H1 s2.heap.objs.size (.lst [])) b:=λb hb=>by
  obtain⟨a1,a2⟩:=f2 b hb
  exact⟨by rw[aE (neD b hb)];exact a1,a2⟩
 have st3:tn 0 s3.heap:=T.keep _ _ _ st2 λb _ o e=>k3 b o e
 refine Ae λh4 hn4 k4 ok4=>?_
 have I4:Inv (eV X NB scope s3.heap.objs.size fp s3 (upd H1 s2.heap.objs.size (.lst [])) (X.pn ++ pins)) [] (dv own ixs σ) (upd H1 s2.heap.objs.size (.lst [])) {s3 with heap:=h4}:=
  tK S I3 f3 (λb hb=>let ⟨o,e⟩:=ob2 b hb;⟨o,k3 _ _ e⟩) hn4 k4 ok4
 have st4:tn 0 h4:=T.keep _ _ _ st3 λb _ o e=>k4 b o e
 generalize hB:eV X NB scope s3.heap.objs.size fp s3 (upd H1 s2.heap.objs.size (.lst [])) (X.pn ++ pins)=B at I4
 have hgB:PG B tg g:=by rw[<-hB];exact hg _ _ _ _ _
 have htB:yZ B ifs tt:=by rw[<-hB];exact ht _ _ _ _ _
 have heB:PE B elt te:=by rw[<-hB];exact he _ _ _ _ _
 have eP:B.prog=X.prog:=by rw[<-hB];rfl
 have eW:B.w=X.w:=by rw[<-hB];rfl
 have eK:B.K=X.K:=by rw[<-hB];rfl
 have eA:B.A=X.A:=by rw[<-hB];rfl
 have eC:∀{H':Hp},ve X H'->ve B H':=λ{H'} h=>by unfold ve at h ⊢;rw[eA];exact h
 have eX:B.xe=λ_ _=>False:=by rw[<-hB];rfl
 have eE:B.env=compEnvC scope (BO X scope s3.heap.objs.size) s3.heap.objs.size X.env:=by rw[<-hB];rfl
 have ex:B.ex=fp:=by rw[<-hB];rfl
 have eL:B.env.locals=s3.heap.objs.size:=by rw[eE];rfl
 have stat:∀{H':Hp},(∀b∈fp,H' b=none)->∀b∈fp,g9 B [] H' b:=λ{H'} hn b hb=>by
  obtain⟨a1,a2,a3,a4,a5,a6⟩:=f3 b hb
  obtain⟨o,eo⟩:=ob2 b hb
  refine⟨hn b hb,?_,λz=>?_,.inl (by rw[ex];exact hb),λx c e z=>?_,λp hp z=>?_⟩
  ·rw[eL];exact OX (Oz (k3 _ _ eo))
  ·have hz:b∈fG X.stack:=by rw[<-hB] at z;exact z
   rcases OC.mp (I3.stkSub b hz) with q |q
   ·exact a2 q
   ·exact a3 q
  ·rw[eE] at e
   have e:(BO X scope s3.heap.objs.size).lookup x=some c:=e
   unfold BO at e
   rw[lU,QV] at e
   cases q:(cellsFrom (s3.heap.objs.size + 1) scope.names []).lookup x with
   |some c'=>
    rw[q] at e
    cases e
    have l1:=(pf (Pg q)).1
    rw[z] at l1
    exact OU _ (Qy l1 (Oz (k3 _ _ eo)))
   |none=>
    rw[q] at e
    have e:(gc X.env.cells scope.names []).lookup x=some c:=e
    rcases jZ e with⟨m1,m2⟩ |m1
    ·obtain⟨c',e'⟩:=I3.ok.has x (S.frees _ m1 rfl)
     rw[e'] at m2
     exact a5 x c' e' (by rw[<-z,m2];rfl)
    ·simp at m1
  ·have hp':p∈X.pn ++ pins:=by
    rw[<-hB] at hp
    rcases OR.mp hp with q |q
    ·exact q
    ·cases q
   exact a6 p hp' z
 have back:∀{σ':St} {H':Hp} {s':Shared},Inv B [] σ' H' s'->Inv X pins σ H' s':=λ{σ' H' s'} J'=>by
  have u:=J'.base
  have os:=J'.os
  have bare:=J'.bare
  have hok:=J'.hok
  subst hB
  exact I3.call' (ch:=fp) os u hok bare λb hb=>by
   obtain⟨a1,a2,a3,a4,a5,a6⟩:=f3 b hb
   exact⟨a4,a2,a5,a6⟩
 have loop:∀s5:Shared,s5={s3 with heap:=h4}->
   codeAny @Cl X.A (.compLoop @IO 0 (.ref it) (.ref s2.heap.objs.size) (compEnvC scope (BO X scope s3.heap.objs.size) s3.heap.objs.size X.env)) (RR (.ref s2.heap.objs.size) s3.heap.objs.size) s5:=by
  rintro s5 rfl
  refine tX (λn s'=>∃i σ' H',Inv B [] σ' H' s'/\tn i s'.heap/\(∀b∈fp,H' b=none)/\W i n σ' H') ?_ m0 ⟨0,_,_,I4,st4,λb hb=>(f3 b hb).1,w0⟩
  rintro n s6 ⟨i,σ6,H6,I6,st6,fr6,w6⟩
  rcases turn i n σ6 H6 w6 with⟨stop,⟨acc,hacc⟩,qn⟩ | ⟨go,N,hN,step⟩
  ·have:=T.done B eP eW eK i [] s6 σ6 H6 (λ_ _=>False) (eC (wr _ _ _ _ w6)) I6 (stat fr6) st6 stop
   rw[eA] at this
   refine cc this λr s7 ⟨hr,I7⟩=>?_
   subst hr
   obtain⟨m7,hn7,_⟩:=I7.loc
   rw[eL] at hn7
   have J7:=back I7
   refine fin _ _ H6 s7 m7 J7 qn hn7 (by rw[<-eL];exact I7.free) (λz=>?_) (λx c e z=>?_) ?_ λp hp z=>?_
   ·have:=I3.lt
    rw[<-z] at this
    exact OU _ this
   ·obtain⟨v,o,ho,_⟩:=I3.cell x c e
    exact absurd (Oz ho) (by rw[z];exact OU _)
   ·exact I3.sz
   ·have:=Oz (I3.pin p hp).1
    rw[z] at this
    exact OU _ this
  ·have hitem:=T.item B eP eW eK i [] s6 σ6 H6 (λ_ _=>False) (eC (wr _ _ _ _ w6)) I6 (stat fr6) st6 go
   rw[eA] at hitem
   refine cc hitem λr s7 ⟨u,hr,h7⟩=>?_
   subst hr
   refine cc h7 λ_ s8 ⟨x,H8,I8,r8,y8,st8,fr8⟩=>?_
   have I8':=I8.pinned (stat fr8) (T.obj _ _ st8)
   have ha:=hgB _ s8 σ6 H8 x u _ I8' r8 (step x H8 y8)
   rw[eP,eW,eA,eE,eX] at ha
   refine cc ha λ_ s9 ⟨σ9,H9,I9,q9⟩=>?_
   have hb:=htB _ s9 σ9 H9 _ I9 q9
   rw[eP,eW,eA,eE,eX] at hb
   refine cc hb λok s10 ⟨H10,I10,q10⟩=>?_
   have again:∀{σ7:St} {H7:Hp} {s7:Shared},Inv B ([] ++ pk fp s8.heap) σ7 H7 s7->N σ7 H7->∃m,m < n/\∃i σ' H',Inv B [] σ' H' s7/\tn i s7.heap/\(∀b∈fp,H' b=none)/\W i m σ' H':=λ{σ7 H7 s7} I7 n7=>by
    obtain⟨m',hm,w7⟩:=hN σ7 H7 n7
    refine⟨m',hm,i + 1,σ7,H7,I7.unpinned,T.keep _ _ _ st8 λb hb o e=>(I7.pin (b,o) (OS _ (OS _ (gj hb e)))).1,λb hb=>?_,w7⟩
    obtain⟨o,e,d⟩:=T.obj _ _ st8 b hb
    exact (I7.pin (b,o) (OS _ (OS _ (gj hb e)))).2.1
   cases ok with
   |false=>
    simp only[Pn,PZ] at q10 ⊢
    exact again I10 q10
   |true=>
    simp only[PL] at q10 ⊢
    have hv:=heB _ s10 σ9 H10 _ I10 q10
    rw[eP,eW,eA,eE,eX] at hv
    refine cc hv λy s11 ⟨v,H11,I11,r11,acc,hacc,hz,q11⟩=>?_
    have hap:=mz (X:=B) _ s11 σ9 H11 (.ref s2.heap.objs.size) [v] (.ref s2.heap.objs.size) [y] (λz H'=>z=.non/\N σ9 H') I11 rfl (.cons r11 .nil) ⟨_,acc,v,rfl,rfl,hacc,hz,rfl,q11⟩
    rw[eP,eW,eA,eX] at hap
    exact cc hap λ_ s12 ⟨_,H12,I12,_,_,q12⟩=>again I12 q12
 exact codeAny_compStart_list (loop _ rfl) (T.self X.A 0 _ _ _ st4 (loop _ rfl))
def BD (S:bA X NB own ixs scope)(hi:MP X tg iter wi)
  (hg:∀C ex s3 H3 pn,PG @Fk tg g) (ht:∀C ex s3 H3 pn,yZ @Fk ifs tt) (he:∀C ex s3 H3 pn,PE @Fk elt te)
  (hs:∀x,foldedSetIterable iter X.env x=pure x:=by intro _;rfl) :
  PE X @IO (HJ X own ixs wi g tt te):=by
 intro pins s σ H Q I h
 rw[eval_ListComp]
 refine QW (use:=none) rfl hs (kU λy hy e=>I.ok.has _ (S.frees y hy e)) S.kind (λy hy e=>by rw[S.names y hy,e]) ?_
 refine cc (hi pins s σ H _ I h) λv s1 h1=>cc h1 λitv s2 h2=>?_
 obtain⟨it,fp,tn,J,H2,e,I2,T,st2,f2,q2⟩:=h2
 subst e
 refine zi S hg ht he I2 T st2 f2 q2 (RR:=λacc C=>compPost @Cl X.A X.xe none (EP X pins σ Q) acc C) λD C H' s' m J' q hn hC n1 n2 n3 n4=>?_
 refine⟨m,hn,λh'' sb=>⟨.ref D,H',?_,rfl,q⟩⟩
 exact J'.turned (t':=s'.toks) (it:=C) (λb o hb e=>sb.extBut b o hb e) hC n1 (.inr n3) n2 n4
end
def pP {M:Model}{A:Around}{E:@Db}{s:Shared}{env:Env}{n:Str}{c:Addr}{v:Value}{Q:Unit->Shared->Prop}(hl:env.kindOf n=some .cell)(hc:env.cells.lookup n=some c)(hv:s.heap.IsCell c (some v))
  (h:∀h',h'.IsCell c none->Heap.SameBut c s.heap h'->Q () {s with heap:=h'}):wpAny M A (unbindName env n) Q E s:=by
 unfold unbindName
 refine Ou (wpAny_point (Ou ?_))
 unfold deleteName
 simp only[hl]
 refine Ou (wpAny_cellOf hc (Ou (wpAny_cellGet hv ?_)))
 simp only[Option.isSome_some,PL]
 exact wpAny_cellSet hv λh' h1 h2=>wpAny_point (h h' h1 h2)
section
variable {X:Cx}{pins:@B_}{σ:St}{H:Hp}{s:Shared}
def yK {M:Model}{A:Around}{E:@Db}{i:Nat}{x:Str}{v:V}{Q:Unit->Shared->Prop}(I:@At)(hN:X.N.Nodup)(hi:X.N[i]? =some x)(hk:X.env.scope.names.lookup x=some .cell)(hfn:X.fn x=true)(hv:σ[i]? =some (some v))
  (h:∀s',Inv X pins (σ.set i none) H s'->Q () s'):wpAny M A (unbindName X.env x) Q E s:=by
 obtain⟨m,hn,hl⟩:=id I.loc
 have cne:=I.cne
 obtain⟨u,_,look⟩:=hl i x v hi hv (.inr (.inl hk))
 obtain⟨c,hc,z⟩:∃c,X.env.cells.lookup x=some c/\s.heap.IsCell c (some u):=by
  rcases look with⟨q,_⟩ | ⟨_,c,q,z⟩
  ·have hk':X.env.kindOf x=some .cell:=hk
   rw[hk'] at q;cases q
  ·exact⟨c,q,z⟩
 refine pP hk hc z λh' hc' hs=>?_
 obtain⟨oc,hoc,hocd⟩:=id z
 have tracked:lq X.prog X.w H h':=lN I.hok λb o q hu=>(hs.2 b (λz=>by obtain⟨w',hw⟩:=hu;rw[z,I.freeC x c hc] at hw;cases hw)).trans q
 refine h {s with heap:=h'} ⟨I.ok,I.os,I.bare,⟨λb o e n hb hx=>?_,λb o e n hb hx=>?_,I.base.free,λb o e hx=>?_,I.base.tups,I.base.frzs,I.base.tbls⟩,⟨m,hn.sameBut hs (Ne.symm (cne x c hc)),λj y v' e1 e2 e3=>?_⟩,λy c' e=>?_,I.free,I.freeC,λp hp=>?_,tracked,by simpa using I.len⟩
 ·exact (hs.2 b (OX (OO (Oz e) (I.ok.cab x c hfn hc)))).trans (I.base.keep b o e n hb hx)
 ·obtain⟨sl,e1⟩:=I.base.slot b o e n hb hx
  exact⟨sl,(hs.2 b (OX (OO (Oz e) (I.ok.cab x c hfn hc)))).trans e1⟩
 ·obtain⟨o',e1⟩:=I.base.there b o e hx
  exact⟨o',(hs.2 b (OX (OO (Oz e) (I.ok.cab x c hfn hc)))).trans e1⟩
 ·by_cases hj:j=i
  ·subst hj
   rw[OJ (by rw[I.len];exact (Oy.mp hi).1)] at e2
   cases e2
  ·rw[OL (Ne.symm hj)] at e2
   obtain⟨u',r',q⟩:=hl j y v' e1 e2 e3
   refine⟨u',r',?_⟩
   rcases q with q | ⟨k,c',e,z'⟩
   ·exact .inl q
   ·refine .inr ⟨k,c',e,z'.sameBut hs ?_⟩
    rintro rfl
    exact hj (oK hN e1 (I.ok.inj _ _ _ e hc▸hi))
 ·by_cases hcc:c'=c
  ·subst hcc;exact⟨_,hc'⟩
  ·obtain⟨w2,z2⟩:=I.cell y c' e
   exact⟨w2,z2.sameBut hs hcc⟩
 ·obtain⟨e,n,ne,nf,d⟩:=I.pin p hp
  refine⟨(hs.2 p.1 ?_).trans e,n,ne,nf,d⟩
  intro q
  rw[q,hoc] at e
  have q':oc=p.2:=Option.some.inj e
  exact d _ (by rw[<-q'];exact hocd)
def zd {M:Model}{A:Around}{E:@Db}{i:Nat}{x:Str}{v:V}{Q:Unit->Shared->Prop}(I:@At)(hN:X.N.Nodup)(hi:X.N[i]? =some x)(hk:Loc X.env.scope x)(hf:X.fn x=true\/X.env.scope.names.lookup x=some .local)(hv:σ[i]? =some (some v))
  (h:∀s',Inv X pins (σ.set i none) H s'->Q () s'):wpAny M A (unbindName X.env x) Q E s:=by
 rcases hk with hk |hk
 ·exact A7 I hN hi hk hv h
 ·refine yK I hN hi hk ?_ hv h
  rcases hf with z |z
  ·exact z
  ·rw[z] at hk;cases hk
end
section
variable {X:Cx}
def EO {n x:Str}{i:Nat}{Dc:Addr}{np hpos pos:Pos}{body suite:List Stmt}{b0:Stmt}{tb:XK->TS}{th:Addr->TS}(hst:X.stack=X.env :: X.outer)(hfr:X.env.frame=some X.env.locals)(hex:X.ex= [])
  (hb:∀Eb Ex pn,Passes (lg X.prog X.w) (X.inTry Ex pn) Eb->pw (X.inTry Ex pn) body (tb Eb)) (hs:∀e,pw (X.inEx e) (b0 :: suite) (th e)) (hg:Gl X x) (hm:X.mg x=some (.ref Dc)) (hN:X.N.Nodup) (hi:X.N[i]? =some n) (hk:Loc X.env.scope n) (hf:X.fn n=true\/X.env.scope.names.lookup n=some .local)
  (hdb:@FS:=by decide) :
  PS X (.Try body [.ExceptHandler (some (.Name x np)) (some n) (b0 :: suite) hpos] [] [] pos) (NO X.K Dc i X.N.length tb th):=by
 intro pins s σ H D I h
 obtain⟨Eb,h1,h2⟩:=h
 refine wpAny_Try_except ?_
 refine Pl (hb Eb (λe s₁=>wpAny @Cl X.A (noteFrame e X.env) (λ_ s₂=>wpAny @Cl X.A (setFlight e none) (λ_ s₃=>wpAny @Cl X.A (handleBy e X.env [.ExceptHandler (some (.Name x np)) (some n) (b0 :: suite) hpos]) (SP X pins D) X.xe s₃) X.xe s₂) X.xe s₁) (X.pn ++ pins) ?_ [] s σ H D (I.toTry _) h1) (λf s1 q=>?_) λe s1 q=>q
 ·intro pins2 σ2 H2 s2 e s3 I2 hcx
  obtain⟨ea,cls,H',rfl,os,bare,un,hok,Ly,q⟩:=hcx
  have I3:Inv X pins σ2 H' s3:=(I2.call' os un hok bare (λb hb=>absurd hb @IN)).ofTry
  have I2':Inv X pins σ2 H2 s2:=I2.ofTry
  have nil:∀b:Addr,b∉X.ex:=λb=>by rw[hex];simp
  obtain⟨mt,hth⟩:=h2 cls none H' q
  obtain⟨fr,nw,T,rc,hHT,hnT⟩:=Ly
  obtain⟨oe,vs,oT,ts,he,hc,hdd,hd,hv1,hv2,hTe,hT,hdT,hv3⟩:=id rc
  have old:∀{b:Addr},s2.heap.get? b=none->X.s₀.heap.get? b=none:=λ{b} hb=>by
   cases z:X.s₀.heap.get? b with
   |none=>rfl
   |some o=>obtain⟨o',z'⟩:=I2'.base.there b o z (nil b);rw[hb] at z';cases z'
  have hpn:∀p∈X.pn ++ pins,p.1≠ea/\p.1≠T:=λp hp=>by
   have:=(I2'.pin p hp).1
   exact⟨λz=>by (rw[z,nw] at this;cases this),λz=>by (rw[z,hnT] at this;cases this)⟩
  have hfn:=I3.stack
  have mem:∀{b:Addr},b∈fG X.stack->∃o,s3.heap.get? b=some o/\∀ws,o.data≠.fields ws:=λ{b} hb=>(hfn.mem hb).2
  have tF:T∉fG X.stack:=λz=>by
   obtain⟨o,q,n⟩:=mem z
   rw[hT] at q;cases q;exact n _ hdT
  have hfn':s3.heap.FunFrames X.base (X.env :: X.outer):=by rw[<-hst];exact hfn
  have step:∀{h':Heap} {tk:Nat},Keeps (fG X.stack) [ea,T] s3.heap h'->Slots (fG X.stack) s3.heap h'->Inv X pins σ2 H' {s3 with heap:=h',toks:=tk}:=λ{h' tk} kp sl=>by
   have kept:∀b o,s3.heap.get? b=some o->b∉fG X.stack->b≠ea->b≠T->h'.get? b=some o:=λb o q hb n1 n2=>kp b o q hb (by simp[n1,n2])
   refine I3.exc hex he hd hT hdT (old nw) (old hnT) hpn kept sl (lN I3.hok λb o q hu=>?_)
   obtain⟨u,hu⟩:=hu
   refine kept b o q (λz=>?_) (λz=>?_) λz=>?_
   ·rw[I3.stkFree b z] at hu;cases hu
   ·rw[z,fr] at hu;cases hu
   ·rw[z,hHT] at hu;cases hu
  have hfr':X.A.frames=some (X.env :: X.outer):=by rw[<-hst];exact I3.ok.frames
  have more:∀{h4 h5:Heap} {T2:Addr},(s3.heap.get? T2=none\/T2=T)->Keeps [] [T2] h4 h5->Keeps (fG X.stack) [ea,T] s3.heap h4->Slots (fG X.stack) s3.heap h4->Keeps (fG X.stack) [ea,T] s3.heap h5/\Slots (fG X.stack) s3.heap h5:=λ{h4 h5 T2} tn k5 kp sl=>by
   have nT:∀b o,s3.heap.get? b=some o->b≠T->b≠T2:=λb o q n z=>by
    rcases tn with tn |tn
    ·rw[z,tn] at q;cases q
    ·exact n (z.trans tn)
   refine⟨λb o q hb hn=>k5 b o (kp b o q hb hn) @IN ?_,λb o q hb=>?_⟩
   ·simp only[OC,PB,Qz,not_or] at hn
    simp[nT b o q hn.2]
   ·obtain⟨x,q4⟩:=sl b o q hb
    exact⟨x,k5 b _ q4 @IN (by simp[nT b o q λz=>tF (z▸hb)])⟩
  have key:∀{h5:Heap} {T2:Addr},(s3.heap.get? T2=none\/T2=T)->Rc h5 ea cls T2 .none->Keeps (fG X.stack) [ea,T] s3.heap h5->Slots (fG X.stack) s3.heap h5->wpAny @Cl X.A (handleBy (.ref ea) X.env [.ExceptHandler (some (.Name x np)) (some n) (b0 :: suite) hpos]) (SP X pins D) X.xe {s3 with heap:=h5}:=λ{h5 T2} tn rc5 kp5 sl5=>by
   have I5:Inv X pins σ2 H' {s3 with heap:=h5}:=step (tk:=s3.toks) kp5 sl5
   obtain⟨oe5,vs5,he5,hc5,_,_⟩:=rc5.isExc
   refine wpAny_handleBy_cons (codeAny_handlers_test (mE (X:=X.inEx ea) (I5.toEx ea) hg hm ?_ hdb)) (by intro q;cases q)
   refine mt I5.kIn he5 hc5 ?_
   refine codeAny_handlers_suite_as (qj (s:={s3 with heap:=h5}) rc5 λh6 k6 rc6=>?_)
   obtain⟨kp6,sl6⟩:=more tn k6 kp5 sl5
   have I6:Inv X pins σ2 H' {s3 with heap:=h6}:=step (tk:=s3.toks) kp6 sl6
   have eL:ea≠X.env.locals:=λz=>by
    obtain⟨m,⟨o,es,ep,ho,hdd,r⟩,_⟩:=I3.loc
    rw[<-z,he] at ho;cases ho
    rw[hd] at hdd;cases hdd
   have eC:∀y c,X.env.cells.lookup y=some c->c≠ea:=λy c q z=>by
    obtain⟨v,o,ho,hdd⟩:=I3.cell y c q
    rw[z,he] at ho;cases ho
    rw[hd] at hdd;cases hdd
   have I7:=I6.track (cls:=cls) rc6.isExc fr (old nw) eL eC λp hp=>(hpn p hp).1
   refine oM I7 hN hi hk (v:=.ref ea) rfl (λs8 I8=>?_) hf
   refine Pl (hs ea pins s8 _ _ (Hi i D) (I8.toEx ea) (hth ea σ2 fr I3.len)) (λf s9 q9=>?_) λ_ _ z=>z.elim
   have back:∀{σ9:St} {H9:Hp} {Q:Unit->Shared->Prop},Inv (X.inEx ea) pins σ9 H9 s9->(∀s',Inv X pins ((σ9.set i (some .non)).set i none) H9 s'->Q () s')->wpAny @Cl X.A (do bindName X.env n .none;unbindBehindTheSuite X.env n hpos) Q X.xe s9:=λ{σ9 H9 Q} I9 hQ=>by
    refine Ou (wpAny_bindName (oM (I9.ofEx I.ok) hN hi hk (v:=.non) rfl (λs10 I10=>?_) hf))
    have hl:i < σ9.length:=by rw[I9.len];exact (Oy.mp hi).1
    exact wpAny_onRaise (zd (v:=.non) I10 hN hi hk hf (by rw[OJ hl]) hQ)
   cases f with
   |next=>obtain⟨σ9,H9,I9,q⟩:=q9;exact back I9 λs' I'=>⟨_,H9,I',q⟩
   |brk=>obtain⟨σ9,H9,I9,q⟩:=q9;exact back I9 λs' I'=>⟨_,H9,I',q⟩
   |cont=>obtain⟨σ9,H9,I9,q⟩:=q9;exact back I9 λs' I'=>⟨_,H9,I',q⟩
   |ret u=>obtain⟨v,σ9,H9,I9,r,q⟩:=q9;exact back I9 λs' I'=>⟨v,_,H9,I',r,q⟩
  refine uq hfr' hfn' hfr rc λh4 T2 kp4 sl4 tn rc4=>qj (s:={s3 with heap:=h4}) rc4 λh5 k5 rc5=>?_
  rw[<-hst] at kp4 sl4
  obtain⟨kp5,sl5⟩:=more tn k5 kp4 sl4
  exact key tn rc5 kp5 sl5
 ·cases f with
  |next=>exact QO (SP.ofTry q)
  |brk=>exact SP.ofTry q
  |cont=>exact SP.ofTry q
  |ret u=>exact SP.ofTry q
end
structure tP (P:Program)(w:World)(K:Frag)(mg:@FM)(base:Heap)(CX:vB)(k:Nat)(f:Addr)(fd:FuncData)(ps:@H_)(sp:Addr->Sp):Prop where
 len:∀x0 vs H Q E,sp x0 vs H Q E->vs.length=ps.length
 run:∀(x0:Addr) (A:Around) (outer:List Env) (s:Shared) (H:Hp) (args:Args) (us:@GM) (vs:List V) (Q:VK) (E:XK),iu k A->A.handled=some (.ref x0)->rR P w K mg base A outer s H->BindsTo s fd args (ps.zip us)->Vals vs us->sp x0 vs H Q E->
  codeAny (model P w) A (.call (.ref f) args) (CR CX outer P w H s Q E) s
section
variable {P:Program}{w:World}{K:Frag}{mg:@FM}{base:Heap}
theorem xV.okE {x qual:Str}{st:Stmt}{f:Addr}{fd:FuncData}{N ps:@H_}{k:Nat}{sp:Addr->Sp}(F:xV K x qual st f fd)(S:aF N ps (ah st))(len:∀e0 vs H Q E,sp e0 vs H Q E->vs.length=ps.length)
  (hbody:∀(e0:Addr) (cdv:Value) (A:Around) (outer:List Env) (s:Shared) (H:Hp) (vs:List V) (Q:VK) (E:XK),iu k (A.deeper (envOfC qual (ah st) s.heap.objs.size f cdv))->A.handled=some (.ref e0)->sp e0 vs H Q E->
   ∃t,pw (rF sk P w K mg base N qual (ah st) f cdv A outer s H E).nox (cG st) t/\t {nx:=λ_ H'=>Q .non H',rt:=Q} (start N vs) H):tP P w K mg base sk (k + 1) f fd ps sp:=by
 obtain⟨oc,od,kV,doc,pm,an,cdv,ct,osl,rfl,lk,hcd⟩:=F.ex
 refine⟨len,λx0 A outer s H args us vs Q E hr hh e0 hb r hsp=>?_⟩
 have hl:=len _ _ _ _ _ hsp
 have KX:K.In s.heap:=e0.mod.kin.keeps λb o e=>(e0.bs b o e).1
 have lim:s.heap.NoLimit:=e0.mod.nolimit.keeps λb o e=>(e0.bs b o e).1
 have hkind:∀y∈ps.zip us,(ah st).names.lookup y.1=some .local\/((ah st).names.lookup y.1=some .cell/\((cellsFrom (s.heap.objs.size + 1) (ah st).names []).lookup y.1).isSome=true):=λ⟨n,v⟩ hy=>by
  rcases S.par n (QP hy).1 with q |q
  ·exact .inl q
  ·exact .inr ⟨q,Qi _ _ _ (.inl q)⟩
 have hdep:A.depth < recursionLimit:=by have:=hr.dp;omega
 refine codeAny_call_function hdep (KX _ _ lk) rfl S.co S.gen rfl (PySem.W.codeRec_of KX hcd) (hb _ _ _ _ ?_)
 refine QN S.kind hkind λenv he s1 x=>?_
 subst he
 refine⟨lim.keeps x.toInCall.keep,codeAny_func ?_⟩
 obtain⟨t,ht,hq⟩:=hbody x0 cdv A outer s H vs Q E (hr.deeper _) hh hsp
 have I:Inv (rF sk P w K mg base N qual (ah st) f cdv A outer s H E) [] (start N vs) H s1:=qJ S e0 hl r x
 refine Pl (ht.nox [] s1 (start N vs) H _ I hq) (λfl s' hs=>?_) λe s' hs=>hs
 have fin:∀{σ':St} {H':Hp} {v:V} {u:Value},Inv (rF sk P w K mg base N qual (ah st) f cdv A outer s H E) [] σ' H' s'->RelV v u->Q v H'->CE outer P w H s Q u s':=
  λ{σ' H' v u} J rv q=>⟨v,H',J.os,J.bare,J.base,J.hok,rv,q⟩
 cases fl with
 |ret u=>
  obtain⟨v,σ',H',J,rv,q⟩:=hs
  exact fin J rv q
 |next=>
  obtain⟨σ',H',J,q⟩:=hs
  exact fin (v:=V.non) (u:=Value.none) J rfl q
 |brk=>
  obtain⟨_,_,_,q⟩:=hs
  exact False.elim q
 |cont=>
  obtain⟨_,_,_,q⟩:=hs
  exact False.elim q
end
section
variable {X:Cx}{CX:vB}{k:Nat}{f:Addr}{fd:FuncData}{ps:@H_}{sp:Sp}{dvs:List V}{ds:@GM}{E:XK}{x:Str}{p pos:Pos}{e:Expr}{es:List Expr}{t:TA}
theorem Em {spE:Addr->Sp}{x0:Addr}(F:tP X.prog X.w X.K X.mg X.base CX k f fd ps spE)(hr:iu k X.A)(hh:X.A.handled=some (.ref x0))(hg:Gl X x)(hm:X.mg x=some (.ref f))(hk:PySem.W.keepIn X.K (.ref f)=true)(hb:Binds X.K fd ps ds)(hd:Vals dvs ds)(hx:Passes CX X E)
  (ha:PA X (e :: es) t) (hdb:@FS:=by decide) (he:starEach (e :: es) X.env=(false,eval e X.env) :: starEach es X.env:=by rfl) (hpl:(backTo pos (starEach es X.env)).any (·.1)=false:=by rfl) :
  PE X (.Call (.Name x p) (e :: es) [] pos) (Dh (spE x0) dvs E t):=by
 intro pins s σ H Q I h
 refine Ql (mE I hg hm ?_ hdb)
 refine PySem.W.callWith_K (h₀:=X.base) I.ok.mod.kin hk (cc (ha pos pins s σ H _ I h) λus s1 ⟨vs,H1,I1,r,q⟩=>⟨I1.kIn,?_⟩) he hpl
 have r2:Vals (vs ++ dvs) (us ++ ds):=r.append hd
 have hl:(us ++ ds).length=ps.length:=by rw[<-r2.length];exact F.len _ _ _ _ _ q
 refine wpAny_call (QS (F.run x0 X.A X.stack s1 H1 ⟨us,[]⟩ (us ++ ds) (vs ++ dvs) Q E hr hh I1.env0 (hb s1 us I1.kIn hl) r2 q) λr s' hq=>?_)
 cases r with
 |error e=>exact hx pins σ H1 s1 e s' I1 hq
 |ok fl=>
  cases fl with
  |ret u=>exact I1.after hq
  |next=>exact False.elim hq
  |brk=>exact False.elim hq
  |cont=>exact False.elim hq
end
def Ci (X:Cx)(J:It)(own:Nat)(ixs:@G_)(g:TG)(tt:TT)(te:TE)(Q:VK)(D:Addr)(σ:St)(H:Hp):Prop:=∃W:Nat->Nat->St->Hp->Prop,(∀i m σ' H',W i m σ' H'->ve X H')/\(∃m,W 0 m (dv own ixs σ) (upd H D (.lst [])))/\∀i m σ' H',W i m σ' H'->
   (J.stop i H'/\(∃acc,H' D=some (.lst acc))/\Q (.ref D) H')\/
   (J.go i H'/\∃N:St->Hp->Prop,(∀σ2 H2,N σ2 H2->∃m',m' < m/\W (i + 1) m' σ2 H2)/\∀x H2,J.yld i H' x H2->de g tt te D x σ' H2 N)
structure A2 (X:Cx)(own:Nat)(ixs:@G_)(wi:TI)(g:TG)(tt:TT)(te:TE)(σ:St)(H:Hp)(Q:VK):Prop where
 out:wi σ H λJ H1=>∀D,H1 D=none->Ci X J own ixs g tt te Q D σ H1
def v9 {X:Cx}{NB:@H_}{own:Nat}{ixs:@G_}{scope:Scope}{tg iter elt:Expr}{ifs:List Expr}{wi:TI}{g:TG}{tt:TT}{te:TE}{pos:Pos}(S:bA X NB own ixs scope)(hi:MP X tg iter wi)
  (hg:∀C ex s3 H3 pn,PG @Fk tg g) (ht:∀C ex s3 H3 pn,yZ @Fk ifs tt) (he:∀C ex s3 H3 pn,PE @Fk elt te)
  (hs:∀x,foldedSetIterable iter X.env x=pure x:=by intro _;rfl):PE X @IO (A2 X own ixs wi g tt te):=
 λpins s σ H Q I h=>BD S hi hg ht he hs pins s σ H Q I h.out
def pM {X:Cx}{own:Nat}{ixs:@G_}{g:TG}{tt:TT}{te:TE}{Q:VK}{D:Addr}{σ:St}{H:Hp}{lo:Int}{n:Nat}(Pv:Nat->St->Hp->Prop)(hr:∀i σ H,Pv i σ H->ve X H)(h0:Pv 0 (dv own ixs σ) (upd H D (.lst [])))
  (hs:∀i σ H,i < n->Pv i σ H->de g tt te D (.int (lo + i)) σ H (Pv (i + 1))) (hd:∀σ H,Pv n σ H->(∃acc,H D=some (.lst acc))/\Q (.ref D) H) :
  Ci X (Bm lo n) own ixs g tt te Q D σ H:=by
 refine⟨λi m σ H=>m=n - i/\i<=n/\Pv i σ H,λi m σ' H' h=>hr _ _ _ h.2.2,⟨n,by simp,O7 _,h0⟩,?_⟩
 rintro i m σ H ⟨rfl,hi,p⟩
 by_cases hlt:i < n
 ·refine .inr ⟨hlt,Pv (i + 1),λσ' H' p'=>⟨n - (i + 1),@AT,rfl,hlt,p'⟩,λx H' y=>?_⟩
  obtain⟨e,y⟩:=y
  subst e y
  exact hs i σ _ hlt p
 ·have e:i=n:=@AT
  subst e
  exact .inl ⟨Ox _,hd σ H p⟩
def Ka (W:Addr->Nat->Prop):Addr->Sp:=λx0 vs H Q _=>∃(D:Addr) (j p:Nat),vs= [.ref x0,.int p]/\p < 16/\H x0=some (.ext (fH x0 (.ref D)))/\W D j/\∀H',ar H H'->Q (.bl (decide (p=j))) H'
def pJ (marks:Str->Option Nat)(m:SF):SF:=λenv β=>if kS env=true then (match m env 0 with
 | .rt d fr _=>.rt d fr β
 | .exc c=>(match marks c with
  |some j=>.rt (.list [.int (j:Int)]) true β
  |none=>.bad)
 | .nx e _=>if kS e=true then .nx e β else .bad
 |_=>.bad) else .bad
section
variable {X:Cx}{Γ:Fx}{E:XK}{m:SF}
structure LY (P:Program)(w:World)(K:Frag)(mg:@FM)(base:Heap)(ca:Str->Addr)(x y:Str)(marks:Str->Option Nat):Prop where
 ex:∃(gm Dc:Addr) (dm:FuncData) (W:Addr->Nat->Prop),tP P w K mg base sk 2 gm dm ["e","place"] (Ka W)/\mg y=some (.ref gm)/\PySem.W.keepIn K (.ref gm)=true/\Binds K dm ["e","place"] []/\mg x=some (.ref Dc)/\∀c j,marks c=some j->Mt K (.ref (ca c)) Dc/\W (ca c) j/\j < 16
end
end L2
namespace L2
open PySem
section
variable {X:Cx}{Γ:Fx}{E:XK}{m:SF}
def Bq {T:Addr}(hT:Ah T Γ.G0){n x y z:Str}{i k c16:Nat}{Dc gm:Addr}{dm:FuncData}{W:Addr->Nat->Prop}{marks:Str->Option Nat}{np hpos pos cp fp ap rp p1 p2 p3 p4 p5 zp lp:Pos}{scope:Scope}{body:List Stmt}(hb:∀Eb Ex pn H G,Ah T G->Passes (lg X.prog X.w) (X.inTry Ex pn) Eb->Ay (X.inTry Ex pn) (Fx.fn Γ.K H G Γ.ca) Eb body m)
  (hM:tP X.prog X.w X.K X.mg X.base sk k gm dm ["e","place"] (Ka W)) (hr:∀e,iu k (X.inEx e).A) (hmg:X.mg y=some (.ref gm)) (hkp:PySem.W.keepIn X.K (.ref gm)=true) (hbi:Binds X.K dm ["e","place"] [])
  (hw:∀c j,marks c=some j->Mt X.K (.ref (Γ.ca c)) Dc/\W (Γ.ca c) j/\j < 16)
  (hm:X.mg x=some (.ref Dc)) (hN:X.N.Nodup) (hrg:X.mg "range"=none) (S:∀e,bA (X.inEx e) [z,n] 1 [i] scope)
  (hG:∀e C ex s3 H3 pn,PG (eV (X.inEx e) [z,n] scope C ex s3 H3 pn) (.Name z p2) (la 0))
  (h0:∀e C ex s3 H3 pn (p:Pos),PE (eV (X.inEx e) [z,n] scope C ex s3 H3 pn) (.Name z p) (AZ 0))
  (h1:∀e C ex s3 H3 pn,PE (eV (X.inEx e) [z,n] scope C ex s3 H3 pn) (.Name n ap) (AZ 1))
  (hgy:∀e C ex s3 H3 pn,Gl (eV (X.inEx e) [z,n] scope C ex s3 H3 pn) y:=by intros;rfl) (hgr:∀e,Gl (X.inEx e) "range":=by intros;rfl)
  (hst:X.stack=X.env :: X.outer:=by rfl) (hfr:X.env.frame=some X.env.locals:=by rfl) (hex:X.ex= []:=by rfl) (hg:Gl X x:=by rfl) (hi:X.N[i]? =some n:=by rfl) (hk:Loc X.env.scope n:=by exact Or.inr rfl) (hf:X.fn n=true\/X.env.scope.names.lookup n=some .local:=by exact Or.inl rfl)
  (hdb:@FS:=by decide) (hdy:(y == ("__debug__":Str))=false:=by decide) :
  SS X Γ E (.Try body [.ExceptHandler (some (.Name x np)) (some n) [.Return (some (.ListComp (.Name z p1) [⟨.Name z p2,.Call (.Name "range" p3) [.Constant (.int 16) c16 p4] [] p5,[.Call (.Name y fp) [.Name n ap,.Name z zp] [] cp],0⟩] scope lp)) rp] hpos] [] [] pos) (pJ marks m):=by
 have hbU:∀Eb Ex pn,Passes (lg X.prog X.w) (X.inTry Ex pn) Eb->pw (X.inTry Ex pn) body (λD σ H=>∃H0 G0,Ah T G0/\sT (Fx.fn Γ.K H0 G0 Γ.ca) Eb m D σ H):=λEb Ex pn hp pins s σ H D I ⟨H0,G0,ht,q⟩=>hb Eb Ex pn H0 G0 ht hp pins s σ H D I q
 have hsU:∀e,pw (X.inEx e) [.Return (some (.ListComp (.Name z p1) [⟨.Name z p2,.Call (.Name "range" p3) [.Constant (.int 16) c16 p4] [] p5,[.Call (.Name y fp) [.Name n ap,.Name z zp] [] cp],0⟩] scope lp)) rp] _:=λe=>eM (jD (v9 (S e) (zP (hgr e) hrg (aw pB aR)) (hG e)
  (λC ex s3 H3 pn=>vF (o8 (Em (x0:=e) hM (hr e) rfl (hgy e C ex s3 H3 pn) hmg hkp hbi .nil DP (aw (h1 e C ex s3 H3 pn) (aw (h0 e C ex s3 H3 pn zp) aR)) hdy rfl rfl) λ_=>rfl)) λC ex s3 H3 pn=>h0 e C ex s3 H3 pn p1))
 refine PS.post (EO (i:=i) hst hfr hex hbU hsU hg hm hN hi hk hf hdb) λN σ H ⟨env,G,B,β,I,o⟩=>?_
 unfold pJ at o
 by_cases hf:kS env=true
 case neg=>rw[OA hf] at o;exact o.elim
 rw[Ov hf] at o
 refine⟨λcls _ H'=>∃c j,cls=.ref (Γ.ca c)/\marks c=some j/\ar H H'/\m env 0=.exc c,⟨H,G,hT.mono I.old,env,G,none,0,I.drop hf,?_⟩,?_⟩
 ·cases q:m env 0 with
  |nx e b=>
   rw[q] at o
   dsimp only at o
   by_cases hf2:kS e=true
   case neg=>rw[OA hf2] at o;exact o.elim
   rw[Ov hf2] at o
   intro B' G' H' σ' J s
   exact o B G' H' σ' (I.undropN J hf2) s
  |bk e b=>rw[q] at o;exact o.elim
  |ct e b=>rw[q] at o;exact o.elim
  |bad=>rw[q] at o;exact o.elim
  |rt d fr b=>
   rw[q] at o
   intro B' G' H' σ' env' v J s rv
   refine o B G' H' σ _ v (I.undrop J) s ?_
   unfold RV at rv ⊢
   cases fr with
   |false=>exact rv
   |true=>
    rw[Ov rfl] at rv ⊢
    obtain⟨a,rfl,h1,h2,h3⟩:=rv
    exact⟨a,rfl,(I.fresh h1).1,h2,h3⟩
  |exc c=>
   rw[q] at o
   intro H' kp
   cases q2:marks c with
   |none=>dsimp only at o;rw[q2] at o;exact o.elim
   |some z=>exact⟨c,z,rfl,q2,λb u e=>kp b u e @IN,rfl⟩
 ·rintro cls d H' ⟨c,j,rfl,q2,s',q⟩
  rw[q] at o
  dsimp only at o
  rw[q2] at o
  obtain⟨w1,w2,hj⟩:=hw c j q2
  refine⟨w1,λea σ' hea hlen=>?_⟩
  have hil:i < σ'.length:=by rw[hlen];exact (Oy.mp hi).1
  refine⟨⟨16,rfl,@AT,@AT,λD' hD=>?_⟩⟩
  have sx:=s'.trans (ar.new (o:=.ext (fH ea (.ref (Γ.ca c)))) hea)
  have nf:∀x y,upd H' ea (.ext (fH ea (.ref (Γ.ca c)))) D'≠some (.aY x y):=λx y z=>by rw[hD] at z;cases z
  refine pM (lo:=0) (n:=16) (λa σ2 H2=>(∃v,σ2= [v,some (.ref ea)])/\ar (upd H' ea (.ext (fH ea (.ref (Γ.ca c))))) H2/\H2 D'=some (.lst (if j < a then [.int (j:Int)] else []))) ?_ ?_ ?_ ?_
  ·exact λa σ2 H2 h=>⟨ea,.ref (Γ.ca c),rfl,h.2.1 _ _ az⟩
  ·refine⟨⟨none,?_⟩,λb u e=>jC ((ar.refl _) b u e) (aM e hD) nf,az⟩
   show [none,((σ'.set i (some (.ref ea)))[i]?).join]=_
   rw[OJ hil];rfl
  ·rintro a σ2 H2 ha ⟨⟨v,rfl⟩,s2,hv⟩
   unfold de la
   refine⟨_,rfl,_,rfl,Γ.ca c,j,a,by rw[PN];rfl,ha,s2 _ _ az,w2,λH3 s3=>⟨_,rfl,?_⟩⟩
   have hv3:H3 D'=some (.lst (if j < a then [.int (j:Int)] else [])):=s3 _ _ hv
   have s4:=s2.trans s3
   show if decide (a=j)=true then _ else _
   by_cases ce:a=j
   ·rw[Ov (OE ce)]
    subst ce
    rw[OA (OU a)] at hv3
    refine⟨_,rfl,_,hv3,by rw[O4];simp,⟨_,rfl⟩,λb u e=>jC (s4 b u e) (aM e hD) (λx y z=>by rw[hv3] at z;cases z),?_⟩
    rw[az,Ov (Nat.lt_succ_self a),PN];rfl
   ·rw[OA (by simpa using ce)]
    refine⟨⟨_,rfl⟩,s4,?_⟩
    rw[hv3]
    by_cases c2:j < a
    ·rw[Ov c2,Ov (@AT)]
    ·rw[OA c2,OA (@AT)]
  ·rintro σ2 H2 ⟨_,s2,hv⟩
   refine⟨⟨_,hv⟩,?_⟩
   rw[Ov hj] at hv
   have hH:H D'=none:=sx.free hD
   refine o B G H2 σ _ (.ref D') (I.forget (sx.trans s2)) (ar.refl _) ?_
   unfold RV
   rw[Ov rfl]
   exact⟨D',rfl,(I.fresh hH).1,(I.fresh hH).2.1,_,hv,.cons (.int _) .nil⟩
def B5 {T:Addr}(hT:Ah T Γ.G0){n x y z:Str}{i k c16:Nat}{marks:Str->Option Nat}{np hpos pos cp fp ap rp p1 p2 p3 p4 p5 zp lp:Pos}{scope:Scope}{body:List Stmt}(M:LY X.prog X.w X.K X.mg X.base Γ.ca x y marks)(hr:dN (k + 2) X.A)(hb:∀Eb Ex pn H G,Ah T G->Passes (lg X.prog X.w) (X.inTry Ex pn) Eb->Ay (X.inTry Ex pn) (Fx.fn Γ.K H G Γ.ca) Eb body m)
  (hN:X.N.Nodup) (hrg:X.mg "range"=none) (S:∀e,bA (X.inEx e) [z,n] 1 [i] scope) (nd:([z,n]:@H_).Nodup)
  (hlz:∀e C ex s3 H3 pn,(eV (X.inEx e) [z,n] scope C ex s3 H3 pn).env.scope.names.lookup z=some .local:=by intros;rfl)
  (hvn:∀e C ex s3 H3 pn,vS (eV (X.inEx e) [z,n] scope C ex s3 H3 pn).env.scope n:=by intros;exact Or.inr (Or.inl rfl))
  (hgy:∀e C ex s3 H3 pn,Gl (eV (X.inEx e) [z,n] scope C ex s3 H3 pn) y:=by intros;rfl) (hgr:∀e,Gl (X.inEx e) "range":=by intros;rfl)
  (hst:X.stack=X.env :: X.outer:=by rfl) (hfr:X.env.frame=some X.env.locals:=by rfl) (hex:X.ex= []:=by rfl) (hg:Gl X x:=by rfl) (hi:X.N[i]? =some n:=by rfl) (hk:Loc X.env.scope n:=by exact Or.inr rfl) (hf:X.fn n=true\/X.env.scope.names.lookup n=some .local:=by exact Or.inl rfl)
  (hdb:@FS:=by decide) (hdy:(y == ("__debug__":Str))=false:=by decide) (hzd:(z == ("__debug__":Str))=false:=by decide) (hzc:(z == ("__classdict__":Str))=false:=by decide) (hnd:(n == ("__debug__":Str))=false:=by decide) (hnc:(n == ("__classdict__":Str))=false:=by decide) :
  SS X Γ E (.Try body [.ExceptHandler (some (.Name x np)) (some n) [.Return (some (.ListComp (.Name z p1) [⟨.Name z p2,.Call (.Name "range" p3) [.Constant (.int 16) c16 p4] [] p5,[.Call (.Name y fp) [.Name n ap,.Name z zp] [] cp],0⟩] scope lp)) rp] hpos] [] [] pos) (pJ marks m):=by
 obtain⟨gm,Dc,dm,W,h1,h2,h3,h4,h5,h6⟩:=M.ex
 exact Bq (i:=i) hT hb h1 (λe=>(hr.mono (@AT)).mark _) h2 h3 h4 h6 h5 hN hrg S (λe C ex s3 H3 pn=>cS (i:=0) nd rfl (Or.inl (hlz e C ex s3 H3 pn)) (hf:=Or.inr (hlz e C ex s3 H3 pn))) (λe C ex s3 H3 pn p=>ip (i:=0) rfl (Or.inl (hlz e C ex s3 H3 pn)) hzd hzc) (λe C ex s3 H3 pn=>ip (i:=1) rfl (hvn e C ex s3 H3 pn) hnd hnc) hgy hgr hst hfr hex hg hi hk hf hdb hdy
end
end L2
namespace RM
open PySem L2
def tY (cT bY:@Do):SF:=(bM (jg (au cT (ae (gv 0) (ae (f2 (gv 1) @Fa b7) ag))) (au bY (ae (gv 1) (ae (f2 (gv 0) @Fa b7) (ae (f2 (gv 0) @Ch b7) ag))))))
def lQ (iQ:@Do):SF:=(bM (jg (f1 (gv 0) (lx "list")) (f1 (aU 1 [1] (.nm 0) (bR (gv 0)) nO (au iQ (ae (gv 0) @J_))) (b9 λbs=>bs.all id))))
def cH (bD:@Do):SF:=(iF (([0] ++ []) ++ []) (nh (pz (i6 (au bD (ae (gv 0) ag)))) (pz (cP (fU @Ch (gv 0) (cst (.int 8)) u7 u7))))
 (λenv β=>toS ((ae (cst (.str "this is no number of rows")) ag) (vl env) β) λds _=>if ds.length<=sizeLine then .exc "NoNumber" else .bad)
 mO)
def cM (aI bP eN:@Do):SF:=(aK (cB ([0] ++ []) (au aI (ae (gv 0) ag)))
 (aK (cB ([1] ++ []) (au bP @J_))
 (aK (bK 2 ([0] ++ ([1] ++ [])) (au eN (ae (gv 0) @J_)))
 (aK (iF (@EQ ++ []) (cP (f2 (f2 (gv 2) @Fa b7) (cst (.str "rows")) (c9 false)))
 (bM (cst .none))
 mO)
 (qG 2)))))
def ym:SF:=(aK (iF ([] ++ @EQ) (nh (pz (i6 (f1 (gv 0) (lx "tuple")))) (cP (f2 (f1 (gv 0) c6) (cst (.int 3)) (c9 true))))
 (bM (cst (.bool false)))
 mO)
 Jl)
def bS (aI bP pC:@Do):SF:=(aK (cB ([1] ++ []) (au aI @J_))
 (aK (cB ([2] ++ []) (au bP (ae (gv 2) ag)))
 (bM (au pC (ae (gv 0) (ae (gv 1) (ae (f2 (bz (ae (aO ag) ag)) (gv 2) rC) ag)))))))
def p9 (bW:@Do):SF:=(bM (jg (au bW (ae (gv 0) (ae (gv 1) (ae (gv 2) ag)))) (au bW (ae (gv 0) (ae (gv 2) @J_)))))
def gz (aI fw:@Do):SF:=(aK (cB ([1] ++ []) (au aI @J_))
 (aK (iF ([0] ++ ([1] ++ [])) (pz (i6 (au fw (ae (gv 0) @J_))))
 (bM (cst (.bool false)))
 mO)
 Jl))
def eO (a8 mH:@Do):SF:=(aK (bK 3 [1] (gv 1))
 (aK (iq (.two 4 5) [2] (El (gv 2))
 (aK (bK 6 ((([] ++ @EQ) ++ []) ++ [0,5]) (aU 1 [0,5] (.nm 0) (bR (By (gv 2) (BR (f2 (gv 4) @Ch cj)) (λ_ β=>.ok none β))) (i6 (au mH (ae (gv 1) (ae (gv 2) (ae (gv 0) ag))))) (gv 0)))
 (aK (bK 7 ([0] ++ (([] ++ ([5] ++ [])) ++ ([6] ++ []))) (au a8 (ae (gv 0) (ae (f2 (gv 1) (bz (ae (gv 5) ag)) kZ) (ae (gv 6) ag)))))
 (iF @EQ (cP (f2 (f1 (gv 7) c6) (f1 (gv 3) c6) L4))
 (bK 3 [7] (gv 7))
 mO))))
 (qG 3)))
def dG (a8 bw:@Do):SF:=(bM (au a8 (ae (gv 0) (ae (bz ag) (ae (au bw (ae (gv 0) ag)) ag)))))
def eh (aP:List D->Int->FB):SF:=(aK (bK 1 ([] ++ ([] ++ (([] ++ @EQ) ++ (([] ++ @EQ) ++ (([] ++ ((([] ++ @EQ) ++ []) ++ [])) ++ (([] ++ ((([] ++ @EQ) ++ (([] ++ @EQ) ++ [])) ++ [])) ++ (([] ++ ((([] ++ @EQ) ++ (([] ++ @EQ) ++ [])) ++ [])) ++ (([] ++ @EQ) ++ [])))))))) (bz (ae (cst .none) (ae (aO ag) (ae (aO (ae @Fa (ae (aO ag) ag))) (ae (aO (ae (cst (.int 9)) (ae (aO ag) ag))) (ae (aO (ae (cst (.int 2)) (ae (aO (ae (aO (ae @Fa (ae (cst (.int 2)) ag))) ag)) ag))) (ae (aO (ae (cst (.int 3)) (ae (aO (ae (aO (ae @Fa (ae @Ch ag))) (ae (aO (ae @Ch (ae (cst (.int 2)) ag))) ag))) ag))) (ae (aO (ae (cst (.int 2)) (ae (aO (ae (aO (ae @Fa (ae @Ch ag))) (ae (aO (ae @Ch (ae @Fa ag))) ag))) ag))) (ae (bz (ae @Ch (ae (aO ag) ag))) ag))))))))))
 (aK (bK 1 ([] ++ (([] ++ @EQ) ++ (([] ++ ((([] ++ @EQ) ++ []) ++ [])) ++ (([] ++ ((([] ++ @EQ) ++ []) ++ [])) ++ (([] ++ ((([] ++ @EQ) ++ (([] ++ @EQ) ++ (([] ++ @EQ) ++ []))) ++ [])) ++ ([] ++ (([] ++ ([] ++ @EQ)) ++ []))))))) (f2 (gv 1) (bz (ae (aO (ae (cst (.bool true)) (ae (aO ag) ag))) (ae (aO (ae (cst (.int 2)) (ae (bz (ae (aO (ae @Fa (ae @Ch ag))) ag)) ag))) (ae (aO (ae @Ch (ae (aO (ae (aO (ae @Fa (ae @Fa ag))) ag)) ag))) (ae (aO (ae (cst (.int 3)) (ae (aO (ae (aO (ae @Ch (ae (cst (.int 2)) ag))) (ae (aO (ae @Fa (ae @Ch ag))) (ae (aO (ae @Fa (ae (cst (.int 2)) ag))) ag)))) ag))) (ae (cst (.str "1")) (ae (aO (ae @Ch (ae (aO ag) (ae (aO ag) ag)))) ag))))))) kZ))
 (bM (f2 (gv 1) (oN 0 aP (ae (cst (.int 14)) ag)) b7))))
noncomputable def eG (fC:@Do)(aP cg:List D->Int->FB):SF:=(aK (bK 2 ([] ++ ([1] ++ [])) (f2 @Ch (oN 0 aP @J_) cj))
 (aK (bK 3 (([] ++ @EQ) ++ []) (aU 1 [0,2] (.nm 0) (fm (f2 @Ch (oN 0 aP (ae (cst (.int 3)) ag)) cj)) nO (oN 1 cg (ae (f1 (gv 2) gN) ag))))
 (aK (iF (@EQ ++ (@EQ ++ [])) (BF (cP (f2 (gv 2) (cst (.int 6)) (c9 false))) (cP (f2 (oN 0 aP (ae (cst (.int 3)) ag)) (cst (.int 2)) (c9 false))))
 (aK (bK 4 @EQ (oN 0 cg (ae (f1 (cst (.int 6)) gN) ag)))
 (aK (bK 5 [] (bz ag))
 (aK (iq (.nm 6) [] (fm (cst (.int 3)))
 (bK 5 ([] ++ @EQ) (f2 (gv 5) (aU 1 [6,4] (.nm 0) (fm (cst (.int 3))) (cP (f2 (gv 0) (gv 1) (c9 true))) (aO (ae (f2 (gv 2) (gv 1) b7) (ae (f2 (gv 2) (f2 (cst (.int 3)) (gv 0) cj) b7) ag)))) kZ)))
 (bM (aO (ae (cst (.int 6)) (ae (f1 (f1 (gv 5) yQ) oX) ag)))))))
 mO)
 (bM (aO (ae (gv 2) (ae (au fC (ae (gv 2) (ae (gv 3) ag))) ag)))))))
def lG (marks:Str->Option Nat)(dO cF j6 bH gk dH:@Do):SF:=(aK (pJ marks (iF @EQ (cP (f2 (gv 0) @Fa (c9 false)))
 (cB ([1] ++ ([2] ++ [])) (au dO (ae (gv 1) (ae (gv 2) ag))))
 (iF @EQ (cP (f2 (gv 0) @Ch (c9 false)))
 (cB ([] ++ ([1] ++ ([2] ++ []))) (au cF (ae (cst .none) (ae (gv 1) (ae (gv 2) ag)))))
 (iF @EQ (cP (f2 (gv 0) (cst (.int 2)) (c9 false)))
 (cB ([1] ++ []) (au j6 @J_))
 (iF @EQ (cP (f2 (gv 0) (cst (.int 3)) (c9 false)))
 (cB ([1] ++ []) (au bH @J_))
 (iF @EQ (cP (f2 (gv 0) (cst (.int 4)) (c9 false)))
 (cB ([] ++ ([1] ++ [])) (au gk (ae (cst .none) @J_)))
 (cB ([1] ++ []) (au dH @J_))))))))
 (j0 (bz ag)))
def Ar (gx bO:@Do)(dI cE aP:List D->Int->FB):SF:=(aK (iq (.nm 1) ([] ++ @EQ) (fm (f2 @Ch (f2 (f1 (gv 0) c6) (cst (.int 6)) (xl λi j=>.int (if j < i then j else i))) (xl λi j=>.int (if j > i then j else i))))
 (aK (zS 2 ([0] ++ ([1] ++ [])) (uh gx (ae (gv 0) @J_)))
 (aK (bK 3 @EQ (oN 2 dI (ae (cst (.int 4)) ag)))
 (aK (bK 4 [] (oN 2 cE ag))
 (aK (bK 5 (([] ++ ([] ++ (([] ++ @EQ) ++ ([] ++ ([] ++ ([] ++ (@EQ ++ (@EQ ++ (@EQ ++ []))))))))) ++ @EQ) (f2 (bz (ae @Fa (ae (cst (.int 9)) (ae (f2 (f1 @Ch nV) (oN 2 aP (ae (cst (.int 9)) ag)) DM) (ae (cst (.bool true)) (ae (cst .none) (ae (cst (.str "1")) (ae (aO (ae @Ch ag)) (ae (bz (ae @Ch ag)) (ae (f2 (cst (.int 10)) (cst (.int 30)) ED) ag)))))))))) (oN 2 aP (ae (cst (.int 9)) ag)) b7))
 (iq (.nm 6) [] (fm (cst (.int 6)))
 (aK (iF ((([6] ++ ([4] ++ ([5] ++ []))) ++ @EQ) ++ (([6] ++ ([4] ++ @EQ)) ++ @EQ)) (nh (cP (f2 (au bO (ae (gv 6) (ae (gv 4) (ae (gv 5) ag)))) (bz (ae @Fa ag)) (c9 true))) (cP (f2 (au bO (ae (gv 6) (ae (gv 4) (ae @Ch ag)))) (bz (ae @Fa ag)) (c9 true))))
 (bM (cst (.bool false)))
 mO)
 (aK (iF (([6] ++ ([3] ++ ([5] ++ []))) ++ (([] ++ (@EQ ++ [])) ++ @EQ)) (cP (f2 (au bO (ae (gv 6) (ae (gv 3) (ae (gv 5) ag)))) (f2 (bz (ae (bz ag) (ae (bz (ae (cst (.int 7)) ag)) ag))) (f1 (f2 (gv 6) (cst (.int 2)) uk) E7) b7) (c9 true)))
 (bM (cst (.bool false)))
 mO)
 (iF (([6] ++ ([3] ++ @EQ)) ++ []) (cP (f2 (au bO (ae (gv 6) (ae (gv 3) (ae @Ch ag)))) (bz ag) (c9 true)))
 (bM (cst (.bool false)))
 mO)))))))))
 (bM (cst (.bool true))))
end RM
namespace RQ
open PySem L2 RM
section
variable {P:Program}{w:World}{K:Frag}{mg:@FM}{base:Heap}{ca:Str->Addr}
def xf:aF ["thing"] ["thing"] (ah kQ):=@AC
def vj {f:Addr}{fd:FuncData}(F:fX K mg "is_whole" kQ ["thing"] f fd)(B:ic mg):cu P w K mg base ca "is_whole" ["thing"] 1 (aW 1 1 (rh)):=
 ⟨⟨f,fd,F.mg,F.F.kp,F.b,aZ (N:=["thing"]) (k:=0) F.F xf λcdv A outer s H G E hr=>
  (aC (aX (jM (nG "int" @Go rfl rfl B.isinstance rfl B.int (@Ev) (ak 0)) (jG (DW (nG "bool" @Go rfl rfl B.isinstance rfl B.bool (@Ev) (ak 0)))) @D_)))⟩,λds h=>aN ds h⟩
def xr:aF ["thing","bound"] ["thing","bound"] (ah kB):=@AC
def uK {f:Addr}{fd:FuncData}{bD:@Do}(F:fX K mg "is_below" kB ["thing","bound"] f fd)(B:ic mg)(c4:cu P w K mg base ca "is_whole" ["thing"] 1 bD):cu P w K mg base ca "is_below" ["thing","bound"] 2 (aW 2 2 (qA bD)):=
 ⟨⟨f,fd,F.mg,F.F.kp,F.b,aZ (N:=["thing","bound"]) (k:=1) F.F xr λcdv A outer s H G E hr=>
  (aC (aX (jM (aH c4 @A_ aV rfl rfl (af (aq 0 rfl) ao)) (jG (wM xB vU D5 CS ax (ak 0) (ak 1))) @D_)))⟩,λds h=>aN ds h⟩
def yq:aF ["thing"] ["thing"] (ah mM):=@AC
def xP {f:Addr}{fd:FuncData}{bD:@Do}(F:fX K mg "is_many" mM ["thing"] f fd)(B:ic mg)(c4:cu P w K mg base ca "is_whole" ["thing"] 1 bD){sS:Tok}(jO:mg "MOST_THINGS"=some (.int 8 sS)):cu P w K mg base ca "is_many" ["thing"] 2 (aW 1 1 (ur bD)):=
 ⟨⟨f,fd,F.mg,F.F.kp,F.b,aZ (N:=["thing"]) (k:=1) F.F yq λcdv A outer s H G E hr=>
  (aC (aX (jM (aH c4 @A_ aV rfl rfl (af (aq 0 rfl) ao)) (jG (wM xB xB D5 D5 ax (ak 0) (zY (by rfl) jO))) @D_)))⟩,λds h=>aN ds h⟩
def zg:aF ["thing","many"] ["thing","many"] (ah ml):=@AC
def xx {f:Addr}{fd:FuncData}{fk:@Do}(F:fX K mg "is_pair" ml ["thing","many"] f fd)(B:ic mg)(kK:cu P w K mg base ca "is_below" ["thing","bound"] 2 fk):cu P w K mg base ca "is_pair" ["thing","many"] 3 (aW 2 2 (mL fk)):=
 ⟨⟨f,fd,F.mg,F.F.kp,F.b,aZ (N:=["thing","many"]) (k:=2) F.F zg λcdv A outer s H G E hr=>
  (ay (cV (vT.t (sf (fM (cY rfl (nG "tuple" @Go rfl rfl B.isinstance rfl B.tuple (@Ev) (ak 0)))) (nv (bF (gq hr.units) dU (bu cy i3 rfl B.len Pp (ak 0)) ax (bf _))) @D_))
  (aC (aX jT))
  cD)
  (aC (aX (jM (aH kK @A_ aV rfl rfl (af (bc aQ bZ (ak 0) ax @D_) (af (aq 1 rfl) ao))) (jG (aH kK @A_ aV rfl rfl (af (bc aQ bZ (ak 0) ax @D_) (af (aq 1 rfl) ao)))) @D_))))⟩,λds h=>aN ds h⟩
def tm:aF ["many"] ["many"] (ah fL):=@AC
def qw {f:Addr}{fd:FuncData}(F:fX K mg "every_pair" fL ["many"] f fd)(B:ic mg):cu P w K mg base ca "every_pair" ["many"] 1 (aW 1 1 (iD)):=
 ⟨⟨f,fd,F.mg,F.F.kp,F.b,aZ (N:=["many"]) (k:=0) F.F tm λcdv A outer s H G E hr=>
  (aC (kx (cK (NB:=["number","many"]) (own:=1) (ixs:=[0]) [] rfl (cf (by kernel_rfl)) @D_ (lE rfl B.range (bL lR ni (ak 0) (ak 0))) (λH0 G0 par br bx C ex s3 H3 pn=>(fq (i:=0) (show (["number","many"]:@H_).Nodup by decide +kernel))) (λH0 G0 par br bx C ex s3 H3 pn hB1=>gG) (λH0 G0 par br bx C ex s3 H3 pn hB1=>(cC (af (bL uD LH (ak 0) (ak 1)) (af (bL nI ua (ak 0) (ak 1)) ao)))))))⟩,λds h=>aN ds h⟩
def vV:aF ["pairs"] ["pairs"] (ah kn):=@AC
def vc {f:Addr}{fd:FuncData}(F:fX K mg "has_ring" kn ["pairs"] f fd)(B:ic mg):cu P w K mg base ca "has_ring" ["pairs"] 1 (aW 1 1 (rY)):=
 ⟨⟨f,fd,F.mg,F.F.kp,F.b,aZ (N:=["pairs"]) (k:=0) F.F vV λcdv A outer s H G E hr=>
  (aC (aX (bu (wd rfl) kh rfl B.any (@Ev) (cK (NB:=["a","b"]) (own:=2) (ixs:=[]) [] rfl (cf (by kernel_rfl)) @D_ (l5 rfl (ak 0)) (λH0 G0 par br bx C ex s3 H3 pn=>(g8 (i:=0) (j:=1) (show (["a","b"]:@H_).Nodup by decide +kernel))) (λH0 G0 par br bx C ex s3 H3 pn hB1=>gG) (λH0 G0 par br bx C ex s3 H3 pn hB1=>(ig (cW hr.units) dU (ak 0) (ak 1) (bf _)))))))⟩,λds h=>aN ds h⟩
def lT:aF ["thing","many","pairs"] ["thing"] (ah kL):=@AC
def vA {f:Addr}{fd:FuncData}{iZ cT jU gy:@Do}(F:fX K mg "is_order" kL ["thing"] f fd)(B:ic mg)(o7:cu P w K mg base ca "is_many" ["thing"] 2 iZ)(iR:cu P w K mg base ca "is_pair" ["thing","many"] 3 cT)(rN:cu P w K mg base ca "closed" ["many","pairs"] 3 jU)(nz:cu P w K mg base ca "has_ring" ["pairs"] 1 gy):cu P w K mg base ca "is_order" ["thing"] 4 (aW 3 1 (kg iZ cT jU gy)):=
 ⟨⟨f,fd,F.mg,F.F.kp,F.b,aZ (N:=["thing","many","pairs"]) (k:=3) F.F lT λcdv A outer s H G E hr=>
  (ay (cV (vT.t (sf (fM (cY rfl (nG "tuple" @Go rfl rfl B.isinstance rfl B.tuple (@Ev) (ak 0)))) (nv (bF (gq hr.units) dU (bu cy i3 rfl B.len Pp (ak 0)) ax (bf _))) @D_))
  (aC (aX jT))
  cD)
  (ay (a9 (i:=1) (bc aQ bZ (ak 0) ax @D_) lT.nd)
  (ay (a9 (i:=2) (bc aQ bZ (ak 0) ax @D_) lT.nd)
  (ay (cV (vT.t (sf (fM (cY rfl (aH o7 @A_ aV rfl rfl (af (aq 1 rfl) ao)))) (nv (fM (cY rfl (nG "tuple" @Go rfl rfl B.isinstance rfl B.tuple (@Ev) (ak 2))))) @D_))
  (aC (aX jT))
  cD)
  (ay (cV (fM (cY rfl (bu (lO rfl) kh rfl B.all (@Ev) (cK (NB:=["pair","many"]) (own:=1) (ixs:=[1]) [1] rfl (cf (by kernel_rfl)) @D_ (l5 rfl (ak 2)) (λH0 G0 par br bx C ex s3 H3 pn=>(fq (i:=0) (show (["pair","many"]:@H_).Nodup by decide +kernel))) (λH0 G0 par br bx C ex s3 H3 pn hB1=>gG) (λH0 G0 par br bx C ex s3 H3 pn hB1=>(aH iR @A_ lD rfl rfl (af (aq 0 (hB1 0 @Go)) (af (aq 1 (hB1 1 @Go)) ao))))))))
  (aC (aX jT))
  cD)
  (aC (aX (jM (ig (cW hr.units) dU (ak 2) (aH rN @A_ aV rfl rfl (af (aq 1 rfl) (af (aq 2 rfl) ao))) (bf _)) (jG (DW (aH nz @A_ aV rfl rfl (af (aq 2 rfl) ao)))) @D_))))))))⟩,λds h=>aN ds h⟩
def sy:aF ["thing"] ["thing"] (ah iN):=@AC
def qR {f:Addr}{fd:FuncData}{gA:@Do}(F:fX K mg "need_order" iN ["thing"] f fd)(B:ic mg)(nt:cu P w K mg base ca "is_order" ["thing"] 4 gA)(jY:Exc K mg ca "NoOrder"):cu P w K mg base ca "need_order" ["thing"] 5 (aW 1 1 (fR gA)):=
 ⟨⟨f,fd,F.mg,F.F.kp,F.b,aZ (N:=["thing"]) (k:=4) F.F sy λcdv A outer s H G E hr=>
  (aC (cV (fM (cY rfl (aH nt @A_ aV rfl rfl (af (aq 0 rfl) ao))))
  (aC (we jY.ex jY.ca rfl jY.mg (af jJ ao)))
  cD))⟩,λds h=>aN ds h⟩
def uN:aF ["order","a","b"] ["order","a","b"] (ah jt):=@AC
def tu {f:Addr}{fd:FuncData}(F:fX K mg "are_apart" jt ["order","a","b"] f fd)(B:ic mg):cu P w K mg base ca "are_apart" ["order","a","b"] 1 (aW 3 3 (pN)):=
 ⟨⟨f,fd,F.mg,F.F.kp,F.b,aZ (N:=["order","a","b"]) (k:=0) F.F uN λcdv A outer s H G E hr=>
  (aC (aX (jM (ig (gq hr.units) dU (ak 1) (ak 2) (bf _)) (jM (ig (my hr.u1) xI (cC (af (aq 1 rfl) (af (aq 2 rfl) ao))) (bc aQ bZ (ak 0) ax @D_) (by with_unfolding_all rfl)) (jG (ig (my hr.u1) xI (cC (af (aq 2 rfl) (af (aq 1 rfl) ao))) (bc aQ bZ (ak 0) ax @D_) (by with_unfolding_all rfl))) @D_) @D_)))⟩,λds h=>aN ds h⟩
def sN:aF ["placed","thing"] ["placed","thing"] (ah iM):=@AC
def sh {f:Addr}{fd:FuncData}(F:fX K mg "with_thing" iM ["placed","thing"] f fd)(B:ic mg):cu P w K mg base ca "with_thing" ["placed","thing"] 1 (aW 2 2 (iP)):=
 ⟨⟨f,fd,F.mg,F.F.kp,F.b,aZ (N:=["placed","thing"]) (k:=0) F.F sN λcdv A outer s H G E hr=>
  (aC (aX (bL HG Lw (ak 0) (bL JE Kz ax (ak 1)))))⟩,λds h=>aN ds h⟩
def i7:aF ["order","masks","a","b"] ["order"] (ah gK):=@AC
def pY {f:Addr}{fd:FuncData}{aJ:@Do}(F:fX K mg "masks_ahead" gK ["order"] f fd)(B:ic mg)(ba:cu P w K mg base ca "with_thing" ["placed","thing"] 1 aJ):cu P w K mg base ca "masks_ahead" ["order"] 2 (aW 4 1 (gE aJ)):=
 ⟨⟨f,fd,F.mg,F.F.kp,F.b,aZ (N:=["order","masks","a","b"]) (k:=1) F.F i7 λcdv A outer s H G E hr=>
  (ay (jr (i:=1) (yS (bN (af ax ao)) (bc aQ bZ (ak 0) ax @D_)) i7.nd)
  (ay (jL PassesOwn.leaving rfl (NP rfl (bc aQ bZ (ak 0) ax @D_)) (g8 (i:=2) (j:=3) i7.nd)
  (aC (E4 1 (λ_=>rfl) (aH ba @A_ aV rfl rfl (af (bc aQ bZ (ak 1) (ak 3) @D_) (af (aq 2 rfl) ao))) (ak 3))))
  (aC (oG 1))))⟩,λds h=>aN ds h⟩
def jb:aF ["masks","placed","free","thing","mask"] ["masks","placed"] (ah gM):=@AC
def pZ {f:Addr}{fd:FuncData}{aJ:@Do}(F:fX K mg "free_things" gM ["masks","placed"] f fd)(B:ic mg)(ba:cu P w K mg base ca "with_thing" ["placed","thing"] 1 aJ):cu P w K mg base ca "free_things" ["masks","placed"] 2 (aW 5 2 (gC aJ)):=
 ⟨⟨f,fd,F.mg,F.F.kp,F.b,aZ (N:=["masks","placed","free","thing","mask"]) (k:=1) F.F jb λcdv A outer s H G E hr=>
  (ay (jr (i:=2) (bN ao) jb.nd)
  (ay (jL PassesOwn.leaving rfl (sd rfl rfl B.enumerate (aq 0 rfl)) (g8 (i:=3) (j:=4) jb.nd)
  (aC (cV (vT.t (x9 (bF (gq hr.units) dU (aH ba @A_ aV rfl rfl (af (aq 1 rfl) (af (aq 3 rfl) ao))) (ak 1) (bf _)) (uU (bF (cW hr.units) dU (bL Ie Kq (ak 1) (ak 4)) (ak 4) (bf _))) @D_))
  (aC (mP 2 (λ_=>rfl) (aq 3 rfl)))
  cD)))
  (aC (oG 2))))⟩,λds h=>aN ds h⟩
def dM:aF ["masks","late","row","placed","free","early"] ["masks","late"] (ah jz):=@AC
def sL {f:Addr}{fd:FuncData}{dq aJ:@Do}(F:fX K mg "row_along" jz ["masks","late"] f fd)(B:ic mg)(jQ:cu P w K mg base ca "free_things" ["masks","placed"] 2 dq)(ba:cu P w K mg base ca "with_thing" ["placed","thing"] 1 aJ):cu P w K mg base ca "row_along" ["masks","late"] 3 (aW 6 2 (jj dq aJ)):=
 ⟨⟨f,fd,F.mg,F.F.kp,F.b,aZ (N:=["masks","late","row","placed","free","early"]) (k:=2) F.F dM λcdv A outer s H G E hr=>
  (ay (jr (i:=2) (bN ao) dM.nd)
  (ay (a9 (i:=3) ax dM.nd)
  (ay (nX 1000 PassesOwn.leaving (bF vU CS (bu cy i3 rfl B.len Pp (ak 2)) (bu cy i3 rfl B.len Pp (ak 0)) (bf _))
  (ay (a9 (i:=4) (aH jQ @A_ aV rfl rfl (af (aq 0 rfl) (af (aq 3 rfl) ao))) dM.nd)
  (ay (nQ (i:=5) (NB:=["thing","late"]) (own:=1) (ixs:=[1]) [] rfl (cf (by kernel_rfl)) @D_ (l5 rfl (ak 4)) (λH0 G0 par br bx C ex s3 H3 pn=>(fq (i:=0) (show (["thing","late"]:@H_).Nodup by decide +kernel))) (λH0 G0 par br bx C ex s3 H3 pn hB1=>(eB (bF (my hr.u1) xI (ak 0) (ak 1) (by with_unfolding_all rfl)))) (λH0 G0 par br bx C ex s3 H3 pn hB1=>(aq 0 (hB1 0 @Go))) dM.nd)
  (ay (mP 2 (λ_=>rfl) (bc aQ bZ (bL kM rb (ak 5) (ak 4)) ax @D_))
  (aC (a9 (i:=3) (aH ba @A_ aV rfl rfl (af (aq 3 rfl) (af (bc aQ bZ (ak 2) (v8 qF xG ax) @D_) ao))) dM.nd))))))
  (aC (aX (jf df oA rfl B.tuple (@Ev) (ak 2)))))))⟩,λds h=>aN ds h⟩
def Cu:aF ["order"] ["order"] (ah qi):=@AC
def uj {f:Addr}{fd:FuncData}{aI c7 bY:@Do}(F:fX K mg "turns" qi ["order"] f fd)(B:ic mg)(a7:cu P w K mg base ca "need_order" ["thing"] 5 aI)(iI:cu P w K mg base ca "every_pair" ["many"] 1 c7)(dD:cu P w K mg base ca "are_apart" ["order","a","b"] 1 bY):cu P w K mg base ca "turns" ["order"] 6 (aW 1 1 (gB aI c7 bY)):=
 ⟨⟨f,fd,F.mg,F.F.kp,F.b,aZ (N:=["order"]) (k:=5) F.F Cu λcdv A outer s H G E hr=>
  (ay (dF (aH a7 @A_ aV rfl rfl (af (aq 0 rfl) ao)))
  (aC (kx (cK (NB:=["a","b","order"]) (own:=2) (ixs:=[0]) [0] rfl (cf (by kernel_rfl)) @D_ (l5 rfl (aH iI @A_ aV rfl rfl (af (bc aQ bZ (ak 0) ax @D_) ao))) (λH0 G0 par br bx C ex s3 H3 pn=>(g8 (i:=0) (j:=1) (show (["a","b","order"]:@H_).Nodup by decide +kernel))) (λH0 G0 par br bx C ex s3 H3 pn hB1=>(eB (cY rfl (aH dD @A_ lD rfl rfl (af (aq 2 (hB1 2 @Go)) (af (aq 0 (hB1 0 @Go)) (af (aq 1 (hB1 1 @Go)) ao))))))) (λH0 G0 par br bx C ex s3 H3 pn hB1=>(cC (af (aq 0 (hB1 0 @Go)) (af (aq 1 (hB1 1 @Go)) ao))))))))⟩,λds h=>aN ds h⟩
def pF:aF ["order","a","b","pairs"] ["order","a","b"] (ah j8):=@AC
def uW {f:Addr}{fd:FuncData}(F:fX K mg "is_sharp" j8 ["order","a","b"] f fd)(B:ic mg):cu P w K mg base ca "is_sharp" ["order","a","b"] 1 (aW 4 3 (kY)):=
 ⟨⟨f,fd,F.mg,F.F.kp,F.b,aZ (N:=["order","a","b","pairs"]) (k:=0) F.F pF λcdv A outer s H G E hr=>
  (ay (a9 (i:=3) (bc aQ bZ (ak 0) ax @D_) pF.nd)
  (ay (cV (fM (cY rfl (bu (lO rfl) kh rfl B.all (@Ev) (cK (NB:=["one","other","a","b","pairs"]) (own:=2) (ixs:=[1,2,3]) [2] rfl (cf (by kernel_rfl)) @D_ (l5 rfl (ak 3)) (λH0 G0 par br bx C ex s3 H3 pn=>(g8 (i:=0) (j:=1) (show (["one","other","a","b","pairs"]:@H_).Nodup by decide +kernel))) (λH0 G0 par br bx C ex s3 H3 pn hB1=>(eB (bF (cW hr.units) dU (ak 1) (ak 2) (bf _)))) (λH0 G0 par br bx C ex s3 H3 pn hB1=>(ig (uX hr.u1) xI (cC (af (aq 0 (hB1 0 @Go)) (af (aq 3 (hB1 3 @Go)) ao))) (ak 4) (by with_unfolding_all rfl)))))))
  (aC (aX jT))
  cD)
  (aC (aX (bu (lO rfl) kh rfl B.all (@Ev) (cK (NB:=["one","other","b","a","pairs"]) (own:=2) (ixs:=[2,1,3]) [1] rfl (cf (by kernel_rfl)) @D_ (l5 rfl (ak 3)) (λH0 G0 par br bx C ex s3 H3 pn=>(g8 (i:=0) (j:=1) (show (["one","other","b","a","pairs"]:@H_).Nodup by decide +kernel))) (λH0 G0 par br bx C ex s3 H3 pn hB2=>(eB (bF (cW hr.units) dU (ak 0) (ak 2) (bf _)))) (λH0 G0 par br bx C ex s3 H3 pn hB2=>(ig (uX hr.u1) xI (cC (af (aq 3 (hB2 3 @Go)) (af (aq 1 (hB2 1 @Go)) ao))) (ak 4) (by with_unfolding_all rfl)))))))))⟩,λds h=>aN ds h⟩
def qK:aF ["order"] ["order"] (ah gL):=@AC
def lb {f:Addr}{fd:FuncData}{kX gp:@Do}(F:fX K mg "sharp_turns" gL ["order"] f fd)(B:ic mg)(vh:cu P w K mg base ca "turns" ["order"] 6 kX)(kH:cu P w K mg base ca "is_sharp" ["order","a","b"] 1 gp):cu P w K mg base ca "sharp_turns" ["order"] 7 (aW 1 1 (cn kX gp)):=
 ⟨⟨f,fd,F.mg,F.F.kp,F.b,aZ (N:=["order"]) (k:=6) F.F qK λcdv A outer s H G E hr=>
  (aC (kx (cK (NB:=["a","b","order"]) (own:=2) (ixs:=[0]) [0] rfl (cf (by kernel_rfl)) @D_ (l5 rfl (aH vh @A_ aV rfl rfl (af (aq 0 rfl) ao))) (λH0 G0 par br bx C ex s3 H3 pn=>(g8 (i:=0) (j:=1) (show (["a","b","order"]:@H_).Nodup by decide +kernel))) (λH0 G0 par br bx C ex s3 H3 pn hB1=>(eB (cY rfl (aH kH @A_ lD rfl rfl (af (aq 2 (hB1 2 @Go)) (af (aq 0 (hB1 0 @Go)) (af (aq 1 (hB1 1 @Go)) ao))))))) (λH0 G0 par br bx C ex s3 H3 pn hB1=>(cC (af (aq 0 (hB1 0 @Go)) (af (aq 1 (hB1 1 @Go)) ao)))))))⟩,λds h=>aN ds h⟩
def zf:aF ["thing","order"] ["thing","order"] (ah mw):=@AC
def wH {f:Addr}{fd:FuncData}{cT bY:@Do}(F:fX K mg "is_turn" mw ["thing","order"] f fd)(B:ic mg)(iR:cu P w K mg base ca "is_pair" ["thing","many"] 3 cT)(dD:cu P w K mg base ca "are_apart" ["order","a","b"] 1 bY):cu P w K mg base ca "is_turn" ["thing","order"] 4 (aW 2 2 (tY cT bY)):=
 ⟨⟨f,fd,F.mg,F.F.kp,F.b,aZ (N:=["thing","order"]) (k:=3) F.F zf λcdv A outer s H G E hr=>
  (aC (aX (jM (aH iR @A_ aV rfl rfl (af (aq 0 rfl) (af (bc aQ bZ (ak 1) ax @D_) ao))) (jG (aH dD @A_ aV rfl rfl (af (aq 1 rfl) (af (bc aQ bZ (ak 0) ax @D_) (af (bc aQ bZ (ak 0) ax @D_) ao))))) @D_)))⟩,λds h=>aN ds h⟩
def uP:aF ["thing","order"] ["thing","order"] (ah jq):=@AC
def su {f:Addr}{fd:FuncData}{iQ:@Do}(F:fX K mg "are_turns" jq ["thing","order"] f fd)(B:ic mg)(oQ:cu P w K mg base ca "is_turn" ["thing","order"] 4 iQ):cu P w K mg base ca "are_turns" ["thing","order"] 5 (aW 2 2 (lQ iQ)):=
 ⟨⟨f,fd,F.mg,F.F.kp,F.b,aZ (N:=["thing","order"]) (k:=4) F.F uP λcdv A outer s H G E hr=>
  (aC (aX (jM (nG "list" @Go rfl rfl B.isinstance rfl B.list (@Ev) (ak 0)) (jG (bu (lO rfl) kh rfl B.all (@Ev) (cK (NB:=["turn","order"]) (own:=1) (ixs:=[1]) [1] rfl (cf (by kernel_rfl)) @D_ (l5 rfl (ak 0)) (λH0 G0 par br bx C ex s3 H3 pn=>(fq (i:=0) (show (["turn","order"]:@H_).Nodup by decide +kernel))) (λH0 G0 par br bx C ex s3 H3 pn hB1=>gG) (λH0 G0 par br bx C ex s3 H3 pn hB1=>(aH oQ @A_ lD rfl rfl (af (aq 0 (hB1 0 @Go)) (af (aq 1 (hB1 1 @Go)) ao))))))) @D_)))⟩,λds h=>aN ds h⟩
def wV:aF ["order","turn","other"] ["order","turn","other"] (ah k8):=@AC
def uJ {f:Addr}{fd:FuncData}(F:fX K mg "leads_on" k8 ["order","turn","other"] f fd)(B:ic mg):cu P w K mg base ca "leads_on" ["order","turn","other"] 1 (aW 3 3 (kz)):=
 ⟨⟨f,fd,F.mg,F.F.kp,F.b,aZ (N:=["order","turn","other"]) (k:=0) F.F wV λcdv A outer s H G E hr=>
  (aC (aX (LA (ig (cW hr.units) dU (bc aQ bZ (ak 1) ax @D_) (bc aQ bZ (ak 2) ax @D_) (bf _)) (jG (ig (uX hr.u1) xI (cC (af (bc aQ bZ (ak 1) ax @D_) (af (bc aQ bZ (ak 2) ax @D_) ao))) (bc aQ bZ (ak 0) ax @D_) (by with_unfolding_all rfl))) @D_)))⟩,λds h=>aN ds h⟩
def wq:aF ["masks","a","b"] ["masks","a","b"] (ah k7):=@AC
def vN {f:Addr}{fd:FuncData}{aJ:@Do}(F:fX K mg "is_ahead" k7 ["masks","a","b"] f fd)(B:ic mg)(ba:cu P w K mg base ca "with_thing" ["placed","thing"] 1 aJ):cu P w K mg base ca "is_ahead" ["masks","a","b"] 2 (aW 3 3 (kF aJ)):=
 ⟨⟨f,fd,F.mg,F.F.kp,F.b,aZ (N:=["masks","a","b"]) (k:=1) F.F wq λcdv A outer s H G E hr=>
  (aC (aX (ig (cW hr.units) dU (aH ba @A_ aV rfl rfl (af (bc aQ bZ (ak 0) (ak 2) @D_) (af (aq 1 rfl) ao))) (bc aQ bZ (ak 0) (ak 2) @D_) (bf _))))⟩,λds h=>aN ds h⟩
def vE:aF ["masks","turn"] ["masks","turn"] (ah jv):=@AC
def sU {f:Addr}{fd:FuncData}{bE:@Do}(F:fX K mg "is_turned" jv ["masks","turn"] f fd)(B:ic mg)(c8:cu P w K mg base ca "is_ahead" ["masks","a","b"] 2 bE):cu P w K mg base ca "is_turned" ["masks","turn"] 3 (aW 2 2 (ju bE)):=
 ⟨⟨f,fd,F.mg,F.F.kp,F.b,aZ (N:=["masks","turn"]) (k:=2) F.F vE λcdv A outer s H G E hr=>
  (aC (aX (aH c8 @A_ aV rfl rfl (af (aq 0 rfl) (af (bc aQ bZ (ak 1) ax @D_) (af (bc aQ bZ (ak 1) ax @D_) ao))))))⟩,λds h=>aN ds h⟩
def vt:aF ["masks","turn"] ["masks","turn"] (ah jA):=@AC
def sV {f:Addr}{fd:FuncData}{bE:@Do}(F:fX K mg "is_barred" jA ["masks","turn"] f fd)(B:ic mg)(c8:cu P w K mg base ca "is_ahead" ["masks","a","b"] 2 bE):cu P w K mg base ca "is_barred" ["masks","turn"] 3 (aW 2 2 (jw bE)):=
 ⟨⟨f,fd,F.mg,F.F.kp,F.b,aZ (N:=["masks","turn"]) (k:=2) F.F vt λcdv A outer s H G E hr=>
  (aC (aX (aH c8 @A_ aV rfl rfl (af (aq 0 rfl) (af (bc aQ bZ (ak 1) ax @D_) (af (bc aQ bZ (ak 1) ax @D_) ao))))))⟩,λds h=>aN ds h⟩
def l7:aF ["masks","turn","late","more"] ["masks","turn"] (ah kl):=@AC
def uy {f:Addr}{fd:FuncData}{bE aJ:@Do}(F:fX K mg "put_turn" kl ["masks","turn"] f fd)(B:ic mg)(c8:cu P w K mg base ca "is_ahead" ["masks","a","b"] 2 bE)(ba:cu P w K mg base ca "with_thing" ["placed","thing"] 1 aJ):cu P w K mg base ca "put_turn" ["masks","turn"] 3 (aW 4 2 (km bE aJ)):=
 ⟨⟨f,fd,F.mg,F.F.kp,F.b,aZ (N:=["masks","turn","late","more"]) (k:=2) F.F l7 λcdv A outer s H G E hr=>
  (ay (a9 (i:=2) (SE.wv (cK (NB:=["thing","turn","masks"]) (own:=1) (ixs:=[1,0]) [0] rfl (cf (by kernel_rfl)) @D_ (lE rfl B.range (bu cy i3 rfl B.len Pp (ak 0))) (λH0 G0 par br bx C ex s3 H3 pn=>(fq (i:=0) (show (["thing","turn","masks"]:@H_).Nodup by decide +kernel))) (λH0 G0 par br bx C ex s3 H3 pn hB1=>(eB (vT.t (sf (bF (cW hr.units) dU (ak 0) (bc aQ bZ (ak 1) ax @D_) (bf _)) (nv (cY rfl (aH c8 @A_ lD rfl rfl (af (aq 2 (hB1 2 @Go)) (af (bc aQ bZ (ak 1) ax @D_) (af (aq 0 (hB1 0 @Go)) ao)))))) (λi hi=>hB1 i (by revert i hi;decide)))))) (λH0 G0 par br bx C ex s3 H3 pn hB1=>(aq 0 (hB1 0 @Go))))) l7.nd)
  (ay (a9 (i:=3) (aH ba @A_ aV rfl rfl (af (bc aQ bZ (ak 0) (bc aQ bZ (ak 1) ax @D_) @D_) (af (bc aQ bZ (ak 1) ax @D_) ao))) l7.nd)
  (aC (kx (cK (NB:=["thing","mask","late","more"]) (own:=2) (ixs:=[2,3]) [] rfl (cf (by kernel_rfl)) @D_ (SI.vb (sd rfl rfl B.enumerate (aq 0 rfl))) (λH0 G0 par br bx C ex s3 H3 pn=>(g8 (i:=0) (j:=1) (show (["thing","mask","late","more"]:@H_).Nodup by decide +kernel))) (λH0 G0 par br bx C ex s3 H3 pn hB2=>gG) (λH0 G0 par br bx C ex s3 H3 pn hB2=>(KW (bF (uX hr.u1) xI (ak 0) (ak 2) (by with_unfolding_all rfl)) (bL HG Lw (ak 1) (ak 3)) (aq 1 (hB2 1 @Go)) (λi hi=>hB2 i (by revert i hi;decide)))))))))⟩,λds h=>aN ds h⟩
def c5:aF ["order","put","turn","paths","left","at","fresh"] ["order","put","turn"] (ah jm):=@AC
def sX {f:Addr}{fd:FuncData}{bW:@Do}(F:fX K mg "ring_with" jm ["order","put","turn"] f fd)(B:ic mg)(dB:cu P w K mg base ca "leads_on" ["order","turn","other"] 1 bW):cu P w K mg base ca "ring_with" ["order","put","turn"] 2 (aW 7 3 (jl bW)):=
 ⟨⟨f,fd,F.mg,F.F.kp,F.b,aZ (N:=["order","put","turn","paths","left","at","fresh"]) (k:=1) F.F c5 λcdv A outer s H G E hr=>
  (ay (jr (i:=3) (bN (af (SE.wv (bN (af (aq 2 rfl) ao))) ao)) c5.nd)
  (ay (a9 (i:=4) (aq 1 rfl) c5.nd)
  (ay (a9 (i:=5) ax c5.nd)
  (ay (nX 1000 PassesOwn.leaving (fM (cY rfl (aH dB @A_ aV rfl rfl (af (aq 0 rfl) (af (bc aQ bZ (bc aQ bZ (ak 3) (ak 5) @D_) (v8 qF xG ax) @D_) (af (aq 2 rfl) ao))))))
  (ay (a9 (i:=6) (SE.wv (cK (NB:=["other","order","paths","at"]) (own:=1) (ixs:=[0,3,5]) [0] rfl (cf (by kernel_rfl)) @D_ (l5 rfl (ak 4)) (λH0 G0 par br bx C ex s3 H3 pn=>(fq (i:=0) (show (["other","order","paths","at"]:@H_).Nodup by decide +kernel))) (λH0 G0 par br bx C ex s3 H3 pn hB1=>(eB (cY rfl (aH dB @A_ lD rfl rfl (af (aq 1 (hB1 1 @Go)) (af (bc aQ bZ (bc aQ bZ (ak 2) (ak 3) @D_) (v8 qF xG ax) @D_) (af (aq 0 (hB1 0 @Go)) ao))))))) (λH0 G0 par br bx C ex s3 H3 pn hB1=>(aq 0 (hB1 0 @Go))))) c5.nd)
  (ay (nQ (i:=4) (NB:=["other","fresh"]) (own:=1) (ixs:=[6]) [] rfl (cf (by kernel_rfl)) @D_ (l5 rfl (ak 4)) (λH0 G0 par br bx C ex s3 H3 pn=>(fq (i:=0) (show (["other","fresh"]:@H_).Nodup by decide +kernel))) (λH0 G0 par br bx C ex s3 H3 pn hB2=>(eB (bF (my hr.u1) xI (ak 0) (ak 1) (by with_unfolding_all rfl)))) (λH0 G0 par br bx C ex s3 H3 pn hB2=>(aq 0 (hB2 0 @Go))) c5.nd)
  (ay (BA 3 (λ_=>rfl) (cK (NB:=["other","paths","at"]) (own:=1) (ixs:=[3,5]) [] rfl (cf (by kernel_rfl)) @D_ (l5 rfl (ak 6)) (λH0 G0 par br bx C ex s3 H3 pn=>(fq (i:=0) (show (["other","paths","at"]:@H_).Nodup by decide +kernel))) (λH0 G0 par br bx C ex s3 H3 pn hB3=>gG) (λH0 G0 par br bx C ex s3 H3 pn hB3=>(SE.wv (bL kM rb (bc aQ bZ (ak 1) (ak 2) @D_) (bN (af (aq 0 (hB3 0 @Go)) ao)))))))
  (aC (a9 (i:=5) (bL g7 ie (ak 5) ax) c5.nd))))))
  (aC (aX (bc aQ bZ (ak 3) (ak 5) @D_)))))))⟩,λds h=>aN ds h⟩
def nJ:aF ["order","left","rows","number","turn","masks","put"] ["order","left","rows","number","turn"] (ah mi):=@AC
def wB {T:Addr}{f:Addr}{fd:FuncData}{b8 bX fE gi:@Do}{k:Nat}(hk:6<=k)(F:fX K mg "case_of" mi ["order","left","rows","number","turn"] f fd)(B:ic mg)(jh:jF T P w K mg base ca "cases_on" ["order","left","rows"] k b8)(fo:cu P w K mg base ca "is_barred" ["masks","turn"] 3 bX)(lK:cu P w K mg base ca "ring_with" ["order","put","turn"] 2 fE)(nk:cu P w K mg base ca "put_turn" ["masks","turn"] 3 gi):jF T P w K mg base ca "case_of" ["order","left","rows","number","turn"] (k + 1) (aW 7 5 (iW b8 bX fE gi)):=
 ⟨⟨f,fd,F.mg,F.F.kp,F.b,gW (N:=["order","left","rows","number","turn","masks","put"]) (k:=k) F.F nJ λcdv A outer s H G E hcd hT hr=>
  (ay (a9 (i:=5) (bc aQ bZ (bc aQ bZ (ak 2) (ak 3) @D_) ax @D_) nJ.nd)
  (ay (a9 (i:=6) (bc aQ bZ (bc aQ bZ (ak 2) (ak 3) @D_) ax @D_) nJ.nd)
  (ay (cV (cY rfl (aH fo (hr.mono (@AT)) aV rfl rfl (af (aq 5 rfl) (af (aq 4 rfl) ao))))
  (aC (aX (cC (af jJ (af (aq 3 rfl) (af (aH lK (hr.mono (@AT)) aV rfl rfl (af (aq 0 rfl) (af (aq 6 rfl) (af (aq 4 rfl) ao)))) ao))))))
  cD)
  (aC (aX (cJ hT jh (hr.mono (@AT)) aV rfl rfl (af (aq 0 rfl) (af (aq 1 rfl) (af (SE.wv (bL kM rb (bL kM rb (qy rfl (ak 2) uH (uF (ak 3))) (bN (af (cC (af (aH nk (hr.mono (@AT)) aV rfl rfl (af (aq 5 rfl) (af (aq 4 rfl) ao))) (af (bL Dd IM (ak 6) (cC (af (aq 4 rfl) ao))) ao))) ao))) (qy rfl (ak 2) (uF (bL g7 ie (ak 3) ax)) uH))) ao)))))))))⟩,λds h=>aN ds h⟩
def uQ:aF ["rows","turn"] ["rows","turn"] (ah jk):=@AC
def sJ {f:Addr}{fd:FuncData}{bX:@Do}(F:fX K mg "free_rows" jk ["rows","turn"] f fd)(B:ic mg)(fo:cu P w K mg base ca "is_barred" ["masks","turn"] 3 bX):cu P w K mg base ca "free_rows" ["rows","turn"] 4 (aW 2 2 (jx bX)):=
 ⟨⟨f,fd,F.mg,F.F.kp,F.b,aZ (N:=["rows","turn"]) (k:=3) F.F uQ λcdv A outer s H G E hr=>
  (aC (aX (bu cy i3 rfl B.len Pp (cK (NB:=["masks","put","turn"]) (own:=2) (ixs:=[1]) [1] rfl (cf (by kernel_rfl)) @D_ (l5 rfl (ak 0)) (λH0 G0 par br bx C ex s3 H3 pn=>(g8 (i:=0) (j:=1) (show (["masks","put","turn"]:@H_).Nodup by decide +kernel))) (λH0 G0 par br bx C ex s3 H3 pn hB1=>(eB (fM (cY rfl (aH fo @A_ lD rfl rfl (af (aq 0 (hB1 0 @Go)) (af (aq 2 (hB1 2 @Go)) ao))))))) (λH0 G0 par br bx C ex s3 H3 pn hB1=>(aq 0 (hB1 0 @Go)))))))⟩,λds h=>aN ds h⟩
def fy:aF ["order","left","rows","undone","turn","papers","number","found"] ["order","left","rows"] (ah kc):=@AC
def uR {T:Addr}{f:Addr}{fd:FuncData}{iX fx fF fB:@Do}{k:Nat}(hk:7<=k)(F:fX K mg "cases_on" kc ["order","left","rows"] f fd)(B:ic mg){c:Addr}(hcode:fd.code=.ref c)(LT:BK mg base c T)(AW:jF T P w K mg base ca "case_of" ["order","left","rows","number","turn"] (k + 1) iX)(lI:cu P w K mg base ca "is_turned" ["masks","turn"] 3 fx)(lV:cu P w K mg base ca "row_along" ["masks","late"] 3 fF)(lJ:cu P w K mg base ca "free_rows" ["rows","turn"] 4 fB):jF T P w K mg base ca "cases_on" ["order","left","rows"] (k + 1 + 1) (aW 8 3 (eZ iX fx fF fB)):=
 ⟨⟨f,fd,F.mg,F.F.kp,F.b,gW (N:=["order","left","rows","undone","turn","papers","number","found"]) (k:=(k + 1)) F.F fy λcdv A outer s H G E hcd hT hr=>
  (ay (nQ (i:=3) (NB:=["turn","rows"]) (own:=1) (ixs:=[2]) [] rfl (cf (by kernel_rfl)) @D_ (l5 rfl (ak 1)) (λH0 G0 par br bx C ex s3 H3 pn=>(fq (i:=0) (show (["turn","rows"]:@H_).Nodup by decide +kernel))) (λH0 G0 par br bx C ex s3 H3 pn hB1=>(eB (fM (cY rfl (bu (wd rfl) kh rfl B.any (@Ev) (cK (NB:=["masks","put","turn"]) (own:=2) (ixs:=[0]) [0] rfl (cf (by kernel_rfl)) (λi hi=>hB1 i (by revert i hi;decide)) (l5 rfl (ak 1)) (λH0 G0 par br bx C ex s3 H3 pn=>(g8 (i:=0) (j:=1) (show (["masks","put","turn"]:@H_).Nodup by decide +kernel))) (λH0 G0 par br bx C ex s3 H3 pn hB2=>gG) (λH0 G0 par br bx C ex s3 H3 pn hB2=>(aH lI (hr.mono (@AT)) lD rfl rfl (af (aq 0 (hB2 0 @Go)) (af (aq 2 (hB2 2 @Go)) ao)))))))))) (λH0 G0 par br bx C ex s3 H3 pn hB1=>(aq 0 (hB1 0 @Go))) fy.nd)
  (ay (cV (bF (cW hr.units) dU (bu cy i3 rfl B.len Pp (ak 3)) ax (bf _))
  (aC (aX (cC (af jJ (af (SE.wv (cK (NB:=["masks","put"]) (own:=2) (ixs:=[]) [] rfl (cf (by kernel_rfl)) @D_ (l5 rfl (ak 2)) (λH0 G0 par br bx C ex s3 H3 pn=>(g8 (i:=0) (j:=1) (show (["masks","put"]:@H_).Nodup by decide +kernel))) (λH0 G0 par br bx C ex s3 H3 pn hB3=>gG) (λH0 G0 par br bx C ex s3 H3 pn hB3=>(aH lV (hr.mono (@AT)) lD rfl rfl (af (aq 0 (hB3 0 @Go)) (af (SE.wv (bN ao)) ao)))))) ao)))))
  cD)
  (ay (a9 (i:=4) (BQ (NB:=["one","rows"]) (ir:=2) rfl rfl rfl B.min (aq 3 rfl) (Ig (NB:=["one","rows"]) (own:=1) (ixs:=[2]) (cf (by kernel_rfl)) rfl (hcd.symm.trans hcode) LT.hd LT.bt LT.ne) (λ_ _ _ _ _ _ I=>hT.mono (I.old.trans I.sub)) (cf (by kernel_rfl)) @Go rfl rfl hr.depth rfl rfl (λ_ _ _ _ _ _=>rfl) (λH0 G0 qn q c1 s1 H1 pn=>(aH lJ ((hr.mono (@AT)).in1.deeper _) KL rfl rfl (af (aq 1 rfl) (af (aq 0 rfl) ao))))) fy.nd)
  (ay (jr (i:=5) (bN ao) fy.nd)
  (ay (jL PassesOwn.leaving rfl (lE rfl B.range (bu cy i3 rfl B.len Pp (ak 2))) (fq (i:=6) fy.nd)
  (ay (a9 (i:=7) (cJ hT AW (hr.mono (@AT)) aV rfl rfl (af (aq 0 rfl) (af (aq 3 rfl) (af (aq 2 rfl) (af (aq 6 rfl) (af (aq 4 rfl) ao)))))) fy.nd)
  (ay (cV (bF (cW hr.units) dU (bc aQ bZ (ak 7) ax @D_) jJ (bf _))
  (aC (oG 7))
  cD)
  (aC (mP 5 (λ_=>rfl) (aq 7 rfl))))))
  (aC (aX (cC (af jJ (af (aq 4 rfl) (af (jf df oA rfl B.tuple (@Ev) (ak 5)) ao)))))))))))⟩,λds h=>aN ds h⟩
def xN:aF ["order","count","bare"] ["order","count"] (ah qm):=@AC
def A1 {T:Addr}{f:Addr}{fd:FuncData}{dg b8 bw:@Do}(F:fX K mg "cases" qm ["order","count"] f fd)(B:ic mg)(jK:cu P w K mg base ca "masks_ahead" ["order"] 2 dg)(jh:jF T P w K mg base ca "cases_on" ["order","left","rows"] 87 b8)(dX:cu P w K mg base ca "sharp_turns" ["order"] 7 bw):jF T P w K mg base ca "cases" ["order","count"] 88 (aW 3 2 (qg dg b8 bw)):=
 ⟨⟨f,fd,F.mg,F.F.kp,F.b,gW (N:=["order","count","bare"]) (k:=87) F.F xN λcdv A outer s H G E hcd hT hr=>
  (ay (a9 (i:=2) (cC (af (aH jK @A_ aV rfl rfl (af (aq 0 rfl) ao)) (af (cC ao) ao))) xN.nd)
  (aC (aX (cJ hT jh @A_ aV rfl rfl (af (aq 0 rfl) (af (aH dX @A_ aV rfl rfl (af (aq 0 rfl) ao)) (af (SE.wv (yS (bN (af (aq 2 rfl) ao)) (ak 1))) ao)))))))⟩,λds h=>aN ds h⟩
def dA:aF ["order","count","found"] ["order"] (ah gH):=@AC
def pX {T:Addr}{f:Addr}{fd:FuncData}{aI eN:@Do}(F:fX K mg "fewest_rows" gH ["order"] f fd)(B:ic mg)(a7:cu P w K mg base ca "need_order" ["thing"] 5 aI)(kb:jF T P w K mg base ca "cases" ["order","count"] 88 eN):jF T P w K mg base ca "fewest_rows" ["order"] 89 (aW 3 1 (bJ aI eN)):=
 ⟨⟨f,fd,F.mg,F.F.kp,F.b,gW (N:=["order","count","found"]) (k:=88) F.F dA λcdv A outer s H G E hcd hT hr=>
  (ay (dF (aH a7 @A_ aV rfl rfl (af (aq 0 rfl) ao)))
  (ay (a9 (i:=1) ax dA.nd)
  (ay (a9 (i:=2) (cJ hT kb @A_ aV rfl rfl (af (aq 0 rfl) (af (aq 1 rfl) ao))) dA.nd)
  (ay (nX 1000 PassesOwn.leaving (bF (gq hr.units) dU (bc aQ bZ (ak 2) ax @D_) jJ (bf _))
  (ay (a9 (i:=1) (bL g7 ie (ak 1) ax) dA.nd)
  (aC (a9 (i:=2) (cJ hT kb @A_ aV rfl rfl (af (aq 0 rfl) (af (aq 1 rfl) ao))) dA.nd))))
  (aC (aX (bc aQ bZ (ak 2) ax @D_)))))))⟩,λds h=>aN ds h⟩
def AE:aF ["order"] ["order"] (ah oi):=@AC
def ya {T:Addr}{f:Addr}{fd:FuncData}{bH:@Do}(F:fX K mg "fewest" oi ["order"] f fd)(B:ic mg)(dh:jF T P w K mg base ca "fewest_rows" ["order"] 89 bH):jF T P w K mg base ca "fewest" ["order"] 90 (aW 1 1 (jR bH)):=
 ⟨⟨f,fd,F.mg,F.F.kp,F.b,gW (N:=["order"]) (k:=89) F.F AE λcdv A outer s H G E hcd hT hr=>
  (aC (aX (bu cy i3 rfl B.len Pp (cJ hT dh @A_ aV rfl rfl (af (aq 0 rfl) ao)))))⟩,λds h=>aN ds h⟩
def sM:aF ["thing"] ["thing"] (ah iH):=@AC
def qP {f:Addr}{fd:FuncData}{bD:@Do}(F:fX K mg "need_count" iH ["thing"] f fd)(B:ic mg)(c4:cu P w K mg base ca "is_whole" ["thing"] 1 bD)(jc:Exc K mg ca "NoNumber"){wW:Tok}(lW:mg "MOST_ROWS"=some (.int 8 wW)):cu P w K mg base ca "need_count" ["thing"] 2 (aW 1 1 (cH bD)):=
 ⟨⟨f,fd,F.mg,F.F.kp,F.b,aZ (N:=["thing"]) (k:=1) F.F sM λcdv A outer s H G E hr=>
  (aC (cV (vT.t (sf (fM (cY rfl (aH c4 @A_ aV rfl rfl (af (aq 0 rfl) ao)))) (nv (fM (D8 xB xB D5 D5 ax (ak 0) (zY (by rfl) lW)))) @D_))
  (aC (we jc.ex jc.ca rfl jc.mg (af jJ ao)))
  cD))⟩,λds h=>aN ds h⟩
def mY:aF ["order","count","found"] ["order","count"] (ah iO):=@AC
def rT {T:Addr}{f:Addr}{fd:FuncData}{aI bP eN:@Do}(F:fX K mg "case_paper" iO ["order","count"] f fd)(B:ic mg)(a7:cu P w K mg base ca "need_order" ["thing"] 5 aI)(dJ:cu P w K mg base ca "need_count" ["thing"] 2 bP)(kb:jF T P w K mg base ca "cases" ["order","count"] 88 eN):jF T P w K mg base ca "case_paper" ["order","count"] 89 (aW 3 2 (cM aI bP eN)):=
 ⟨⟨f,fd,F.mg,F.F.kp,F.b,gW (N:=["order","count","found"]) (k:=88) F.F mY λcdv A outer s H G E hcd hT hr=>
  (ay (dF (aH a7 @A_ aV rfl rfl (af (aq 0 rfl) ao)))
  (ay (dF (aH dJ @A_ aV rfl rfl (af (aq 1 rfl) ao)))
  (ay (a9 (i:=2) (cJ hT kb @A_ aV rfl rfl (af (aq 0 rfl) (af (aq 1 rfl) ao))) mY.nd)
  (ay (cV (bF (cW hr.units) dU (bc aQ bZ (ak 2) ax @D_) jJ (bf _))
  (aC (aX qN))
  cD)
  (aC (oG 2))))))⟩,λds h=>aN ds h⟩
def Fw:aF ["thing","order","puts","number","paper"] ["thing","order","puts"] (ah uM):=@AC
def DJ {f:Addr}{fd:FuncData}(F:fX K mg "bars" uM ["thing","order","puts"] f fd)(B:ic mg):cu P w K mg base ca "bars" ["thing","order","puts"] 1 (aW 5 3 (ym)):=
 ⟨⟨f,fd,F.mg,F.F.kp,F.b,aZ (N:=["thing","order","puts","number","paper"]) (k:=0) F.F Fw λcdv A outer s H G E hr=>
  (ay (cV (vT.t (sf (fM (cY rfl (nG "tuple" @Go rfl rfl B.isinstance rfl B.tuple (@Ev) (ak 0)))) (nv (bF (gq hr.units) dU (bu cy i3 rfl B.len Pp (ak 0)) ax (bf _))) @D_))
  (aC (aX jT))
  cD)
  zv)⟩,λds h=>aN ds h⟩
def oZ:aF ["thing","order","count"] ["thing","order","count"] (ah eS):=@AC
def nZ {f:Addr}{fd:FuncData}{aI bP pC:@Do}(F:fX K mg "is_case_paper" eS ["thing","order","count"] f fd)(B:ic mg)(a7:cu P w K mg base ca "need_order" ["thing"] 5 aI)(dJ:cu P w K mg base ca "need_count" ["thing"] 2 bP)(yh:cu P w K mg base ca "bars" ["thing","order","puts"] 1 pC):cu P w K mg base ca "is_case_paper" ["thing","order","count"] 6 (aW 3 3 (bS aI bP pC)):=
 ⟨⟨f,fd,F.mg,F.F.kp,F.b,aZ (N:=["thing","order","count"]) (k:=5) F.F oZ λcdv A outer s H G E hr=>
  (ay (dF (aH a7 @A_ aV rfl rfl (af (aq 1 rfl) ao)))
  (ay (dF (aH dJ @A_ aV rfl rfl (af (aq 2 rfl) ao)))
  (aC (aX (aH yh @A_ aV rfl rfl (af (aq 0 rfl) (af (aq 1 rfl) (af (SE.wv (yS (bN (af (cC ao) ao)) (ak 2))) ao))))))))⟩,λds h=>aN ds h⟩
def CB:aF ["order","turn","other"] ["order","turn","other"] (ah qc):=@AC
def AX {f:Addr}{fd:FuncData}{bW:@Do}(F:fX K mg "cross" qc ["order","turn","other"] f fd)(B:ic mg)(dB:cu P w K mg base ca "leads_on" ["order","turn","other"] 1 bW):cu P w K mg base ca "cross" ["order","turn","other"] 2 (aW 3 3 (p9 bW)):=
 ⟨⟨f,fd,F.mg,F.F.kp,F.b,aZ (N:=["order","turn","other"]) (k:=1) F.F CB λcdv A outer s H G E hr=>
  (aC (aX (jM (aH dB @A_ aV rfl rfl (af (aq 0 rfl) (af (aq 1 rfl) (af (aq 2 rfl) ao)))) (jG (aH dB @A_ aV rfl rfl (af (aq 0 rfl) (af (aq 2 rfl) (af (aq 1 rfl) ao))))) @D_)))⟩,λds h=>aN ds h⟩
def xo:aF ["thing","order"] ["thing","order"] (ah ku):=@AC
def uB {f:Addr}{fd:FuncData}{aI fw:@Do}(F:fX K mg "do_cross" ku ["thing","order"] f fd)(B:ic mg)(a7:cu P w K mg base ca "need_order" ["thing"] 5 aI)(lZ:cu P w K mg base ca "are_turns" ["thing","order"] 5 fw):cu P w K mg base ca "do_cross" ["thing","order"] 6 (aW 2 2 (gz aI fw)):=
 ⟨⟨f,fd,F.mg,F.F.kp,F.b,aZ (N:=["thing","order"]) (k:=5) F.F xo λcdv A outer s H G E hr=>
  (ay (dF (aH a7 @A_ aV rfl rfl (af (aq 1 rfl) ao)))
  (ay (cV (fM (cY rfl (aH lZ @A_ aV rfl rfl (af (aq 0 rfl) (af (aq 1 rfl) ao)))))
  (aC (aX jT))
  cD)
  zv))⟩,λds h=>aN ds h⟩
def cq:aF ["order","chosen","left","best","at","turn","crossing","found"] ["order","chosen","left"] (ah eT):=@AC
def nY {f:Addr}{fd:FuncData}{a8 mH:@Do}{k:Nat}(hk:2<=k)(F:fX K mg "crossing_from" eT ["order","chosen","left"] f fd)(B:ic mg)(dc:cu P w K mg base ca "crossing_from" ["order","chosen","left"] k a8)(uC:cu P w K mg base ca "cross" ["order","turn","other"] 2 mH):cu P w K mg base ca "crossing_from" ["order","chosen","left"] (k + 1) (aW 8 3 (eO a8 mH)):=
 ⟨⟨f,fd,F.mg,F.F.kp,F.b,aZ (N:=["order","chosen","left","best","at","turn","crossing","found"]) (k:=k) F.F cq λcdv A outer s H G E hr=>
  (ay (a9 (i:=3) (aq 1 rfl) cq.nd)
  (ay (jL PassesOwn.leaving rfl (sd rfl rfl B.enumerate (aq 2 rfl)) (g8 (i:=4) (j:=5) cq.nd)
  (ay (nQ (i:=6) (NB:=["other","order","turn"]) (own:=1) (ixs:=[0,5]) [0,5] rfl (cf (by kernel_rfl)) @D_ (l5 rfl (qy rfl (ak 2) (uF (bL g7 ie (ak 4) ax)) uH)) (λH0 G0 par br bx C ex s3 H3 pn=>(fq (i:=0) (show (["other","order","turn"]:@H_).Nodup by decide +kernel))) (λH0 G0 par br bx C ex s3 H3 pn hB1=>(eB (cY rfl (aH uC (hr.mono (@AT)) lD rfl rfl (af (aq 1 (hB1 1 @Go)) (af (aq 2 (hB1 2 @Go)) (af (aq 0 (hB1 0 @Go)) ao))))))) (λH0 G0 par br bx C ex s3 H3 pn hB1=>(aq 0 (hB1 0 @Go))) cq.nd)
  (ay (a9 (i:=7) (aH dc (hr.mono (@AT)) aV rfl rfl (af (aq 0 rfl) (af (SE.wv (bL kM rb (ak 1) (bN (af (aq 5 rfl) ao)))) (af (aq 6 rfl) ao)))) cq.nd)
  (aC (cV (bF K0 MZ (bu cy i3 rfl B.len Pp (ak 7)) (bu cy i3 rfl B.len Pp (ak 3)) (bf _))
  (aC (a9 (i:=3) (aq 7 rfl) cq.nd))
  cD)))))
  (aC (oG 3))))⟩,λds h=>aN ds h⟩
def sC:aF ["order"] ["order"] (ah iC):=@AC
def rn {f:Addr}{fd:FuncData}{a8 bw:@Do}(F:fX K mg "most_cross" iC ["order"] f fd)(B:ic mg)(dc:cu P w K mg base ca "crossing_from" ["order","chosen","left"] 42 a8)(dX:cu P w K mg base ca "sharp_turns" ["order"] 7 bw):cu P w K mg base ca "most_cross" ["order"] 43 (aW 1 1 (dG a8 bw)):=
 ⟨⟨f,fd,F.mg,F.F.kp,F.b,aZ (N:=["order"]) (k:=42) F.F sC λcdv A outer s H G E hr=>
  (aC (aX (aH dc @A_ aV rfl rfl (af (aq 0 rfl) (af (SE.wv (bN ao)) (af (aH dX @A_ aV rfl rfl (af (aq 0 rfl) ao)) ao))))))⟩,λds h=>aN ds h⟩
def c3:aF ["script","k","here","number","j","part"] ["script","k"] (ah kP):=@AC
def uZ {f:Addr}{fd:FuncData}(F:fX K mg "_law_box" kP ["script","k"] f fd)(B:ic mg):cu P w K mg base ca "_law_box" ["script","k"] 1 (aW 6 2 (iG)):=
 ⟨⟨f,fd,F.mg,F.F.kp,F.b,aZ (N:=["script","k","here","number","j","part"]) (k:=0) F.F c3 λcdv A outer s H G E hr=>
  (ay (a9 (i:=2) (bL g7 ie (bL lR ni ax (ak 1)) ax) c3.nd)
  (ay (cV (bF vU CS (ak 1) (bu cy i3 rfl B.len Pp (ak 0)) (bf _))
  (aC (a9 (i:=2) (bc aQ bZ (ak 0) (ak 1) @D_) c3.nd))
  cD)
  (ay (cV (bF (cW hr.units) dU (bL nI ua (ak 2) ax) ax (bf _))
  (aC (kx (bN (af (bL uD LH (ak 2) ax) ao))))
  cD)
  (ay (a9 (i:=3) ax c3.nd)
  (ay (jL PassesOwn.leaving rfl (lE rfl B.range ax) (fq (i:=4) c3.nd)
  (ay (a9 (i:=5) (bL nI ua (bL g7 ie (bL g7 ie (bL lR ni (bL nI ua (ak 2) ax) ax) (bL lR ni ax (ak 4))) ax) ax) c3.nd)
  (ay (a9 (i:=5) (bL nI ua (bL lR ni (ak 5) (ak 5)) ax) c3.nd)
  (aC (a9 (i:=3) (bL g7 ie (bL lR ni (ak 3) ax) (bL nI ua (bL lR ni (ak 5) (bL g7 ie (ak 5) ax)) ax)) c3.nd)))))
  (aC (kx (bN (af (aq 3 rfl) ao)))))))))⟩,λds h=>aN ds h⟩
def oy:aF ["box","many","left","digit"] ["box","many"] (ah jy):=@AC
def sD {f:Addr}{fd:FuncData}(F:fX K mg "_law_take" jy ["box","many"] f fd)(B:ic mg):pR P w K mg base "_law_take" ["box","many"] 1 dP:=by
 refine⟨⟨f,fd,F.mg,F.F.kp,F.b,?_⟩,λds β h=>?_⟩
 ·refine F.F.Hq oy (λvs H Q E h=>?_) (λcdv A outer s H vs Q E hr h=>?_)
  ·obtain⟨b,rest,G,ds,β,rfl,hb,gb,sG,hl,r,_⟩:=h
   rw[O5,r.len,hl];rfl
  ·obtain⟨b,rest,G,ds,β,rfl,hb,gb,sG,hl,r,h⟩:=h
   obtain⟨m,rfl,h0,h1⟩:=Af (λz=>by rw[z] at h;exact h)
   rw[vG h0 h1] at h
   have kk:∀v G' H',iw (some b) H H'->H' b=some (.lst [.int (β / m)])->ar G G'->ar G' H'->(∀c,Mx H c->G c=none->G' c=none)->FV K H G' H' false (.int (β % m)) v->Q v H':=h
   cases r with
   |cons r1 r2=>
    cases r1
    cases r2
    refine⟨_,dz (qB (bB wY rfl B.divmod (@Ev) (aw (mX iL (pv 0) pB @D_) (aw (pv 1) aR))) (GK (i:=2) (j:=3) oy.nd rfl rfl rfl rfl rfl))
     (dz (qB (pv 2) (uI (pv 0) pB set_list)) (eM (jD (pv 3)))),?_⟩
    refine⟨_,rfl,b,_,0,.int β,rfl,rfl,.inl (.inl hb),rfl,_,rfl,β,m,rfl,⟨h0,h1⟩,λp hp=>⟨p,_,rfl,.inl (.inl az),rfl,_,_,rfl,_,_,rfl,rfl,?_⟩⟩
    have hbp:b≠p:=aM hb hp
    exact⟨_,rfl,_,rfl,b,[.int β],0,0,rfl,rfl,by rw[aE hbp];exact hb,rfl,_,rfl,Cv hb sG hp kk gb⟩
 ·obtain⟨m,rfl,_⟩:=Af h
  rfl
def gf:aF ["box","some"] ["box"] (ah eQ):=@AC
def nK {f:Addr}{fd:FuncData}{aP:List D->Int->FB}(F:fX K mg "_law_no_order" eQ ["box"] f fd)(B:ic mg)(bo:pR P w K mg base "_law_take" ["box","many"] 1 aP):pR P w K mg base "_law_no_order" ["box"] 2 (sZ 2 0 (eh aP)):=
 ⟨⟨f,fd,F.mg,F.F.kp,F.b,rl (ca:=λ_=>0) (N:=["box","some"]) (k:=1) F.F gf @Go λcdv A outer s H G b E hr=>
  (@ay _ _ _ _ _ _ _ (@Km _ _ _ 1 _ _ (ae (cst .none) (ae (aO ag) (ae (aO (ae @Fa (ae (aO ag) ag))) (ae (aO (ae (cst (.int 9)) (ae (aO ag) ag))) (ae (aO (ae (cst (.int 2)) (ae (aO (ae (aO (ae @Fa (ae (cst (.int 2)) ag))) ag)) ag))) (ae (aO (ae (cst (.int 3)) (ae (aO (ae (aO (ae @Fa (ae @Ch ag))) (ae (aO (ae @Ch (ae (cst (.int 2)) ag))) ag))) ag))) (ae (aO (ae (cst (.int 2)) (ae (aO (ae (aO (ae @Fa (ae @Ch ag))) (ae (aO (ae @Ch (ae @Fa ag))) ag))) ag))) (ae (bz (ae @Ch (ae (aO ag) ag))) ag)))))))) ([] ++ ([] ++ (([] ++ @EQ) ++ (([] ++ @EQ) ++ (([] ++ ((([] ++ @EQ) ++ []) ++ [])) ++ (([] ++ ((([] ++ @EQ) ++ (([] ++ @EQ) ++ [])) ++ [])) ++ (([] ++ ((([] ++ @EQ) ++ (([] ++ @EQ) ++ [])) ++ [])) ++ (([] ++ @EQ) ++ [])))))))) _ _ _ [] (by kernel_rfl) (λ_=>rfl) (by kernel_rfl) gf.nd rfl (by first |exact Or.inl rfl |exact Or.inr rfl) (by first |exact .inl rfl |exact .inr rfl))
  (ay (a9 (i:=1) (SE.wv (bL kM rb (ak 1) (@Ht _ _ _ _ (ae (aO (ae (cst (.bool true)) (ae (aO ag) ag))) (ae (aO (ae (cst (.int 2)) (ae (bz (ae (aO (ae @Fa (ae @Ch ag))) ag)) ag))) (ae (aO (ae @Ch (ae (aO (ae (aO (ae @Fa (ae @Fa ag))) ag)) ag))) (ae (aO (ae (cst (.int 3)) (ae (aO (ae (aO (ae @Ch (ae (cst (.int 2)) ag))) (ae (aO (ae @Fa (ae @Ch ag))) (ae (aO (ae @Fa (ae (cst (.int 2)) ag))) ag)))) ag))) (ae (cst (.str "1")) (ae (aO (ae @Ch (ae (aO ag) (ae (aO ag) ag)))) ag)))))) (([] ++ @EQ) ++ (([] ++ ((([] ++ @EQ) ++ []) ++ [])) ++ (([] ++ ((([] ++ @EQ) ++ []) ++ [])) ++ (([] ++ ((([] ++ @EQ) ++ (([] ++ @EQ) ++ (([] ++ @EQ) ++ []))) ++ [])) ++ ([] ++ (([] ++ ([] ++ @EQ)) ++ [])))))) _ [] (by kernel_rfl) (λ_=>rfl) (by kernel_rfl)))) gf.nd)
  (aC (aX (bc aQ bZ (ak 1) (lM 0 bo @A_ aV rfl rfl (af ax ao)) @D_)))))⟩,λds β h=>rS ds β h⟩
def fY:aF ["box","some","left","found"] ["box","some"] (ah eJ):=@AC
def oJ {f:Addr}{fd:FuncData}{aP:List D->Int->FB}(F:fX K mg "_law_shuffled" eJ ["box","some"] f fd)(B:ic mg)(bo:pR P w K mg base "_law_take" ["box","many"] 1 aP):pR P w K mg base "_law_shuffled" ["box","some"] 2 (sZ 4 1 (eH aP)):=
 ⟨⟨f,fd,F.mg,F.F.kp,F.b,rl (ca:=λ_=>0) (N:=["box","some","left","found"]) (k:=1) F.F fY @Go λcdv A outer s H G b E hr=>
  (ay (jr (i:=2) (jf vK Il rfl B.list (@Ev) (ak 1)) fY.nd)
  (ay (jr (i:=3) (bN ao) fY.nd)
  (ay (nX 1000 PassesOwn.leaving (bF (gq hr.units) dU (ak 2) (bN ao) (bf _))
  (aC (BP 3 2 (λ_=>rfl) (lM 0 bo @A_ aV rfl rfl (af (bu cy i3 rfl B.len Pp (ak 2)) ao)))))
  (aC (aX (jf df oA rfl B.tuple (@Ev) (ak 3)))))))⟩,λds β h=>rS ds β h⟩
def iK:aF ["many","rows","found","a","b"] ["many","rows"] (ah ji):=@AC
def sO {f:Addr}{fd:FuncData}(F:fX K mg "_law_told" ji ["many","rows"] f fd)(B:ic mg):cu P w K mg base ca "_law_told" ["many","rows"] 1 (aW 5 2 (jB)):=
 ⟨⟨f,fd,F.mg,F.F.kp,F.b,aZ (N:=["many","rows","found","a","b"]) (k:=0) F.F iK λcdv A outer s H G E hr=>
  (ay (jr (i:=2) (bN ao) iK.nd)
  (ay (jL PassesOwn.leaving rfl (lE rfl B.range (ak 0)) (fq (i:=3) iK.nd)
  (aC (jL PassesOwn.leaving rfl (lE rfl B.range (ak 0)) (fq (i:=4) iK.nd)
  (aC (cV (vT.t (x9 (bF (gq hr.units) dU (ak 3) (ak 4) (bf _)) (uU (cY rfl (bu (lO rfl) kh rfl B.all (@Ev) (cK (NB:=["row","a","b"]) (own:=1) (ixs:=[3,4]) [] rfl (cf (by kernel_rfl)) @D_ (l5 rfl (ak 1)) (λH0 G0 par br bx C ex s3 H3 pn=>(fq (i:=0) (show (["row","a","b"]:@H_).Nodup by decide +kernel))) (λH0 G0 par br bx C ex s3 H3 pn hB1=>gG) (λH0 G0 par br bx C ex s3 H3 pn hB1=>(ig vU CS (xm rfl (ak 0) (ak 1)) (xm rfl (ak 0) (ak 2)) (bf _))))))) @D_))
  (aC (mP 2 (λ_=>rfl) (cC (af (aq 3 rfl) (af (aq 4 rfl) ao)))))
  cD)))))
  (aC (aX (jf df oA rfl B.tuple (@Ev) (ak 2))))))⟩,λds h=>aN ds h⟩
def cO:aF ["box","most","many","rows","lows","pairs","k"] ["box","most"] (ah iB):=@AC
def rQ {f:Addr}{fd:FuncData}{fC:@Do}{aP cg:List D->Int->FB}(F:fX K mg "_law_order" iB ["box","most"] f fd)(B:ic mg)(lC:cu P w K mg base ca "_law_told" ["many","rows"] 1 fC)(bo:pR P w K mg base "_law_take" ["box","many"] 1 aP)(dZ:pR P w K mg base "_law_shuffled" ["box","some"] 2 cg):pR P w K mg base "_law_order" ["box","most"] 3 (sZ 7 1 (eG fC aP cg)):=
 ⟨⟨f,fd,F.mg,F.F.kp,F.b,rl (ca:=ca) (N:=["box","most","many","rows","lows","pairs","k"]) (k:=2) F.F cO @Go λcdv A outer s H G b E hr=>
  (ay (a9 (i:=2) (bL g7 ie ax (lM 0 bo @A_ aV rfl rfl (af (aq 1 rfl) ao))) cO.nd)
  (ay (nQ (i:=3) (NB:=["turn","box","many"]) (own:=1) (ixs:=[0,2]) [] rfl (cf (by kernel_rfl)) @D_ (lE rfl B.range (bL g7 ie ax (lM 0 bo @A_ aV rfl rfl (af ax ao)))) (λH0 G0 par br bx C ex s3 H3 pn=>(fq (i:=0) (show (["turn","box","many"]:@H_).Nodup by decide +kernel))) (λH0 G0 par br bx C ex s3 H3 pn hB1=>gG) (λH0 G0 par br bx C ex s3 H3 pn hB1=>(lM 1 dZ @A_ lD rfl rfl (af (SE.wv (rZ rfl rfl B.list rfl B.range (ak 2))) ao))) cO.nd)
  (ay (cV (vT.t (x9 (bF (cW hr.units) dU (ak 2) ax (bf _)) (uU (bF (cW hr.units) dU (lM 0 bo @A_ aV rfl rfl (af ax ao)) ax (bf _))) @D_))
  (ay (a9 (i:=4) (lM 0 dZ @A_ aV rfl rfl (af (SE.wv (rZ rfl rfl B.list rfl B.range ax)) ao)) cO.nd)
  (ay (a9 (i:=5) (SE.wv (bN ao)) cO.nd)
  (ay (jL PassesOwn.leaving rfl (lE rfl B.range ax) (fq (i:=6) cO.nd)
  (aC (a9 (i:=5) (SE.wv (bL kM rb (ak 5) (cK (NB:=["j","k","lows"]) (own:=1) (ixs:=[6,4]) [] rfl (cf (by kernel_rfl)) @D_ (lE rfl B.range ax) (λH0 G0 par br bx C ex s3 H3 pn=>(fq (i:=0) (show (["j","k","lows"]:@H_).Nodup by decide +kernel))) (λH0 G0 par br bx C ex s3 H3 pn hB2=>(eB (bF (gq hr.units) dU (ak 0) (ak 1) (bf _)))) (λH0 G0 par br bx C ex s3 H3 pn hB2=>(cC (af (bc aQ bZ (ak 2) (ak 1) @D_) (af (bc aQ bZ (ak 2) (bL g7 ie ax (ak 0)) @D_) ao))))))) cO.nd)))
  (aC (aX (cC (af ax (af (jf df oA rfl B.tuple (@Ev) (bu wA Fd rfl B.sorted (@Ev) (ak 5))) ao))))))))
  cD)
  (aC (aX (cC (af (aq 2 rfl) (af (aH lC @A_ aV rfl rfl (af (aq 2 rfl) (af (aq 3 rfl) ao))) ao))))))))⟩,λds β h=>rS ds β h⟩
def lj:aF ["way_here","order","count","e"] ["way_here","order","count"] (ah fJ):=@AC
def o5 {T:Addr}{f:Addr}{fd:FuncData}{marks:Str->Option Nat}{dO cF j6 bH gk dH:@Do}(F:fX K mg "_law_told_by" fJ ["way_here","order","count"] f fd)(B:ic mg)(kE:jF T P w K mg base ca "case_paper" ["order","count"] 89 dO)(ij:cu P w K mg base ca "is_case_paper" ["thing","order","count"] 6 cF)(rB:jF T P w K mg base ca "fewest" ["order"] 90 j6)(dh:jF T P w K mg base ca "fewest_rows" ["order"] 89 bH)(nr:cu P w K mg base ca "do_cross" ["thing","order"] 6 gk)(kT:cu P w K mg base ca "most_cross" ["order"] 43 dH)(MK:LY P w K mg base ca "RankError" "_law_only" marks):jF T P w K mg base ca "_law_told_by" ["way_here","order","count"] 91 (aW 4 3 (lG marks dO cF j6 bH gk dH)):=
 ⟨⟨f,fd,F.mg,F.F.kp,F.b,gW (N:=["way_here","order","count","e"]) (k:=90) F.F lj λcdv A outer s H G E hcd hT hr=>
  (ay (B5 hT (i:=3) MK hr (λEb Ex pn H G hT hpT=>
  (aC (cV (bF (cW hr.units) dU (ak 0) ax (bf _))
  (aC (dF (cJ hT kE @A_ hpT rfl rfl (af (aq 1 rfl) (af (aq 2 rfl) ao)))))
  (aC (cV (bF (cW hr.units) dU (ak 0) ax (bf _))
  (aC (dF (aH ij @A_ hpT rfl rfl (af qN (af (aq 1 rfl) (af (aq 2 rfl) ao))))))
  (aC (cV (bF (cW hr.units) dU (ak 0) ax (bf _))
  (aC (dF (cJ hT rB @A_ hpT rfl rfl (af (aq 1 rfl) ao))))
  (aC (cV (bF (cW hr.units) dU (ak 0) ax (bf _))
  (aC (dF (cJ hT dh @A_ hpT rfl rfl (af (aq 1 rfl) ao))))
  (aC (cV (bF (cW hr.units) dU (ak 0) ax (bf _))
  (aC (dF (aH nr @A_ hpT rfl rfl (af qN (af (aq 1 rfl) ao)))))
  (aC (dF (aH kT @A_ hpT rfl rfl (af (aq 1 rfl) ao)))))))))))))))
  lj.nd B.range (λe=>cf (by kernel_rfl)) (@Ev))
  (aC (kx (bN ao))))⟩,λds h=>aN ds h⟩
def ny:aF ["script","k","box","order","bad","count","way_here"] ["script"] (ah mU):=@AC
def EI {T:Addr}{f:Addr}{fd:FuncData}{gx bO:@Do}{dI cE aP:List D->Int->FB}(F:fX K mg "law" mU ["script"] f fd)(B:ic mg)(ng:cu P w K mg base ca "_law_box" ["script","k"] 1 gx)(cX:jF T P w K mg base ca "_law_told_by" ["way_here","order","count"] 91 bO)(ky:pR P w K mg base "_law_order" ["box","most"] 3 dI)(hZ:pR P w K mg base "_law_no_order" ["box"] 2 cE)(bo:pR P w K mg base "_law_take" ["box","many"] 1 aP):e8 P w K mg base (lg P w) 92 f fd ["script"] (spT T K ca 1 (aW 7 1 (Ar gx bO dI cE aP))):=
 gW (N:=["script","k","box","order","bad","count","way_here"]) (k:=91) F.F ny λcdv A outer s H G E hcd hT hr=>
  (ay (jL PassesOwn.leaving rfl (lE rfl B.range (xq (Bw rfl) HZ rfl B.max (@Ev) ax (xq (Bb rfl) JB rfl B.min (@Ev) (bu cy i3 rfl B.len Pp (ak 0)) ax))) (fq (i:=1) ny.nd)
  (ay (EY (i:=2) rfl (Cp ng @A_ aV rfl rfl (af (aq 0 rfl) (af (aq 1 rfl) ao))) ny.nd)
  (ay (a9 (i:=3) (lM 2 ky @A_ aV rfl rfl (af ax ao)) ny.nd)
  (ay (a9 (i:=4) (lM 2 hZ @A_ aV rfl rfl ao) ny.nd)
  (ay (a9 (i:=5) (bc aQ bZ (bN (af ax (af ax (af (bL Ja KR (v8 qF xG ax) (lM 2 bo @A_ aV rfl rfl (af ax ao))) (af jT (af qN (af jJ (af (cC (af ax ao)) (af (SE.wv (bN (af ax ao))) (af (bL Cg HF ax ax) ao)))))))))) (lM 2 bo @A_ aV rfl rfl (af ax ao)) @D_) ny.nd)
  (aC (jL PassesOwn.leaving rfl (lE rfl B.range ax) (fq (i:=6) ny.nd)
  (ay (cV (vT.t (sf (bF (gq hr.units) dU (cJ hT cX @A_ aV rfl rfl (af (aq 6 rfl) (af (aq 4 rfl) (af (aq 5 rfl) ao)))) (bN (af ax ao)) (bf _)) (nv (bF (gq hr.units) dU (cJ hT cX @A_ aV rfl rfl (af (aq 6 rfl) (af (aq 4 rfl) (af ax ao)))) (bN (af ax ao)) (bf _))) @D_))
  (aC (aX jT))
  cD)
  (ay (cV (bF (gq hr.units) dU (cJ hT cX @A_ aV rfl rfl (af (aq 6 rfl) (af (aq 3 rfl) (af (aq 5 rfl) ao)))) (bc aQ bZ (bN (af (SE.wv (bN ao)) (af (SE.wv (bN (af ax ao))) ao))) (jf BM Jx rfl B.int (@Ev) (ig vU CS (ak 6) ax (bf _))) @D_) (bf _))
  (aC (aX jT))
  cD)
  (aC (cV (bF (gq hr.units) dU (cJ hT cX @A_ aV rfl rfl (af (aq 6 rfl) (af (aq 3 rfl) (af ax ao)))) (bN ao) (bf _))
  (aC (aX jT))
  cD)))))))))))
  (aC (aX jT)))
end
end RQ
namespace RM
open PySem L2
theorem Ce {t u:VF Bool}{vs:List Nv}{β:Int}{a b:Bool}(h:t vs β=.ok a β)(h':u vs β=.ok b β):BF t u vs β=.ok (a && b) β:=by
 rw[C8,h];dsimp only[R.bnd]
 cases a with
 |true=>rw[Ov rfl,h'];rfl
 |false=>rfl
theorem Gm {t u:VF Bool}{vs:List Nv}{β:Int}{a b:Bool}(h:t vs β=.ok a β)(h':u vs β=.ok b β):nh t u vs β=.ok (a || b) β:=by
 rw[ka,h];dsimp only[R.bnd]
 cases a with
 |true=>rfl
 |false=>rw[OA OI,h'];rfl
def jI {t:VF Bool}{vs:List Nv}{β:Int}{a:Bool}(h:t vs β=.ok a β):pz t vs β=.ok (!a) β:=by rw[oP,h];rfl
def C5 {fa:VF D}{vs:List Nv}{β:Int}{l:@C_}{f:Pr->Bool}(h:fa vs β=.ok (.list (l.map λq=>PyData.bool (f q))) β):f1 fa (b9 λbs=>bs.all id) vs β=.ok (.bool (l.all f)) β:=by
 refine j4 h ?_
 simp only[b9]
 rw[iV]
 simp[List.all_map]
def upTo (n:Nat)(f:Pr->Bool)(i k:Nat):@C_:=(OM.du n).filter λp=>(decide (p.1 < i) || (decide (p.1=i) && decide (p.2 < k))) && f p
def Cy {n:Nat}(f:Pr->Bool)(i k:Nat)(h8:n<=8):(upTo n f i k).length<=64:=by
 have h1:(upTo n f i k).length<=(OM.du n).length:=Pa _ _
 rw[fP] at h1
 have:n * n<=64:=Qh h8 h8
 omega
def AR (n:Nat)(f:Pr->Bool):upTo n f 0 0= []:=by
 unfold upTo
 rw[List.filter_eq_nil_iff]
 intro p hp
 have:=OM.bV.mp hp
 rw[ON (@AT),ON (p:=p.2 < ((0:Nat):Int)) (@AT)];simp
def D3 (n:Nat)(f:Pr->Bool):upTo n f n 0=(OM.du n).filter f:=by
 unfold upTo
 refine Q0 λp hp=>?_
 have:=(OM.bV.mp hp).1.2
 rw[OE this];simp
def D7 (n:Nat)(f:Pr->Bool)(i:Nat):upTo n f i n=upTo n f (i + 1) 0:=by
 unfold upTo
 refine Q0 λp hp=>?_
 have h:=OM.bV.mp hp
 congr 1
 rw[O3]
 simp only[PX,OW,OP]
 omega
def tV {n i k:Nat}(f:Pr->Bool)(hi:i < n)(hk:k < n):upTo n f i (k + 1)=upTo n f i k ++ if f ((i:Int),(k:Int))=true then [((i:Int),(k:Int))] else []:=by
 refine OM.mG (OM.gu _ (OM.jd n)) ?_ λx=>?_
 ·show List.Pairwise OM.D4 _
  rw[List.pairwise_append]
  refine⟨OM.gu _ (OM.jd n),?_,λp hp q hq=>?_⟩
  ·split <;> simp
  ·unfold upTo at hp
   have h1:=(OG.mp hp).2
   simp only[PX,OW,OP] at h1
   split at hq
   ·have:q=((i:Int),(k:Int)):=by simpa using hq
    subst this
    show p.1 < (i:Int)\/(p.1=(i:Int)/\p.2 < (k:Int))
    exact h1.1
   ·cases hq
 ·rw[OR]
  unfold upTo
  rw[OG,OG,OM.bV]
  simp only[PX,OW,OP]
  constructor
  ·rintro⟨h1,h2,h3⟩
   by_cases z:x.1=i/\x.2=k
   ·obtain⟨xa,xb⟩:=x
    simp only at z h3
    obtain⟨rfl,rfl⟩:=z
    rw[Ov h3]
    exact .inr (OY.mpr rfl)
   ·exact .inl ⟨h1,@AT,h3⟩
  ·rintro (⟨h1,h2,h3⟩ |h)
   ·exact⟨h1,@AT,h3⟩
   ·split at h
    ·rename_i hf
     have:x=((i:Int),(k:Int)):=by simpa using h
     subst this
     exact⟨⟨⟨by show (0:Int)<=(i:Int);omega,by show (i:Int) < n;omega⟩,by show (0:Int)<=(k:Int);omega,by show (k:Int) < n;omega⟩,.inr ⟨rfl,by show (k:Int) < ((k + 1:Nat):Int);omega⟩,hf⟩
    ·cases h
def tupI (r:List Int):D:=.tuple (r.map int)
def Av {fa fb:VF D}{vs:List Nv}{β:Int}{r:List Int}{k:Int}(h:fa vs β=.ok (tupI r) β)(h':fb vs β=.ok (.int k) β)(hk:k∈r):oW fa fb vs β=.ok (.int (r.idxOf k:Nat)) β:=by
 unfold oW
 rw[h]
 dsimp only[R.bnd]
 rw[Ov (by rfl),h']
 dsimp only[R.bnd,FD,tupI]
 rw[me]
 dsimp only
 rw[Ov hk];rfl
noncomputable def Ei:@Do:=aW 6 2 iG
def JG (ns:List Int)(k:Nat):∃z,Ei [cZ ns,.int k]=.ok (.list [.int z]) true:=by
 show ∃z,fin (iG [.fz (cZ ns),.fz (.int k),.no,.no,.no,.no] 0)=.ok (.list [.int z]) true
 unfold iG
 have e0:f2 (f2 (cst (.int 7919)) (gv 1) dw) (cst (.int 13)) cj [Nv.da (cZ ns),.da (.int k),.no,.no,.no,.no] 0=.ok (.int (7919 * k + 13)) 0:=aG (aG (x:=.int 7919) (y:=.int k) rfl rfl (rm ⟨@AT,@AT ⟩)) rfl rfl
 rw[aL (env':=[.fz (cZ ns),.fz (.int k),.fz (.int (7919 * k + 13)),.no,.no,.no]) (β':=0) ?h0]
 case h0=>
  show toS (f2 (f2 (cst (.int 7919)) (gv 1) dw) (cst (.int 13)) cj [Nv.da (cZ ns),.da (.int k),.no,.no,.no,.no] 0) _=_
  rw[e0];rfl
 obtain⟨c,hc⟩:∃c:Int,iF @EQ (cP (f2 (gv 1) (f1 (gv 0) c6) uk)) (bK 2 @EQ (f2 (gv 0) (gv 1) b7)) mO [.fz (cZ ns),.fz (.int k),.fz (.int (7919 * k + 13)),.no,.no,.no] 0=.nx [.fz (cZ ns),.fz (.int k),.fz (.int c),.no,.no,.no] 0:=by
  have e:cP (f2 (gv 1) (f1 (gv 0) c6) uk) (vl [.fz (cZ ns),.fz (.int k),.fz (.int (7919 * k + 13)),.no,.no,.no]) 0=.ok (decide ((k:Int) < (ns.map int).length)) 0:=IF rfl rfl
  by_cases h:k < ns.length
  ·rw[OE (by simp;exact h)] at e
   refine⟨ns[k],?_⟩
   rw[dQ e]
   show toS (f2 (gv 0) (gv 1) b7 [Nv.da (cZ ns),.da (.int k),.da (.int (7919 * k + 13)),.no,.no,.no] 0) _=_
   rw[aG (x:=cZ ns) (y:=.int k) (d:=.int ns[k]) (β1:=0) (β2:=0) rfl rfl]
   ·rfl
   ·show mT (ns.map int) (k:Int)=_
    rw[zt,C2 h];rfl
  ·rw[ON (by simp;omega)] at e
   exact⟨_,by rw[bI e];rfl⟩
 rw[aL hc]
 have e1:cP (f2 (f2 (gv 2) (cst (.int 2)) lu) @Fa (c9 false)) (vl [.fz (cZ ns),.fz (.int k),.fz (.int c),.no,.no,.no]) 0=.ok (decide (c % 2=0)) 0:=js (neg:=false) (aG rfl rfl (pj (@AT))) rfl
 by_cases h:c % 2=0
 ·rw[OE h] at e1
  refine⟨c / 2,?_⟩
  rw[mB (d:=.list [.int (c / 2)]) (b:=true) (β':=0)]
  ·rfl
  ·rw[dQ e1]
   show toS (bz (ae (f2 (gv 2) (cst (.int 2)) Jp) ag) [Nv.da (cZ ns),.da (.int k),.da (.int c),.no,.no,.no] 0) _=_
   rw[kq (ds:=[.int (c / 2)]) (β1:=0)]
   ·rfl
   ·have e2:f2 (gv 2) (cst (.int 2)) Jp [Nv.da (cZ ns),.da (.int k),.da (.int c),.no,.no,.no] 0=.ok (.int (c / 2)) 0:=aG (x:=.int c) rfl rfl (HE (@AT) (@AT))
    rw[cU,e2];rfl
   ·simp
 ·rw[ON h] at e1
  rw[aL (env':=[.fz (cZ ns),.fz (.int k),.fz (.int c),.no,.no,.no]) (β':=0) (by rw[bI e1];rfl)]
  rw[aL (env':=[.fz (cZ ns),.fz (.int k),.fz (.int c),.fz (.int 0),.no,.no]) (β':=0) (by rfl)]
  obtain⟨env',β',el,z,x,y,rfl,rfl⟩:=i4 (t:=.nm 4) (m:=aK (bK 5 ((((@EQ ++ []) ++ @EQ) ++ []) ++ []) (f2 (f2 (f2 (f2 (f2 (gv 2) (cst (.int 2147483647)) lu) (cst (.int 48271)) dw) (f2 (cst (.int 7919)) (gv 4) dw) cj) @Ch cj) (cst (.int 2147483647)) lu))
    (aK (bK 5 (@EQ ++ []) (f2 (f2 (gv 5) (gv 5) dw) (cst (.int 2147483629)) lu))
    (bK 3 (@EQ ++ (([] ++ @EQ) ++ [])) (f2 (f2 (gv 3) (cst (.int 2147483647)) dw) (f2 (f2 (gv 5) (f2 (gv 5) (cst (.int 13)) cj) dw) (cst (.int 2147483647)) lu) cj)))) (ds:=fO 0 16) (k:=0)
   (λ_ env β=>∃(z:Int) (x y:Sl),env= [.fz (cZ ns),.fz (.int k),.fz (.int c),.fz (.int z),x,y]/\β=0) (env:=[.fz (cZ ns),.fz (.int k),.fz (.int c),.fz (.int 0),.no,.no]) (β:=0) ⟨0,.no,.no,rfl,rfl⟩ (by
    rintro i d env β hi ⟨z,x,y,rfl,rfl⟩
    obtain⟨_,rfl⟩:=jS hi
    generalize (0 + (i:Int))=j
    refine⟨[.fz (cZ ns),.fz (.int k),.fz (.int c),.fz (.int z),.fz (.int j),y],rfl,?_⟩
    have b1:0<=c % 2147483647/\c % 2147483647 < 2147483647:=⟨QD _ (@AT),QE _ (@AT)⟩
    have a1:f2 (f2 (f2 (f2 (f2 (gv 2) (cst (.int 2147483647)) lu) (cst (.int 48271)) dw) (f2 (cst (.int 7919)) (gv 4) dw) cj) @Ch cj) (cst (.int 2147483647)) lu (vl [.fz (cZ ns),.fz (.int k),.fz (.int c),.fz (.int z),.fz (.int j),y]) 0=.ok (.int ((c % 2147483647 * 48271 + 7919 * j + 1) % 2147483647)) 0:=
     aG (aG (aG (aG (aG (x:=.int c) rfl rfl (pj (@AT))) rfl (BZ ⟨@AT,@AT ⟩)) (aG (x:=.int 7919) (y:=.int j) rfl rfl (rm ⟨@AT,@AT ⟩)) rfl) rfl rfl) rfl (pj (@AT))
    generalize hp:(c % 2147483647 * 48271 + 7919 * j + 1) % 2147483647=p at a1
    have bp:0<=p/\p < 2147483647:=by rw[<-hp];exact⟨QD _ (@AT),QE _ (@AT)⟩
    rw[aL (env':=[.fz (cZ ns),.fz (.int k),.fz (.int c),.fz (.int z),.fz (.int j),.fz (.int p)]) (β':=0) ?k1]
    case k1=>rw[cL,a1];rfl
    have a2:f2 (f2 (gv 5) (gv 5) dw) (cst (.int 2147483629)) lu (vl [.fz (cZ ns),.fz (.int k),.fz (.int c),.fz (.int z),.fz (.int j),.fz (.int p)]) 0=.ok (.int (p * p % 2147483629)) 0:=
     aG (aG (x:=.int p) (y:=.int p) rfl rfl (rm ⟨@AT,@AT ⟩)) rfl (pj (@AT))
    generalize hq:p * p % 2147483629=q at a2
    have bq:0<=q/\q < 2147483629:=by rw[<-hq];exact⟨QD _ (@AT),QE _ (@AT)⟩
    rw[aL (env':=[.fz (cZ ns),.fz (.int k),.fz (.int c),.fz (.int z),.fz (.int j),.fz (.int q)]) (β':=0) ?k2]
    case k2=>rw[cL,a2];rfl
    have a3:f2 (f2 (gv 3) (cst (.int 2147483647)) dw) (f2 (f2 (gv 5) (f2 (gv 5) (cst (.int 13)) cj) dw) (cst (.int 2147483647)) lu) cj (vl [.fz (cZ ns),.fz (.int k),.fz (.int c),.fz (.int z),.fz (.int j),.fz (.int q)]) 0=.ok (.int (z * 2147483647 + q * (q + 13) % 2147483647)) 0:=
     aG (aG (x:=.int z) rfl rfl (BZ ⟨@AT,@AT ⟩)) (aG (aG (x:=.int q) (y:=.int (q + 13)) rfl rfl (rm ⟨@AT,@AT ⟩)) rfl (pj (@AT))) rfl
    refine⟨[.fz (cZ ns),.fz (.int k),.fz (.int c),.fz (.int (z * 2147483647 + q * (q + 13) % 2147483647)),.fz (.int j),.fz (.int q)],0,?_,_,_,_,rfl,rfl⟩
    rw[cL,a3];rfl)
  refine⟨z,?_⟩
  rw[aL (env':=[.fz (cZ ns),.fz (.int k),.fz (.int c),.fz (.int z),x,y]) (β':=0) ?h2]
  case h2=>exact el
  show fin (toS (bz (ae (gv 3) ag) [.da (cZ ns),.da (.int k),.da (.int c),.da (.int z),x.val,y.val] 0) _)=_
  rw[kq (ds:=[.int z]) (β1:=0) rfl @IN]
  rfl
noncomputable def ub:List D->Int->FB:=sZ 4 1 (eH dP)
def Ir (ns:List Int)(hz:ns.length<=100)(β:Int):∃(ms:List Int) (β':Int),ub [.list (ns.map int)] β=.ok (tupI ms) false β'/\ms.Perm ns:=by
 show ∃(ms:List Int) (β':Int),Cf (eH dP [.bx,.fz (.list (ns.map int)),.no,.no] β)=.ok (tupI ms) false β'/\ms.Perm ns
 unfold eH
 rw[aL (env':=[.bx,.fz (.list (ns.map int)),.ow (.list (ns.map int)),.no]) (β':=β) (by rfl)]
 have ez:bz ag [Nv.bx,.da (.list (ns.map int)),.da (.list (ns.map int)),.no] β=.ok (.list []) β:=kq rfl @IN
 rw[aL (env':=[.bx,.fz (.list (ns.map int)),.ow (.list (ns.map int)),.ow (.list [])]) (β':=β) ?h]
 case h=>
  show toS (bz ag [Nv.bx,.da (.list (ns.map int)),.da (.list (ns.map int)),.no] β) _=_
  rw[ez];rfl
 obtain⟨env',β',ew,ms,rfl,hp⟩:=i8 (L:=[] ++ []) (t:=cP (f2 (gv 2) (bz ag) (c9 true))) (m:=kA 3 2 @EQ (oN 0 dP (ae (f1 (gv 2) c6) ag)))
  (λk env β=>∃ls ms:List Int,env= [.bx,.fz (.list (ns.map int)),.ow (.list (ls.map int)),.ow (.list (ms.map int))]/\(ms ++ ls).Perm ns/\k=ls.length)
  (λenv β=>∃ms:List Int,env= [.bx,.fz (.list (ns.map int)),.ow (.list []),.ow (.list (ms.map int))]/\ms.Perm ns) (n:=1000) (k:=ns.length) (env:=[.bx,.fz (.list (ns.map int)),.ow (.list (ns.map int)),.ow (.list [])]) (β:=β) (@AT) ⟨ns,[],rfl,by simp,rfl⟩ (by
   rintro k env β ⟨ls,ms,rfl,hp,rfl⟩
   have e1:bz ag [Nv.bx,.da (.list (ns.map int)),.da (.list (ls.map int)),.da (.list (ms.map int))] β=.ok (.list (([]:List Int).map int)) β:=kq rfl @IN
   have et:cP (f2 (gv 2) (bz ag) (c9 true)) [Nv.bx,.da (.list (ns.map int)),.da (.list (ls.map int)),.da (.list (ms.map int))] β=.ok (!decide (ls= [])) β:=
    gr _ _ _ _ (aG (x:=.list (ls.map int)) rfl e1 (by rw[xy];rfl))
   refine⟨_,_,et,?_⟩
   have hlen:=hp.length_eq
   rw[OT] at hlen
   cases ls with
   |nil=>exact .inl ⟨rfl,ms,rfl,by simpa using hp⟩
   |cons y ys=>
    refine .inr ⟨rfl,?_⟩
    have hm:(0:Int) < ((y :: ys).length:Nat)/\(((y :: ys).length:Nat):Int) < 1073741824:=by
     have:(y :: ys).length<=100:=@AT
     constructor
     ·simp
     ·omega
    obtain⟨j,hj⟩:∃j:Nat,β % (((y :: ys).length:Nat):Int)=j:=⟨(β % (((y :: ys).length:Nat):Int)).toNat,by have:=QD β (b:=(((y :: ys).length:Nat):Int)) (@AT);omega⟩
    have hj2:j < (y :: ys).length:=by have:=QE β hm.1;omega
    have ef:oN 0 dP (ae (f1 (gv 2) c6) ag) [Nv.bx,.da (.list (ns.map int)),.da (.list ((y :: ys).map int)),.da (.list (ms.map int))] β=.ok (.int (j:Int)) (β / (((y :: ys).length:Nat):Int)):=by
     refine kC (ds:=[.int (((y :: ys).length:Nat):Int)]) (b:=false) (by rfl) ?_ (by rw[vG hm.1 hm.2,hj])
     show R.ok [int ((((y :: ys).map int).length:Nat):Int)] β=_
     rw[OB]
    have hpop:BS ((y :: ys).map int) (.int (j:Int))=some (.int (y :: ys)[j],((y :: ys).eraseIdx j).map int):=by
     unfold BS
     dsimp only
     rw[Ov ⟨@AT,@AT ⟩]
     have es:seqIndex? (j:Int) ((y :: ys).map int).length=some j:=by
      rw[OB]
      exact PySem.StrLaws.seqIndex_nonneg (@AT) (@AT)
     rw[es]
     dsimp only
     rw[OK,Ot hj2,um];rfl
    refine⟨[.bx,.fz (.list (ns.map int)),.ow (.list (((y :: ys).eraseIdx j).map int)),.ow (.list ((ms ++ [(y :: ys)[j]]).map int))],β / (((y :: ys).length:Nat):Int),((y :: ys).eraseIdx j).length,?_,?_,(y :: ys).eraseIdx j,ms ++ [(y :: ys)[j]],rfl,?_,rfl⟩
    ·show kA 3 2 @EQ (oN 0 dP (ae (f1 (gv 2) c6) ag)) [.bx,.fz (.list (ns.map int)),.ow (.list ((y :: ys).map int)),.ow (.list (ms.map int))] β=_
     rw[yg (ds:=ms.map int) (es:=(y :: ys).map int) (by rfl) (by rfl) @Go ef (by rfl) hpop (by rw[OB];omega),Pb]
     rfl
    ·rw[List.length_eraseIdx]
     rw[Ov hj2]
     show (y :: ys).length - 1 < (y :: ys).length
     simp
    ·rw[Qe]
     exact (List.Perm.append_left ms (rj (Ot hj2))).trans hp)
 refine⟨ms,β',?_,hp⟩
 rw[aL ew]
 rfl
def pK (rows:List (List Int))(p:Pr):Bool:= !decide (p.1=p.2) && rows.all λr=>decide (r.idxOf p.1 < r.idxOf p.2)
def Gz {α:Type}{fa:VF D}{vs:List Nv}{β:Int}{l:List α}{f:α->Bool}(h:fa vs β=.ok (.list (l.map λq=>PyData.bool (f q))) β):f1 fa (b9 λbs=>bs.all id) vs β=.ok (.bool (l.all f)) β:=by
 refine j4 h ?_
 simp only[b9]
 rw[iV]
 simp[List.all_map]
def ra:@Do:=aW 5 2 jB
def Fm {n:Nat}{rows:List (List Int)}(h8:n<=8)(hr:rows.length<=100)(hp:∀r,r∈rows->r.Perm (iE n)):ra [.int n,.list (rows.map tupI)]=.ok (.tuple (((OM.du n).filter (pK rows)).map aB)) false:=by
 show fin (jB [.fz (.int n),@Id,.no,.no,.no] 0)=_
 unfold jB
 rw[aL (env':=[.fz (.int n),@Id,.ow (.list []),.no,.no]) (β':=0) ?g1]
 case g1=>rw[lL,kq (ds:=[]) rfl @IN];rfl
 obtain⟨env',β',ef,s,t,rfl,rfl⟩:=i4 (t:=.nm 3) (m:=iq (.nm 4) [] (fm (gv 0))
   (iF (@EQ ++ @EQ) (BF (cP (f2 (gv 3) (gv 4) (c9 true))) (i6 (f1 (aU 1 [3,4] (.nm 0) (bR (gv 1)) nO (f2 (oW (gv 0) (gv 1)) (oW (gv 0) (gv 2)) uk)) (b9 λbs=>bs.all id))))
   (oB 2 ([3] ++ ([4] ++ [])) (aO (ae (gv 3) (ae (gv 4) ag))))
   mO)) (ds:=fO 0 n) (k:=0)
  (λi env β=>∃s t:Sl,env= [.fz (.int n),@Id,.ow (.list ((upTo n (pK rows) i 0).map aB)),s,t]/\β=0)
  (env:=[.fz (.int n),@Id,.ow (.list []),.no,.no]) (β:=0) ⟨.no,.no,by rw[AR];rfl,rfl⟩ (by
   rintro i d env β hi ⟨s,t,rfl,rfl⟩
   obtain⟨hin,rfl⟩:=jS hi
   refine⟨[.fz (.int n),@Id,.ow (.list ((upTo n (pK rows) (0 + i) 0).map aB)),.fz (.int (0 + (i:Int))),t],rfl,?_⟩
   rw[P7,PN]
   obtain⟨env',β',ef,t2,rfl,rfl⟩:=i4 (t:=.nm 4) (m:=iF (@EQ ++ @EQ) (BF (cP (f2 (gv 3) (gv 4) (c9 true))) (i6 (f1 (aU 1 [3,4] (.nm 0) (bR (gv 1)) nO (f2 (oW (gv 0) (gv 1)) (oW (gv 0) (gv 2)) uk)) (b9 λbs=>bs.all id))))
     (oB 2 ([3] ++ ([4] ++ [])) (aO (ae (gv 3) (ae (gv 4) ag))))
     mO) (ds:=fO 0 n) (k:=0)
    (λk env β=>∃t:Sl,env= [.fz (.int n),@Id,.ow (.list ((upTo n (pK rows) i k).map aB)),.fz (.int i),t]/\β=0)
    (env:=[.fz (.int n),@Id,.ow (.list ((upTo n (pK rows) i 0).map aB)),.fz (.int i),t]) (β:=0) ⟨t,rfl,rfl⟩ (by
     rintro k d env β hk ⟨t,rfl,rfl⟩
     obtain⟨hkn,rfl⟩:=jS hk
     refine⟨[.fz (.int n),@Id,.ow (.list ((upTo n (pK rows) i (0 + k)).map aB)),.fz (.int i),.fz (.int (0 + (k:Int)))],rfl,?_⟩
     rw[P7,PN]
     have ec:aU 1 [3,4] (.nm 0) (bR (gv 1)) nO (f2 (oW (gv 0) (gv 1)) (oW (gv 0) (gv 2)) uk) (vl [.fz (.int n),@Id,.ow (.list ((upTo n (pK rows) i k).map aB)),.fz (.int i),.fz (.int k)]) 0=.ok (.list (rows.map λr=>PyData.bool (decide (r.idxOf (i:Int) < r.idxOf (k:Int))))) 0:=by
      refine dC (l:=rows) (e:=tupI) (λr=>PyData.bool (decide (r.idxOf (i:Int) < r.idxOf (k:Int)))) rfl (@AT) λr hr=>⟨_,rfl,?_⟩
      have hp:=hp r hr
      refine aG (Av (r:=r) (k:=i) rfl rfl (hp.mem_iff.mpr (fW.mpr ⟨@AT,@AT ⟩))) (Av (r:=r) (k:=k) rfl rfl (hp.mem_iff.mpr (fW.mpr ⟨@AT,@AT ⟩))) ?_
      show some (PyData.bool (decide (((r.idxOf (i:Int):Nat):Int) < ((r.idxOf (k:Int):Nat):Int))))=_
      congr 2
      rw[O3,OP,OP]
      omega
     have et:BF (cP (f2 (gv 3) (gv 4) (c9 true))) (i6 (f1 (aU 1 [3,4] (.nm 0) (bR (gv 1)) nO (f2 (oW (gv 0) (gv 1)) (oW (gv 0) (gv 2)) uk)) (b9 λbs=>bs.all id))) (vl [.fz (.int n),@Id,.ow (.list ((upTo n (pK rows) i k).map aB)),.fz (.int i),.fz (.int k)]) 0=.ok (pK rows ((i:Int),(k:Int))) 0:=
      Ce (js (neg:=true) (i:=i) (j:=k) rfl rfl) (iA (Gz ec))
     have hl:=Cy (pK rows) i k h8
     by_cases c:pK rows ((i:Int),(k:Int))=true
     ·rw[c] at et
      refine⟨[.fz (.int n),@Id,.ow (.list ((upTo n (pK rows) i (k + 1)).map aB)),.fz (.int i),.fz (.int k)],0,?_,_,rfl,rfl⟩
      rw[dQ et,tV (pK rows) hin hkn,Ov c,Pb]
      exact p7 (i:=2) (L:=[3] ++ ([4] ++ [])) (env:=[.fz (.int n),@Id,.ow (.list ((upTo n (pK rows) i k).map aB)),.fz (.int i),.fz (.int k)]) (ds:=(upTo n (pK rows) i k).map aB) (by rfl) (fT rfl rfl) (by rfl) (by rw[OB];omega)
     ·rw[Bool.not_eq_true] at c
      rw[c] at et
      refine⟨[.fz (.int n),@Id,.ow (.list ((upTo n (pK rows) i (k + 1)).map aB)),.fz (.int i),.fz (.int k)],0,?_,_,rfl,rfl⟩
      rw[bI et,tV (pK rows) hin hkn,c]
      simp)
   rw[iS,P7,D7] at ef
   refine⟨[.fz (.int n),@Id,.ow (.list ((upTo n (pK rows) (i + 1) 0).map aB)),.fz (.int i),t2],0,?_,_,_,rfl,rfl⟩
   rw[gP (env:=[.fz (.int n),@Id,.ow (.list ((upTo n (pK rows) i 0).map aB)),.fz (.int i),t]) (gO (n:=n) (β1:=0) rfl (@AT))]
   exact ef)
 rw[iS,P7,D3] at ef
 rw[aL (env':=[.fz (.int n),@Id,.ow (.list (((OM.du n).filter (pK rows)).map aB)),s,t]) (β':=0) ?g2]
 case g2=>
  rw[gP (env:=[.fz (.int n),@Id,.ow (.list []),.no,.no]) (gO (n:=n) (β1:=0) rfl (@AT))]
  exact ef
 rfl
def qe {rows:List (List Int)}{p:Pr}:pK rows p=true↔p.1≠p.2/\∀r,r∈rows->r.idxOf p.1 < r.idxOf p.2:=by
 unfold pK
 rw[OW,P5,Qf,O9]
 simp only[OP]
def BC {n:Nat}{rows:List (List Int)}(h1:1<=n)(h8:n<=8)(hne:rows≠ []):OM.Ord n ((OM.du n).filter (pK rows)):=by
 refine⟨h1,h8,λp hm=>OM.bV.mp (OG.mp hm).1,OM.gu _ (OM.jd n),λa h=>?_,λa b c hab hbc=>?_⟩
 ·exact (qe.mp (OG.mp h).2).1 rfl
 ·obtain⟨g1,t1⟩:=OG.mp hab
  obtain⟨g2,t2⟩:=OG.mp hbc
  have g1:=OM.bV.mp g1
  have g2:=OM.bV.mp g2
  obtain⟨n1,q1⟩:=qe.mp t1
  obtain⟨n2,q2⟩:=qe.mp t2
  refine OG.mpr ⟨OM.bV.mpr ⟨g1.1,g2.2⟩,qe.mpr ⟨λe=>?_,λr hr=>Qy (q1 r hr) (q2 r hr)⟩⟩
  simp only at e q1 q2
  subst e
  cases rows with
  |nil=>exact hne rfl
  |cons r rest=>
   have hr:r∈r :: rest:=OH ..
   exact absurd (Qy (q1 r hr) (q2 r hr)) (OU _)
theorem sg {α:Type}{t:Tg}{fe:VF D}{vs:List Nv}(e:α->D)(P:α->Prop):∀{ds:List D} {β:Int},(∀d,d∈ds->∃vs1,tL t d vs=some vs1/\∀β,∃a β',fe vs1 β=.ok (e a) β'/\P a)->
  ∃(as:List α) (β':Int),ja t nO fe vs ds β=.ok (as.map e) β'/\as.length=ds.length/\∀a,a∈as->P a
 | [],β,_=>⟨[],β,rfl,rfl,λa h=>(by cases h)⟩
 |d :: ds,β,h=>by
  obtain⟨vs1,hb,hf⟩:=h d (OH ..)
  obtain⟨a,β1,ef,pa⟩:=hf β
  obtain⟨as,β2,ec,hl,hP⟩:=sg e P (ds:=ds) (β:=β1) λd' hd=>h d' (OF _ hd)
  refine⟨a :: as,β2,?_,by rw[O5,O5,hl],λx hx=>?_⟩
  ·unfold ja
   rw[hb]
   dsimp only[nO,R.okb]
   rw[Ov rfl,ef]
   dsimp only
   rw[ec];rfl
  ·rcases OC.mp hx with z |z
   ·rw[z];exact pa
   ·exact hP x z
def FQ:D->Bool
 | .tuple _=>true
 |_=>false
theorem Gk {d:D}(h:FQ d=true):∃ds,d=.tuple ds:=by
 cases d with
 |tuple ds=>exact⟨ds,rfl⟩
 |_=>cases h
def C9 {d:D}(h:iy d=false):lx "tuple" d=some (.bool (FQ d)):=by
 unfold lx;rw[h];cases d <;> rfl
section
variable {fa fb:VF D}{vs:List Nv}{β:Int}
def KU {d:D}(ha:fa vs β=.ok d β)(h:iy d=false):i6 (f1 fa (lx "tuple")) vs β=.ok (FQ d) β:=iA (j4 ha (C9 h))
def LI {ds:List D}(ha:fa vs β=.ok (.tuple ds) β):f1 fa c6 vs β=.ok (.int ds.length) β:=j4 ha rfl
def Jw {ds:List D}{k:Int}(ha:fa vs β=.ok (.tuple ds) β):cP (f2 (f1 fa c6) (cst (.int k)) (c9 true)) vs β=.ok (!decide ((ds.length:Int)=k)) β:=js (neg:=true) (LI ha) rfl
def LF {t u:VF Bool}(h:t vs β=.ok true β):nh t u vs β=.ok true β:=by rw[ka,h];rfl
def Ha {t u:VF Bool}{c:Bool}(h:t vs β=.ok false β)(h':u vs β=.ok c β):nh t u vs β=.ok c β:=by rw[ka,h];exact h'
def NG (h:fa vs β=.ok (.bool true) β):JR fa fb vs β=.ok (.bool true) β:=by unfold JR;rw[h];rfl
def Mo {d:D}(h:fa vs β=.ok (.bool false) β)(h':fb vs β=.ok d β):JR fa fb vs β=.ok d β:=by unfold JR;rw[h];exact h'
end
section
variable {vs:List Nv}{β β1 β2:Int}{fa:VF D}{fr:VF (List D)}{d:D}{ds:List D}
def ac {fa:VF D}{fr:VF (List D)}(h:fa vs β=.ok d β)(h':fr vs β=.ok ds β):ae fa fr vs β=.ok (d :: ds) β:=by rw[cU,h];dsimp only[R.bnd];rw[h']
def an:ag vs β=.ok [] β:=rfl
def tp (h:fr vs β=.ok ds β)(hz:ds.length<=1000:=by simp):aO fr vs β=.ok (.tuple ds) β:=kG h hz
def lp (h:fr vs β=.ok ds β)(hz:ds.length<=1000:=by simp):bz fr vs β=.ok (.list ds) β:=kq h hz
def ck (d:D):cst d vs β=.ok d β:=rfl
end
def o4 {fa:VF D}{vs:List Nv}{β:Int}{ds:List D}(ha:fa vs β=.ok (.list ds) β):f1 fa c6 vs β=.ok (.int ds.length) β:=j4 ha rfl
def Ge (e:D):Prop:=iy e=false/\∀es,e=.tuple es->es.length<=100/\∀x,x∈es->iy x=false
def Nh (n:Int):D->Bool
 | .tuple [x,y]=>lB x n && lB y n
 |_=>false
def JX:@Do:=aW 2 2 (mL l4)
theorem yB {es:List D}:(decide ((es.length:Int)=2)=false/\∀n,Nh n (.tuple es)=false)\/∃x y,es= [x,y]:=by
 match es with
 | []=>exact .inl ⟨rfl,λ_=>rfl⟩
 | [_]=>exact .inl ⟨rfl,λ_=>rfl⟩
 | [x,y]=>exact .inr ⟨x,y,rfl⟩
 |_ :: _ :: _ :: _=>exact .inl ⟨ON (by simp;omega),λ_=>rfl⟩
theorem NL {d:D}{n:Int}(h:Ge d):JX [d,.int n]=.ok (.bool (Nh n d)) false:=by
 show fin (mL l4 [.fz d,.fz (.int n)] 0)=_
 unfold mL
 have g0:gv 0 (vl [.fz d,.fz (.int n)]) 0=.ok d 0:=rfl
 have t1:=KU g0 h.1
 cases hy:FQ d with
 |false=>
  rw[hy] at t1
  rw[mB (d:=.bool false) (b:=false) (β':=0) ?a]
  ·cases d <;> first |rfl |cases hy
  case a=>rw[dQ (LF (jI t1))];rfl
 |true=>
  obtain⟨es,rfl⟩:=Gk hy
  rw[hy] at t1
  have t2:=Jw (k:=2) g0
  rcases yB (es:=es) with⟨q,z⟩ | ⟨x,y,rfl⟩
  ·rw[q] at t2
   rw[z n,mB (d:=.bool false) (b:=false) (β':=0) (by rw[dQ (Ha (jI t1) t2)];rfl)];rfl
  ·rw[aL (env':=[.fz (.tuple [x,y]),.fz (.int n)]) (β':=0) (by rw[bI (Ha (jI t1) t2)];rfl)]
   have hx:=(h.2 _ rfl).2 x (OH ..)
   have hy':=(h.2 _ rfl).2 y (OF _ (OH ..))
   have e1:au l4 (ae (f2 (gv 0) @Fa b7) @J_) (vl [.fz (.tuple [x,y]),.fz (.int n)]) 0=.ok (.bool (lB x n)) 0:=av (ds:=[x,.int n]) rfl (vM hx)
   have e2:au l4 (ae (f2 (gv 0) @Ch b7) @J_) (vl [.fz (.tuple [x,y]),.fz (.int n)]) 0=.ok (.bool (lB y n)) 0:=av (ds:=[y,.int n]) rfl (vM hy')
   rw[gJ,qf e1 e2];rfl
def Sp (p:Pr):Prop:=(0<=p.1/\p.1<=8)/\(0<=p.2/\p.2<=8)
def zN {fa fb:VF D}{vs:List Nv}{β:Int}{ds:List D}{i:Nat}(ha:fa vs β=.ok (.list ds) β)(hb:fb vs β=.ok (.int ((i:Nat):Int)) β):By fa (BR fb) (λ_ β=>.ok none β) vs β=.ok (.list (ds.drop i)) β:=by
 unfold By BR
 rw[ha];dsimp only[R.bnd]
 rw[hb];dsimp only[R.bnd]
 congr 2
 unfold cutD
 rw[HT.xA,HT.Az]
 by_cases h:i<=ds.length
 ·rw[Nat.min_eq_left h];exact List.take_of_length_le (by rw[Qw];omega)
 ·rw[Nat.min_eq_right (@AT),QJ,List.drop_of_length_le (@AT)];simp
def DQ {fa fb:VF D}{vs:List Nv}{β:Int}{ds:List D}{i:Nat}(ha:fa vs β=.ok (.list ds) β)(hb:fb vs β=.ok (.int ((i:Nat):Int)) β):By fa (λ_ β=>.ok none β) (BR fb) vs β=.ok (.list (ds.take i)) β:=by
 unfold By BR
 rw[ha];dsimp only[R.bnd]
 rw[hb];dsimp only[R.bnd]
 congr 2
 unfold cutD
 rw[HT.xA,HT.Az]
 by_cases h:i<=ds.length
 ·rw[Nat.min_eq_left h];rfl
 ·rw[Nat.min_eq_right (@AT),List.take_of_length_le (show ds.length<=i by omega)];simp
end RM
namespace RM
open PySem PySem.Spec L2 PyProof.Rows
theorem pE:∀{l m:List Int},l.Nodup->(∀x,x∈l->x∈m)->m.length<=l.length->l.Perm m
 | [],m,_,_,h=>by
  have:m= []:=List.length_eq_zero_iff.mp (by simpa using h)
  rw[this]
 |x :: l,m,nd,hs,h=>by
  obtain⟨h1,h2⟩:=Pz.mp nd
  have hx:x∈m:=hs x (OH ..)
  have pm:m.Perm (x :: m.erase x):=List.perm_cons_erase hx
  refine (List.Perm.cons x (pE (m:=m.erase x) h2 (λy hy=>?_) ?_)).trans pm.symm
  ·have hy':=pm.mem_iff.mp (hs y (OF _ hy))
   rcases OC.mp hy' with rfl |q
   ·exact absurd hy h1
   ·exact q
  ·have:=pm.length_eq
   rw[O5] at this h
   omega
def DD {n:Nat}{r:List Int}(hl:r.length=n)(hb:∀x,x∈r->0<=x/\x < n)(nd:r.Nodup):r.Perm (iE n):=pE nd (λx hx=>fW.mpr (hb x hx)) (by rw[mf];omega)
theorem me:∀r:List Int,mV (r.map int)=some r
 | []=>rfl
 |x :: r=>by
  have:=me r
  simp only[PM,mV,this]
  try rfl
end RM
namespace RM
open PySem L2
def Ct (l:@C_)(r:List Int):Bool:=l.all λp=>decide (r.idxOf p.1 < r.idxOf p.2)
def Row (n:Nat)(l:@C_)(r:List Int):Prop:=r.Perm (iE n)/\Ct l r=true
theorem any_ints (a:Int):∀s:List Int,((s.map int).any λe=>PyData.eqv e (.int a))=decide (a∈s)
 | []=>rfl
 |b :: s=>by
  rw[PM,Qo,any_ints a s]
  show ((b == a) || _)=_
  rw[O3]
  simp only[PX,beq_iff_eq,OP,OC]
  exact⟨λh=>h.imp Eq.symm id,λh=>h.imp Eq.symm id⟩
def AK (s:List Int):(s.map int).all SeqAt.shaped=true:=by
 rw[O9]
 intro d hd
 obtain⟨p,_,rfl⟩:=Pj.mp hd
 rfl
def D6 {a b:List D}(h:a.length + b.length<=1000):qz (.tuple a) (.tuple b)=some (.tuple (a ++ b)):=Ov (by rw[O4];omega)
def BU (l:@C_)(r:List Int)(x:Int):List Int:=(l.filter λp=>decide (p.2=x) && !decide (p.1∈r)).map (·.1)
def kJ {l:@C_}{r:List Int}{x a:Int}:a∈BU l r x↔(a,x)∈l/\a∉r:=by
 unfold BU
 rw[Pj]
 constructor
 ·rintro⟨p,hp,rfl⟩
  have:=OG.mp hp
  simp only[OW,OP,P5,Qf] at this
  obtain⟨pa,pb⟩:=p
  obtain⟨h1,h2,h3⟩:=this
  simp only at h2 h3
  subst h2
  exact⟨h1,h3⟩
 ·rintro⟨h1,h2⟩
  exact⟨(a,x),OG.mpr ⟨h1,by simp[h2]⟩,rfl⟩
def A4 {n:Nat}{l:@C_}(O:OM.Ord n l)(r:List Int)(x:Int):(BU l r x).Nodup:=by
 unfold BU
 rw[Qq,QZ]
 refine List.Pairwise.imp_of_mem (λ{a b} ha hb h e=>h ?_) (Qq.mp ((OM.o6 O.ris).filter _))
 have h1:=(OG.mp ha).2
 have h2:=(OG.mp hb).2
 simp only[OW,OP] at h1 h2
 exact Prod.ext e (h1.1.trans h2.1.symm)
theorem least {n:Nat}{l:@C_}(O:OM.Ord n l)(r:List Int):∀(k:Nat) (x:Int),(0<=x/\x < n)->x∉r->(BU l r x).length<=k->∃y:Int,(0<=y/\y < n)/\y∉r/\BU l r y= []
 | 0,x,hx,hr,hk=>⟨x,hx,hr,List.length_eq_zero_iff.mp (@AT)⟩
 |k + 1,x,hx,hr,hk=>by
  by_cases he:BU l r x= []
  ·exact⟨x,hx,hr,he⟩
  ·obtain⟨a,ha⟩:=List.exists_mem_of_ne_nil _ he
   obtain⟨h1,h2⟩:=kJ.mp ha
   refine least O r k a (O.wn _ h1).1 h2 ?_
   have nd:(a :: BU l r a).Nodup:=Pz.mpr ⟨λq=>O.irr a (kJ.mp q).1,A4 O r a⟩
   have:=L2.ST.j5 nd (m:=BU l r x) λy hy=>by
    rcases OC.mp hy with rfl |hy
    ·exact ha
    ·obtain⟨q1,q2⟩:=kJ.mp hy
     exact kJ.mpr ⟨O.tr _ _ _ q1 h1,q2⟩
   rw[O5] at this
   omega
structure EA (n:Nat)(l:@C_)(r:List Int):Prop where
 nd:r.Nodup
 inn:∀x,x∈r->0<=x/\x < (n:Int)
 fit:∀p,p∈l->p.2∈r->p.1∈r/\r.idxOf p.1 < r.idxOf p.2
def EA.len {n:Nat}{l:@C_}{r:List Int}(B:EA n l r):r.length<=n:=by
 have:=L2.ST.j5 B.nd (m:=iE n) λx hx=>fW.mpr (B.inn x hx)
 rwa [mf] at this
def EA.row {n:Nat}{l:@C_}{r:List Int}(O:OM.Ord n l)(B:EA n l r)(h:n<=r.length):Row n l r:=by
 have pm:=DD (Nat.le_antisymm B.len h) B.inn B.nd
 refine⟨pm,O9.mpr λp hp=>OE ?_⟩
 exact (B.fit p hp (pm.mem_iff.mpr (fW.mpr (O.wn p hp).2))).2
def iz (l:@C_)(r:List Int)(x:Int):Bool:= !decide (x∈r) && decide (BU l r x= [])
def EA.more {n:Nat}{l:@C_}{r:List Int}{x:Int}(B:EA n l r)(hx:0<=x/\x < (n:Int))(hf:iz l r x=true):EA n l (r ++ [x]):=by
 unfold iz at hf
 rw[OW,P5,Qf,OP] at hf
 obtain⟨h1,h2⟩:=hf
 refine⟨?_,λy hy=>?_,λp hp hm=>?_⟩
 ·rw[List.nodup_append]
  refine⟨B.nd,Pz.mpr ⟨by simp,List.nodup_nil⟩,λa ha b hb=>?_⟩
  rw[OY] at hb
  subst hb
  exact λq=>h1 (q▸ha)
 ·rcases OR.mp hy with hy |hy
  ·exact B.inn y hy
  ·rw[OY] at hy;subst hy;exact hx
 ·rcases OR.mp hm with hm |hm
  ·obtain⟨q1,q2⟩:=B.fit p hp hm
   refine⟨P9 _ q1,?_⟩
   rw[Q1,Q1,Ov q1,Ov hm]
   exact q2
  ·rw[OY] at hm
   have hp1:p.1∈r:=by
    by_cases z:p.1∈r
    ·exact z
    ·have:p.1∈BU l r x:=kJ.mpr ⟨by rw[<-hm];exact hp,z⟩
     rw[h2] at this;cases this
   refine⟨P9 _ hp1,?_⟩
   rw[Q1,Q1,Ov hp1,OA (by rw[hm];exact h1)]
   have:=List.idxOf_lt_length_iff.mpr hp1
   omega
def EA.free {n:Nat}{l:@C_}{r:List Int}(O:OM.Ord n l)(B:EA n l r)(h:r.length < n):(iE n).filter (iz l r)≠ []:=by
 have:∃x,x∈iE n/\x∉r:=by
  apply Classical.byContradiction
  intro z
  have:=L2.ST.j5 (Bi n) (m:=r) λx hx=>Classical.byContradiction λq=>z ⟨x,hx,q⟩
  rw[mf] at this
  omega
 obtain⟨x,hx,hr⟩:=this
 obtain⟨y,hy,hyr,hp⟩:=least O r _ x (fW.mp hx) hr (Ox _)
 intro q
 have:y∈(iE n).filter (iz l r):=OG.mpr ⟨fW.mpr hy,by unfold iz;simp[hyr,hp]⟩
 rw[q] at this
 cases this
def dE (l:@C_)(r:List Int)(i:Nat):List Int:=(iE i).filter (iz l r)
def CO (i:Nat):iE (i + 1)=iE i ++ [(i:Int)]:=by unfold iE;rw[List.range_succ,Pb];rfl
def tR (l:@C_)(r:List Int)(i:Nat):dE l r (i + 1)=dE l r i ++ if iz l r (i:Int)=true then [(i:Int)] else []:=by
 unfold dE
 rw[CO,List.filter_append]
 congr 1
 by_cases h:iz l r (i:Int)=true
 ·rw[Ov h];simp[h]
 ·rw[OA h];simp[h]
def oj (l:@C_)(r:List Int)(i:Nat):(dE l r i).length<=i:=by
 have:(dE l r i).length<=(iE i).length:=Pa _ _
 rwa [mf] at this
end RM
namespace RM
open PySem L2 PyProof.Rows
def mk (f:Nat->Bool):Nat->Nat
 | 0=>0
 |n + 1=>mk f n ||| if f n=true then 2 ^ n else 0
theorem hJ (f:Nat->Bool):∀(n i:Nat),(mk f n).testBit i=(decide (i < n) && f i)
 | 0,i=>by simp[mk]
 |n + 1,i=>by
  unfold mk
  rw[Nat.testBit_or,hJ f n i]
  by_cases h:f n=true
  ·rw[Ov h,Nat.testBit_two_pow]
   by_cases e:n=i
   ·subst e;simp[h]
   ·have e2:decide (i < n)=decide (i < n + 1):=by
     rw[PJ];omega
    simp[e,e2]
  ·rw[OA h]
   by_cases e:i=n
   ·subst e;simp[h]
   ·have e2:decide (i < n)=decide (i < n + 1):=by
     rw[PJ];omega
    simp[e2]
def mk_eq {f g:Nat->Bool}{n:Nat}:mk f n=mk g n↔∀i,i < n->f i=g i:=by
 constructor
 ·intro h i hi
  have:=congrArg (λx=>x.testBit i) h
  simp only[hJ,OE hi,Bool.true_and] at this
  exact this
 ·intro h
  apply QM
  intro i
  rw[hJ,hJ]
  by_cases hi:i < n
  ·rw[h i hi]
  ·rw[ON hi];simp
def hX (f:Nat->Bool)(t:Nat):Nat->Bool:=λi=>f i || decide (i=t)
def Kj {f:Nat->Bool}{n t:Nat}(h:t < n):mk f n ||| 2 ^ t=mk (hX f t) n:=by
 apply QM
 intro i
 rw[Nat.testBit_or,hJ,hJ,Nat.testBit_two_pow]
 unfold hX
 by_cases e:t=i
 ·subst e;simp[h]
 ·have e':¬i=t:=λq=>e q.symm
  simp[e,e']
def JL {f g:Nat->Bool}{n:Nat}:(mk f n &&& mk g n=mk g n)↔∀i,i < n->g i=true->f i=true:=by
 have e:mk f n &&& mk g n=mk (λi=>f i && g i) n:=by
  apply QM
  intro i
  rw[Nat.testBit_and,hJ,hJ,hJ]
  by_cases h:i < n
  ·simp[h]
  ·simp[h]
 rw[e,mk_eq]
 constructor
 ·intro h i hi hg
  have:=h i hi
  rw[hg,Bool.and_true] at this
  exact this
 ·intro h i hi
  cases hg:g i with
  |false=>simp
  |true=>rw[h i hi hg];rfl
def uc (a b:Nat):Builtin.bitOr (a:Int) (b:Int)=((a ||| b:Nat):Int):=by
 have h1:¬(0<=Builtin.bitNot (a:Int)):=by show ¬(0<= -(a:Int) - 1);omega
 have h2:¬(0<=Builtin.bitNot (b:Int)):=by show ¬(0<= -(b:Int) - 1);omega
 show Builtin.bitNot (Builtin.bitAnd (Builtin.bitNot a) (Builtin.bitNot b))=_
 rw[bitAnd_nn h1 h2]
 have e1:Builtin.bitNot (Builtin.bitNot (a:Int))=a:=by show -(-(a:Int) - 1) - 1=a;omega
 have e2:Builtin.bitNot (Builtin.bitNot (b:Int))=b:=by show -(-(b:Int) - 1) - 1=b;omega
 rw[e1,e2]
 show -(-((((a:Int).toNat ||| (b:Int).toNat:Nat):Int)) - 1) - 1=_
 rw[O8,O8];omega
def xW (a b:Nat):Builtin.bitAnd (a:Int) (b:Int)=((a &&& b:Nat):Int):=by
 rw[bitAnd_pp (@AT) (@AT),O8,O8]
def mI (f:Nat->Bool)(n:Nat):D:=.int ((mk f n:Nat):Int)
def Iz:∀t:Nat,t < 8->HS (.int 1) (.int (t:Int))=some (.int ((2 ^ t:Nat):Int)):=by
 intro t ht
 have:t=0\/t=1\/t=2\/t=3\/t=4\/t=5\/t=6\/t=7:=@AT
 rcases this with rfl |rfl |rfl |rfl |rfl |rfl |rfl |rfl <;> rfl
def xQ:@Do:=aW 2 2 iP
def Cc {f:Nat->Bool}{n t:Nat}(h8:n<=8)(h:t < n):xQ [mI f n,.int (t:Int)]=.ok (mI (hX f t) n) false:=by
 show fin (iP [.fz (mI f n),.fz (.int t)] 0)=_
 unfold iP
 rw[gJ,aG (x:=mI f n) (y:=.int ((2 ^ t:Nat):Int)) (d:=mI (hX f t) n) (β1:=0) (β2:=0) rfl (aG (x:=.int 1) (y:=.int t) rfl rfl (Iz t (@AT))) ?a]
 ·rfl
 case a=>
  show some (int (Builtin.bitOr _ _))=_
  rw[uc,Kj h];rfl
def cm (n:Nat)(M:Nat->Nat->Bool):D:=.list ((List.range n).map λb=>mI (M b) n)
def bC (l:@C_)(b a:Nat):Bool:=decide ((((a:Nat):Int),((b:Nat):Int))∈l)
def Dx {n b:Nat}{M:Nat->Nat->Bool}(h:b < n):mT ((List.range n).map λb=>mI (M b) n) (b:Int)=some (mI (M b) n):=ko (by rw[OK,QB h];rfl)
def NF:@Do:=aW 4 1 (gE xQ)
def orM (M:Nat->Nat->Bool)(p:Pr)(b a:Nat):Bool:=M b a || (decide ((b:Int)=p.2) && decide ((a:Int)=p.1))
def HR {n:Nat}{M:Nat->Nat->Bool}{p:Pr}(h1:0<=p.1/\p.1 < n)(h2:0<=p.2/\p.2 < n):((List.range n).map λb=>mI (M b) n).set p.2.toNat (mI (hX (M p.2.toNat) p.1.toNat) n)=(List.range n).map λb=>mI (orM M p b) n:=by
 refine List.ext_getElem @IN λi h3 h4=>?_
 rw[List.getElem_set]
 simp only[List.getElem_map,List.getElem_range]
 unfold mI
 by_cases e:p.2.toNat=i
 ·rw[Ov e]
  congr 2
  rw[mk_eq]
  intro j hj
  unfold hX orM
  rw[e]
  have e1:((i:Nat):Int)=p.2:=@AT
  rw[OE e1,Bool.true_and]
  congr 1
  rw[PJ];omega
 ·rw[OA e]
  congr 2
  rw[mk_eq]
  intro j hj
  unfold orM
  rw[ON (@AT:¬((i:Nat):Int)=p.2)];simp
theorem Al {n:Nat}{l:@C_}(h8:n<=8):∀(ps:@C_) (M:Nat->Nat->Bool) (s2 s3:Sl),OM.Wn n ps->∃M' s2' s3',ly (.two 2 3) (xu 1 (@EQ ++ ([2] ++ [])) [] (au xQ (ae (f2 (gv 1) (gv 3) b7) (ae (gv 2) ag))) (gv 3)) (ps.map aB) [@E_,.ow (cm n M),s2,s3] 0=.nx [@E_,.ow (cm n M'),s2',s3'] 0/\∀b a,b < n->a < n->M' b a=(M b a || bC ps b a)
 | [],M,s2,s3,_=>⟨M,s2,s3,rfl,λb a _ _=>by unfold bC;simp⟩
 |p :: ps,M,s2,s3,wn=>by
  have hp:=wn p (OH ..)
  obtain⟨M',s2',s3',e,hM⟩:=Al (l:=l) h8 ps (orM M p) (.fz (.int p.1)) (.fz (.int p.2)) λq hq=>wn q (OF _ hq)
  refine⟨M',s2',s3',?_,λb a hb ha=>?_⟩
  ·rw[PM]
   unfold ly
   rw[show gY (.two 2 3) (aB p) [@E_,.ow (cm n M),s2,s3]=some [@E_,.ow (cm n M),.fz (.int p.1),.fz (.int p.2)] from rfl]
   dsimp only
   have e1:(p.2.toNat:Int)=p.2:=@AT
   have e2:(p.1.toNat:Int)=p.1:=@AT
   have ew:au xQ (ae (f2 (gv 1) (gv 3) b7) (ae (gv 2) ag)) (vl [@E_,.ow (cm n M),.fz (.int p.1),.fz (.int p.2)]) 0=.ok (mI (hX (M p.2.toNat) p.1.toNat) n) 0:=by
    refine av (b:=false) (ds:=[mI (M p.2.toNat) n,.int (p.1.toNat:Int)]) (ac (aG (x:=cm n M) (y:=.int p.2) rfl rfl ?_) (ac ?_ an)) (Cc h8 (@AT))
    ·have:=Dx (n:=n) (M:=M) (b:=p.2.toNat) (@AT)
     rw[e1] at this
     exact this
    ·show R.ok (int p.1) 0=_
     rw[e2]
   rw[Du (ds:=(List.range n).map λb=>mI (M b) n) (d:=mI (hX (M p.2.toNat) p.1.toNat) n) (k:=p.2) (n:=p.2.toNat) (β1:=0) (β2:=0) ew (by rfl) rfl (by rfl) (by
    unfold vR
    rw[Ov hp.2.1,Ov (by simp;omega)]),HR hp.1 hp.2]
   dsimp only
   exact e
  ·rw[hM b a hb ha]
   unfold orM bC
   obtain⟨p1,p2⟩:=p
   rw[Bool.or_assoc]
   congr 1
   rw[O3]
   simp only[PX,OW,OP,OC,Prod.mk.injEq]
   constructor
   ·rintro (⟨h1,h2⟩ |h)
    ·exact .inl ⟨h2,h1⟩
    ·exact .inr h
   ·rintro (⟨h1,h2⟩ |h)
    ·exact .inl ⟨h2,h1⟩
    ·exact .inr h
def AD {n:Nat}{M N:Nat->Nat->Bool}(h:∀b a,b < n->a < n->M b a=N b a):cm n M=cm n N:=by
 unfold cm
 congr 1
 refine PV λb hb=>?_
 unfold mI
 congr 2
 rw[mk_eq]
 exact λa ha=>h b a (Po.mp hb) ha
def Nb {n:Nat}{l:@C_}(O:OM.Ord n l):NF [aA n l]=.ok (cm n (bC l)) true:=by
 have h8:=O.hi
 show fin (gE xQ [@E_,.no,.no,.no] 0)=_
 unfold gE
 rw[aL (env':=[@E_,.ow (cm n λ_ _=>false),.no,.no]) (β':=0) ?a]
 case a=>
  have e:f2 (bz (ae @Fa ag)) (f2 (gv 0) @Fa b7) rC (vl [@E_,.no,.no,.no]) 0=.ok (cm n λ_ _=>false) 0:=by
   refine aG (lp (ac (ck _) an)) (N9 (n:=n) (l:=l) rfl) ?_
   simp only[rC]
   rw[Ov ⟨@AT,@AT,by rw[O4];simp;omega⟩]
   unfold cm
   congr 2
   rw[O8]
   have hz:∀m,mk (λ_=>false) m=0:=λm=>by
    induction m with
    |zero=>rfl
    |succ m ih=>unfold mk;rw[ih];simp
   unfold mI
   simp only[hz]
   have:∀m:Nat,(List.replicate m [int 0]).flatten=List.replicate m (int 0):=λm=>by
    induction m with
    |zero=>rfl
    |succ m ih=>rw[Pq,Pq,P4,ih];rfl
   rw[this]
   refine List.ext_getElem @IN λi h1 h2=>by simp
  rw[lL,e];rfl
 obtain⟨M',s2,s3,e,hM⟩:=Al (l:=l) h8 l (λ_ _=>false) .no .no O.wn
 have hm:cm n M'=cm n (bC l):=AD λb a hb ha=>by rw[hM b a hb ha];rfl
 rw[hm] at e
 rw[aL (env':=[@E_,.ow (cm n (bC l)),s2,s3]) (β':=0) (by
  rw[gP (env:=[@E_,.ow (cm n λ_ _=>false),.no,.no]) (ds:=l.map aB) (β1:=0) (by unfold bR;rw[Mb (n:=n) (l:=l) rfl];rfl)]
  exact e)]
 rfl
end RM
namespace RM
open PySem L2
def dv (r:List Int)(i:Nat):Bool:=decide ((i:Int)∈r)
def L5:@Do:=aW 5 2 (gC xQ)
def CV {n:Nat}{l:@C_}(O:OM.Ord n l){r:List Int}{t:Nat}(ht:t < n):(!decide (mk (hX (dv r) t) n=mk (dv r) n) && decide (mk (dv r) n &&& mk (bC l t) n=mk (bC l t) n))=iz l r t:=by
 unfold iz
 congr 1
 ·congr 1
  rw[PJ,mk_eq]
  constructor
  ·intro h
   have:=h t ht
   unfold hX dv at this
   simp at this
   exact this
  ·intro h i hi
   unfold hX dv
   by_cases e:i=t
   ·subst e;simp[h]
   ·simp[e]
 ·rw[PJ,JL]
  constructor
  ·intro h
   rw[List.eq_nil_iff_forall_not_mem]
   intro a ha
   obtain⟨h1,h2⟩:=kJ.mp ha
   have hw:=(O.wn _ h1).1
   simp only at hw
   have e:((a.toNat:Nat):Int)=a:=@AT
   have:=h a.toNat (@AT) (by unfold bC;rw[e];exact OE h1)
   unfold dv at this
   rw[e] at this
   exact h2 (Qs this)
  ·intro h i hi hg
   unfold dv
   refine OE (Classical.byContradiction λq=>?_)
   have:(i:Int)∈BU l r t:=kJ.mpr ⟨Qs hg,q⟩
   rw[h] at this;cases this
def E1 {n:Nat}{l:@C_}(O:OM.Ord n l)(r:List Int):∃s3 s4,ly (.two 3 4) (iF ((([1] ++ ([3] ++ [])) ++ []) ++ (@EQ ++ [])) (BF (cP (f2 (au xQ (ae (gv 1) (ae (gv 3) ag))) (gv 1) (c9 true))) (cP (f2 (f2 (gv 1) (gv 4) Dg) (gv 4) (c9 false))))
  (oB 2 [3] (gv 3)) mO) (fV ((List.range n).map λb=>mI (bC l b) n)) [@IR,.fz (mI (dv r) n),.ow (.list []),.no,.no] 0=.nx [@IR,.fz (mI (dv r) n),.ow (.list ((dE l r n).map int)),s3,s4] 0:=by
 have h8:=O.hi
 obtain⟨env',β',ef,s3,s4,rfl,rfl⟩:=i4 (t:=.two 3 4) (m:=iF ((([1] ++ ([3] ++ [])) ++ []) ++ (@EQ ++ [])) (BF (cP (f2 (au xQ (ae (gv 1) (ae (gv 3) ag))) (gv 1) (c9 true))) (cP (f2 (f2 (gv 1) (gv 4) Dg) (gv 4) (c9 false))))
  (oB 2 [3] (gv 3)) mO) (ds:=fV ((List.range n).map λb=>mI (bC l b) n)) (k:=0)
  (λk env b=>∃s3 s4,env= [@IR,.fz (mI (dv r) n),.ow (.list ((dE l r k).map int)),s3,s4]/\b=0)
  (env:=[@IR,.fz (mI (dv r) n),.ow (.list []),.no,.no]) (β:=0) ⟨.no,.no,rfl,rfl⟩ (by
   rintro k d env b hk ⟨s3,s4,rfl,rfl⟩
   unfold fV at hk
   rw[List.getElem?_mapIdx,OK] at hk
   have hkn:k < n:=by
    by_cases h:k < n
    ·exact h
    ·rw[PY (by simp;omega)] at hk;cases hk
   rw[QB hkn] at hk
   cases hk
   refine⟨[@IR,.fz (mI (dv r) n),.ow (.list ((dE l r (0 + k)).map int)),.fz (.int k),.fz (mI (bC l k) n)],rfl,?_⟩
   rw[P7]
   have et:BF (cP (f2 (au xQ (ae (gv 1) (ae (gv 3) ag))) (gv 1) (c9 true))) (cP (f2 (f2 (gv 1) (gv 4) Dg) (gv 4) (c9 false))) (vl [@IR,.fz (mI (dv r) n),.ow (.list ((dE l r k).map int)),.fz (.int k),.fz (mI (bC l k) n)]) 0=.ok (iz l r k) 0:=by
    rw[<-CV O hkn]
    refine Ce (gr _ _ _ _ (aG (x:=mI (hX (dv r) k) n) (y:=mI (dv r) n) (av (ds:=[mI (dv r) n,.int k]) rfl (Cc h8 hkn)) rfl ?_)) (gr _ _ _ _ (aG (x:=.int ((mk (dv r) n &&& mk (bC l k) n:Nat):Int)) (y:=mI (bC l k) n) (aG (x:=mI (dv r) n) (y:=mI (bC l k) n) rfl rfl ?_) rfl ?_))
    ·unfold mI;rw[oo,Ov rfl];congr 3;rw[PJ];omega
    ·show some (int (Builtin.bitAnd _ _))=_
     rw[xW]
    ·unfold mI;rw[oo,OA OI];congr 2;rw[PJ];omega
   cases c:iz l r (k:Int) with
   |true=>
    rw[c] at et
    refine⟨[@IR,.fz (mI (dv r) n),.ow (.list ((dE l r (k + 1)).map int)),.fz (.int k),.fz (mI (bC l k) n)],0,?_,_,_,rfl,rfl⟩
    rw[dQ et]
    have hz:=oj l r k
    rw[show aY ((([1] ++ ([3] ++ [])) ++ []) ++ (@EQ ++ [])) [@IR,.fz (mI (dv r) n),.ow (.list ((dE l r k).map int)),.fz (.int k),.fz (mI (bC l k) n)]= [@IR,.fz (mI (dv r) n),.ow (.list ((dE l r k).map int)),.fz (.int k),.fz (mI (bC l k) n)] from rfl]
    rw[p7 (i:=2) (ds:=(dE l r k).map int) (d:=.int k) (β':=0) (by rfl) rfl (by rfl) (by rw[OB];omega),tR,Ov c,Pb]
    rfl
   |false=>
    rw[c] at et
    refine⟨[@IR,.fz (mI (dv r) n),.ow (.list ((dE l r (k + 1)).map int)),.fz (.int k),.fz (mI (bC l k) n)],0,?_,_,_,rfl,rfl⟩
    rw[bI et,tR,c,show dE l r k ++ (if false=true then [(k:Int)] else [])=dE l r k by simp]
    rfl)
 have hle:(fV ((List.range n).map λb=>mI (bC l b) n)).length=n:=by unfold fV;simp
 rw[P7,hle] at ef
 exact⟨s3,s4,ef⟩
def ND {n:Nat}{l:@C_}(O:OM.Ord n l)(r:List Int):L5 [cm n (bC l),mI (dv r) n]=.ok (.list ((dE l r n).map int)) true:=by
 show fin (gC xQ [@IR,.fz (mI (dv r) n),.no,.no,.no] 0)=_
 unfold gC
 rw[aL (env':=[@IR,.fz (mI (dv r) n),.ow (.list []),.no,.no]) (β':=0) (by rw[lL,lp (ds:=[]) an];rfl)]
 obtain⟨s3,s4,e⟩:=E1 O r
 rw[aL (env':=[@IR,.fz (mI (dv r) n),.ow (.list ((dE l r n).map int)),s3,s4]) (β':=0) (by
  rw[gP (env:=[@IR,.fz (mI (dv r) n),.ow (.list []),.no,.no]) (ds:=fV ((List.range n).map λb=>mI (bC l b) n)) (β1:=0) rfl]
  exact e)]
 rfl
noncomputable def JT:@Do:=aW 6 2 (jj L5 xQ)
structure JK (n:Nat)(l:@C_)(late r:List Int):Prop where
 beg:EA n l r
 late:∀q x,(q ++ [x]) <+:r->x∈late->∀y:Int,(0<=y/\y < n)->iz l q y=true->y∈late
def v7 (neg:Bool)(a:Int)(s:List Int):nU neg (.int a) (.list (s.map int))=some (.bool (if neg then !decide (a∈s) else decide (a∈s))):=by
 unfold nU
 simp only[p6,AK,any_ints]
 rfl
def JK.more {n:Nat}{l:@C_}{late r:List Int}{x:Int}(R:JK n l late r)(hx:0<=x/\x < (n:Int))(hf:iz l r x=true)(hl:x∈late->∀y:Int,(0<=y/\y < n)->iz l r y=true->y∈late):JK n l late (r ++ [x]):=by
 refine⟨R.beg.more hx hf,λq z hp hz y hy hfy=>?_⟩
 rcases List.prefix_concat_iff.mp hp with e |hp
 ·have:=List.append_inj' e rfl
  obtain⟨rfl,e2⟩:=this
  cases e2
  exact hl hz y hy hfy
 ·exact R.late q z hp hz y hy hfy
def Iu (n:Nat):mI (dv []) n=.int 0:=by
 unfold mI
 congr 1
 have:mk (dv []) n=0:=by
  induction n with
  |zero=>rfl
  |succ m ih=>unfold mk;rw[ih];simp[dv]
 rw[this];rfl
def Jj {n:Nat}{r:List Int}{x:Int}(h:0<=x/\x < n):mI (hX (dv r) x.toNat) n=mI (dv (r ++ [x])) n:=by
 unfold mI
 congr 2
 rw[mk_eq]
 intro i hi
 unfold hX dv
 rw[O3]
 simp only[PX,OP,OR,OY]
 constructor
 ·rintro (h |h)
  ·exact .inl h
  ·exact .inr (@AT)
 ·rintro (h |h)
  ·exact .inl h
  ·exact .inr (@AT)
def KY {n:Nat}{l:@C_}{late:List Int}(O:OM.Ord n l)(hz:late.length<=100):∃r,JT [cm n (bC l),.list (late.map int)]=.ok (tupI r) false/\Row n l r/\JK n l late r:=by
 have h8:=O.hi
 show ∃r,fin (jj L5 xQ [@IR,.fz (.list (late.map int)),.no,.no,.no,.no] 0)=.ok (tupI r) false/\Row n l r/\JK n l late r
 unfold jj
 rw[aL (env':=[@IR,.fz (.list (late.map int)),.ow (.list (([]:List Int).map int)),.no,.no,.no]) (β':=0) (by rw[lL,lp (ds:=[]) an];rfl)]
 rw[aL (env':=[@IR,.fz (.list (late.map int)),.ow (.list (([]:List Int).map int)),.fz (mI (dv []) n),.no,.no]) (β':=0) (by rw[cL,Iu];rfl)]
 obtain⟨env',β',ew,r,s4,s5,rfl,rfl,hr,R⟩:=i8 (L:=[] ++ []) (t:=cP (f2 (f1 (gv 2) c6) (f1 (gv 0) c6) uk))
  (m:=aK (bK 4 ([0] ++ ([3] ++ [])) (au L5 (ae (gv 0) (ae (gv 3) ag))))
   (aK (bK 5 @EQ (aU 1 [1] (.nm 0) (bR (gv 4)) (cP (f2 (gv 0) (gv 1) (nU true))) (gv 0)))
   (aK (oB 2 (@EQ ++ []) (f2 (f2 (gv 5) (gv 4) kZ) @Fa b7))
   (bK 3 ([3] ++ (@EQ ++ [])) (au xQ (ae (gv 3) (ae (f2 (gv 2) (f1 @Ch nV) b7) ag)))))))
  (λk env b=>∃r s4 s5,env= [@IR,.fz (.list (late.map int)),.ow (.list (r.map int)),.fz (mI (dv r) n),s4,s5]/\b=0/\JK n l late r/\k=n - r.length)
  (λenv b=>∃r s4 s5,env= [@IR,.fz (.list (late.map int)),.ow (.list (r.map int)),.fz (mI (dv r) n),s4,s5]/\b=0/\Row n l r/\JK n l late r)
  (n:=1000) (k:=n) (env:=[@IR,.fz (.list (late.map int)),.ow (.list (([]:List Int).map int)),.fz (mI (dv []) n),.no,.no]) (β:=0) (@AT)
  ⟨[],.no,.no,rfl,rfl,⟨⟨List.nodup_nil,(λx hx=>by cases hx),(λp _ h=>by cases h)⟩,λq x hp=>by simp at hp⟩,by simp⟩ (by
   rintro k env b ⟨r,s4,s5,rfl,rfl,R,rfl⟩
   have hrl:=R.beg.len
   have et:cP (f2 (f1 (gv 2) c6) (f1 (gv 0) c6) uk) (vl [@IR,.fz (.list (late.map int)),.ow (.list (r.map int)),.fz (mI (dv r) n),s4,s5]) 0=.ok (decide ((r.length:Int) < n)) 0:=by
    refine gr _ _ _ _ (aG (x:=.int r.length) (y:=.int n) (β1:=0) ?_ ?_ rfl)
    ·rw[o4 (ds:=r.map int) rfl,OB]
    ·rw[o4 (ds:=(List.range n).map λb=>mI (bC l b) n) rfl,OB,PU]
   refine⟨_,_,et,?_⟩
   by_cases hlt:r.length < n
   ·refine .inr ⟨OE (@AT),?_⟩
    show ∃env2 β2 k',aK _ _ [@IR,.fz (.list (late.map int)),.ow (.list (r.map int)),.fz (mI (dv r) n),s4,s5] 0=.nx env2 β2/\k' < n - r.length/\_
    rw[aL (env':=[@IR,.fz (.list (late.map int)),.ow (.list (r.map int)),.fz (mI (dv r) n),.fz (.list ((dE l r n).map int)),s5]) (β':=0) (by rw[cL,av (ds:=[cm n (bC l),mI (dv r) n]) (β1:=0) rfl (ND O r)];rfl)]
    have ec:aU 1 [1] (.nm 0) (bR (gv 4)) (cP (f2 (gv 0) (gv 1) (nU true))) (gv 0) (vl [@IR,.fz (.list (late.map int)),.ow (.list (r.map int)),.fz (mI (dv r) n),.fz (.list ((dE l r n).map int)),s5]) 0=.ok (.list (((dE l r n).filter λx=> !decide (x∈late)).map int)) 0:=by
     refine cx (l:=dE l r n) (e:=int) (λx=> !decide (x∈late)) int rfl (by have:=oj l r n;omega) λx hx=>⟨_,rfl,?_,λ_=>rfl⟩
     exact gr _ _ _ _ (aG (x:=.int x) (y:=.list (late.map int)) rfl rfl (v7 true x late))
    generalize hEE:((dE l r n).filter λx=> !decide (x∈late))=EE at ec
    rw[aL (env':=[@IR,.fz (.list (late.map int)),.ow (.list (r.map int)),.fz (mI (dv r) n),.fz (.list ((dE l r n).map int)),.fz (.list (EE.map int))]) (β':=0) (by rw[cL,ec];rfl)]
    have hne:dE l r n≠ []:=R.beg.free O hlt
    have hEl:EE.length<=n:=by rw[<-hEE];exact Pw (Pa _ _) (oj l r n)
    have hfl:=oj l r n
    obtain⟨x,L,hx⟩:∃x L,EE ++ dE l r n=x :: L:=List.exists_cons_of_ne_nil (by simp[hne])
    have hxm:x∈dE l r n:=by
     have:x∈EE ++ dE l r n:=by rw[hx];exact OH ..
     rcases OR.mp this with h |h
     ·rw[<-hEE] at h;exact (OG.mp h).1
     ·exact h
    obtain⟨hm1,hm2⟩:=OG.mp hxm
    have hxr:=fW.mp hm1
    have hlate:x∈late->∀y:Int,(0<=y/\y < n)->iz l r y=true->y∈late:=λhxl y hy hfy=>by
     apply Classical.byContradiction
     intro hn
     have hyE:y∈EE:=by rw[<-hEE];exact OG.mpr ⟨OG.mpr ⟨fW.mpr hy,hfy⟩,by simp[hn]⟩
     cases hE:EE with
     |nil=>rw[hE] at hyE;cases hyE
     |cons z Z=>
      rw[hE,List.cons_append] at hx
      have e1:=(List.cons.inj hx).1
      have:z∈EE:=by rw[hE];exact OH ..
      rw[<-hEE] at this
      have:=(OG.mp this).2
      rw[e1] at this
      simp[hxl] at this
    have R':=R.more hxr hm2 hlate
    rw[aL (env':=[@IR,.fz (.list (late.map int)),.ow (.list ((r ++ [x]).map int)),.fz (mI (dv r) n),.fz (.list ((dE l r n).map int)),.fz (.list (EE.map int))]) (β':=0) ?bb]
    case bb=>
     have ei:f2 (f2 (gv 5) (gv 4) kZ) @Fa b7 (vl [@IR,.fz (.list (late.map int)),.ow (.list (r.map int)),.fz (mI (dv r) n),.fz (.list ((dE l r n).map int)),.fz (.list (EE.map int))]) 0=.ok (.int x) 0:=by
      refine aG (x:=.list ((EE ++ dE l r n).map int)) (y:=.int 0) (aG (x:=.list (EE.map int)) (y:=.list ((dE l r n).map int)) rfl rfl ?_) rfl ?_
      ·rw[oH (by rw[OB,OB];omega),Pb]
      ·rw[hx];exact ko (xs:=.int x :: L.map int) (j:=0) rfl
     rw[p7 (i:=2) (ds:=r.map int) (d:=.int x) (β':=0) (by rfl) ei (by rfl) (by rw[OB];omega),Pb]
     rfl
    have e1:(x.toNat:Int)=x:=@AT
    have el:f2 (gv 2) (f1 @Ch nV) b7 (vl [@IR,.fz (.list (late.map int)),.ow (.list ((r ++ [x]).map int)),.fz (mI (dv r) n),.fz (.list ((dE l r n).map int)),.fz (.list (EE.map int))]) 0=.ok (.int (x.toNat:Int)) 0:=by
     refine aG (x:=.list ((r ++ [x]).map int)) (y:=.int (-1)) rfl rfl ?_
     show mT ((r ++ [x]).map int) (-1)=_
     rw[e1]
     unfold mT vR
     rw[OA (@AT),Ov (by simp;omega)]
     show ((r ++ [x]).map int)[((-1:Int) + ((((r ++ [x]).map int).length:Nat):Int)).toNat]? =_
     rw[show ((-1:Int) + ((((r ++ [x]).map int).length:Nat):Int)).toNat=r.length by simp;omega,Pb,O2 @IN]
     simp
    refine⟨[@IR,.fz (.list (late.map int)),.ow (.list ((r ++ [x]).map int)),.fz (mI (dv (r ++ [x])) n),.fz (.list ((dE l r n).map int)),.fz (.list (EE.map int))],0,n - (r ++ [x]).length,?_,by rw[OT,Pf];omega,_,_,_,rfl,rfl,R',rfl⟩
    rw[cL,av (ds:=[mI (dv r) n,.int (x.toNat:Int)]) (β1:=0) (ac rfl (ac el an)) (Cc h8 (@AT)),Jj hxr];rfl
   ·refine .inl ⟨ON (@AT),r,s4,s5,rfl,rfl,R.beg.row O (@AT),R⟩)
 rw[aL (env':=[@IR,.fz (.list (late.map int)),.ow (.list (r.map int)),.fz (mI (dv r) n),s4,s5]) (β':=0) ew]
 exact⟨r,rfl,hr,R⟩
def lr (l:@C_)(x y:Int):Bool:=decide (x=y) || decide ((x,y)∈l)
def fN {l:@C_}{x y:Int}:lr l x y=true↔x=y\/(x,y)∈l:=by unfold lr;simp
def ux {n:Nat}{l:@C_}(O:OM.Ord n l){x y z:Int}(h:lr l x y=true)(k:lr l y z=true):lr l x z=true:=by
 rw[fN] at *
 rcases h with rfl |h
 ·exact k
 ·rcases k with rfl |k
  ·exact .inr h
  ·exact .inr (O.tr _ _ _ h k)
def putL (n:Nat)(l:@C_)(t:Pr):@C_:=(OM.du n).filter λp=>decide (p∈l) || (lr l p.1 t.2 && lr l t.1 p.2)
def l6 {n:Nat}{l:@C_}{t p:Pr}(h:(0<=p.1/\p.1 < n)/\(0<=p.2/\p.2 < n)):p∈putL n l t↔p∈l\/(lr l p.1 t.2=true/\lr l t.1 p.2=true):=by
 unfold putL
 rw[OG,OM.bV,PX,OW,OP]
 exact⟨λh=>h.2,λk=>⟨h,k⟩⟩
def o9 {n:Nat}{l:@C_}{t p:Pr}(h:p∈putL n l t):p∈l\/(lr l p.1 t.2=true/\lr l t.1 p.2=true):=by
 unfold putL at h
 have:=(OG.mp h).2
 rw[PX,OW,OP] at this
 exact this
def EV {n:Nat}{l:@C_}{t:Pr}(O:OM.Ord n l)(h:lr l t.1 t.2=false):OM.Ord n (putL n l t):=by
 have hn:¬lr l t.1 t.2=true:=by rw[h];exact OI
 refine⟨O.lo,O.hi,λp hp=>OM.bV.mp (OG.mp hp).1,OM.gu _ (OM.jd n),λa ha=>?_,λa b c hab hbc=>?_⟩
 ·rcases o9 ha with q | ⟨q1,q2⟩
  ·exact O.irr a q
  ·exact hn (ux O q2 q1)
 ·have g1:=OM.bV.mp (OG.mp hab).1
  have g2:=OM.bV.mp (OG.mp hbc).1
  refine (l6 (p:=(a,c)) ⟨g1.1,g2.2⟩).mpr ?_
  rcases o9 hab with q | ⟨q1,q2⟩
  ·rcases o9 hbc with r | ⟨r1,r2⟩
   ·exact .inl (O.tr _ _ _ q r)
   ·exact .inr ⟨ux O (fN.mpr (.inr q)) r1,r2⟩
  ·rcases o9 hbc with r | ⟨r1,r2⟩
   ·exact .inr ⟨q1,ux O q2 (fN.mpr (.inr r))⟩
   ·exact .inr ⟨q1,r2⟩
def zC {n:Nat}{l:@C_}{t p:Pr}(O:OM.Ord n l)(h:p∈l):p∈putL n l t:=(l6 (O.wn p h)).mpr (.inl h)
def qZ {n:Nat}{l:@C_}{t:Pr}(h:(0<=t.1/\t.1 < n)/\(0<=t.2/\t.2 < n)):(t.2,t.1)∈putL n l t:=(l6 ⟨h.2,h.1⟩).mpr (.inr ⟨fN.mpr (.inl rfl),fN.mpr (.inl rfl)⟩)
def EG:@Do:=aW 3 3 (kF xQ)
def IZ {n:Nat}{l:@C_}{a b:Int}(h8:n<=8)(ha:0<=a/\a < n)(hb:0<=b/\b < n):EG [cm n (bC l),.int a,.int b]=.ok (.bool (decide ((a,b)∈l))) false:=by
 have ea:((a.toNat:Nat):Int)=a:=@AT
 have eb:((b.toNat:Nat):Int)=b:=@AT
 show fin (kF xQ [@IR,.fz (.int a),.fz (.int b)] 0)=_
 unfold kF
 have em:f2 (gv 0) (gv 2) b7 (vl [@IR,.fz (.int a),.fz (.int b)]) 0=.ok (mI (bC l b.toNat) n) 0:=by
  refine aG (x:=cm n (bC l)) (y:=.int b) rfl rfl ?_
  have:=Dx (n:=n) (M:=bC l) (b:=b.toNat) (@AT)
  rw[eb] at this
  exact this
 rw[gJ,aG (x:=mI (hX (bC l b.toNat) a.toNat) n) (y:=mI (bC l b.toNat) n) (d:=.bool (decide ((a,b)∈l))) (β1:=0) (β2:=0) (av (b:=false) (ds:=[mI (bC l b.toNat) n,.int (a.toNat:Int)]) (ac em (ac (by rw[ea];rfl) an)) (Cc h8 (@AT))) em ?z]
 ·rfl
 case z=>
  unfold mI
  rw[oo,OA OI]
  congr 2
  rw[PJ]
  constructor
  ·intro h
   have h:mk (hX (bC l b.toNat) a.toNat) n=mk (bC l b.toNat) n:=@AT
   have:=mk_eq.mp h a.toNat (@AT)
   unfold hX bC at this
   rw[ea,eb] at this
   simpa using this
  ·intro h
   have:mk (hX (bC l b.toNat) a.toNat) n=mk (bC l b.toNat) n:=mk_eq.mpr λi hi=>by
    unfold hX bC
    by_cases e:i=a.toNat
    ·rw[e,ea,eb];simp[h]
    ·simp[e]
   rw[this]
def Ef:@Do:=aW 2 2 (jw EG)
def Jg {n:Nat}{l:@C_}{t:Pr}(h8:n<=8)(h:(0<=t.1/\t.1 < n)/\(0<=t.2/\t.2 < n)):Ef [cm n (bC l),aB t]=.ok (.bool (decide (t∈l))) false:=by
 show fin (jw EG [@IR,.fz (aB t)] 0)=_
 unfold jw
 rw[gJ,av (ds:=[cm n (bC l),.int t.1,.int t.2]) (β1:=0) rfl (IZ h8 h.1 h.2)];rfl
def JH {f g:Nat->Bool}{n:Nat}:mk f n ||| mk g n=mk (λi=>f i || g i) n:=by
 apply QM
 intro i
 rw[Nat.testBit_or,hJ,hJ,hJ]
 by_cases h:i < n <;> simp[h]
noncomputable def Jm:@Do:=aW 4 2 (km EG xQ)
def Nq {n:Nat}{l:@C_}{t:Pr}(h8:n<=8)(h:(0<=t.1/\t.1 < n)/\(0<=t.2/\t.2 < n)):Jm [cm n (bC l),aB t]=.ok (cm n (bC (putL n l t))) true:=by
 have e2:((t.2.toNat:Nat):Int)=t.2:=@AT
 show fin (km EG xQ [@IR,.fz (aB t),.no,.no] 0)=_
 unfold km
 have el:f1 (gv 0) c6 (vl [@IR,.fz (aB t),.no,.no]) 0=.ok (.int n) 0:=by
  rw[o4 (ds:=(List.range n).map λb=>mI (bC l b) n) rfl,OB,PU]
 have ec:aU 1 [1,0] (.nm 0) (fm (f1 (gv 0) c6)) (nh (cP (f2 (gv 0) (f2 (gv 1) @Fa b7) (c9 false))) (i6 (au EG (ae (gv 2) (ae (f2 (gv 1) @Fa b7) (ae (gv 0) ag)))))) (gv 0) (vl [@IR,.fz (aB t),.no,.no]) 0=.ok (.list (((iE n).filter λx=>lr l t.1 x).map int)) 0:=by
  refine cx (l:=iE n) (e:=int) (λx=>lr l t.1 x) int ?_ (by rw[mf];omega) λx hx=>⟨[.da (.int x),.da (aB t),.da (cm n (bC l))],rfl,?_,λ_=>rfl⟩
  ·rw[<-ui];exact gO (n:=n) el (@AT)
  ·have hx:=fW.mp hx
   have:=Gm (js (neg:=false) (fa:=gv 0) (fb:=f2 (gv 1) @Fa b7) (vs:=[.da (.int x),.da (aB t),.da (cm n (bC l))]) (β:=0) (i:=x) (j:=t.1) rfl rfl) (iA (av (F:=EG) (fr:=ae (gv 2) (ae (f2 (gv 1) @Fa b7) (ae (gv 0) ag))) (vs:=[.da (.int x),.da (aB t),.da (cm n (bC l))]) (β:=0) (ds:=[cm n (bC l),.int t.1,.int x]) rfl (IZ h8 h.1 hx)))
   rw[this]
   congr 1
   unfold lr
   rw[OA OI]
   congr 1
   rw[PJ];exact⟨Eq.symm,Eq.symm⟩
 rw[aL (env':=[@IR,.fz (aB t),.fz (.list (((iE n).filter λx=>lr l t.1 x).map int)),.no]) (β':=0) (by rw[cL,ec];rfl)]
 have em:f2 (gv 0) (f2 (gv 1) @Ch b7) b7 (vl [@IR,.fz (aB t),.fz (.list (((iE n).filter λx=>lr l t.1 x).map int)),.no]) 0=.ok (mI (bC l t.2.toNat) n) 0:=by
  refine aG (x:=cm n (bC l)) (y:=.int t.2) rfl (aG rfl rfl rfl) ?_
  have:=Dx (n:=n) (M:=bC l) (b:=t.2.toNat) (@AT)
  rw[e2] at this
  exact this
 rw[aL (env':=[@IR,.fz (aB t),.fz (.list (((iE n).filter λx=>lr l t.1 x).map int)),.fz (mI (hX (bC l t.2.toNat) t.2.toNat) n)]) (β':=0) (by
  rw[cL,av (b:=false) (ds:=[mI (bC l t.2.toNat) n,.int (t.2.toNat:Int)]) (β1:=0) (ac em (ac (by rw[e2];rfl) an)) (Cc h8 (@AT))];rfl)]
 have ed:aU 2 [2,3] (.two 0 1) (El (gv 0)) nO (Mc (cP (f2 (gv 0) (gv 2) (nU false))) (f2 (gv 1) (gv 3) L9) (gv 1)) (vl [@IR,.fz (aB t),.fz (.list (((iE n).filter λx=>lr l t.1 x).map int)),.fz (mI (hX (bC l t.2.toNat) t.2.toNat) n)]) 0=.ok (cm n (bC (putL n l t))) 0:=by
  unfold cm
  refine dC (l:=List.range n) (e:=λb=>.tuple [.int b,mI (bC l b) n]) (λb=>mI (bC (putL n l t) b) n) ?_ (by rw[PU];omega) λb hb=>⟨[.da (.int b),.da (mI (bC l b) n),.da (.list (((iE n).filter λx=>lr l t.1 x).map int)),.da (mI (hX (bC l t.2.toNat) t.2.toNat) n)],rfl,?_⟩
  ·show R.ok (fV ((List.range n).map λb=>mI (bC l b) n)) 0=_
   congr 1
   unfold fV
   refine List.ext_getElem @IN λi h1 h2=>by simp
  ·have hbn:=Po.mp hb
   have hmem:decide ((b:Int)∈(iE n).filter λx=>lr l t.1 x)=lr l t.1 b:=by
    rw[O3,OP,OG]
    exact⟨λh=>h.2,λh=>⟨fW.mpr ⟨@AT,@AT ⟩,h⟩⟩
   have et:cP (f2 (gv 0) (gv 2) (nU false)) [.da (.int b),.da (mI (bC l b) n),.da (.list (((iE n).filter λx=>lr l t.1 x).map int)),.da (mI (hX (bC l t.2.toNat) t.2.toNat) n)] 0=.ok (lr l t.1 b) 0:=by
    rw[<-hmem]
    exact gr _ _ _ _ (aG (x:=.int b) (y:=.list (((iE n).filter λx=>lr l t.1 x).map int)) rfl rfl (v7 false b _))
   rw[Jt,et]
   show (if lr l t.1 b=true then _ else _)=_
   have key:∀a,a < n->bC (putL n l t) b a=(bC l b a || (lr l a t.2 && lr l t.1 b)):=λa ha=>by
    unfold bC
    rw[O3,OP,l6 ⟨⟨by simp only;omega,by simp only;omega⟩,⟨by simp only;omega,by simp only;omega⟩⟩,PX,OW,OP]
   by_cases c:lr l t.1 b=true
   ·rw[Ov c]
    refine aG (x:=mI (bC l b) n) (y:=mI (hX (bC l t.2.toNat) t.2.toNat) n) rfl rfl ?_
    show some (int (Builtin.bitOr _ _))=_
    rw[uc,JH]
    unfold mI
    congr 3
    rw[mk_eq]
    intro a ha
    rw[key a ha,c,Bool.and_true]
    unfold hX lr bC
    rw[e2]
    congr 1
    rw[Bool.or_comm]
    congr 1
    rw[PJ];omega
   ·rw[OA c]
    show R.ok (mI (bC l b) n) 0=_
    unfold mI
    congr 3
    rw[mk_eq]
    intro a ha
    rw[key a ha]
    have c:lr l t.1 b=false:=by simpa using c
    rw[c,Bool.and_false,Bool.or_false]
 rw[wC,ed];rfl
structure WP (r:SO)(Q:SO->Prop):Prop where
 out:Q r
section
variable {m m' m1 m2:SF}{env env1:En}{β β1 β2 z:Int}{Q:SO->Prop}{f fa fb:VF D}{t:VF Bool}{d e:D}{L La Lb:@G_}{i j:Nat}{c:Bool}
def wp_at (env1:En)(e:env=env1)(k:WP (m env1 β) Q):WP (m env β) Q:=by rw[e];exact k
def wp_seq (h:m env β=.nx env1 β1)(k:WP (m' env1 β1) Q):WP (aK m m' env β) Q:=by rw[aL h];exact k
theorem zk (h:WP (aK m mO env β) Q):WP (m env β) Q:=by
 obtain⟨h⟩:=h
 unfold aK at h
 cases e:m env β with
 |_=>rw[e] at h;exact⟨h⟩
def xi (q:Q (.nx env β)):WP (mO env β) Q:=⟨q⟩
def eY (h:f (vl env) β=.ok d β1)(k:WP (m' ((aY L env).set i (.fz d)) β1) Q):WP (aK (bK i L f) m' env β) Q:=wp_seq (by unfold bK;rw[h];rfl) k
def E9 (h:f (vl env) β=.ok d β1)(k:WP (m' ((aY L env).set i (.ow d)) β1) Q):WP (aK (k9 i L f) m' env β) Q:=wp_seq (by unfold k9;rw[h];rfl) k
def Fh (h:f (vl env) β=.ok (.list [.int z]) β1)(k:WP (m' ((sQ (aY L env)).set i .bx) z) Q):WP (aK (zS i L f) m' env β) Q:=wp_seq (by unfold zS;rw[h];rfl) k
def vH (h:f (vl env) β=.ok d β1)(k:WP (m' (aY L env) β1) Q):WP (aK (cB L f) m' env β) Q:=wp_seq (by unfold cB;rw[h];rfl) k
def HV {ds:List D}(hi:env[i]? =some (.ow (.list ds)))(h:f (vl env) β=.ok d β1)(hL:(aY L env)[i]? =some (.ow (.list ds)))(hz:ds.length<=1000)(k:WP (m' ((aY L env).set i (.ow (.list (ds ++ [d])))) β1) Q):WP (aK (oB i L f) m' env β) Q:=wp_seq (p7 hi h hL hz) k
def l9 (h:t (vl env) β=.ok false β1)(k:WP (m' (aY L env) β1) Q):WP (aK (iF L t m1 mO) m' env β) Q:=wp_seq (by rw[bI h];rfl) k
def om (h:t (vl env) β=.ok true β1)(k:WP (aK m1 m' (aY L env) β1) Q):WP (aK (iF L t m1 m2) m' env β) Q:=by
 have:aK (iF L t m1 m2) m' env β=aK m1 m' (aY L env) β1:=by unfold aK;rw[dQ h]
 rw[this];exact k
def J4 (h:t (vl env) β=.ok false β1)(k:WP (m2 (aY L env) β1) Q):WP (iF L t m1 m2 env β) Q:=by rw[bI h];exact k
def jE (h:f (vl env) β=.ok d β1)(q:Q (.rt d false β1)):WP (bM f env β) Q:=⟨by unfold bM;rw[h];exact q⟩
def qh (h:f (vl env) β=.ok d β1)(q:Q (.rt d false β1)):WP (aK (bM f) m' env β) Q:=⟨by unfold aK bM;rw[h];exact q⟩
def gZ {R:FR}(h:WP (m env β) λr=>fin r=R):fin (m env β)=R:=h.out
def DX {t:Tg}{fi:VF (List D)}{ds:List D}(I:Nat->En->Int->Prop)(hi:fi (vl env) β=.ok ds β1)(h0:I 0 (aY L env) β1)
  (hs:∀i d env β,ds[i]? =some d->I i env β->∃env1,gY t d env=some env1/\WP (m env1 β) λr=>∃env2 β2,r=.nx env2 β2/\I (i + 1) env2 β2)
  (k:∀env β,I ds.length env β->WP (m' env β) Q):WP (aK (iq t L fi m) m' env β) Q:=by
 obtain⟨env',β',e,h⟩:=i4 (t:=t) (m:=m) I (ds:=ds) (k:=0) h0 λi d env β hd h=>by
  rw[P7] at h
  obtain⟨env1,e1,⟨env2,β2,e2,h2⟩⟩:=hs i d env β hd h
  exact⟨env1,e1,env2,β2,e2,by rw[P7];exact h2⟩
 rw[P7] at h
 exact wp_seq ((gP hi).trans e) (k _ _ h)
def Es {n:Nat}(I:Nat->En->Int->Prop)(Dn:En->Int->Prop)(b:Nat)(hb:b < n)(h0:I b env β)
  (hs:∀k env β,I k env β->∃c β1,t (vl env) β=.ok c β1/\((c=false/\Dn (aY L env) β1)\/(c=true/\WP (m (aY L env) β1) λr=>∃env2 β2 k',r=.nx env2 β2/\k' < k/\I k' env2 β2)))
  (k:∀env β,Dn env β->WP (m' env β) Q):WP (aK (h9 L t m n) m' env β) Q:=by
 obtain⟨env',β',e,h⟩:=i8 (L:=L) (t:=t) (m:=m) I Dn (n:=n) hb h0 λk env β h=>by
  obtain⟨c,β1,e1,h⟩:=hs k env β h
  refine⟨c,β1,e1,?_⟩
  rcases h with h | ⟨h1,⟨h2⟩⟩
  ·exact .inl h
  ·exact .inr ⟨h1,h2⟩
 exact wp_seq e (k _ _ h)
end
def Di (c:Int)(hc:0<=c/\c<=100)(ns:List Int)(vs:List Nv)(β:Int)(h:gv 0 vs β=.ok (cZ ns) β):∃m:Nat,m<=101/\fm (f2 @Ch (f2 (f1 (gv 0) c6) (cst (.int c)) (xl λi j=>.int (if j < i then j else i))) (xl λi j=>.int (if j > i then j else i))) vs β=.ok (fO 0 m) β:=by
 have e1:f2 @Ch (f2 (f1 (gv 0) c6) (cst (.int c)) (xl λi j=>.int (if j < i then j else i))) (xl λi j=>.int (if j > i then j else i)) vs β=.ok (.int (if (if c < ((ns.map int).length:Int) then c else ((ns.map int).length:Int)) > 1 then (if c < ((ns.map int).length:Int) then c else ((ns.map int).length:Int)) else 1)) β:=
  aG (x:=.int 1) rfl (aG (x:=.int (ns.map int).length) (y:=.int c) (j4 h rfl) rfl rfl) rfl
 generalize ((ns.map int).length:Nat)=k at e1
 refine⟨(if (if c < (k:Int) then c else (k:Int)) > 1 then (if c < (k:Int) then c else (k:Int)) else 1).toNat,?_,gO (e1.trans ?_) ?_⟩
 ·split <;> split <;> omega
 ·congr 2
  split <;> split <;> omega
 ·split <;> split <;> omega
def Dz {ds:List D}{k:Nat}(h:k < ds.length):∃d,ds[k]? =some d/\d∈ds/\mT ds (k:Int)=some d:=⟨ds[k],Ot h,P0 h,ko (Ot h)⟩
def Kd {fa fb:VF D}{vs:List Nv}{β β1 β2:Int}{a b:List D}(h1:fa vs β=.ok (.tuple a) β1)(h2:fb vs β1=.ok (.tuple b) β2)(hz:a.length + b.length<=1000):f2 fa fb qz vs β=.ok (.tuple (a ++ b)) β2:=aG h1 h2 (D6 hz)
def He {fa fb:VF D}{vs:List Nv}{β β1 β2:Int}{a b:List D}(h1:fa vs β=.ok (.list a) β1)(h2:fb vs β1=.ok (.list b) β2)(hz:a.length + b.length<=1000):f2 fa fb kZ vs β=.ok (.list (a ++ b)) β2:=aG h1 h2 (oH (@AT))
def NS {fa:VF D}{vs:List Nv}{β:Int}{i:Nat}(h:fa vs β=.ok (.int (i:Nat)) β):f2 fa @Ch cj vs β=.ok (.int ((i + 1:Nat):Int)) β:=aG h rfl (by show some (int ((i:Int) + 1))=_;rw[show ((i + 1:Nat):Int)=(i:Int) + 1 by omega])
section
variable {m m' m1 m2:SF}{env env1:En}{β β1 β2 z:Int}{Q:SO->Prop}{f fa fb:VF D}{t:VF Bool}{d e:D}{L La Lb:@G_}{i j:Nat}{c:Bool}
theorem Ff (h:WP (m env β) λr=>(∀a b,r≠.nx a b)/\Q r):WP (aK m m' env β) Q:=by
 obtain⟨h1,h2⟩:=h.out
 refine⟨?_⟩
 unfold aK
 cases e:m env β with
 |nx a b=>exact absurd e (h1 a b)
 |_=>rw[e] at h2;exact h2
end
def pW (l:@C_)(p q:Pr):Bool:=decide (p.1=q.2) || decide ((p.1,q.2)∈l)
def Dk:@Do:=aW 3 3 kz
theorem GW (n:Nat)(l:@C_)(p q:Pr):Dk [aA n l,aB p,aB q]=.ok (.bool (pW l p q)) false:=by
 show fin (kz [@E_,.fz (aB p),.fz (aB q)] 0)=_
 unfold kz
 have i0:f2 (gv 1) @Fa b7 (vl [@E_,.fz (aB p),.fz (aB q)]) 0=.ok (.int p.1) 0:=aG (x:=aB p) (y:=.int 0) rfl rfl rfl
 have i1:f2 (gv 2) @Ch b7 (vl [@E_,.fz (aB p),.fz (aB q)]) 0=.ok (.int q.2) 0:=aG (x:=aB q) (y:=.int 1) rfl rfl rfl
 have e1:f2 (f2 (gv 1) @Fa b7) (f2 (gv 2) @Ch b7) (c9 false) (vl [@E_,.fz (aB p),.fz (aB q)]) 0=.ok (.bool (decide (p.1=q.2))) 0:=aG i0 i1 (oo false p.1 q.2)
 have e2:f2 (aO (ae (f2 (gv 1) @Fa b7) (ae (f2 (gv 2) @Ch b7) ag))) (f2 (gv 0) @Ch b7) (nU false) (vl [@E_,.fz (aB p),.fz (aB q)]) 0=.ok (.bool (decide ((p.1,q.2)∈l))) 0:=aG (x:=aB (p.1,q.2)) (fT i0 i1) (Mb (n:=n) (l:=l) rfl) (nW false (p.1,q.2) l)
 rw[gJ]
 unfold pW
 cases c:decide (p.1=q.2) with
 |true=>rw[c] at e1;rw[NG e1];rfl
 |false=>rw[c] at e1;rw[Mo e1 e2];rfl
def LO (l:@C_)(ps:@C_):Bool:=(List.range ps.length).all λi=>pW l (ps.getD (if i=0 then ps.length - 1 else i - 1) (0,0)) (ps.getD i (0,0))
def EH {i:Nat}{L:@G_}{f:VF D}{env:En}{β β':Int}{ds es:List D}(hi:env[i]? =some (.ow (.list ds)))(hf:f (vl env) β=.ok (.list es) β')(hL:(aY L env)[i]? =some (.ow (.list ds)))(hz:ds.length + es.length<=10000) :
  AM i L f env β=.nx ((aY L env).set i (.ow (.list (ds ++ es)))) β':=by
 unfold AM
 rw[Ov (by rw[hi];rfl),hf]
 exact vk hL (Ov (by rw[O4];omega))
def putAll (n:Nat)(l:@C_)(put:@C_):@C_:=put.foldl (putL n) l
theorem qE {n:Nat}{U:Int->Prop}:∀{put l:@C_},(∀u v,(u,v)∈l->U u->U v)->(∀t,t∈put->U t.2->U t.1)->∀u v,(u,v)∈putAll n l put->U u->U v
 | [],l,h0,_=>h0
 |t :: put,l,h0,h1=>by
  have q:∀u v,lr l u v=true->U u->U v:=λu v h hu=>by
   rcases fN.mp h with rfl |h
   ·exact hu
   ·exact h0 _ _ h hu
  refine qE (put:=put) (l:=putL n l t) (λu v h hu=>?_) (λx hx=>h1 x (OF _ hx))
  rcases o9 h with h | ⟨a,b⟩
  ·exact h0 _ _ h hu
  ·exact q _ _ b (h1 t (OH ..) (q _ _ a hu))
def Mj (l:@C_)(p:@C_):Prop:=∀i a b,p[i]? =some a->p[i + 1]? =some b->pW l a b=true
structure RI (l put:@C_)(t:Pr)(ph:List (@C_))(left:@C_)(at':Nat):Prop where
 pth:∀p,p∈ph->∃q,p=t :: q/\(∀x,x∈q->x∈put/\¬x∈left)/\p.Nodup/\Mj l p
 lft:∀x,x∈left->x∈put
 rch:∀x,x∈put->x∈left\/∃p,p∈ph/\p.getLast? =some x
 fst:∃p,p∈ph/\p.getLast? =some t
 old:∀i p s,i < at'->ph[i]? =some p->p.getLast? =some s->pW l s t=false/\∀x,x∈left->pW l s x=false
 cnt:ph.length + left.length=put.length + 1
 le:at'<=ph.length
def RI.lt {n:Nat}{l put:@C_}{t:Pr}{ph:List (@C_)}{left:@C_}{k:Nat}(R:RI l put t ph left k)(O:OM.Ord n l)(hb:t∈putAll n l put):k < ph.length:=by
 apply Classical.byContradiction
 intro hn
 have hk:k=ph.length:=by have:=R.le;omega
 have idx:∀p,p∈ph->∃i:Nat,i < k/\ph[i]? =some p:=λp hp=>by
  obtain⟨i,hi⟩:=PF.mp hp
  exact⟨i,by rw[hk];exact (Oy.mp hi).1,hi⟩
 have key:=qE (n:=n) (U:=λx=>∃s:Pr,(∃p,p∈ph/\p.getLast? =some s)/\lr l s.1 x=true) (put:=put) (l:=l) (by
  rintro u v h ⟨s,hs,hl⟩
  exact⟨s,hs,ux O hl (fN.mpr (.inr h))⟩) (by
  rintro x hx ⟨s,⟨p,hp,hs⟩,hl⟩
  rcases R.rch x hx with h |h
  ·obtain⟨i,hi,hpi⟩:=idx p hp
   have h2:pW l s x=false:=(R.old i p s hi hpi hs).2 x h
   have hl:pW l s x=true:=hl
   rw[h2] at hl;cases hl
  ·exact⟨x,h,fN.mpr (.inl rfl)⟩) t.1 t.2 hb ⟨t,R.fst,fN.mpr (.inl rfl)⟩
 obtain⟨s,⟨p,hp,hs⟩,hl⟩:=key
 obtain⟨i,hi,hpi⟩:=idx p hp
 have h2:pW l s t=false:=(R.old i p s hi hpi hs).1
 have hl:pW l s t=true:=hl
 rw[h2] at hl;cases hl
theorem zU {α:Type}(f:α->Bool):∀L:List α,(L.filter f).length + (L.filter λx=> !f x).length=L.length
 | []=>rfl
 |x :: L=>by
  have:=zU f L
  cases h:f x <;> simp[List.filter_cons,h] <;> omega
def Fb {l p:@C_}{s x:Pr}(h:Mj l p)(hs:p.getLast? =some s)(hx:pW l s x=true):Mj l (p ++ [x]):=by
 intro i a b ha hb
 have hl:p≠ []:=λe=>by rw[e] at hs;cases hs
 have hpos:=List.length_pos_iff.mpr hl
 by_cases c:i + 1 < p.length
 ·rw[O0 (@AT)] at ha
  rw[O0 c] at hb
  exact h i a b ha hb
 ·by_cases d:i + 1=p.length
  ·rw[O0 (@AT)] at ha
   rw[O2 (@AT),d,Nat.sub_self] at hb
   cases hb
   rw[QR,show p.length - 1=i by omega,ha] at hs
   cases hs
   exact hx
  ·rw[PY (by rw[OT,Pf];omega)] at hb
   cases hb
def RI.step {l put:@C_}{t s:Pr}{ph:List (@C_)}{left p fr:@C_}{k:Nat}(R:RI l put t ph left k)(htp:¬t∈put)(hp:ph[k]? =some p)(hs:p.getLast? =some s)(hst:pW l s t=false)(hfr:left.filter (λx=>pW l s x)=fr):RI l put t (ph ++ fr.map λx=>p ++ [x]) (left.filter λx=> !decide (x∈fr)) (k + 1):=by
 have hpm:p∈ph:=PF.mpr ⟨k,hp⟩
 have hk:k < ph.length:=(Oy.mp hp).1
 have mfr:∀x,x∈fr↔x∈left/\pW l s x=true:=λx=>by rw[<-hfr];exact OG
 have mlf:∀x,x∈(left.filter λx=> !decide (x∈fr))↔x∈left/\¬x∈fr:=λx=>by rw[OG];simp
 refine⟨λr hr=>?_,λx hx=>R.lft x ((mlf x).mp hx).1,λx hx=>?_,?_,λi r s' hi hr hs'=>?_,?_,?_⟩
 ·rcases OR.mp hr with hr |hr
  ·obtain⟨q,e,h1,h2,h3⟩:=R.pth r hr
   exact⟨q,e,λx hx=>⟨(h1 x hx).1,λhm=>(h1 x hx).2 ((mlf x).mp hm).1⟩,h2,h3⟩
  ·obtain⟨x,hx,rfl⟩:=Pj.mp hr
   obtain⟨q,e,h1,h2,h3⟩:=R.pth p hpm
   have hxf:=(mfr x).mp hx
   refine⟨q ++ [x],by rw[e];rfl,λy hy=>?_,?_,Fb h3 hs hxf.2⟩
   ·rcases OR.mp hy with hy |hy
    ·exact⟨(h1 y hy).1,λhm=>(h1 y hy).2 ((mlf y).mp hm).1⟩
    ·rw[OY] at hy;subst hy
     exact⟨R.lft _ hxf.1,λhm=>((mlf _).mp hm).2 hx⟩
   ·refine List.nodup_append.mpr ⟨h2,by simp,λa ha b hb eab=>?_⟩
    rw[OY] at hb;subst hb;subst eab
    rw[e] at ha
    rcases OC.mp ha with rfl |ha
    ·exact htp (R.lft _ hxf.1)
    ·exact (h1 _ ha).2 hxf.1
 ·rcases R.rch x hx with h | ⟨r,h1,h2⟩
  ·by_cases c:x∈fr
   ·exact .inr ⟨p ++ [x],OR.mpr (.inr (Pj.mpr ⟨x,c,rfl⟩)),by simp⟩
   ·exact .inl ((mlf x).mpr ⟨h,c⟩)
  ·exact .inr ⟨r,OR.mpr (.inl h1),h2⟩
 ·obtain⟨r,h1,h2⟩:=R.fst
  exact⟨r,OR.mpr (.inl h1),h2⟩
 ·rw[O0 (@AT)] at hr
  by_cases c:i=k
  ·subst c
   rw[hp] at hr;cases hr
   rw[hs] at hs';cases hs'
   refine⟨hst,λx hx=>?_⟩
   obtain⟨a,b⟩:=(mlf x).mp hx
   cases z:pW l s x with
   |false=>rfl
   |true=>exact absurd ((mfr x).mpr ⟨a,z⟩) b
  ·obtain⟨a,b⟩:=R.old i r s' (@AT) hr hs'
   exact⟨a,λx hx=>b x ((mlf x).mp hx).1⟩
 ·have h1:=zU (λx=>pW l s x) left
  have h2:(left.filter λx=> !decide (x∈fr))=left.filter λx=> !pW l s x:=Q0 λx hx=>by
   congr 1
   rw[O3,OP,mfr x]
   exact⟨λh=>h.2,λh=>⟨hx,h⟩⟩
  rw[h2,OT,OB,<-hfr]
  have:=R.cnt
  omega
 ·rw[OT];omega
theorem yC:∀{q put:@C_},q.Nodup->(∀x,x∈q->x∈put)->q.length<=put.length
 | [],_,_,_=>O7 _
 |x :: q,put,nd,h=>by
  have nd:=Pz.mp nd
  have hx:=h x (OH ..)
  have:=yC (q:=q) (put:=put.erase x) nd.2 λy hy=>(List.mem_erase_of_ne (λe=>nd.1 (by rw[<-e];exact hy))).mpr (h y (OF _ hy))
  rw[QU hx] at this
  have:=List.length_pos_of_mem hx
  rw[O5];omega
abbrev pD (p:@C_):D:=.list (p.map aB)
def Ec {fs:@C_}{s:Pr}(h:fs.getLast? =some s):mT (fs.map aB) (-1)=some (aB s):=by
 have hl:fs≠ []:=λe=>by rw[e] at h;cases h
 have hpos:=List.length_pos_iff.mpr hl
 unfold mT vR
 rw[OA (@AT),Ov (by simp;omega)]
 show (fs.map aB)[((-1:Int) + (((fs.map aB).length:Nat):Int)).toNat]? =_
 rw[show ((-1:Int) + (((fs.map aB).length:Nat):Int)).toNat=fs.length - 1 by simp;omega,OK,<-QR,h];rfl
def Aq {ph:List (@C_)}{p:@C_}{k:Nat}(h:ph[k]? =some p):mT (ph.map pD) (k:Int)=some (pD p):=by
 have hk:k < ph.length:=(Oy.mp h).1
 rw[zt,C2 hk]
 have:ph[k]=p:=by rw[Ot hk] at h;exact Option.some.inj h
 rw[this];rfl
noncomputable def JS:@Do:=aW 7 3 (jl Dk)
def JI {l p:@C_}{s:Pr}(h:Mj l p)(hs:p.getLast? =some s){t:Pr}{q:@C_}(e:p=t :: q)(hst:pW l s t=true):LO l p=true:=by
 unfold LO
 rw[O9]
 intro i hi
 have hi:=Po.mp hi
 by_cases c:i=0
 ·subst c
  rw[Ov rfl,O6,<-QR,hs,e]
  exact hst
 ·rw[OA c]
  refine h (i - 1) _ _ ?_ ?_
  ·rw[O6,Ot (@AT)];rfl
  ·rw[show i - 1 + 1=i by omega,O6,Ot hi];rfl
def Nk {n:Nat}{l put:@C_}{t:Pr}(O:OM.Ord n l)(hz:put.length<=100)(htp:¬t∈put)(hb:t∈putAll n l put):∃r,JS [aA n l,.tuple (put.map aB),aB t]=.ok (.list (r.map aB)) false/\(∀x,x∈r->x=t\/x∈put)/\r.Nodup/\r≠ []/\LO l r=true:=by
 show ∃r,fin (jl Dk [@E_,.fz (.tuple (put.map aB)),.fz (aB t),.no,.no,.no,.no] 0)=_/\_
 unfold jl
 rw[aL (env':=[@E_,.fz (.tuple (put.map aB)),.fz (aB t),.ow (.list ([[t]].map pD)),.no,.no,.no]) (β':=0) (by
  rw[lL,lp (ds:=[pD [t]]) (ac (lp (ds:=[aB t]) (ac rfl an)) an)];rfl)]
 rw[aL (env':=[@E_,.fz (.tuple (put.map aB)),.fz (aB t),.ow (.list ([[t]].map pD)),.fz (.tuple (put.map aB)),.no,.no]) (β':=0) (by rfl)]
 rw[aL (env':=[@E_,.fz (.tuple (put.map aB)),.fz (aB t),.ow (.list ([[t]].map pD)),.fz (.tuple (put.map aB)),.fz (.int ((0:Nat):Int)),.no]) (β':=0) (by rfl)]
 obtain⟨env',β',ew,ph,left,k,p,s,s6,x4,rfl,rfl,R,hp,hs,hst⟩:=i8 (L:=[0] ++ ((@EQ ++ []) ++ ([2] ++ []))) (t:=pz (i6 (au Dk (ae (gv 0) (ae (f2 (f2 (gv 3) (gv 5) b7) (f1 @Ch nV) b7) (ae (gv 2) ag))))))
  (m:=aK (bK 6 ([] ++ [0]) (aU 1 [0,3,5] (.nm 0) (bR (gv 4)) (i6 (au Dk (ae (gv 1) (ae (f2 (f2 (gv 2) (gv 3) b7) (f1 @Ch nV) b7) (ae (gv 0) ag))))) (gv 0)))
   (aK (bK 4 @EQ (aU 1 [6] (.nm 0) (bR (gv 4)) (cP (f2 (gv 0) (gv 1) (nU true))) (gv 0)))
   (aK (AM 3 @EQ (aU 1 [3,5] (.nm 0) (bR (gv 6)) nO (f2 (f2 (gv 1) (gv 2) b7) (bz (ae (gv 0) ag)) kZ)))
   (bK 5 @EQ (f2 (gv 5) @Ch cj)))))
  (λm env b=>∃ph left k s6,∃q4:List D->D,(q4=PyData.list\/q4=PyData.tuple)/\env= [@E_,.fz (.tuple (put.map aB)),.fz (aB t),.ow (.list (ph.map pD)),.fz (q4 (left.map aB)),.fz (.int ((k:Nat):Int)),s6]/\b=0/\RI l put t ph left k/\m=put.length + 1 - k)
  (λenv b=>∃ph left k p s s6 x4,env= [@E_,.fz (.tuple (put.map aB)),.fz (aB t),.ow (.list (ph.map pD)),.fz x4,.fz (.int ((k:Nat):Int)),s6]/\b=0/\RI l put t ph left k/\ph[k]? =some p/\p.getLast? =some s/\pW l s t=true)
  (n:=1000) (k:=put.length + 1) (env:=[@E_,.fz (.tuple (put.map aB)),.fz (aB t),.ow (.list ([[t]].map pD)),.fz (.tuple (put.map aB)),.fz (.int ((0:Nat):Int)),.no]) (β:=0) (@AT)
  ⟨[[t]],put,0,.no,PyData.tuple,.inr rfl,rfl,rfl,⟨λp hp=>by
    rw[OY] at hp;subst hp
    exact⟨[],rfl,(λx hx=>by cases hx),by simp,(λi a b _ hb=>by simp at hb)⟩,λx hx=>hx,λx hx=>.inl hx,⟨[t],by simp,rfl⟩,λi p s hi=>@AT,by simp;omega,@AT ⟩,@AT ⟩ (by
   rintro m env b ⟨ph,left,k,s6,q4,h4,rfl,rfl,R,rfl⟩
   have hk:=R.lt O hb
   obtain⟨p,hp⟩:∃p,ph[k]? =some p:=⟨_,Ot hk⟩
   have hpm:p∈ph:=PF.mpr ⟨k,hp⟩
   obtain⟨q,eq,hq,hnd,hch⟩:=R.pth p hpm
   obtain⟨s,hs⟩:∃s,p.getLast? =some s:=⟨_,List.getLast?_eq_some_getLast (by rw[eq];exact List.cons_ne_nil _ _)⟩
   have hcnt:=R.cnt
   have hpl:p.length<=put.length + 1:=by
    have h1:q.length<=put.length:=by
     rw[eq] at hnd
     exact yC (Pz.mp hnd).2 λx hx=>(hq x hx).1
    rw[eq,O5];omega
   have el:∀s6:Sl,f2 (f2 (gv 3) (gv 5) b7) (f1 @Ch nV) b7 (vl [@E_,.fz (.tuple (put.map aB)),.fz (aB t),.ow (.list (ph.map pD)),.fz (q4 (left.map aB)),.fz (.int ((k:Nat):Int)),s6]) 0=.ok (aB s) 0:=λs6=>aG (x:=pD p) (y:=.int (-1)) (aG (x:=.list (ph.map pD)) (y:=.int k) rfl rfl (Aq hp)) rfl (Ec hs)
   have et:pz (i6 (au Dk (ae (gv 0) (ae (f2 (f2 (gv 3) (gv 5) b7) (f1 @Ch nV) b7) (ae (gv 2) ag))))) (vl [@E_,.fz (.tuple (put.map aB)),.fz (aB t),.ow (.list (ph.map pD)),.fz (q4 (left.map aB)),.fz (.int ((k:Nat):Int)),s6]) 0=.ok (!pW l s t) 0:=jI (iA (av (F:=Dk) (ds:=[aA n l,aB s,aB t]) (b:=false) (ac rfl (ac (el s6) (ac rfl an))) (GW n l s t)))
   refine⟨_,_,et,?_⟩
   cases hst:pW l s t with
   |true=>exact .inl ⟨rfl,ph,left,k,p,s,s6,_,rfl,rfl,R,hp,hs,hst⟩
   |false=>
    refine .inr ⟨rfl,?_⟩
    show ∃env2 β2 k',aK _ _ [@E_,.fz (.tuple (put.map aB)),.fz (aB t),.ow (.list (ph.map pD)),.fz (q4 (left.map aB)),.fz (.int ((k:Nat):Int)),s6] 0=.nx env2 β2/\k' < put.length + 1 - k/\_
    generalize hfr:left.filter (λx=>pW l s x)=fr
    have hfl:fr.length<=left.length:=by rw[<-hfr];exact Pa _ _
    have e6:aU 1 [0,3,5] (.nm 0) (bR (gv 4)) (i6 (au Dk (ae (gv 1) (ae (f2 (f2 (gv 2) (gv 3) b7) (f1 @Ch nV) b7) (ae (gv 0) ag))))) (gv 0) (vl [@E_,.fz (.tuple (put.map aB)),.fz (aB t),.ow (.list (ph.map pD)),.fz (q4 (left.map aB)),.fz (.int ((k:Nat):Int)),s6]) 0=.ok (.list (fr.map aB)) 0:=by
     rw[<-hfr]
     refine cx (l:=left) (e:=aB) (λx=>pW l s x) aB (by rcases h4 with h4 |h4 <;> rw[h4] <;> rfl) (@AT) λx hx=>⟨[.da (aB x),.da (aA n l),.da (.list (ph.map pD)),.da (.int ((k:Nat):Int))],rfl,?_,λ_=>rfl⟩
     have e2:f2 (f2 (gv 2) (gv 3) b7) (f1 @Ch nV) b7 [.da (aB x),.da (aA n l),.da (.list (ph.map pD)),.da (.int ((k:Nat):Int))] 0=.ok (aB s) 0:=aG (x:=pD p) (y:=.int (-1)) (aG (x:=.list (ph.map pD)) (y:=.int k) rfl rfl (Aq hp)) rfl (Ec hs)
     exact iA (av (F:=Dk) (ds:=[aA n l,aB s,aB x]) (b:=false) (ac rfl (ac e2 (ac rfl an))) (GW n l s x))
    rw[aL (env':=[@E_,.fz (.tuple (put.map aB)),.fz (aB t),.ow (.list (ph.map pD)),.fz (q4 (left.map aB)),.fz (.int ((k:Nat):Int)),.fz (.list (fr.map aB))]) (β':=0) (by rw[cL,e6];rfl)]
    have e4:aU 1 [6] (.nm 0) (bR (gv 4)) (cP (f2 (gv 0) (gv 1) (nU true))) (gv 0) (vl [@E_,.fz (.tuple (put.map aB)),.fz (aB t),.ow (.list (ph.map pD)),.fz (q4 (left.map aB)),.fz (.int ((k:Nat):Int)),.fz (.list (fr.map aB))]) 0=.ok (.list ((left.filter λx=> !decide (x∈fr)).map aB)) 0:=by
     refine cx (l:=left) (e:=aB) (λx=> !decide (x∈fr)) aB (by rcases h4 with h4 |h4 <;> rw[h4] <;> rfl) (@AT) λx hx=>⟨_,rfl,?_,λ_=>rfl⟩
     exact gr _ _ _ _ (aG (x:=aB x) (y:=.list (fr.map aB)) rfl rfl (Gq true x fr))
    have R':=R.step htp hp hs hst hfr
    generalize hlf:(left.filter λx=> !decide (x∈fr))=left' at e4 R'
    rw[aL (env':=[@E_,.fz (.tuple (put.map aB)),.fz (aB t),.ow (.list (ph.map pD)),.fz (.list (left'.map aB)),.fz (.int ((k:Nat):Int)),.fz (.list (fr.map aB))]) (β':=0) (by rw[cL,e4];rfl)]
    have e3:aU 1 [3,5] (.nm 0) (bR (gv 6)) nO (f2 (f2 (gv 1) (gv 2) b7) (bz (ae (gv 0) ag)) kZ) (vl [@E_,.fz (.tuple (put.map aB)),.fz (aB t),.ow (.list (ph.map pD)),.fz (.list (left'.map aB)),.fz (.int ((k:Nat):Int)),.fz (.list (fr.map aB))]) 0=.ok (.list ((fr.map λx=>p ++ [x]).map pD)) 0:=by
     rw[QX]
     refine dC (l:=fr) (e:=aB) (λx=>pD (p ++ [x])) rfl (@AT) λx hx=>⟨[.da (aB x),.da (.list (ph.map pD)),.da (.int ((k:Nat):Int))],rfl,?_⟩
     refine aG (x:=pD p) (y:=.list [aB x]) (aG (x:=.list (ph.map pD)) (y:=.int k) rfl rfl (Aq hp)) (lp (ds:=[aB x]) (ac rfl an)) ?_
     rw[oH (by rw[OB,Pf];omega)]
     show some (PyData.list (p.map aB ++ [x].map aB))=_
     rw[<-Pb]
    rw[aL (env':=[@E_,.fz (.tuple (put.map aB)),.fz (aB t),.ow (.list ((ph ++ fr.map λx=>p ++ [x]).map pD)),.fz (.list (left'.map aB)),.fz (.int ((k:Nat):Int)),.fz (.list (fr.map aB))]) (β':=0) ?g3]
    case g3=>
     rw[EH (i:=3) (ds:=ph.map pD) (by rfl) e3 (by rfl) (by rw[OB,OB,OB];omega),<-Pb];rfl
    refine⟨[@E_,.fz (.tuple (put.map aB)),.fz (aB t),.ow (.list ((ph ++ fr.map λx=>p ++ [x]).map pD)),.fz (.list (left'.map aB)),.fz (.int ((k + 1:Nat):Int)),.fz (.list (fr.map aB))],0,put.length + 1 - (k + 1),?_,@AT,_,_,_,_,PyData.list,.inl rfl,rfl,rfl,R',rfl⟩
    rw[show ((k + 1:Nat):Int)=(k:Int) + 1 by omega];rfl)
 obtain⟨q,eq,hq,hnd,hch⟩:=R.pth p (PF.mpr ⟨k,hp⟩)
 refine⟨p,?_,λx hx=>?_,hnd,by rw[eq];exact List.cons_ne_nil _ _,JI hch hs eq hst⟩
 ·rw[aL ew,gJ,aG (x:=.list (ph.map pD)) (y:=.int k) (d:=pD p) (β1:=0) (β2:=0) rfl rfl (Aq hp)];rfl
 ·rw[eq] at hx
  rcases OC.mp hx with h |h
  ·exact .inl h
  ·exact .inr (hq x h).1
def BW (l:@C_)(p:Pr):Bool:=((l.filter λq=>decide (q.2=p.1)).all λq=>decide ((q.1,p.2)∈l)) && ((l.filter λq=>decide (q.1=p.2)).all λq=>decide ((p.1,q.2)∈l))
def lX:@Do:=aW 4 3 kY
theorem FZ {n:Nat}{l:@C_}(hl:l.length<=1000)(a b:Int):lX [aA n l,.int a,.int b]=.ok (.bool (BW l (a,b))) false:=by
 show fin (kY [@E_,.fz (.int a),.fz (.int b),.no] 0)=_
 unfold kY
 rw[aL (env':=[@E_,.fz (.int a),.fz (.int b),.fz (.tuple (l.map aB))]) (β':=0) (by rfl)]
 have e1:aU 2 [1,2,3] (.two 0 1) (bR (gv 3)) (cP (f2 (gv 1) (gv 2) (c9 false))) (f2 (aO (ae (gv 0) (ae (gv 3) ag))) (gv 4) (nU false)) [.da (aA n l),.da (.int a),.da (.int b),.da (.tuple (l.map aB))] 0=.ok (.list ((l.filter λq=>decide (q.2=a)).map λq=>PyData.bool (decide ((q.1,b)∈l)))) 0:=
  cx (l:=l) (e:=aB) (λq=>decide (q.2=a)) (λq=>PyData.bool (decide ((q.1,b)∈l))) rfl hl λq hq=>⟨_,rfl,js (neg:=false) (i:=q.2) (j:=a) rfl rfl,λ_=>aG (fT (a:=q.1) (b:=b) rfl rfl) rfl (nW false (q.1,b) l)⟩
 have e2:aU 2 [2,1,3] (.two 0 1) (bR (gv 3)) (cP (f2 (gv 0) (gv 2) (c9 false))) (f2 (aO (ae (gv 3) @J_)) (gv 4) (nU false)) [.da (aA n l),.da (.int a),.da (.int b),.da (.tuple (l.map aB))] 0=.ok (.list ((l.filter λq=>decide (q.1=b)).map λq=>PyData.bool (decide ((a,q.2)∈l)))) 0:=
  cx (l:=l) (e:=aB) (λq=>decide (q.1=b)) (λq=>PyData.bool (decide ((a,q.2)∈l))) rfl hl λq hq=>⟨_,rfl,js (neg:=false) (i:=q.1) (j:=b) rfl rfl,λ_=>aG (fT (a:=a) (b:=q.2) rfl rfl) rfl (nW false (a,q.2) l)⟩
 have t1:pz (i6 (f1 (aU 2 [1,2,3] (.two 0 1) (bR (gv 3)) (cP (f2 (gv 1) (gv 2) (c9 false))) (f2 (aO (ae (gv 0) (ae (gv 3) ag))) (gv 4) (nU false))) (b9 λbs=>bs.all id))) (vl [@E_,.fz (.int a),.fz (.int b),.fz (.tuple (l.map aB))]) 0=.ok (!((l.filter λq=>decide (q.2=a)).all λq=>decide ((q.1,b)∈l))) 0:=jI (iA (C5 e1))
 unfold BW
 dsimp only
 cases c:((l.filter λq=>decide (q.2=a)).all λq=>decide ((q.1,b)∈l)) with
 |false=>
  rw[c] at t1
  rw[mB (d:=.bool false) (b:=false) (β':=0) ?g]
  case g=>rw[dQ t1];rfl
  rfl
 |true=>
  rw[c] at t1
  rw[aL (env':=[@E_,.fz (.int a),.fz (.int b),.fz (.tuple (l.map aB))]) (β':=0) ?g]
  case g=>rw[bI t1];rfl
  rw[gJ]
  show fin (toS (f1 (aU 2 [2,1,3] (.two 0 1) (bR (gv 3)) (cP (f2 (gv 0) (gv 2) (c9 false))) (f2 (aO (ae (gv 3) @J_)) (gv 4) (nU false))) (b9 λbs=>bs.all id) [.da (aA n l),.da (.int a),.da (.int b),.da (.tuple (l.map aB))] 0) _)=_
  rw[C5 e2];rfl
noncomputable def u6:@Do:=aW 1 1 (cn nH lX)
def xC {n:Nat}{l:@C_}(O:OM.Ord n l):u6 [aA n l]=.ok (.list (((si n l).filter (BW l)).map aB)) true:=by
 have hl:=Ap O
 have e:aU 2 [0] (.two 0 1) (bR (au nH (ae (gv 0) ag))) (i6 (au lX (ae (gv 2) (ae (gv 0) @J_)))) (aO (ae (gv 0) @J_)) [.da (aA n l)] 0=.ok (.list (((si n l).filter (BW l)).map aB)) 0:=by
  have hi:bR (au nH (ae (gv 0) ag)) [.da (aA n l)] 0=.ok ((si n l).map aB) 0:=by
   unfold bR
   rw[av (ds:=[aA n l]) rfl (vg O)];rfl
  exact cx (l:=si n l) (e:=aB) (BW l) aB hi (by have:=EM (l:=l) O.hi;omega) λp hp=>⟨_,rfl,iA (av (ds:=[aA n l,.int p.1,.int p.2]) rfl (FZ (@AT) p.1 p.2)),λ_=>fT rfl rfl⟩
 show fin (toS (aU 2 [0] (.two 0 1) (bR (au nH (ae (gv 0) ag))) (i6 (au lX (ae (gv 2) (ae (gv 0) @J_)))) (aO (ae (gv 0) @J_)) [.da (aA n l)] 0) _)=_
 rw[e];rfl
def j3 (n:Nat)(l put:@C_)(t:Pr):putAll n l (put ++ [t])=putL n (putAll n l put) t:=by unfold putAll;rw[List.foldl_append];rfl
theorem Aa {n:Nat}:∀{put l:@C_} {p:Pr},((0<=p.1/\p.1 < n)/\(0<=p.2/\p.2 < n))->p∈l->p∈putAll n l put
 | [],l,p,_,h=>h
 |t :: put,l,p,hr,h=>Aa (put:=put) (l:=putL n l t) hr ((l6 hr).mpr (.inl h))
def EX {n:Nat}{l:@C_}{r:List Int}{t:Pr}(hR:Row n l r)(h:r.idxOf t.2 < r.idxOf t.1):Row n (putL n l t) r:=by
 refine⟨hR.1,?_⟩
 have hf:=hR.2
 unfold Ct at hf ⊢
 rw[O9] at hf ⊢
 intro p hp
 have q:∀x y:Int,lr l x y=true->r.idxOf x<=r.idxOf y:=λx y hxy=>by
  rcases fN.mp hxy with e |hm
  ·rw[e];exact Ox _
  ·exact QG (Qs (hf _ hm))
 rcases o9 hp with hm | ⟨a,b⟩
 ·exact hf p hm
 ·have:=q _ _ a
  have:=q _ _ b
  exact OE (@AT)
def yU {n:Nat}{l:@C_}{r:List Int}{p:Pr}(hR:Row n l r)(h:p∈l):r.idxOf p.1 < r.idxOf p.2:=by
 have hf:=hR.2
 unfold Ct at hf
 exact Qs (O9.mp hf p h)
structure Pt (n:Nat)(l:@C_)(put:@C_):Prop where
 ord:OM.Ord n (putAll n l put)
 tr:∀p,p∈put->p∈si n l
 tnd:∀p,p∈put->(p.2,p.1)∈putAll n l put
def yb {n:Nat}{l:@C_}(O:OM.Ord n l):Pt n l []:=⟨O,(λp h=>by cases h),λp h=>by cases h⟩
def Pt.more {n:Nat}{l put:@C_}{t:Pr}(h:Pt n l put)(ht:t∈si n l)(hb:¬t∈putAll n l put):Pt n l (put ++ [t]):=by
 obtain⟨hr,ha⟩:=jn.mp ht
 have hn:lr (putAll n l put) t.1 t.2=false:=by
  cases z:lr (putAll n l put) t.1 t.2 with
  |false=>rfl
  |true=>
   rcases fN.mp z with e |e
   ·unfold JJ at ha;rw[e] at ha;simp at ha
   ·exact absurd e hb
 refine⟨by rw[j3];exact EV h.ord hn,λp hp=>?_,λp hp=>?_⟩
 ·rcases OR.mp hp with z |z
  ·exact h.tr p z
  ·rw[OY] at z;subst z;exact ht
 ·rw[j3]
  rcases OR.mp hp with z |z
  ·exact zC h.ord (h.tnd p z)
  ·rw[OY] at z;subst z;exact qZ hr
def uS (n:Nat)(l put:@C_):D:=.tuple [cm n (bC (putAll n l put)),.tuple (put.map aB)]
def dR (n:Nat)(l:@C_)(pts:List (@C_)):D:=.list (pts.map (uS n l))
def AN:@Do:=aW 2 2 (ju EG)
def LK {n:Nat}{l:@C_}{t:Pr}(h8:n<=8)(h:(0<=t.1/\t.1 < n)/\(0<=t.2/\t.2 < n)):AN [cm n (bC l),aB t]=.ok (.bool (decide ((t.2,t.1)∈l))) false:=by
 show fin (ju EG [@IR,.fz (aB t)] 0)=_
 unfold ju
 exact gZ (jE (av (ds:=[cm n (bC l),.int t.2,.int t.1]) (ac rfl (ac (aG (x:=aB t) (y:=.int 1) rfl rfl rfl) (ac (aG (x:=aB t) (y:=.int 0) rfl rfl rfl) an))) (IZ h8 h.2 h.1)) rfl)
def AH (n:Nat)(l:@C_)(pts:List (@C_))(t:Pr):Bool:=pts.any λput=>decide ((t.2,t.1)∈putAll n l put)
noncomputable def Bp:@Do:=aW 2 2 (jx Ef)
def Kh {n:Nat}{l:@C_}{pts:List (@C_)}{t:Pr}(h8:n<=8)(hz:pts.length<=100)(h:(0<=t.1/\t.1 < n)/\(0<=t.2/\t.2 < n)):∃k:Nat,Bp [dR n l pts,aB t]=.ok (.int k) false:=by
 refine⟨(pts.filter λput=> !decide (t∈putAll n l put)).length,?_⟩
 show fin (jx Ef [.fz (dR n l pts),.fz (aB t)] 0)=_
 unfold jx
 have ec:aU 2 [1] (.two 0 1) (bR (gv 0)) (pz (i6 (au Ef (ae (gv 0) (ae (gv 2) ag))))) (gv 0) (vl [.fz (dR n l pts),.fz (aB t)]) 0=.ok (.list ((pts.filter λput=> !decide (t∈putAll n l put)).map λput=>cm n (bC (putAll n l put)))) 0:=
  cx (l:=pts) (e:=uS n l) (λput=> !decide (t∈putAll n l put)) (λput=>cm n (bC (putAll n l put))) rfl (@AT) λput _=>⟨[.da (cm n (bC (putAll n l put))),.da (.tuple (put.map aB)),.da (aB t)],rfl,jI (iA (av (ds:=[cm n (bC (putAll n l put)),aB t]) rfl (Jg h8 h))),λ_=>rfl⟩
 refine gZ (jE (j4 ec ?_) rfl)
 show some (int _)=_
 rw[OB]
def IS {ir:Nat}{fa fb:VF D}{vs:List Nv}{β:Int}{ts:@C_}{dr:D}(h:fa vs β=.ok (.list (ts.map aB)) β)(hr:vs[ir]? =some (.da dr))(hne:ts≠ [])(hk:∀t,t∈ts->∃k:Nat,fb [.da (aB t),.da dr] β=.ok (.int k) β):∃t,t∈ts/\zM ir fa fb vs β=.ok (aB t) β:=by
 have hl:0 < ts.length:=List.length_pos_iff.mpr hne
 unfold zM
 rw[h]
 dsimp only[R.bnd]
 rw[show dat vs[ir]? =some dr by rw[hr];rfl]
 dsimp only
 have hall:(ts.map aB).all (λd=>(l0 fb dr β d).isSome)=true:=by
  rw[O9]
  intro d hd
  obtain⟨t,ht,rfl⟩:=Pj.mp hd
  obtain⟨k,e⟩:=hk t ht
  unfold l0
  rw[e];rfl
 rw[Ov ⟨by rw[OB];exact hl,hall⟩]
 have hb:=(qH (ks:=(ts.map aB).map λd=>(l0 fb dr β d).getD 0) (by rw[OB,OB];exact hl)).1
 generalize w9 ((ts.map aB).map λd=>(l0 fb dr β d).getD 0)=b at hb
 rw[OB,OB] at hb
 refine⟨ts[b],P0 hb,?_⟩
 rw[OK,Ot hb];rfl
section
variable {m m':SF}{env:En}{β β1:Int}{Q:SO->Prop}{L:@G_}
def GG {t:Tg}{fi:VF (List D)}{ds:List D}(Pd:D->Prop)(I:Nat->En->Int->Prop)(hi:fi (vl env) β=.ok ds β1)(h0:I 0 (aY L env) β1)
  (hs:∀i d env β,ds[i]? =some d->I i env β->∃env1,gY t d env=some env1/\WP (m env1 β) λs=>(∃d β2,s=.rt d false β2/\Pd d)\/∃env2 β2,s=.nx env2 β2/\I (i + 1) env2 β2)
  (kr:∀d β,Pd d->Q (.rt d false β)) (k:∀env β,I ds.length env β->WP (m' env β) Q):WP (aK (iq t L fi m) m' env β) Q:=by
 have key:∀(k i:Nat),i + k=ds.length->∀env β,I i env β->(∃d β2,ly t m (ds.drop i) env β=.rt d false β2/\Pd d)\/∃env2 β2,ly t m (ds.drop i) env β=.nx env2 β2/\I ds.length env2 β2:=by
  intro k
  induction k with
  |zero=>
   intro i hik env β h
   have:i=ds.length:=@AT
   subst this
   rw[QJ]
   exact .inr ⟨env,β,rfl,h⟩
  |succ k ih=>
   intro i hik env β h
   have hlt:i < ds.length:=@AT
   obtain⟨env1,e1,⟨h1⟩⟩:=hs i ds[i] env β (Ot hlt) h
   rw[Qu hlt]
   rcases h1 with⟨d,β2,e2,hp⟩ | ⟨env2,β2,e2,h2⟩
   ·exact .inl ⟨d,β2,by unfold ly;rw[e1];dsimp only;rw[e2],hp⟩
   ·have e3:ly t m (ds[i] :: ds.drop (i + 1)) env β=ly t m (ds.drop (i + 1)) env2 β2:=by conv=>lhs;unfold ly;rw[e1];dsimp only;rw[e2]
    rw[e3]
    exact ih (i + 1) (@AT) env2 β2 h2
 have e0:=key ds.length 0 (@AT) _ _ h0
 rw[List.drop_zero] at e0
 rcases e0 with⟨d,β2,e,hp⟩ | ⟨env2,β2,e,h2⟩
 ·exact⟨by rw[mB ((gP hi).trans e)];exact kr d β2 hp⟩
 ·exact wp_seq ((gP hi).trans e) (k _ _ h2)
end
def fD (pts:List (@C_))(i:Nat)(t:Pr):List (@C_):=pts.take i ++ [pts.getD i [] ++ [t]] ++ pts.drop (i + 1)
def qY {pts:List (@C_)}{i:Nat}{t:Pr}(hi:i < pts.length):(fD pts i t).length=pts.length:=by
 unfold fD;rw[OT,OT,Pu,Qw,Pf];omega
def mJ {pts:List (@C_)}{i:Nat}{t:Pr}{put:@C_}(hi:pts[i]? =some put)(j:Nat):(fD pts i t)[j]? =if j=i then some (put ++ [t]) else pts[j]?:=by
 have hlt:=(Oy.mp hi).1
 have hg:pts.getD i []=put:=by rw[O6,hi];rfl
 unfold fD
 rw[hg]
 by_cases h:j < i
 ·rw[OA (@AT),Qe,O0 (by rw[Pu];omega),List.getElem?_take,Ov h]
 ·rw[Qe,O2 (by rw[Pu];omega),Pu,Nat.min_eq_left (@AT)]
  by_cases e:j=i
  ·rw[Ov e,show j - i=0 by omega];rfl
  ·rw[OA e,O2 (by rw[Pf];omega),Pf,List.getElem?_drop]
   congr 1
   omega
def Ft (n:Nat)(l:@C_)(pts:List (@C_))(rs:List (List Int)):Prop:=rs.length=pts.length/\∀(i:Nat) (r:List Int) (put:@C_),rs[i]? =some r->pts[i]? =some put->Row n (putAll n l put) r
def Tn (r:List Int)(t:Pr):Prop:=r.idxOf t.2 < r.idxOf t.1
def Np (n:Nat)(l:@C_)(pts:List (@C_))(left:@C_):Prop:=∀rs,Ft n l pts rs->∃t,t∈left/\∀r,r∈rs->¬Tn r t
def LM (n:Nat)(l:@C_)(pts:List (@C_))(left:@C_)(d:D):Prop:=∃rs,d=.tuple [.str "rows",.list (rs.map tupI)]/\Ft n l pts rs/\∀t,t∈left->∃r,r∈rs/\Tn r t
def IU (n:Nat)(l:@C_):Nat->D->List (@C_)->Prop
 | 0,_,_=>False
 |k + 1,d,pts=>(∃(i:Nat) (r q:@C_),d=.tuple [.str "ring",.int i,.list (r.map aB)]/\pts[i]? =some q/\(∀x,x∈r->x∈q)/\r≠ []/\LO l r=true/\r.length<=100/\∀x,x∈r->x∈si n l)\/
  ∃(t:Pr) (zs:List D),d=.tuple [.str "turn",aB t,.tuple zs]/\t∈si n l/\zs.length=pts.length/\∀i z,zs[i]? =some z->IU n l k z (fD pts i t)
noncomputable def Jk (F:@Do):@Do:=aW 7 5 (iW F Ef JS Jm)
noncomputable def Ew (F:@Do):@Do:=aW 8 3 (eZ (Jk F) AN JT Bp)
def CF {n:Nat}{l:@C_}{pts:List (@C_)}{i:Nat}{put:@C_}(hi:pts[i]? =some put):b7 (dR n l pts) (.int (i:Int))=some (uS n l put):=ko (by rw[OK,hi];rfl)
def B8 {n:Nat}{l:@C_}{pts:List (@C_)}{i:Nat}{t:Pr}{put:@C_}(hi:pts[i]? =some put):dR n l (fD pts i t)=.list ((pts.map (uS n l)).take i ++ [PyData.tuple [cm n (bC (putL n (putAll n l put) t)),.tuple (put.map aB ++ [aB t])]] ++ (pts.map (uS n l)).drop (i + 1)):=by
 have hg:pts.getD i []=put:=by rw[O6,hi];rfl
 unfold dR fD
 rw[hg,Pb,Pb,List.map_take,List.map_drop]
 show PyData.list (_ ++ [uS n l (put ++ [t])] ++ _)=_
 unfold uS
 rw[j3,Pb];rfl
def CL {n:Nat}{l:@C_}{F:@Do}{pts:List (@C_)}{left:D}{i:Nat}{put:@C_}{t:Pr}{Q:SO->Prop}(h8:n<=8)(hi:pts[i]? =some put)(hr:(0<=t.1/\t.1 < n)/\(0<=t.2/\t.2 < n))
  (k:WP (aK (iF ([5] ++ ([4] ++ [])) (λvs β=>i6 (au Ef (ae (gv 5) (ae (gv 4) ag))) vs β)
    (bM (aO (ae (cst (.str "ring")) (ae (gv 3) (ae (au JS (ae (gv 0) (ae (gv 6) (ae (gv 4) ag)))) ag)))))
    mO)
   (bM (au F (ae (gv 0) (ae (gv 1) (ae (f2 (f2 (By (gv 2) (λ_ β=>.ok none β) (BR (gv 3))) (bz (ae (aO (ae (au Jm (ae (gv 5) (ae (gv 4) ag))) (ae (f2 (gv 6) (aO (ae (gv 4) ag)) qz) ag))) ag)) kZ) (By (gv 2) (BR (f2 (gv 3) @Ch cj)) (λ_ β=>.ok none β)) kZ) ag))))) @F_ 0) Q) :
  WP (iW F Ef JS Jm [@E_,.fz left,.fz (dR n l pts),.fz (.int (i:Int)),.fz (aB t),.no,.no] 0) Q:=by
 unfold iW
 refine eY (d:=cm n (bC (putAll n l put))) (β1:=0) (aG (x:=uS n l put) (y:=.int 0) (aG (x:=dR n l pts) (y:=.int i) rfl rfl (CF hi)) rfl rfl) ?_
 refine eY (d:=.tuple (put.map aB)) (β1:=0) (aG (x:=uS n l put) (y:=.int 1) (aG (x:=dR n l pts) (y:=.int i) rfl rfl (CF hi)) rfl rfl) ?_
 exact wp_at @F_ rfl k
def Kb {n:Nat}{l:@C_}{F:@Do}{pts:List (@C_)}{left:D}{i:Nat}{put:@C_}{t:Pr}(O:OM.Ord n l)(hi:pts[i]? =some put)(hp:Pt n l put)(hz:put.length<=100)(ht:t∈si n l)(hb:t∈putAll n l put) :
  ∃r,Jk F [aA n l,left,dR n l pts,.int (i:Int),aB t]=.ok (.tuple [.str "ring",.int i,.list (r.map aB)]) false/\(∀x,x∈r->x=t\/x∈put)/\r.Nodup/\r≠ []/\LO l r=true:=by
 obtain⟨hr,ha⟩:=jn.mp ht
 have htp:¬t∈put:=λh=>hp.ord.irr _ (hp.ord.tr _ _ _ hb (hp.tnd t h))
 obtain⟨r,er,h1,h2,h3,h4⟩:=Nk O hz htp hb
 refine⟨r,?_,h1,h2,h3,h4⟩
 show fin (iW F Ef JS Jm [@E_,.fz left,.fz (dR n l pts),.fz (.int (i:Int)),.fz (aB t),.no,.no] 0)=_
 refine gZ (CL O.hi hi hr ?_)
 have eb:i6 (au Ef (ae (gv 5) (ae (gv 4) ag))) (vl @F_) 0=.ok true 0:=by
  rw[<-OE hb]
  exact iA (av (ds:=[cm n (bC (putAll n l put)),aB t]) rfl (Jg O.hi hr))
 refine om eb (qh (kG (ds:=[.str "ring",.int i,.list (r.map aB)]) (ac rfl (ac rfl (ac (av (ds:=[aA n l,.tuple (put.map aB),aB t]) rfl er) an))) @IN) rfl)
def LG {n:Nat}{l:@C_}{F:@Do}{pts:List (@C_)}{left d:D}{i:Nat}{put:@C_}{t:Pr}{b:Bool}(h8:n<=8)(hi:pts[i]? =some put)(hl:pts.length<=100)(hz:put.length<=100)(ht:t∈si n l)(hb:¬t∈putAll n l put)(hF:F [aA n l,left,dR n l (fD pts i t)]=.ok d b) :
  Jk F [aA n l,left,dR n l pts,.int (i:Int),aB t]=.ok d false:=by
 obtain⟨hr,ha⟩:=jn.mp ht
 show fin (iW F Ef JS Jm [@E_,.fz left,.fz (dR n l pts),.fz (.int (i:Int)),.fz (aB t),.no,.no] 0)=_
 refine gZ (CL h8 hi hr ?_)
 have eb:i6 (au Ef (ae (gv 5) (ae (gv 4) ag))) (vl @F_) 0=.ok false 0:=by
  rw[<-ON hb]
  exact iA (av (ds:=[cm n (bC (putAll n l put)),aB t]) rfl (Jg h8 hr))
 refine l9 eb (wp_at @F_ rfl ?_)
 refine jE (av (ds:=[aA n l,left,dR n l (fD pts i t)]) (ac rfl (ac rfl (ac ?_ an))) hF) rfl
 rw[B8 hi]
 have a1:au Jm (ae (gv 5) (ae (gv 4) ag)) (vl @F_) 0=.ok (cm n (bC (putL n (putAll n l put) t))) 0:=av (ds:=[cm n (bC (putAll n l put)),aB t]) rfl (Nq h8 hr)
 have a2:f2 (gv 6) (aO (ae (gv 4) ag)) qz (vl @F_) 0=.ok (.tuple (put.map aB ++ [aB t])) 0:=Kd (a:=put.map aB) (b:=[aB t]) rfl (tp (ac rfl an)) (by rw[OB];simp;omega)
 refine He (He (DQ (ds:=pts.map (uS n l)) rfl rfl) (lp (ac (tp (ac a1 (ac a2 an))) an)) ?_) (zN (ds:=pts.map (uS n l)) rfl (NS rfl)) ?_
 ·rw[Pu,OB];simp;omega
 ·rw[OT,Pu,Qw,OB];simp;omega
open Classical in
noncomputable def rv (n:Nat)(l put:@C_):List Int:=if h:OM.Ord n (putAll n l put) then Classical.choose (KY (late:=[]) h @IN) else []
def wG {n:Nat}{l put:@C_}(h:OM.Ord n (putAll n l put)):JT [cm n (bC (putAll n l put)),.list []]=.ok (tupI (rv n l put)) false/\Row n (putAll n l put) (rv n l put):=by
 have:=Classical.choose_spec (KY (late:=[]) h @IN)
 unfold rv
 rw[dif_pos h]
 exact⟨this.1,this.2.1⟩
def FH (n:Nat)(l:@C_)(pts:List (@C_))(left:@C_):@C_:=left.filter λt=> !AH n l pts t
abbrev xU (n:Nat)(l:@C_)(pts:List (@C_))(left:@C_)(s3 s4 s5 s6 s7:Sl):En:=[@E_,.fz (.list (left.map aB)),.fz (dR n l pts),s3,s4,s5,s6,s7]
def GB {α:Type}{fa:VF D}{vs:List Nv}{β:Int}{l:List α}{f:α->Bool}(h:fa vs β=.ok (.list (l.map λq=>PyData.bool (f q))) β):f1 fa (b9 λbs=>bs.any id) vs β=.ok (.bool (l.any f)) β:=j4 h (by simp only[b9];rw[iV];simp[List.any_map])
def Hj {n:Nat}{l:@C_}{pts:List (@C_)}{left:@C_}(h8:n<=8)(hl:pts.length<=100)(hz:left.length<=100)(ht:∀t,t∈left->t∈si n l)(s3 s4 s5 s6 s7:Sl) :
  aU 1 [2] (.nm 0) (bR (gv 1)) (pz (i6 (f1 (aU 2 [0] (.two 0 1) (bR (gv 1)) nO (au AN (ae (gv 0) (ae (gv 2) ag)))) (b9 λbs=>bs.any id)))) (gv 0) (vl (xU n l pts left s3 s4 s5 s6 s7)) 0=.ok (.list ((FH n l pts left).map aB)) 0:=by
 refine cx (l:=left) (e:=aB) (λt=> !AH n l pts t) aB rfl (@AT) λt hm=>⟨[.da (aB t),.da (dR n l pts)],rfl,jI (iA ?_),λ_=>rfl⟩
 refine GB (l:=pts) (f:=λput=>decide ((t.2,t.1)∈putAll n l put)) ?_
 exact dC (l:=pts) (e:=uS n l) (λput=>PyData.bool (decide ((t.2,t.1)∈putAll n l put))) rfl (@AT) λput _=>⟨[.da (cm n (bC (putAll n l put))),.da (.tuple (put.map aB)),.da (aB t)],rfl,av (ds:=[cm n (bC (putAll n l put)),aB t]) rfl (LK h8 (jn.mp (ht t hm)).1)⟩
def KD {n:Nat}{l:@C_}{pts:List (@C_)}{t:Pr}(h:AH n l pts t=true):∃(j:Nat) (put:@C_),pts[j]? =some put/\(t.2,t.1)∈putAll n l put:=by
 unfold AH at h
 obtain⟨put,hm,hd⟩:=List.any_eq_true.mp h
 obtain⟨j,hj⟩:=PF.mp hm
 exact⟨j,put,hj,Qs hd⟩
def LL {n:Nat}{l:@C_}{pts:List (@C_)}{rs:List (List Int)}(h:Ft n l pts rs){j:Nat}{put:@C_}(hj:pts[j]? =some put):∃r,rs[j]? =some r/\r∈rs/\Row n (putAll n l put) r:=by
 have hlt:=(Oy.mp hj).1
 have hl:=h.1
 have e:rs[j]? =some (rs[j]'(@AT)):=Ot (@AT)
 exact⟨_,e,P0 (@AT),h.2 j _ _ e hj⟩
def Hb {n:Nat}{l:@C_}{pts:List (@C_)}{rs:List (List Int)}{t:Pr}(h:Ft n l pts rs)(ht:AH n l pts t=true):∃r,r∈rs/\Tn r t:=by
 obtain⟨j,put,hj,hm⟩:=KD ht
 obtain⟨r,_,hr,hR⟩:=LL h hj
 exact⟨r,hr,yU hR hm⟩
def Gj {n:Nat}{l:@C_}{pts:List (@C_)}{rs:List (List Int)}{i:Nat}{t:Pr}{put:@C_}(hi:pts[i]? =some put)(hP:∀q,q∈pts->Pt n l q)(h:Ft n l (fD pts i t) rs):Ft n l pts rs:=by
 have hlt:=(Oy.mp hi).1
 refine⟨by rw[h.1,qY hlt],λj r q hr hq=>?_⟩
 by_cases e:j=i
 ·subst e
  rw[hi] at hq;cases hq
  have:=h.2 j r (put ++ [t]) hr (by rw[mJ hi,Ov rfl])
  rw[j3] at this
  refine⟨this.1,?_⟩
  have hf:=this.2
  unfold Ct at hf ⊢
  rw[O9] at hf ⊢
  exact λp hp=>hf p (zC (hP _ (OV hi)).ord hp)
 ·exact h.2 j r q hr (by rw[mJ hi,OA e];exact hq)
def GP {n:Nat}{l:@C_}{pts:List (@C_)}{rs:List (List Int)}{i:Nat}{t:Pr}{put:@C_}{r:List Int}(hi:pts[i]? =some put)(hr:rs[i]? =some r)(ht:Tn r t)(h:Ft n l pts rs):Ft n l (fD pts i t) rs:=by
 have hlt:=(Oy.mp hi).1
 refine⟨by rw[h.1,qY hlt],λj r' q hr' hq=>?_⟩
 rw[mJ hi] at hq
 by_cases e:j=i
 ·subst e
  rw[Ov rfl] at hq;cases hq
  rw[hr] at hr';cases hr'
  rw[j3]
  exact EX (h.2 j r put hr hi) ht
 ·rw[OA e] at hq
  exact h.2 j r' q hr' hq
def Br (n:Nat)(l:@C_)(pts:List (@C_))(ud:@C_)(t:Pr)(j:Nat):Prop:=∀rs r,Ft n l pts rs->rs[j]? =some r->Tn r t->∃u,u∈ud/\∀r,r∈rs->¬Tn r u
def yN:SeqAt.shaped (.str "rows")=true/\∀s∈([Str.ofString "rows",Str.ofString "ring",Str.ofString "turn"]:@H_),SeqAt.shaped (.str s)=true/\PyData.eqv (.str s) (.str "rows")=decide (s="rows"):=@Ev
def mK {fa:VF D}{vs:List Nv}{β:Int}{s:Str}(hs:s∈([Str.ofString "rows",Str.ofString "ring",Str.ofString "turn"]:@H_)){neg:Bool}(h:fa vs β=.ok (.str s) β):cP (f2 fa (cst (.str "rows")) (c9 neg)) vs β=.ok (if neg then !decide (s="rows") else decide (s="rows")) β:=gr _ _ _ _ (aG h rfl (by unfold c9;rw[(yN.2 s hs).1,yN.1,(yN.2 s hs).2];cases neg <;> rfl))
theorem len0 {fa:VF D}{vs:List Nv}{β:Int}{ds:List D}(h:fa vs β=.ok (.list ds) β):cP (f2 (f1 fa c6) @Fa (c9 false)) vs β=.ok ds.isEmpty β:=by
 have:=js (neg:=false) (fa:=f1 fa c6) (fb:=cst (.int 0)) (vs:=vs) (β:=β) (i:=ds.length) (j:=0) (o4 h) rfl
 rw[this]
 cases ds with
 |nil=>rfl
 |cons d ds=>congr 1
def Hk {n:Nat}{l:@C_}{F:@Do}{pts:List (@C_)}{left:@C_}(O:OM.Ord n l)(hl:pts.length<=64)(hP:∀put,put∈pts->Pt n l put)(ht:∀t,t∈left->t∈si n l)(hz:left.length<=64)(hu:FH n l pts left= []):∃d,Ew F [aA n l,.list (left.map aB),dR n l pts]=.ok d false/\LM n l pts left d:=by
 have hR:Ft n l pts (pts.map (rv n l)):=⟨by rw[OB],λi r put hr hp=>by
  rw[OK,hp] at hr
  cases hr
  exact (wG (hP put (OV hp)).ord).2⟩
 refine⟨.tuple [.str "rows",.list ((pts.map (rv n l)).map tupI)],?_,pts.map (rv n l),rfl,hR,λt hm=>?_⟩
 ·show fin (eZ (Jk F) AN JT Bp (xU n l pts left .no .no .no .no .no) 0)=_
  unfold eZ
  have eu:=Hj (pts:=pts) O.hi (@AT) (@AT) ht .no .no .no .no .no
  rw[hu] at eu
  refine gZ (eY eu (wp_at (xU n l pts left (.fz (.list [])) .no .no .no .no) rfl ?_))
  refine om (len0 (ds:=[]) rfl) (qh (kG (ds:=[.str "rows",.list ((pts.map (rv n l)).map tupI)]) (ac rfl (ac ?_ an)) @IN) rfl)
  rw[QX]
  exact dC (l:=pts) (e:=uS n l) (λput=>tupI (rv n l put)) rfl (@AT) λput hp=>⟨[.da (cm n (bC (putAll n l put))),.da (.tuple (put.map aB))],rfl,av (ds:=[cm n (bC (putAll n l put)),.list []]) (ac rfl (ac (lp (ds:=[]) an) an)) (wG (hP put hp).ord).1⟩
 ·have:AH n l pts t=true:=by
   cases c:AH n l pts t with
   |true=>rfl
   |false=>
    have:t∈FH n l pts left:=OG.mpr ⟨hm,by rw[c];rfl⟩
    rw[hu] at this;cases this
  exact Hb hR this
theorem MS {n:Nat}{l:@C_}(O:OM.Ord n l):∀(k:Nat) (pts:List (@C_)) (left:@C_),pts.length<=64->(∀put,put∈pts->Pt n l put)->(∀t,t∈left->t∈si n l)->left.length<=64->(FH n l pts left).length<=k->(∀put,put∈pts->put.length + k<=70)->
  ∃d,pd Ew (k + 1) [aA n l,.list (left.map aB),dR n l pts]=.ok d false/\(LM n l pts left d\/((∃t zs,d=.tuple [.str "turn",aB t,.tuple zs]/\zs.length=pts.length)/\IU n l (k + 1) d pts/\Np n l pts left)):=by
 intro k
 induction k with
 |zero=>
  intro pts left hl hP ht hz hu hk
  obtain⟨d,e,h⟩:=Hk (F:=pd Ew 0) O hl hP ht hz (List.length_eq_zero_iff.mp (@AT))
  exact⟨d,e,.inl h⟩
 |succ k ih=>
  intro pts left hl hP ht hz hu hk
  by_cases hu0:FH n l pts left= []
  ·obtain⟨d,e,h⟩:=Hk (F:=pd Ew (k + 1)) O hl hP ht hz hu0
   exact⟨d,e,.inl h⟩
  have eu:=Hj (pts:=pts) O.hi (@AT) (@AT) ht .no .no .no .no .no
  have hud:∀t,t∈FH n l pts left->t∈left/\AH n l pts t=false:=λt h=>by
   have:=OG.mp h
   exact⟨this.1,by simpa using this.2⟩
  generalize hU:FH n l pts left=ud at eu hu hu0 hud
  have hut:∀t,t∈ud->t∈si n l:=λt h=>ht t (hud t h).1
  have huz:ud.length<=64:=by rw[<-hU];exact Pw (Pa _ _) hz
  obtain⟨t,htu,em⟩:=IS (ir:=2) (fa:=gv 3) (fb:=au Bp (ae (gv 1) (ae (gv 0) ag))) (vs:=vl (xU n l pts left (.fz (.list (ud.map aB))) .no .no .no .no)) (β:=0) (ts:=ud) (dr:=dR n l pts) rfl rfl hu0 λt h=>by
   obtain⟨j,e⟩:=Kh (l:=l) (pts:=pts) O.hi (@AT) (jn.mp (hut t h)).1
   exact⟨j,av (ds:=[dR n l pts,aB t]) rfl e⟩
  have htt:=hut t htu
  have br:∀i,i < pts.length->∃d,Jk (pd Ew (k + 1)) [aA n l,.list (ud.map aB),dR n l pts,.int (i:Int),aB t]=.ok d false/\(LM n l pts left d\/((∃s y z,d=.tuple [.str s,y,z]/\(s="ring"\/s="turn"))/\IU n l (k + 1) d (fD pts i t)/\Br n l pts ud t i)):=λi hi=>by
   obtain⟨put,hp⟩:∃put,pts[i]? =some put:=⟨_,Ot hi⟩
   have hpm:=OV hp
   have hpk:=hk put hpm
   by_cases hb:t∈putAll n l put
   ·obtain⟨r,e,h1,h2,h3,h4⟩:=Kb (F:=pd Ew (k + 1)) (left:=.list (ud.map aB)) O hp (hP put hpm) (@AT) htt hb
    have hmr:∀x,x∈r->x∈put ++ [t]:=λx hx=>by
     rcases h1 x hx with h |h
     ·simp[h]
     ·simp[h]
    refine⟨_,e,.inr ⟨⟨_,_,_,rfl,.inl rfl⟩,.inl ⟨i,r,put ++ [t],rfl,by rw[mJ hp,Ov rfl],hmr,h3,h4,?_,λx hx=>?_⟩,λrs r' hf hr hT=>?_⟩⟩
    ·have:=yC h2 hmr
     rw[OT,Pf] at this
     omega
    ·rcases h1 x hx with h |h
     ·rw[h];exact htt
     ·exact (hP put hpm).tr x h
    ·have:=yU (hf.2 i r' put hr hp) hb
     unfold Tn at hT
     omega
   ·have hlt:(FH n l (fD pts i t) ud).length<=k:=by
     have hlt:(ud.filter λu=> !AH n l (fD pts i t) u).length < ud.length:=by
      rw[List.length_filter_lt_length_iff_exists]
      refine⟨t,htu,?_⟩
      have:AH n l (fD pts i t) t=true:=by
       unfold AH
       refine List.any_eq_true.mpr ⟨put ++ [t],PF.mpr ⟨i,by rw[mJ hp,Ov rfl]⟩,OE ?_⟩
       rw[j3]
       exact qZ (jn.mp htt).1
      rw[this];simp
     have e9:FH n l (fD pts i t) ud=ud.filter λu=> !AH n l (fD pts i t) u:=rfl
     rw[e9];omega
    have hmem:∀q,q∈fD pts i t->q=put ++ [t]\/q∈pts:=λq hq=>by
     obtain⟨j,hj⟩:=PF.mp hq
     rw[mJ hp] at hj
     split at hj
     ·cases hj;exact .inl rfl
     ·exact .inr (OV hj)
    obtain⟨d,e,h⟩:=ih (fD pts i t) ud (by rw[qY hi];exact hl) (λq hq=>by
     rcases hmem q hq with rfl |h
     ·exact (hP put hpm).more htt hb
     ·exact hP q h) hut huz hlt (λq hq=>by
     rcases hmem q hq with rfl |h
     ·rw[OT,Pf];omega
     ·have:=hk q h;omega)
    refine⟨d,LG O.hi hp (@AT) (@AT) htt hb e,?_⟩
    rcases h with⟨rs,rfl,hf,hT⟩ | ⟨⟨t',zs,rfl,_⟩,hPap,hN⟩
    ·have hf':=Gj hp hP hf
     refine .inl ⟨rs,rfl,hf',λu hu'=>?_⟩
     cases c:AH n l pts u with
     |true=>exact Hb hf' c
     |false=>exact hT u (by rw[<-hU];exact OG.mpr ⟨hu',by rw[c];rfl⟩)
    ·exact .inr ⟨⟨_,_,_,rfl,.inr rfl⟩,hPap,λrs r hf hr hT=>hN rs (GP hp hr hT hf)⟩
  have W:WP (eZ (Jk (pd Ew (k + 1))) AN JT Bp (xU n l pts left .no .no .no .no .no) 0) λs=>∃d β,s=.rt d false β/\(LM n l pts left d\/((∃t zs,d=.tuple [.str "turn",aB t,.tuple zs]/\zs.length=pts.length)/\IU n l (k + 1 + 1) d pts/\Np n l pts left)):=by
   unfold eZ
   refine eY eu (wp_at (xU n l pts left (.fz (.list (ud.map aB))) .no .no .no .no) rfl ?_)
   have e0:=len0 (fa:=gv 3) (vs:=vl (xU n l pts left (.fz (.list (ud.map aB))) .no .no .no .no)) (β:=0) (ds:=ud.map aB) rfl
   rw[show (ud.map aB).isEmpty=false by cases ud with |nil=>exact absurd rfl hu0 |cons a b=>rfl] at e0
   refine l9 e0 (wp_at (xU n l pts left (.fz (.list (ud.map aB))) .no .no .no .no) rfl ?_)
   refine eY em (wp_at (xU n l pts left (.fz (.list (ud.map aB))) (.fz (aB t)) .no .no .no) rfl ?_)
   refine E9 (lp (ds:=[]) an) (wp_at (xU n l pts left (.fz (.list (ud.map aB))) (.fz (aB t)) (.ow (.list [])) .no .no) rfl ?_)
   refine GG (ds:=fO 0 pts.length) (β1:=0) (LM n l pts left) (λi env β=>β=0/\∃zs s6 s7,env=xU n l pts left (.fz (.list (ud.map aB))) (.fz (aB t)) (.ow (.list zs)) s6 s7/\zs.length=i/\i<=pts.length/\∀j z,zs[j]? =some z->IU n l (k + 1) z (fD pts j t)/\Br n l pts ud t j) ?_ ⟨rfl,[],.no,.no,rfl,rfl,O7 _,λj z h=>by simp at h⟩ ?_ (λd β h=>⟨d,β,rfl,.inl h⟩) ?_
   ·refine gO ?_ (@AT)
    rw[o4 (ds:=pts.map (uS n l)) rfl,OB]
   ·rintro i d env β hd ⟨rfl,zs,s6,s7,rfl,hzl,_,hzs⟩
    obtain⟨hi,rfl⟩:=jS hd
    rw[PN]
    refine⟨xU n l pts left (.fz (.list (ud.map aB))) (.fz (aB t)) (.ow (.list zs)) (.fz (.int (i:Int))) s7,rfl,?_⟩
    obtain⟨d,ed,hd⟩:=br i hi
    refine eY (d:=d) (β1:=0) (av (ds:=[aA n l,.list (ud.map aB),dR n l pts,.int (i:Int),aB t]) rfl ed) (wp_at (xU n l pts left (.fz (.list (ud.map aB))) (.fz (aB t)) (.ow (.list zs)) (.fz (.int (i:Int))) (.fz d)) rfl ?_)
    rcases hd with h | ⟨⟨s,y,z,rfl,hs⟩,hPap,hB⟩
    ·have h':=h
     obtain⟨rs,rfl,_⟩:=h'
     refine om (mK (neg:=false) (s:="rows") @IN (aG (x:=.tuple [.str "rows",.list (rs.map tupI)]) (y:=.int 0) rfl rfl rfl)) (Ff ?_)
     exact⟨(λa b z=>by cases z),.inl ⟨_,_,rfl,h⟩⟩
    ·have hsm:s∈([Str.ofString "rows",Str.ofString "ring",Str.ofString "turn"]:@H_):=by rcases hs with h |h <;> simp[h]
     have e2:=mK (neg:=false) hsm (fa:=f2 (gv 7) @Fa b7) (vs:=vl (xU n l pts left (.fz (.list (ud.map aB))) (.fz (aB t)) (.ow (.list zs)) (.fz (.int (i:Int))) (.fz (.tuple [.str s,y,z])))) (β:=0) (aG (x:=.tuple [.str s,y,z]) (y:=.int 0) rfl rfl rfl)
     have hne:decide (s="rows")=false:=by rcases hs with rfl |rfl <;> decide +kernel
     rw[hne] at e2
     refine l9 e2 (wp_at (xU n l pts left (.fz (.list (ud.map aB))) (.fz (aB t)) (.ow (.list zs)) (.fz (.int (i:Int))) (.fz (.tuple [.str s,y,z]))) rfl (zk ?_))
     refine HV (ds:=zs) rfl rfl rfl (@AT) (xi (.inr ⟨_,_,rfl,rfl,zs ++ [.tuple [.str s,y,z]],_,_,rfl,by rw[OT,Pf];omega,@AT,λj z' hj=>?_⟩))
     by_cases c:j < zs.length
     ·rw[O0 c] at hj
      exact hzs j z' hj
     ·rw[O2 (@AT)] at hj
      have hj0:j - zs.length=0:=by
       have:=(Oy.mp hj).1
       rw[Pf] at this;omega
      rw[hj0] at hj
      cases hj
      have:j=i:=@AT
      subst this
      exact⟨hPap,hB⟩
   ·rintro env β ⟨rfl,zs,s6,s7,rfl,hzl,_,hzs⟩
    rw[iS] at hzl
    refine jE (kG (ds:=[.str "turn",aB t,.tuple zs]) (ac rfl (ac rfl (ac (j4 (x:=.list zs) rfl rfl) an))) @IN) ⟨_,_,rfl,.inr ⟨⟨t,zs,rfl,hzl⟩,.inr ⟨t,zs,rfl,htt,hzl,λj z hj=>(hzs j z hj).1⟩,λrs hf=>?_⟩⟩
    by_cases c:∃r,r∈rs/\Tn r t
    ·obtain⟨r,hr,hT⟩:=c
     obtain⟨j,hj⟩:=PF.mp hr
     have hjl:j < zs.length:=by
      have:=(Oy.mp hj).1
      have:=hf.1
      omega
     obtain⟨u,hu1,hu2⟩:=(hzs j _ (Ot hjl)).2 rs r hf hj hT
     exact⟨u,(hud u hu1).1,hu2⟩
    ·exact⟨t,(hud t htu).1,λr hr hT=>c ⟨r,hr,hT⟩⟩
  obtain⟨d,β,e,h⟩:=W.out
  refine⟨d,?_,h⟩
  show fin (eZ (Jk (pd Ew (k + 1))) AN JT Bp (xU n l pts left .no .no .no .no .no) 0)=_
  rw[e];rfl
abbrev sq (n:Nat)(l:@C_):@C_:=(si n l).filter (BW l)
noncomputable def BV:@Do:=aW 3 2 (qg NF (pd Ew 40) u6)
def Dm (n:Nat)(l:@C_)(c:Nat):Prop:=∃rs:List (List Int),rs.length=c/\(∀r,r∈rs->Row n l r)/\∀t,t∈sq n l->∃r,r∈rs/\Tn r t
def yD {n:Nat}{l:@C_}{c:Nat}{rs:List (List Int)}:Ft n l (List.replicate c []) rs↔rs.length=c/\∀r,r∈rs->Row n l r:=by
 constructor
 ·rintro⟨h1,h2⟩
  rw[Pe] at h1
  refine⟨h1,λr hr=>?_⟩
  obtain⟨i,hi⟩:=PF.mp hr
  exact h2 i r [] hi (by rw[PH,Ov (by have:=(Oy.mp hi).1;omega)])
 ·rintro⟨h1,h2⟩
  refine⟨by rw[Pe];exact h1,λi r put hr hp=>?_⟩
  rw[PH] at hp
  split at hp
  ·cases hp;exact h2 r (OV hr)
  ·cases hp
def FP {n:Nat}{l:@C_}{c:Nat}:Np n l (List.replicate c []) (sq n l)↔¬Dm n l c:=by
 constructor
 ·rintro h ⟨rs,h1,h2,h3⟩
  obtain⟨t,ht,hn⟩:=h rs (yD.mpr ⟨h1,h2⟩)
  obtain⟨r,hr,hT⟩:=h3 t ht
  exact hn r hr hT
 ·intro h rs hf
  refine Classical.byContradiction λhc=>h ?_
  obtain⟨h1,h2⟩:=yD.mp hf
  refine⟨rs,h1,h2,λt ht=>Classical.byContradiction λhn=>hc ⟨t,ht,λr hr hT=>hn ⟨r,hr,hT⟩⟩⟩
def Dm.mono {n:Nat}{l:@C_}{c c':Nat}(O:OM.Ord n l)(h:Dm n l c)(hc:c<=c'):Dm n l c':=by
 obtain⟨rs,h1,h2,h3⟩:=h
 have hv:=(wG (n:=n) (l:=l) (put:=[]) O).2
 refine⟨rs ++ List.replicate (c' - c) (rv n l []),by rw[OT,Pe];omega,λr hr=>?_,λt ht=>?_⟩
 ·rcases OR.mp hr with h |h
  ·exact h2 r h
  ·rw[PD h];exact hv
 ·obtain⟨r,hr,hT⟩:=h3 t ht
  exact⟨r,OR.mpr (.inl hr),hT⟩
def JN {n:Nat}{l:@C_}(O:OM.Ord n l):Dm n l (sq n l).length:=by
 refine⟨(sq n l).map λt=>rv n l [t],by rw[OB],λr hr=>?_,λt ht=>⟨rv n l [t],Pj.mpr ⟨t,ht,rfl⟩,?_⟩⟩
 ·obtain⟨t,ht,rfl⟩:=Pj.mp hr
  have htt:=(OG.mp ht).1
  have hP:=(yb O).more htt (λh=>by
   have:=(jn.mp htt).2
   unfold JJ at this
   have h:t∈l:=h
   simp[h] at this)
  have:=(wG hP.ord).2
  refine⟨this.1,?_⟩
  have hf:=this.2
  unfold Ct at hf ⊢
  rw[O9] at hf ⊢
  exact λp hp=>hf p (Aa (O.wn p hp) hp)
 ·have htt:=(OG.mp ht).1
  have hP:=(yb O).more htt (λh=>by
   have:=(jn.mp htt).2
   unfold JJ at this
   have h:t∈l:=h
   simp[h] at this)
  exact yU (wG hP.ord).2 (hP.tnd t @IN)
def xc {d:D}{c:Nat}(h:c<=64):rC (.list [d]) (.int (c:Int))=some (.list (List.replicate c d)):=by
 have e:(List.replicate c [d]).flatten=List.replicate c d:=by
  clear h
  induction c with
  |zero=>rfl
  |succ c ih=>rw[Pq,P4,ih,Pq];rfl
 have key:∀k:Int,0<=k->k<=64->rC (.list [d]) (.int k)=some (.list (List.replicate k.toNat [d]).flatten):=λk h0 h1=>Ov ⟨@AT,@AT,sz _ (by simp;omega)⟩
 rw[key c (@AT) (@AT),O8,e]
def IX {n:Nat}{l:@C_}{c:Nat}(O:OM.Ord n l)(hs:(sq n l).length<=39)(hc:c<=64):∃d,BV [aA n l,.int (c:Int)]=.ok d false/\((∃rs:List (List Int),d=.tuple [.str "rows",.list (rs.map tupI)]/\rs.length=c/\(∀r,r∈rs->Row n l r)/\∀t,t∈sq n l->∃r,r∈rs/\Tn r t)\/((∃t zs,d=.tuple [.str "turn",aB t,.tuple zs]/\zs.length=c)/\IU n l 40 d (List.replicate c [])/\¬Dm n l c)):=by
 obtain⟨d,e,h⟩:=MS O 39 (List.replicate c []) (sq n l) (by rw[Pe];exact hc) (λput hp=>by rw[PD hp];exact yb O) (λt ht=>(OG.mp ht).1) (@AT) (Pw (Pa _ _) hs) (λput hp=>by rw[PD hp];simp)
 refine⟨d,?_,?_⟩
 ·show fin (qg NF (pd Ew 40) u6 [@E_,.fz (.int (c:Int)),.no] 0)=_
  unfold qg
  refine gZ (eY (d:=uS n l []) (β1:=0) (kG (ds:=[cm n (bC l),.tuple []]) (ac (av (ds:=[aA n l]) rfl (Nb O)) (ac (tp (ds:=[]) an) an)) @IN) (wp_at [@E_,.fz (.int (c:Int)),.fz (uS n l [])] rfl ?_))
  refine jE (av (ds:=[aA n l,.list ((sq n l).map aB),dR n l (List.replicate c [])]) (ac rfl (ac (av (ds:=[aA n l]) rfl (xC O)) (ac (aG (x:=.list [uS n l []]) (y:=.int c) (lp (ds:=[uS n l []]) (ac rfl an)) rfl ?_) an))) e) rfl
  show rC (.list [uS n l []]) (.int c)=some (dR n l (List.replicate c []))
  rw[xc hc]
  unfold dR
  rw[List.map_replicate]
 ·rcases h with⟨rs,rfl,hf,hT⟩ | ⟨⟨t,zs,rfl,hz⟩,hP,hN⟩
  ·obtain⟨h1,h2⟩:=yD.mp hf
   exact .inl ⟨rs,rfl,h1,h2,hT⟩
  ·exact .inr ⟨⟨t,zs,rfl,by rw[hz,Pe]⟩,hP,FP.mp hN⟩
noncomputable def Of:@Do:=aW 3 1 (bJ j7 BV)
structure Nt (n:Nat)(l:@C_)(rs:List (List Int)):Prop where
 pos:1<=rs.length
 few:rs.length<=40
 row:∀r,r∈rs->Row n l r
 tn:∀t,t∈sq n l->∃r,r∈rs/\Tn r t
 least:∀c,1<=c->c < rs.length->¬Dm n l c
def M4 {n:Nat}{l:@C_}(O:OM.Ord n l)(hs:(sq n l).length<=39):∃rs,Of [aA n l]=.ok (.list (rs.map tupI)) false/\Nt n l rs:=by
 have W:WP (bJ j7 BV [@E_,.no,.no] 0) λs=>∃d β,s=.rt d false β/\∃rs:List (List Int),d=.list (rs.map tupI)/\Nt n l rs:=by
  unfold bJ
  refine vH (av (ds:=[aA n l]) (ac rfl an) (rH O)) (wp_at [@E_,.no,.no] rfl ?_)
  refine eY (d:=.int 1) (β1:=0) rfl (wp_at [@E_,.fz (.int ((1:Nat):Int)),.no] rfl ?_)
  obtain⟨d1,e1,h1⟩:=IX (c:=1) O hs (@AT)
  refine eY (d:=d1) (β1:=0) (av (ds:=[aA n l,.int ((1:Nat):Int)]) rfl e1) (wp_at [@E_,.fz (.int ((1:Nat):Int)),.fz d1] rfl ?_)
  refine Es (λb env β=>β=0/\∃(c:Nat) (d:D),env= [@E_,.fz (.int (c:Int)),.fz d]/\b=60 - c/\1<=c/\c<=40/\(∀c',1<=c'->c' < c->¬Dm n l c')/\((∃rs:List (List Int),d=.tuple [.str "rows",.list (rs.map tupI)]/\rs.length=c/\(∀r,r∈rs->Row n l r)/\∀t,t∈sq n l->∃r,r∈rs/\Tn r t)\/((∃t zs,d=.tuple [.str "turn",aB t,.tuple zs]/\zs.length=c)/\IU n l 40 d (List.replicate c [])/\¬Dm n l c)))
   (λenv β=>β=0/\∃(c:Nat) (rs:List (List Int)),env= [@E_,.fz (.int (c:Int)),.fz (.tuple [.str "rows",.list (rs.map tupI)])]/\Nt n l rs) 59 (@AT) ⟨rfl,1,d1,rfl,rfl,@AT,@AT,λc' h1 h2=>@AT,h1⟩ ?_ ?_
  ·rintro b env β ⟨rfl,c,d,rfl,rfl,hc1,hc2,hn,h⟩
   rcases h with⟨rs,rfl,hl,hr,ht⟩ | ⟨⟨t,zs,rfl,hz⟩,hP,hD⟩
   ·refine⟨_,_,mK (neg:=true) (s:="rows") @IN (aG (x:=.tuple [.str "rows",.list (rs.map tupI)]) (y:=.int 0) rfl rfl rfl),.inl ⟨by rfl,rfl,c,rs,rfl,⟨@AT,@AT,hr,ht,λc' h1 h2=>hn c' h1 (@AT)⟩⟩⟩
   ·refine⟨_,_,mK (neg:=true) (s:="turn") @IN (aG (x:=.tuple [.str "turn",aB t,.tuple zs]) (y:=.int 0) rfl rfl rfl),.inr ⟨@Ev,wp_at [@E_,.fz (.int (c:Int)),.fz (.tuple [.str "turn",aB t,.tuple zs])] rfl ?_⟩⟩
    have hc:c < 40:=by
     refine Nat.lt_of_not_le λz=>hD ((JN O).mono O (@AT))
    refine eY (d:=.int ((c + 1:Nat):Int)) (β1:=0) (NS rfl) (wp_at [@E_,.fz (.int ((c + 1:Nat):Int)),.fz (.tuple [.str "turn",aB t,.tuple zs])] rfl ?_)
    obtain⟨d2,e2,h2⟩:=IX (c:=c + 1) O hs (@AT)
    refine zk (eY (d:=d2) (β1:=0) (av (ds:=[aA n l,.int ((c + 1:Nat):Int)]) rfl e2) (xi ⟨_,_,60 - (c + 1),rfl,@AT,rfl,c + 1,d2,rfl,rfl,@AT,@AT,λc' h1 h2=>?_,h2⟩))
    by_cases e:c'=c
    ·subst e;exact hD
    ·exact hn c' h1 (@AT)
  ·rintro env β ⟨rfl,c,rs,rfl,h⟩
   exact jE (aG (x:=.tuple [.str "rows",.list (rs.map tupI)]) (y:=.int 1) rfl rfl rfl) ⟨_,_,rfl,rs,rfl,h⟩
 obtain⟨d,β,e,rs,rfl,h⟩:=W.out
 refine⟨rs,?_,h⟩
 show fin (bJ j7 BV [@E_,.no,.no] 0)=_
 rw[e];rfl
noncomputable def yc:@Do:=aW 3 1 (kg nN JX dY mZ)
def Kf (p:Pr):Ge (aB p):=⟨rfl,λes e=>by cases e;exact⟨by simp,λx hx=>by simp at hx;rcases hx with rfl |rfl <;> rfl⟩⟩
def LJ {n:Nat}{p:Pr}(h:(0<=p.1/\p.1 < n)/\(0<=p.2/\p.2 < n)):Nh n (aB p)=true:=by
 show (lB (.int p.1) n && lB (.int p.2) n)=true
 rw[OW];exact⟨OE h.1,OE h.2⟩
open Classical in
theorem Ak {n:Nat}{l:@C_}(h1:1<=n)(h8:n<=8)(wn:OM.Wn n l)(hl:l.length<=100):yc [aA n l]=.ok (.bool (decide (OM.Ord n l))) false:=by
 show fin (kg nN JX dY mZ [@E_,.no,.no] 0)=_
 unfold kg
 rw[aL (env':=[@E_,.no,.no]) (β':=0) (by rfl)]
 rw[aL (env':=[@E_,.fz (.int n),.no]) (β':=0) (by rfl)]
 rw[aL (env':=[@E_,.fz (.int n),.fz (.tuple (l.map aB))]) (β':=0) (by rfl)]
 have e4:au nN @J_ [.da (aA n l),.da (.int n),.da (.tuple (l.map aB))] 0=.ok (.bool true) 0:=av rfl (C6 h1 h8)
 rw[aL (env':=[@E_,.fz (.int n),.fz (.tuple (l.map aB))]) (β':=0) ?h4]
 case h4=>
  refine bI ?_
  show nh (pz (i6 (au nN @J_))) _ [.da (aA n l),.da (.int n),.da (.tuple (l.map aB))] 0=_
  rw[ka,oP,qV,e4]
  rfl
 have e5:aU 1 [1] (.nm 0) (bR (gv 2)) nO (au JX (ae (gv 0) @J_)) [.da (aA n l),.da (.int n),.da (.tuple (l.map aB))] 0=.ok (.list (l.map λ_=>PyData.bool true)) 0:=by
  refine dC (l:=l) (e:=aB) (λ_=>PyData.bool true) rfl (@AT) λp hp=>⟨_,rfl,?_⟩
  refine av (b:=false) (ds:=[aB p,.int n]) rfl ?_
  rw[NL (Kf p),LJ (wn p hp)]
 rw[aL (env':=[@E_,.fz (.int n),.fz (.tuple (l.map aB))]) (β':=0) ?h5]
 case h5=>
  refine bI ?_
  show pz (i6 (f1 (aU 1 [1] (.nm 0) (bR (gv 2)) nO (au JX (ae (gv 0) @J_))) (b9 λbs=>bs.all id))) [.da (aA n l),.da (.int n),.da (.tuple (l.map aB))] 0=_
  rw[oP,qV,j4 (d:=.bool true) e5 (by simp only[b9];rw[iV];simp)]
  rfl
 have e6:au dY (ae (gv 1) (ae (gv 2) ag)) [.da (aA n l),.da (.int n),.da (.tuple (l.map aB))] 0=.ok (.tuple ((OM.jV n (OM.Tr (OM.Mem l))).map aB)) 0:=av rfl (by rw[CQ h1 h8 wn])
 have e7:au mZ (ae (gv 2) ag) [.da (aA n l),.da (.int n),.da (.tuple (l.map aB))] 0=.ok (.bool (l.any λp=>decide (p.1=p.2))) 0:=av rfl (by unfold mZ;simp only[kR];rw[Ov (@AT)])
 show fin (toS (jg (f2 (gv 2) (au dY (ae (gv 1) (ae (gv 2) ag))) (c9 false)) (f1 (au mZ (ae (gv 2) ag)) Ed) [.da (aA n l),.da (.int n),.da (.tuple (l.map aB))] 0) _)=_
 unfold jg
 rw[aG (d:=.bool (decide (l=OM.jV n (OM.Tr (OM.Mem l))))) (x:=.tuple (l.map aB)) rfl e6 (by rw[B3];simp)]
 dsimp only[R.bnd]
 by_cases c:l=OM.jV n (OM.Tr (OM.Mem l))
 ·rw[OE c]
  dsimp only
  rw[j4 (d:=.bool (!(l.any λp=>decide (p.1=p.2)))) e7 rfl]
  have key:(!(l.any λp=>decide (p.1=p.2)))=decide (OM.Ord n l):=by
   rw[O3,P5,OP,List.any_eq_false]
   constructor
   ·intro h
    refine⟨h1,h8,wn,?_,λa ha=>h (a,a) ha @IN,λa b d hab hbd=>?_⟩
    ·rw[c];exact OM.gu _ (OM.jd n)
    ·rw[c]
     exact OM.lH.mpr ⟨⟨(wn _ hab).1,(wn _ hbd).2⟩,.more hab (.one hbd)⟩
   ·intro O p hp he
    have he:=Qs he
    obtain⟨a,b⟩:=p
    simp only at he
    subst he
    exact O.irr a hp
  rw[key];rfl
 ·rw[ON c,ON λO=>c O.closed.symm]
  rfl
def mQ:List D:=[.none,.tuple [],aA 0 [],aA 9 [],aA 2 [(0,2)],aA 3 [(0,1),(1,2)],aA 2 [(0,1),(1,0)],.list [.int 1,.tuple []],.tuple [.bool true,.tuple []],.tuple [.int 2,.list [aB (0,1)]],aA 1 [(0,0)],aA 3 [(1,2),(0,1),(0,2)],.str "1",.tuple [.int 1,.tuple [],.tuple []]]
def uV {n:Nat}{l:@C_}(h1:1<=n)(h8:n<=8)(wn:OM.Wn n l)(hl:l.length<=100)(h:¬OM.Ord n l):yc [aA n l]=.ok (.bool false) false:=by
 classical
 rw[Ak h1 h8 wn hl]
 congr 2
 exact ON h
def JF:∀d,d∈mQ->yc [d]=.ok (.bool false) false:=by
 intro d hd
 unfold mQ at hd
 simp only[OC,PB,Qz] at hd
 rcases hd with rfl |rfl |rfl |rfl |rfl |rfl |rfl |rfl |rfl |rfl |rfl |rfl |rfl |rfl
 ·rfl
 ·rfl
 ·rfl
 ·rfl
 ·rfl
 ·exact uV (@AT) (@AT) (by unfold OM.Wn;decide) @IN λO=>absurd (O.tr 0 1 2 @IN @IN) @Go
 ·exact uV (@AT) (@AT) (by unfold OM.Wn;decide) @IN λO=>absurd (O.tr 0 1 0 @IN @IN) @Go
 ·rfl
 ·rfl
 ·rfl
 ·exact uV (@AT) (@AT) (by unfold OM.Wn;decide) @IN λO=>O.irr 0 @IN
 ·exact uV (@AT) (@AT) (by unfold OM.Wn;decide) @IN λO=>absurd O.ris (by unfold OM.wb;decide)
 ·rfl
 ·rfl
noncomputable def nF:@Do:=aW 1 1 (fR yc)
def MQ {d:D}(h:yc [d]=.ok (.bool false) false):nF [d]=.exc "NoOrder":=by
 show fin (fR yc [.fz d] 0)=_
 unfold fR
 rw[dQ (jI (iA (av (ds:=[d]) rfl h)))]
 rfl
def wD {n:Nat}{l:@C_}(O:OM.Ord n l):nF [aA n l]=.ok .none false:=by
 classical
 show fin (fR yc [@E_] 0)=_
 have h:=Ak O.lo O.hi O.wn (by have:=Ap O;omega)
 rw[OE O] at h
 exact gZ (J4 (jI (iA (av (ds:=[aA n l]) rfl h))) (xi rfl))
def Gg (ds:List D)(h:j7 ds≠.bad):nF ds=j7 ds:=by
 unfold j7 at h
 split at h
 ·obtain⟨n,l,rfl,O⟩:=DK h
  rw[rH O,wD O]
 ·exact absurd rfl h
end RM
section
namespace OM
section
variable {α:Type}(c:α->α->Bool)
def Mv (f:List α->List α->List α)(cs best:List α):List α->List α
 | []=>best
 |p :: ps=>Mv f cs (if (f (cs ++ [p]) (ps.filter (c p))).length > best.length then f (cs ++ [p]) (ps.filter (c p)) else best) ps
def JV:Nat->List α->List α->List α
 | 0,cs,_=>cs
 |k + 1,cs,ps=>Mv c (JV k) cs cs ps
end
end OM
namespace RM
open PySem L2
def An (l:@C_)(p q:Pr):Bool:=pW l p q && pW l q p
def Ks:@Do:=aW 3 3 (p9 Dk)
def MI (n:Nat)(l:@C_)(p q:Pr):Ks [aA n l,aB p,aB q]=.ok (.bool (An l p q)) false:=by
 show fin (p9 Dk [@E_,.fz (aB p),.fz (aB q)] 0)=_
 unfold p9
 rw[gJ,qf (av (ds:=[aA n l,aB p,aB q]) rfl (GW n l p q)) (av (ds:=[aA n l,aB q,aB p]) rfl (GW n l q p))];rfl
def FF {α:Type}{ps:List α}{i:Nat}{p:α}(h:ps[i]? =some p):ps.drop i=p :: ps.drop (i + 1):=by
 obtain⟨hi,e⟩:=Oy.mp h
 rw[Qu hi,e]
theorem GA {ps:@C_}{i:Nat}{d:D}(h:(fV (ps.map aB))[i]? =some d):∃p,ps[i]? =some p/\d=.tuple [.int i,aB p]:=by
 unfold fV at h
 rw[List.getElem?_mapIdx,OK] at h
 cases q:ps[i]? with
 |none=>rw[q] at h;cases h
 |some p=>rw[q] at h;cases h;exact⟨p,rfl,rfl⟩
noncomputable def HA:Nat->@Do:=pd λF=>aW 8 3 (eO F Ks)
abbrev fe (n:Nat)(l cs ps best:@C_)(s4 s5 s6 s7:Sl):En:=[@E_,.fz (.list (cs.map aB)),.fz (.list (ps.map aB)),.fz (.list (best.map aB)),s4,s5,s6,s7]
noncomputable abbrev Cq (F:@Do):SF:=aK (bK 6 ((([] ++ @EQ) ++ []) ++ [0,5]) (aU 1 [0,5] (.nm 0) (bR (By (gv 2) (BR (f2 (gv 4) @Ch cj)) (λ_ β=>.ok none β))) (i6 (au Ks (ae (gv 1) (ae (gv 2) (ae (gv 0) ag))))) (gv 0)))
 (aK (bK 7 ([0] ++ (([] ++ ([5] ++ [])) ++ ([6] ++ []))) (au F (ae (gv 0) (ae (f2 (gv 1) (bz (ae (gv 5) ag)) kZ) (ae (gv 6) ag)))))
 (iF @EQ (cP (f2 (f1 (gv 7) c6) (f1 (gv 3) c6) L4))
 (bK 3 [7] (gv 7))
 mO))
def MD {n:Nat}{l cs ps best:@C_}{F:@Do}{f:@C_->@C_->@C_}{i:Nat}{p:Pr}(hp:ps.length<=100)(hc:cs.length<=200)(hi:ps[i]? =some p)(s6 s7:Sl)
  (hF:F [aA n l,.list ((cs ++ [p]).map aB),.list (((ps.drop (i + 1)).filter (An l p)).map aB)]=.ok (.list ((f (cs ++ [p]) ((ps.drop (i + 1)).filter (An l p))).map aB)) false) :
  ∃t6 t7,Cq F (fe n l cs ps best (.fz (.int i)) (.fz (aB p)) s6 s7) 0=.nx (fe n l cs ps (if (f (cs ++ [p]) ((ps.drop (i + 1)).filter (An l p))).length > best.length then f (cs ++ [p]) ((ps.drop (i + 1)).filter (An l p)) else best) (.fz (.int i)) (.fz (aB p)) t6 t7) 0:=by
 generalize hL:(ps.drop (i + 1)).filter (An l p)=later at hF ⊢
 generalize hR:f (cs ++ [p]) later=r at hF ⊢
 have ei:f2 (gv 4) @Ch cj (vl (fe n l cs ps best (.fz (.int i)) (.fz (aB p)) s6 s7)) 0=.ok (.int ((i + 1:Nat):Int)) 0:=aG (x:=.int i) (y:=.int 1) rfl rfl (by show some (int ((i:Int) + 1))=_;rw[show ((i + 1:Nat):Int)=(i:Int) + 1 by omega])
 have es:bR (By (gv 2) (BR (f2 (gv 4) @Ch cj)) (λ_ β=>.ok none β)) (vl (fe n l cs ps best (.fz (.int i)) (.fz (aB p)) s6 s7)) 0=.ok ((ps.drop (i + 1)).map aB) 0:=by
  unfold bR
  rw[zN (ds:=ps.map aB) (i:=i + 1) rfl ei,List.map_drop];rfl
 have ec:aU 1 [0,5] (.nm 0) (bR (By (gv 2) (BR (f2 (gv 4) @Ch cj)) (λ_ β=>.ok none β))) (i6 (au Ks (ae (gv 1) (ae (gv 2) (ae (gv 0) ag))))) (gv 0) (vl (fe n l cs ps best (.fz (.int i)) (.fz (aB p)) s6 s7)) 0=.ok (.list (later.map aB)) 0:=by
  rw[<-hL]
  exact cx (l:=ps.drop (i + 1)) (e:=aB) (λq=>An l p q) aB es (by rw[Qw];omega) λq hq=>⟨_,rfl,iA (av (ds:=[aA n l,aB p,aB q]) rfl (MI n l p q)),λ_=>rfl⟩
 unfold Cq
 rw[aL (env':=fe n l cs ps best (.fz (.int i)) (.fz (aB p)) (.fz (.list (later.map aB))) s7) (β':=0) (by rw[cL,ec];rfl)]
 have ea:f2 (gv 1) (bz (ae (gv 5) ag)) kZ (vl (fe n l cs ps best (.fz (.int i)) (.fz (aB p)) (.fz (.list (later.map aB))) s7)) 0=.ok (.list ((cs ++ [p]).map aB)) 0:=by
  refine aG (x:=.list (cs.map aB)) (y:=.list [aB p]) rfl (lp (ac rfl an)) ?_
  rw[oH (by rw[OB];simp;omega),Pb];rfl
 rw[aL (env':=fe n l cs ps best (.fz (.int i)) (.fz (aB p)) (.fz (.list (later.map aB))) (.fz (.list (r.map aB)))) (β':=0) (by rw[cL,av (ds:=[aA n l,.list ((cs ++ [p]).map aB),.list (later.map aB)]) (β1:=0) (ac rfl (ac ea (ac rfl an))) hF];rfl)]
 have t:cP (f2 (f1 (gv 7) c6) (f1 (gv 3) c6) L4) (vl (fe n l cs ps best (.fz (.int i)) (.fz (aB p)) (.fz (.list (later.map aB))) (.fz (.list (r.map aB))))) 0=.ok (decide (r.length > best.length)) 0:=by
  refine gr _ _ _ _ (aG (x:=.int ((r.map aB).length:Nat)) (y:=.int ((best.map aB).length:Nat)) rfl rfl ?_)
  rw[OB,OB]
  show some (PyData.bool (decide (((best.length:Nat):Int) < ((r.length:Nat):Int))))=_
  congr 2
  exact PJ.mpr (@AT)
 by_cases h:r.length > best.length
 ·rw[OE h] at t
  rw[dQ t,Ov h]
  exact⟨_,_,rfl⟩
 ·rw[ON h] at t
  rw[bI t,OA h]
  exact⟨_,_,rfl⟩
theorem Kg {n:Nat}{l:@C_}:∀(k:Nat) (cs ps:@C_),ps.length < k->ps.length<=100->cs.length + ps.length<=200->HA k [aA n l,.list (cs.map aB),.list (ps.map aB)]=.ok (.list ((OM.JV (An l) k cs ps).map aB)) false
 | 0,_,_,h,_,_=>absurd h (@AT)
 |k + 1,cs,ps,hk,hp,hc=>by
  show fin (eO (HA k) Ks [@E_,.fz (.list (cs.map aB)),.fz (.list (ps.map aB)),.no,.no,.no,.no,.no] 0)=_
  unfold eO
  rw[aL (env':=fe n l cs ps cs .no .no .no .no) (β':=0) (by rfl)]
  obtain⟨env',β',ef,rfl,best,s4,s5,s6,s7,rfl,hb⟩:=i4 (t:=.two 4 5) (m:=Cq (HA k)) (ds:=fV (ps.map aB)) (k:=0)
   (λi env β=>β=0/\∃(best:@C_) (s4 s5 s6 s7:Sl),env=fe n l cs ps best s4 s5 s6 s7/\OM.Mv (An l) (OM.JV (An l) k) cs best (ps.drop i)=OM.JV (An l) (k + 1) cs ps)
   (env:=fe n l cs ps cs .no .no .no .no) (β:=0) ⟨rfl,cs,.no,.no,.no,.no,rfl,rfl⟩ (by
    rintro i d env β hi ⟨rfl,best,s4,s5,s6,s7,rfl,hb⟩
    obtain⟨p,hpi,rfl⟩:=GA hi
    rw[P7] at hb
    have hil:=(Oy.mp hpi).1
    have hfl:=Pa (An l p) (ps.drop (i + 1))
    rw[Qw] at hfl
    refine⟨fe n l cs ps best (.fz (.int i)) (.fz (aB p)) s6 s7,rfl,?_⟩
    obtain⟨t6,t7,e⟩:=MD (n:=n) (best:=best) (F:=HA k) (f:=OM.JV (An l) k) hp (@AT) hpi s6 s7 (Kg k (cs ++ [p]) _ (@AT) (@AT) (by rw[OT];simp only[O5,length_nil];omega))
    refine⟨_,_,e,rfl,_,_,_,_,_,rfl,?_⟩
    rw[FF hpi] at hb
    rw[show 0 + i + 1=i + 1 by omega,<-hb];rfl)
  have hz:(fV (ps.map aB)).length=ps.length:=by unfold fV;rw[List.length_mapIdx,OB]
  rw[hz,P7,QJ] at hb
  rw[aL (env':=fe n l cs ps best s4 s5 s6 s7) (β':=0) ?zz]
  ·rw[<-hb];rfl
  case zz=>
   rw[gP (env:=fe n l cs ps cs .no .no .no .no) (ds:=fV (ps.map aB)) (β1:=0) (by rfl)]
   exact ef
end RM
end
namespace RM
open PySem L2
section
variable {L:@G_}{f:VF D}{m':SF}{env:En}{β β1:Int}{c:Str}{d:D}
def xE (h:f (vl env) β=.exc c):cB L f env β=.exc c:=by unfold cB;rw[h];rfl
def xS (h:f (vl env) β=.exc c):aK (cB L f) m' env β=.exc c:=Ep (xE h)
def oS (h:f (vl env) β=.ok d β1):aK (cB L f) m' env β=m' (aY L env) β1:=aL (by unfold cB;rw[h];rfl)
def oE (h:f (vl env) β=.ok d β1):cB L f env β=.nx (aY L env) β1:=by unfold cB;rw[h];rfl
end
noncomputable def nE:@Do:=aW 1 1 (gB nF jH Ez)
noncomputable def gF:@Do:=aW 1 1 (cn nE lX)
noncomputable def zb:@Do:=aW 1 1 (cH fj)
noncomputable def Ey:@Do:=aW 3 1 (bJ nF BV)
noncomputable def Ke:@Do:=aW 1 1 (jR Ey)
noncomputable def JU:@Do:=aW 3 2 (cM nF zb BV)
noncomputable def JY:@Do:=aW 5 3 ym
noncomputable def JW:@Do:=aW 3 3 (bS nF zb JY)
noncomputable def N5:@Do:=aW 2 2 (tY JX Ez)
noncomputable def Me:@Do:=aW 2 2 (lQ N5)
noncomputable def Lx:@Do:=aW 2 2 (gz nF Me)
noncomputable def K7:@Do:=aW 1 1 (dG (HA 40) gF)
section
variable {a:D}{c:Str}
def Na (h:nF [a]=.exc c):nE [a]=.exc c:=by
 show fin (gB nF jH Ez [.fz a] 0)=_
 unfold gB
 rw[xS (bQ (ds:=[a]) rfl h)];rfl
def NH (h:nF [a]=.exc c):gF [a]=.exc c:=by
 show fin (cn nE lX [.fz a] 0)=_
 unfold cn
 have e:au nE (ae (gv 0) ag) (vl [.fz a]) 0=.exc c:=bQ (ds:=[a]) rfl (Na h)
 unfold j0 aU bR
 rw[e];rfl
def K5 (h:nF [a]=.exc c):Ey [a]=.exc c:=by
 show fin (bJ nF BV [.fz a,.no,.no] 0)=_
 unfold bJ
 rw[xS (bQ (ds:=[a]) rfl h)];rfl
def Ms (h:nF [a]=.exc c):Ke [a]=.exc c:=by
 show fin (jR Ey [.fz a] 0)=_
 unfold jR
 have e:au Ey (ae (gv 0) ag) (vl [.fz a]) 0=.exc c:=bQ (ds:=[a]) rfl (K5 h)
 unfold bM f1
 rw[e];rfl
def MV {k:D}(h:nF [a]=.exc c):JU [a,k]=.exc c:=by
 show fin (cM nF zb BV [.fz a,.fz k,.no] 0)=_
 unfold cM
 rw[xS (bQ (ds:=[a]) rfl h)];rfl
def Nl {k:D}(h:nF [a]=.exc c):JW [.none,a,k]=.exc c:=by
 show fin (bS nF zb JY [.fz .none,.fz a,.fz k] 0)=_
 unfold bS
 rw[xS (bQ (ds:=[a]) rfl h)];rfl
def M7 (h:nF [a]=.exc c):Lx [.none,a]=.exc c:=by
 show fin (gz nF Me [.fz .none,.fz a] 0)=_
 unfold gz
 rw[xS (bQ (ds:=[a]) rfl h)];rfl
def Mm (h:nF [a]=.exc c):K7 [a]=.exc c:=by
 show fin (dG (HA 40) gF [.fz a] 0)=_
 unfold dG
 have e:au gF (ae (gv 0) ag) (vl [.fz a]) 0=.exc c:=bQ (ds:=[a]) rfl (NH h)
 have e2:ae (au gF (ae (gv 0) ag)) ag (vl [.fz a]) 0=.exc c:=by rw[cU,e];rfl
 have e3:ae (gv 0) (ae (bz ag) (ae (au gF (ae (gv 0) ag)) ag)) (vl [.fz a]) 0=.exc c:=by
  rw[cU]
  show (R.ok a 0).bnd _=_
  dsimp only[R.bnd]
  rw[cU,lp (ds:=[]) an]
  dsimp only[R.bnd]
  rw[e2]
 have e4:au (HA 40) (ae (gv 0) (ae (bz ag) (ae (au gF (ae (gv 0) ag)) ag))) (vl [.fz a]) 0=.exc c:=by
  show (ae (gv 0) (ae (bz ag) (ae (au gF (ae (gv 0) ag)) ag)) (vl [.fz a]) 0).bnd _=_
  rw[e3];rfl
 unfold bM
 rw[e4];rfl
end
def cN (t:Nat):List D:=[.int 0,.int 9,.int (-1 - (t:Int)),.bool true,.none,.str "1",.tuple [.int 1],.list [.int 1],.int (10 ^ 30)]
def K8 (i:Int):nh (pz (i6 (au fj (ae (gv 0) ag)))) (pz (cP (fU @Ch (gv 0) (cst (.int 8)) u7 u7))) (vl [.fz (.int i)]) 0=.ok (!(decide (1<=i) && decide (i<=8))) 0:=by
 have e:fU @Ch (gv 0) (cst (.int 8)) u7 u7 (vl [.fz (.int i)]) 0=.ok (.bool (decide (1<=i) && decide (i<=8))) 0:=qO rfl rfl rfl rfl
 have w:au fj (ae (gv 0) ag) (vl [.fz (.int i)]) 0=.ok (.bool true) 0:=av (ds:=[.int i]) rfl rfl
 rw[ka,oP,qV,w]
 show pz (cP (fU @Ch (gv 0) (cst (.int 8)) u7 u7)) (vl [.fz (.int i)]) 0=_
 rw[oP,gr _ _ _ _ e];rfl
def Gw {i:Int}(h:¬(1<=i/\i<=8)):zb [.int i]=.exc "NoNumber":=by
 show fin (cH fj [.fz (.int i)] 0)=_
 unfold cH
 have t:=K8 i
 rw[show (!(decide (1<=i) && decide (i<=8)))=true by rw[P5,Bool.and_eq_false_iff,Qf,Qf];omega] at t
 rw[dQ t];rfl
def Hx:zb [.int 1]=.ok .none false:=by
 show fin (cH fj [.fz (.int 1)] 0)=_
 unfold cH
 rw[bI (β':=0) (K8 1)];rfl
def Dp {d:D}(h:iy d=false)(h':Iy d=false):zb [d]=.exc "NoNumber":=by
 show fin (cH fj [.fz d] 0)=_
 unfold cH
 have w:au fj (ae (gv 0) ag) (vl [.fz d]) 0=.ok (.bool false) 0:=av (ds:=[d]) rfl (by rw[qk h,h'])
 rw[dQ (β':=0) (by rw[ka,oP,qV,w];rfl)];rfl
def IA {t:Nat}{d:D}(h:d∈cN t):zb [d]=.exc "NoNumber":=by
 unfold cN at h
 simp only[OC,PB,Qz] at h
 rcases h with rfl |rfl |rfl |rfl |rfl |rfl |rfl |rfl |rfl
 ·exact Gw (@AT)
 ·exact Gw (@AT)
 ·exact Gw (@AT)
 ·exact Dp rfl rfl
 ·exact Dp rfl rfl
 ·exact Dp rfl rfl
 ·exact Dp rfl rfl
 ·exact Dp rfl rfl
 ·exact Gw (@AT)
section
variable {n:Nat}{l:@C_}
def KQ (O:OM.Ord n l):nE [aA n l]=.ok (.list ((si n l).map aB)) true:=by
 rw[<-vg O]
 show fin (gB nF jH Ez [@E_] 0)=fin (gB j7 jH Ez [@E_] 0)
 unfold gB
 rw[oS (av (ds:=[aA n l]) rfl (wD O)),oS (av (ds:=[aA n l]) rfl (rH O))]
def LN (O:OM.Ord n l):gF [aA n l]=.ok (.list ((sq n l).map aB)) true:=by
 refine Eq.trans ?_ (xC O)
 show fin (cn nE lX [@E_] 0)=fin (cn nH lX [@E_] 0)
 unfold cn
 have e:au nE (ae (gv 0) ag) (vl [@E_]) 0=au nH (ae (gv 0) ag) (vl [@E_]) 0:=(av (ds:=[aA n l]) rfl (KQ O)).trans (av (ds:=[aA n l]) rfl (vg O)).symm
 unfold j0 aU bR
 rw[e]
def G9 (O:OM.Ord n l)(hs:(sq n l).length<=39):∃rs:List (List Int),Ey [aA n l]=.ok (.list (rs.map tupI)) false:=by
 obtain⟨rs,e,_⟩:=M4 O hs
 refine⟨rs,?_⟩
 rw[<-e]
 show fin (bJ nF BV [@E_,.no,.no] 0)=fin (bJ j7 BV [@E_,.no,.no] 0)
 unfold bJ
 rw[oS (av (ds:=[aA n l]) rfl (wD O)),oS (av (ds:=[aA n l]) rfl (rH O))]
def KG (O:OM.Ord n l)(hs:(sq n l).length<=39):∃d,Ke [aA n l]=.ok d false:=by
 obtain⟨rs,e⟩:=G9 O hs
 refine⟨.int (rs.length:Nat),?_⟩
 show fin (jR Ey [@E_] 0)=_
 unfold jR
 have:=o4 (fa:=au Ey (ae (gv 0) ag)) (vs:=vl [@E_]) (β:=0) (av (ds:=[aA n l]) rfl e)
 rw[OB] at this
 exact gZ (jE this rfl)
def MJ (O:OM.Ord n l){k:D}(h:zb [k]=.exc "NoNumber"):JU [aA n l,k]=.exc "NoNumber":=by
 show fin (cM nF zb BV [@E_,.fz k,.no] 0)=_
 unfold cM
 rw[oS (av (ds:=[aA n l]) rfl (wD O)),xS (bQ (ds:=[k]) rfl h)];rfl
def Kc (O:OM.Ord n l)(hs:(sq n l).length<=39):∃d b,JU [aA n l,.int 1]=.ok d b:=by
 obtain⟨d,e,h⟩:=IX (c:=1) O hs (@AT)
 have W:WP (cM nF zb BV [@E_,.fz (.int 1),.no] 0) λs=>∃d b,fin s=.ok d b:=by
  unfold cM
  refine vH (av (ds:=[aA n l]) (ac rfl an) (wD O)) (wp_at [@E_,.fz (.int 1),.no] rfl ?_)
  refine vH (av (ds:=[.int 1]) (ac rfl an) Hx) (wp_at [@E_,.fz (.int 1),.no] rfl ?_)
  refine eY (d:=d) (β1:=0) (av (ds:=[aA n l,.int ((1:Nat):Int)]) rfl e) (wp_at [@E_,.fz (.int 1),.fz d] rfl ?_)
  rcases h with⟨rs,rfl,_⟩ | ⟨⟨t,zs,rfl,_⟩,_⟩
  ·exact om (mK (neg:=false) (s:="rows") @IN (aG (x:=.tuple [.str "rows",.list (rs.map tupI)]) (y:=.int 0) rfl rfl rfl)) (qh (d:=.none) rfl ⟨_,_,rfl⟩)
  ·exact l9 (mK (neg:=false) (s:="turn") @IN (aG (x:=.tuple [.str "turn",aB t,.tuple zs]) (y:=.int 0) rfl rfl rfl)) ⟨⟨_,_,rfl⟩⟩
 obtain⟨d',b',e'⟩:=W.out
 exact⟨d',b',e'⟩
def Ml (O:OM.Ord n l){k:D}(h:zb [k]=.exc "NoNumber"):JW [.none,aA n l,k]=.exc "NoNumber":=by
 show fin (bS nF zb JY [.fz .none,@E_,.fz k] 0)=_
 unfold bS
 rw[oS (av (ds:=[aA n l]) rfl (wD O)),xS (bQ (ds:=[k]) rfl h)];rfl
def Kw (O:OM.Ord n l):JW [.none,aA n l,.int 1]=.ok (.bool false) false:=by
 show fin (bS nF zb JY [.fz .none,@E_,.fz (.int 1)] 0)=_
 unfold bS
 rw[oS (av (ds:=[aA n l]) rfl (wD O)),oS (av (ds:=[.int 1]) rfl Hx)]
 have b:∀x,JY [.none,aA n l,x]=.ok (.bool false) false:=λx=>by
  show fin (ym [.fz .none,@E_,.fz x,.no,.no] 0)=_
  rfl
 have e:au JY (ae (gv 0) (ae (gv 1) (ae (f2 (bz (ae (aO ag) ag)) (gv 2) rC) ag))) (vl [.fz .none,@E_,.fz (.int 1)]) 0=.ok (.bool false) 0:=av (ds:=[.none,aA n l,.list [.tuple []]]) (ac rfl (ac rfl (ac (aG (x:=.list [.tuple []]) (y:=.int 1) (lp (ac (tp an) an)) rfl (xc (c:=1) (@AT))) an))) (b _)
 exact gZ (jE e rfl)
def Lk (O:OM.Ord n l):Lx [.none,aA n l]=.ok (.bool false) false:=by
 show fin (gz nF Me [.fz .none,@E_] 0)=_
 unfold gz
 rw[oS (av (ds:=[aA n l]) rfl (wD O))]
 have a:Me [.none,aA n l]=.ok (.bool false) false:=by
  show fin (lQ N5 [.fz .none,@E_] 0)=_
  rfl
 exact gZ (om (jI (iA (av (ds:=[.none,aA n l]) rfl a))) (qh (d:=.bool false) rfl rfl))
def KH (O:OM.Ord n l)(hs:(sq n l).length<=39):∃d,K7 [aA n l]=.ok d false:=by
 refine⟨.list ((OM.JV (An l) 40 [] (sq n l)).map aB),?_⟩
 show fin (dG (HA 40) gF [@E_] 0)=_
 unfold dG
 exact gZ (jE (av (ds:=[aA n l,.list (([]:@C_).map aB),.list ((sq n l).map aB)]) (ac rfl (ac (lp (ds:=[]) an) (ac (av (ds:=[aA n l]) rfl (LN O)) an))) (Kg 40 [] (sq n l) (@AT) (@AT) (by simp;omega))) rfl)
end
noncomputable def yX:List D->Int->FB:=sZ 7 1 (eG ra dP ub)
def GV (β:Int):∃(n:Nat) (l:@C_) (β':Int),yX [.int ((4:Nat):Int)] β=.ok (aA n l) false β'/\OM.Ord n l/\n<=4:=by
 obtain⟨j,hj,ej⟩:=lF (m:=4) (@AT) (@AT) β
 show ∃(n:Nat) (l:@C_) (β':Int),Cf (eG ra dP ub [.bx,.fz (.int ((4:Nat):Int)),.no,.no,.no,.no,.no] β)=.ok (aA n l) false β'/\OM.Ord n l/\n<=4
 unfold eG
 generalize hβ1:β / ((4:Nat):Int)=β1 at ej
 have e1:f2 @Ch (oN 0 dP @J_) cj (vl [.bx,.fz (.int ((4:Nat):Int)),.no,.no,.no,.no,.no]) β=.ok (.int ((1 + j:Nat):Int)) β1:=by
  refine aG (x:=.int 1) rfl (kC (by rfl) rfl ej) ?_
  show some (int (1 + (j:Int)))=_
  rw[show ((1 + j:Nat):Int)=1 + (j:Int) by omega]
 rw[aL (env':=[.bx,.fz (.int 4),.fz (.int ((1 + j:Nat):Int)),.no,.no,.no,.no]) (β':=β1) ?g1]
 case g1=>rw[cL,e1];rfl
 have n6:1 + j<=4:=@AT
 generalize hn:1 + j=n at n6
 have n1:1<=n:=@AT
 obtain⟨q,hq,eq⟩:=lF (m:=3) (@AT) (@AT) β1
 generalize hβ2:β1 / ((3:Nat):Int)=β2 at eq
 have e2:f2 @Ch (oN 0 dP (ae (cst (.int 3)) ag)) cj (vl [.bx,.fz (.int 4),.fz (.int n),.no,.no,.no,.no]) β1=.ok (.int ((1 + q:Nat):Int)) β2:=by
  refine aG (x:=.int 1) rfl (kC (ds:=[.int 3]) (by rfl) rfl eq) ?_
  show some (int (1 + (q:Int)))=_
  rw[show ((1 + q:Nat):Int)=1 + (q:Int) by omega]
 have shuf:∀(k:Nat),k<=4->∀b,∃(ms:List Int) (b':Int),ub [.list ((iE k).map int)] b=.ok (tupI ms) false b'/\ms.Perm (iE k):=λk hk b=>Ir (iE k) (by rw[mf];omega) b
 obtain⟨rows,β3,ec,hl,hP⟩:=sg (t:=.nm 0) (fe:=oN 1 ub (ae (f1 (gv 2) gN) ag)) (vs:=i5 1 [0,2] (vl [.bx,.fz (.int 4),.fz (.int n),.no,.no,.no,.no])) tupI (λr:List Int=>r.Perm (iE n)) (ds:=fO 0 (1 + q)) (β:=β2) (by
  intro d hd
  refine⟨[.da d,.bx,.da (.int n)],rfl,λb=>?_⟩
  obtain⟨ms,b',em,pm⟩:=shuf n n6 b
  refine⟨ms,b',kC (ds:=[.list ((iE n).map int)]) (β1:=b) (by rfl) ?_ em,pm⟩
  rw[cU,j4 (x:=.int n) (d:=.list ((iE n).map int)) (β1:=b) rfl (wQ (@AT))];rfl)
 rw[iS] at hl
 have ef:aU 1 [0,2] (.nm 0) (fm (f2 @Ch (oN 0 dP (ae (cst (.int 3)) ag)) cj)) nO (oN 1 ub (ae (f1 (gv 2) gN) ag)) (vl [.bx,.fz (.int 4),.fz (.int n),.no,.no,.no,.no]) β1=.ok (.list (rows.map tupI)) β3:=by
  unfold aU
  rw[gO (n:=1 + q) e2 (@AT)]
  dsimp only[R.bnd]
  rw[Ov (sz _ (by rw[iS];omega)),ec];rfl
 rw[aL (env':=[.bx,.fz (.int 4),.fz (.int n),@Id,.no,.no,.no]) (β':=β3) ?g2]
 case g2=>rw[cL,ef];rfl
 have hne:rows≠ []:=λz=>by rw[z] at hl;simp at hl;omega
 have told:∀β4,∃(n':Nat) (l:@C_) (β':Int),Cf (bM (aO (ae (gv 2) (ae (au ra (ae (gv 2) (ae (gv 3) ag))) ag))) [.bx,.fz (.int 4),.fz (.int n),@Id,.no,.no,.no] β4)=.ok (aA n' l) false β'/\OM.Ord n' l/\n'<=4:=λβ4=>by
  refine⟨n,(OM.du n).filter (pK rows),β4,?_,BC n1 (@AT) hne,n6⟩
  have a1:au ra (ae (gv 2) (ae (gv 3) ag)) (vl [.bx,.fz (.int 4),.fz (.int n),@Id,.no,.no,.no]) β4=.ok (.tuple (((OM.du n).filter (pK rows)).map aB)) β4:=av rfl (Fm (@AT) (@AT) hP)
  rw[gJ,kG (ds:=[.int n,.tuple (((OM.du n).filter (pK rows)).map aB)]) (β1:=β4) ?k3 @IN]
  case k3=>
   rw[cU]
   show (R.ok (int n) β4).bnd _=_
   dsimp only[R.bnd]
   rw[cU,a1];rfl
  rfl
 have t1:cP (f2 (gv 2) (cst (.int 6)) (c9 false)) (vl [.bx,.fz (.int 4),.fz (.int n),@Id,.no,.no,.no]) β3=.ok (decide ((n:Int)=6)) β3:=js (neg:=false) (i:=n) (j:=6) rfl rfl
 have qn:¬(n:Int)=6:=@AT
 rw[ON qn] at t1
 have t:BF (cP (f2 (gv 2) (cst (.int 6)) (c9 false))) (cP (f2 (oN 0 dP (ae (cst (.int 3)) ag)) (cst (.int 2)) (c9 false))) (vl [.bx,.fz (.int 4),.fz (.int n),@Id,.no,.no,.no]) β3=.ok false β3:=by rw[C8,t1];rfl
 rw[aL (env':=[.bx,.fz (.int 4),.fz (.int n),@Id,.no,.no,.no]) (β':=β3) (by rw[bI t];rfl)]
 exact told β3
noncomputable def JZ:SF:=(iF @EQ (cP (f2 (gv 0) @Fa (c9 false)))
 (cB ([1] ++ ([2] ++ [])) (au JU (ae (gv 1) (ae (gv 2) ag))))
 (iF @EQ (cP (f2 (gv 0) @Ch (c9 false)))
 (cB ([] ++ ([1] ++ ([2] ++ []))) (au JW (ae (cst .none) (ae (gv 1) (ae (gv 2) ag)))))
 (iF @EQ (cP (f2 (gv 0) (cst (.int 2)) (c9 false)))
 (cB ([1] ++ []) (au Ke @J_))
 (iF @EQ (cP (f2 (gv 0) (cst (.int 3)) (c9 false)))
 (cB ([1] ++ []) (au Ey @J_))
 (iF @EQ (cP (f2 (gv 0) (cst (.int 4)) (c9 false)))
 (cB ([] ++ ([1] ++ [])) (au Lx (ae (cst .none) @J_)))
 (cB ([1] ++ []) (au K7 @J_)))))))
def Bl:List (Str×Nat):=[("NoOrder",0),("NoNumber",7)]
noncomputable def Fv:@Do:=aW 4 3 (lG (λx=>Bl.lookup x) JU JW Ke Ey Lx K7)
noncomputable def asks (a k:D):Nat->FR
 | 0=>JU [a,k]
 | 1=>JW [.none,a,k]
 | 2=>Ke [a]
 | 3=>Ey [a]
 | 4=>Lx [.none,a]
 |_=>K7 [a]
section
variable {a k d:D}{b:Bool}{c:Str}{w j:Nat}
theorem LD (hw:w < 6)(h:asks a k w=.exc c):JZ [.fz (.int w),.fz a,.fz k,.no] 0=.exc c:=by
 unfold JZ
 match w,hw with
 | 0,_=>rw[dQ (β':=0) (by rfl),xE (bQ (ds:=[a,k]) rfl h)]
 | 1,_=>rw[bI (β':=0) (by rfl),dQ (β':=0) (by rfl),xE (bQ (ds:=[.none,a,k]) rfl h)]
 | 2,_=>rw[bI (β':=0) (by rfl),bI (β':=0) (by rfl),dQ (β':=0) (by rfl),xE (bQ (ds:=[a]) rfl h)]
 | 3,_=>rw[bI (β':=0) (by rfl),bI (β':=0) (by rfl),bI (β':=0) (by rfl),dQ (β':=0) (by rfl),xE (bQ (ds:=[a]) rfl h)]
 | 4,_=>rw[bI (β':=0) (by rfl),bI (β':=0) (by rfl),bI (β':=0) (by rfl),bI (β':=0) (by rfl),dQ (β':=0) (by rfl),xE (bQ (ds:=[.none,a]) rfl h)]
 | 5,_=>rw[bI (β':=0) (by rfl),bI (β':=0) (by rfl),bI (β':=0) (by rfl),bI (β':=0) (by rfl),bI (β':=0) (by rfl),xE (bQ (ds:=[a]) rfl h)]
theorem LV (hw:w < 6)(h:asks a k w=.ok d b):JZ [.fz (.int w),.fz a,.fz k,.no] 0=.nx [.fz (.int w),.fz a,.fz k,.no] 0:=by
 unfold JZ
 match w,hw with
 | 0,_=>rw[dQ (β':=0) (by rfl),oE (av (ds:=[a,k]) rfl h)];rfl
 | 1,_=>rw[bI (β':=0) (by rfl),dQ (β':=0) (by rfl),oE (av (ds:=[.none,a,k]) rfl h)];rfl
 | 2,_=>rw[bI (β':=0) (by rfl),bI (β':=0) (by rfl),dQ (β':=0) (by rfl),oE (av (ds:=[a]) rfl h)];rfl
 | 3,_=>rw[bI (β':=0) (by rfl),bI (β':=0) (by rfl),bI (β':=0) (by rfl),dQ (β':=0) (by rfl),oE (av (ds:=[a]) rfl h)];rfl
 | 4,_=>rw[bI (β':=0) (by rfl),bI (β':=0) (by rfl),bI (β':=0) (by rfl),bI (β':=0) (by rfl),dQ (β':=0) (by rfl),oE (av (ds:=[.none,a]) rfl h)];rfl
 | 5,_=>rw[bI (β':=0) (by rfl),bI (β':=0) (by rfl),bI (β':=0) (by rfl),bI (β':=0) (by rfl),bI (β':=0) (by rfl),oE (av (ds:=[a]) rfl h)];rfl
def Iv (hw:w < 6)(h:asks a k w=.exc c)(hj:Bl.lookup c=some j):Fv [.int w,a,k]=.ok (.list [.int (j:Int)]) true:=by
 show fin (aK (pJ (λx=>Bl.lookup x) JZ) (j0 (bz ag)) [.fz (.int w),.fz a,.fz k,.no] 0)=_
 rw[mB (d:=.list [.int (j:Int)]) (b:=true) (β':=0) ?q]
 ·rfl
 case q=>
  unfold pJ
  refine (Ov (by rfl)).trans ?_
  rw[LD hw h]
  dsimp only
  rw[hj]
def Ky (hw:w < 6)(h:asks a k w=.ok d b):Fv [.int w,a,k]=.ok (.list []) true:=by
 show fin (aK (pJ (λx=>Bl.lookup x) JZ) (j0 (bz ag)) [.fz (.int w),.fz a,.fz k,.no] 0)=_
 rw[aL (env':=[.fz (.int w),.fz a,.fz k,.no]) (β':=0) ?q]
 ·rfl
 case q=>
  unfold pJ
  refine (Ov (by rfl)).trans ?_
  rw[LV hw h]
  exact Ov (by rfl)
theorem xF (hw:w < 6)(h:nF [a]=.exc c):asks a k w=.exc c:=by
 match w,hw with
 | 0,_=>exact MV h
 | 1,_=>exact Nl h
 | 2,_=>exact Ms h
 | 3,_=>exact K5 h
 | 4,_=>exact M7 h
 | 5,_=>exact Mm h
theorem Ab {n:Nat}{l:@C_}(O:OM.Ord n l)(hs:(sq n l).length<=39)(hw:w < 6)(h:2<=w\/k=.int 1):∃d b,asks (aA n l) k w=.ok d b:=by
 match w,hw with
 | 0,_=>rcases h with h |rfl;omega;exact Kc O hs
 | 1,_=>rcases h with h |rfl;omega;exact⟨_,_,Kw O⟩
 | 2,_=>obtain⟨d,e⟩:=KG O hs;exact⟨d,_,e⟩
 | 3,_=>obtain⟨d,e⟩:=G9 O hs;exact⟨_,_,e⟩
 | 4,_=>exact⟨_,_,Lk O⟩
 | 5,_=>obtain⟨d,e⟩:=KH O hs;exact⟨d,_,e⟩
theorem DA {n:Nat}{l:@C_}(O:OM.Ord n l)(hw:w < 2)(h:zb [k]=.exc "NoNumber"):asks (aA n l) k w=.exc "NoNumber":=by
 match w,hw with
 | 0,_=>exact MJ O h
 | 1,_=>exact Ml O h
end
noncomputable def IV:List D->Int->FB:=sZ 2 0 (eh dP)
def MU (β:Int):∃o β',IV [] β=.ok o false β'/\o∈mQ:=by
 show ∃o β',Cf (eh dP [.bx,.no] β)=.ok o false β'/\o∈mQ
 unfold eh
 rw[aL (env':=[.bx,.fz (.list (mQ.take 8))]) (β':=β) ?a]
 case a=>
  rw[cL,lp (ds:=mQ.take 8) (ac rfl (ac (tp an) (ac (tp (ac rfl (ac (tp an) an))) (ac (tp (ac rfl (ac (tp an) an))) (ac (tp (ac rfl (ac (tp (ac (tp (ac rfl (ac rfl an))) an)) an))) (ac (tp (ac rfl (ac (tp (ac (tp (ac rfl (ac rfl an))) (ac (tp (ac rfl (ac rfl an))) an))) an))) (ac (tp (ac rfl (ac (tp (ac (tp (ac rfl (ac rfl an))) (ac (tp (ac rfl (ac rfl an))) an))) an))) (ac (lp (ac rfl (ac (tp an) an))) an)))))))) (by show (8:Nat)<=1000;omega)]
  rfl
 rw[aL (env':=[.bx,.fz (.list mQ)]) (β':=β) ?b]
 case b=>
  rw[cL,aG (x:=.list (mQ.take 8)) (y:=.list (mQ.drop 8)) (d:=.list mQ) (β1:=β) (β2:=β) rfl (lp (ds:=mQ.drop 8) (ac (tp (ac rfl (ac (tp an) an))) (ac (tp (ac rfl (ac (lp (ac (tp (ac rfl (ac rfl an))) an)) an))) (ac (tp (ac rfl (ac (tp (ac (tp (ac rfl (ac rfl an))) an)) an))) (ac (tp (ac rfl (ac (tp (ac (tp (ac rfl (ac rfl an))) (ac (tp (ac rfl (ac rfl an))) (ac (tp (ac rfl (ac rfl an))) an)))) an))) (ac rfl (ac (tp (ac rfl (ac (tp an) (ac (tp an) an)))) an)))))) (by show (6:Nat)<=1000;omega)) ?c]
  ·rfl
  case c=>rw[oH (by show (8 + 6:Nat)<=10000;omega)];rfl
 obtain⟨j,hj,ej⟩:=lF (m:=14) (@AT) (@AT) β
 have hlen:mQ.length=14:=rfl
 obtain⟨o,ho⟩:∃o,mQ[j]? =some o:=⟨_,Ot (@AT)⟩
 have e:f2 (gv 1) (oN 0 dP (ae (cst (.int 14)) ag)) b7 (vl [.bx,.fz (.list mQ)]) β=.ok o (β / ((14:Nat):Int)):=aG (x:=.list mQ) (y:=.int j) rfl (kC (ds:=[.int 14]) (by rfl) rfl ej) (show mT mQ (j:Int)=some o from ko ho)
 rw[gJ,e]
 exact⟨o,_,rfl,OV ho⟩
def FJ {fa:VF D}{fr:VF (List D)}{vs:List Nv}{β β1 β2:Int}{d:D}{ds:List D}(h:fa vs β=.ok d β1)(h':fr vs β1=.ok ds β2):ae fa fr vs β=.ok (d :: ds) β2:=by rw[cU,h];dsimp only[R.bnd];rw[h']
def CU {env:En}{β β1:Int}{fr:VF (List D)}{ds:List D}{fb:VF D}{ms:List Int}(ha:fr (vl env) β=.ok ds β1)(h:Fv ds=.ok (.list (ms.map int)) true)(hb:fb (vl env) β1=.ok (.list (ms.map int)) β1):cP (f2 (au Fv fr) fb (c9 true)) (vl env) β=.ok false β1:=
 gr _ _ _ _ (aG (av ha h) hb (by rw[xy,Ov rfl,OE rfl];rfl))
noncomputable def Jy:@Do:=aW 7 1 (Ar Ei Fv yX IV dP)
def Gy {n:Nat}{l:@C_}(h:n<=4):(sq n l).length<=39:=by
 refine Pw (Pa ..) (Pw (Pa ..) ?_)
 rw[fP]
 have:n * n<=4 * 4:=Qh h h
 omega
noncomputable abbrev le (ns:List Int)(i n:Nat)(l:@C_)(bad k:D)(s6:Sl):En:=[.fz (cZ ns),.fz (.int i),.bx,@E_,.fz bad,.fz k,s6]
def Ko (ns:List Int):Jy [cZ ns]=.ok (.bool true) false:=by
 show fin (Ar Ei Fv yX IV dP [.fz (cZ ns),.no,.no,.no,.no,.no,.no] 0)=_
 refine gZ ?_
 obtain⟨m0,hm0,em⟩:=Di 6 (@AT) ns (vl [.fz (cZ ns),.no,.no,.no,.no,.no,.no]) 0 rfl
 unfold Ar
 refine DX (λ_ env _=>∃s1 s2 s3 s4 s5 s6,env= [.fz (cZ ns),s1,s2,s3,s4,s5,s6]) em ⟨_,_,_,_,_,_,rfl⟩ ?_ λenv β ⟨s1,s2,s3,s4,s5,s6,e⟩=>jE (d:=.bool true) rfl rfl
 rintro i d env β hi ⟨s1,s2,s3,s4,s5,s6,rfl⟩
 obtain⟨_,rfl⟩:=jS hi
 rw[PN]
 refine⟨[.fz (cZ ns),.fz (.int i),s2,s3,s4,s5,s6],rfl,?_⟩
 obtain⟨z,ez⟩:=JG ns i
 obtain⟨t3,t4,t5,t6,hcl⟩:∃t3 t4 t5 t6:Sl,(sQ (aY ([0] ++ ([1] ++ [])) [.fz (cZ ns),.fz (.int i),s2,s3,s4,s5,s6])).set 2 .bx= [.fz (cZ ns),.fz (.int i),.bx,t3,t4,t5,t6]:=⟨_,_,_,_,rfl⟩
 refine Fh (C3 (ds:=[cZ ns,.int i]) rfl ez) (wp_at _ hcl ?_)
 obtain⟨n,l,β1,e1,O,h4⟩:=GV z
 have hs:=Gy (l:=l) h4
 refine eY (d:=aA n l) (kC (ds:=[.int 4]) (by rfl) rfl e1) (wp_at [.fz (cZ ns),.fz (.int i),.bx,@E_,t4,t5,t6] rfl ?_)
 obtain⟨bad,β2,e2,hbad⟩:=MU β1
 have hb:=MQ (JF bad hbad)
 refine eY (d:=bad) (kC (ds:=[]) (by rfl) rfl e2) (wp_at [.fz (cZ ns),.fz (.int i),.bx,@E_,.fz bad,t5,t6] rfl ?_)
 obtain⟨u,hu,eu⟩:=lF (m:=9) (@AT) (@AT) β2
 generalize β2 / ((9:Nat):Int)=β3 at eu
 obtain⟨j,hj,ej⟩:=lF (m:=9) (@AT) (@AT) β3
 generalize β3 / ((9:Nat):Int)=β4 at ej
 obtain⟨k,hk⟩:∃o,(cN u)[j]? =some o:=⟨_,Ot (by show j < 9;omega)⟩
 have hc:=IA (OV hk)
 have eL:bz (ae @Fa (ae (cst (.int 9)) (ae (f2 (f1 @Ch nV) (oN 2 dP (ae (cst (.int 9)) ag)) DM) (ae (cst (.bool true)) (ae (cst .none) (ae (cst (.str "1")) (ae (aO (ae @Ch ag)) (ae (bz (ae @Ch ag)) (ae (f2 (cst (.int 10)) (cst (.int 30)) ED) ag))))))))) (vl [.fz (cZ ns),.fz (.int i),.bx,@E_,.fz bad,t5,t6]) β2=.ok (.list (cN u)) β3:=
  kq (ds:=cN u) (FJ rfl (FJ rfl (FJ (aG (x:=.int (-1)) (y:=.int (u:Int)) rfl (kC (ds:=[.int 9]) (by rfl) rfl eu) rfl) (FJ rfl (FJ rfl (FJ rfl (FJ (tp (ac rfl an)) (FJ (lp (ac rfl an)) (FJ (aG (x:=.int 10) (y:=.int 30) rfl rfl (by rfl)) an))))))))) (by show (9:Nat)<=1000;omega)
 refine eY (d:=k) (aG (x:=.list (cN u)) (y:=.int j) eL (kC (ds:=[.int 9]) (by rfl) rfl ej) (show mT (cN u) (j:Int)=some k from ko hk)) (wp_at (le ns i n l bad k t6) rfl ?_)
 refine zk (DX (ds:=fO 0 6) (β1:=β4) (λ_ env _=>∃s6,env=le ns i n l bad k s6) (gO (n:=6) rfl (@AT)) ⟨_,rfl⟩ ?_ ?_)
 ·rintro w d env β hw ⟨s6,rfl⟩
  obtain⟨hw6,rfl⟩:=jS hw
  rw[PN]
  refine⟨le ns i n l bad k (.fz (.int w)),rfl,?_⟩
  have y1:cP (f2 (au Fv (ae (gv 6) (ae (gv 4) (ae (gv 5) ag)))) (bz (ae @Fa ag)) (c9 true)) (vl (le ns i n l bad k (.fz (.int w)))) β=.ok false β:=CU (ms:=[0]) (ac rfl (ac rfl (ac rfl an))) (Iv hw6 (xF hw6 hb) rfl) (lp (ac rfl an))
  have y2:cP (f2 (au Fv (ae (gv 6) (ae (gv 4) (ae @Ch ag)))) (bz (ae @Fa ag)) (c9 true)) (vl (le ns i n l bad k (.fz (.int w)))) β=.ok false β:=CU (ms:=[0]) (ac rfl (ac rfl (ac rfl an))) (Iv hw6 (xF hw6 hb) rfl) (lp (ac rfl an))
  refine l9 (by rw[ka,y1];exact y2) (wp_at (le ns i n l bad k (.fz (.int w))) rfl ?_)
  have k0:f1 (f2 (gv 6) (cst (.int 2)) uk) E7 (vl (le ns i n l bad k (.fz (.int w)))) β=.ok (.int (if (w:Int) < 2 then 1 else 0)) β:=by
   have e:f2 (gv 6) (cst (.int 2)) uk (vl (le ns i n l bad k (.fz (.int w)))) β=.ok (.bool (decide ((w:Int) < 2))) β:=rfl
   refine j4 e ?_
   by_cases c:(w:Int) < 2
   ·rw[OE c,Ov c];rfl
   ·rw[ON c,OA c];rfl
  have z1:cP (f2 (au Fv (ae (gv 6) (ae (gv 3) (ae (gv 5) ag)))) (f2 (bz (ae (bz ag) (ae (bz (ae (cst (.int 7)) ag)) ag))) (f1 (f2 (gv 6) (cst (.int 2)) uk) E7) b7) (c9 true)) (vl (le ns i n l bad k (.fz (.int w)))) β=.ok false β:=by
   have eL:bz (ae (bz ag) (ae (bz (ae (cst (.int 7)) ag)) ag)) (vl (le ns i n l bad k (.fz (.int w)))) β=.ok (.list [.list [],.list [.int 7]]) β:=lp (ac (lp (ds:=[]) an) (ac (lp (ac rfl an)) an))
   by_cases c:(w:Int) < 2
   ·rw[Ov c] at k0
    exact CU (ms:=[7]) (ac rfl (ac rfl (ac rfl an))) (Iv hw6 (DA O (@AT) hc) rfl) (aG eL k0 rfl)
   ·rw[OA c] at k0
    obtain⟨d,b,e⟩:=Ab (k:=k) O hs hw6 (.inl (@AT))
    exact CU (ms:=[]) (ac rfl (ac rfl (ac rfl an))) (Ky hw6 e) (aG eL k0 rfl)
  refine l9 z1 (wp_at (le ns i n l bad k (.fz (.int w))) rfl ?_)
  obtain⟨d,b,e⟩:=Ab (k:=.int 1) O hs hw6 (.inr rfl)
  exact J4 (CU (ms:=[]) (ac rfl (ac rfl (ac rfl an))) (Ky hw6 e) (lp (ds:=[]) an)) (xi ⟨_,_,rfl,_,rfl⟩)
 ·rintro env β ⟨s6,rfl⟩
  exact xi ⟨_,_,rfl,_,_,_,_,_,_,rfl⟩
end RM
namespace RO
open PySem L2
abbrev Fn (K:Frag)(mg:@FM)(x:Str)(st:Stmt)(ps:@H_)(f:Addr)(fd:FuncData):Prop:=fX K mg x st ps f fd
abbrev Bt (mg:@FM):Prop:=ic mg
end RO
section
namespace L2
open PySem PySem.Spec PyProof.Rows
section
variable {K:Frag}{H H':Hp}{a:Addr}
theorem bg.snoc {x y:Int}(q:hW K H a [.int x,.int y]):∀{vs:List V} {ps:List (Int×Int)},bg K H vs ps->bg K H (vs ++ [.ref a]) (ps ++ [(x,y)])
 |_,_,.nil=>.cons ⟨a,rfl,q⟩ .nil
 |_,_,.cons r t=>.cons r (bg.snoc q t)
def bg.len {vs:List V}{ps:List (Int×Int)}(h:bg K H vs ps):vs.length=ps.length:=Paired.length h
def bg.same {vs:List V}{ps:List (Int×Int)}(h:bg K H vs ps)(s:ar H H'):bg K H' vs ps:=h.grow s.grow
def bg.at {vs:List V}{ps:List (Int×Int)}{i:Nat}{v:V}(h:bg K H vs ps)(e:vs[i]? =some v):∃p:Int×Int,ps[i]? =some p/\∃b,v=.ref b/\hW K H b [.int p.1,.int p.2]:=Paired.getP h e
def ar.put {o:HO}(s:ar H H')(h:H a=none)(hf:∀x y,H' a≠some (.aY x y)):ar H (L2.upd H' a o):=λb u e=>jC (s b u e) (aM e h) hf
def Fq (h:H a=none):∀x y,H a≠some (.aY x y):=λx y z=>by rw[h] at z;cases z
def JQ {xs:List V}(h:H a=some (.lst xs)):∀x y,H a≠some (.aY x y):=λx y z=>by rw[h] at z;cases z
end
end L2
namespace RO
open PySem L2
def CT (N:@H_)(sc:Scope)(NB:@H_)(own:Nat)(ixs:@G_)(scope:Scope):Bool:=
 decide (scope.kind=.function) && (scope.names.all λy=>decide (scope.names.lookup y.1=some y.2)) &&
 (scope.names.all λy=>decide (y.2=.free->(sc.names.lookup y.1=some .cell\/sc.names.lookup y.1=some .free))) && decide NB.Nodup && decide (NB.length=own + ixs.length) &&
 ((List.range ixs.length).all λk=>decide (NB[own + k]? =N[ixs.getD k 0]?) && (match NB[own + k]? with |some x=>decide ((x,NameKind.free)∈scope.names) |none=>true))
def mj {X:Cx}{NB:@H_}{own:Nat}{ixs:@G_}{scope:Scope}(h:CT X.N X.env.scope NB own ixs scope=true):bA X NB own ixs scope:=by
 unfold CT at h
 simp only[OW,O9,OP,Po] at h
 obtain⟨⟨⟨⟨⟨h1,h3⟩,h4⟩,h5⟩,h6⟩,h7⟩:=h
 refine⟨h1,h3,h4,h5,h6,λk hk=>⟨(h7 k hk).1,λx hx=>?_⟩⟩
 have:=(h7 k hk).2
 rw[hx] at this
 simpa using this
section
variable {X:Cx}{tg l:Expr}{tl:TE}{K:Frag}{H H1:Hp}{a:Addr}{xs:List V}{σ:St}
def Nz (K:Frag)(tl:TE):TI:=λσ H R=>tl σ H λx H1=>∃a xs,x=.ref a/\((iY K H1 a xs/\R (Bv K a) H1)\/(hW K H1 a xs/\R (Hy K a) H1))
end
def NW (K:Frag){X:Cx}(h:X.K=K:=by rfl):Ej X (IE K):=by subst h;exact iL
def IL (K:Frag)(i j:Nat){X:Cx}{x y:Str}{px py pos:Pos}{k:Nat}(hN:X.N.Nodup)(hi:X.N[i]? =some x)(hj:X.N[j]? =some y)(hx:X.env.scope.names.lookup x=some .local)(hy:X.env.scope.names.lookup y=some .local)(hc:X.calm=true)(hK:X.K=K) :
  PG X (.Tuple [.Name x px,.Name y py] k pos) (Gn K 2 (qp (la i) (qp (la j) Ga))):=by
 subst hK
 exact rG hc (dW (cS hN hi (Or.inl hx) (Or.inr hx)) (dW (cS hN hj (Or.inl hy) (Or.inr hy)) og))
section
open PySem.Spec PyProof.Rows
variable {X:Cx}{tg l:Expr}{tl:TE}
def Iq (hl:PE X l tl):PI X tg l (Nz X.K tl):=by
 intro pins s σ H R I h
 refine cc (hl pins s σ H _ I h) λv s1 ⟨x,H1,I1,r1,q1⟩=>?_
 obtain⟨a,xs,e,q⟩:=q1
 subst e
 cases r1
 rcases q with⟨hq,q⟩ | ⟨hq,q⟩
 ·obtain⟨its,rv,p,hz⟩:=I1.list hq
  refine QF p.isList ?_
  refine⟨s1.heap.objs.size,[s1.heap.objs.size],_,_,H1,rfl,I1.kept (t':=s1.toks) λb o e=>Ow _ e,oV a _,⟨_,OQ _ rfl,rfl,rfl⟩,λb hb=>?_,q⟩
  have e:b=s1.heap.objs.size:=by simpa using hb
  subst e
  exact I1.fpOk (Ox _) (I1.hok.fresh (Ox _))
 ·obtain⟨its,rv,p,hz⟩:=I1.tuple hq
  refine wpAny_pyIter_tuple (show s1.heap.IsTuple a its.toArray from p) ?_
  refine⟨s1.heap.objs.size,[s1.heap.objs.size],_,_,H1,rfl,I1.kept (t':=s1.toks) λb o e=>Ow _ e,se a _,⟨_,OQ _ rfl,rfl,rfl⟩,λb hb=>?_,q⟩
  have e:b=s1.heap.objs.size:=by simpa using hb
  subst e
  exact I1.fpOk (Ox _) (I1.hok.fresh (Ox _))
end
section
variable {K:Frag}{H H1 H':Hp}{a:Addr}{xs:List V}{σ:St}
abbrev KO (J:It)(g:TG)(tb:TS)(D:Ends)(σ:St)(H:Hp):Prop:=∃W:Nat->Nat->St->Hp->Prop,(∃m,W 0 m σ H)/\∀i m σ H,W i m σ H->
   (J.stop i H/\D.nx σ H)\/(J.go i H/\∃N:St->Hp->Prop,(∀σ' H',N σ' H'->∃m',m' < m/\W (i + 1) m' σ' H')/\∀x H',J.yld i H x H'->g x σ H' λσ2 H2=>tb {D with nx:=N,ct:=N,bk:=D.nx} σ2 H2)
def Fi (s:ar H1 H')(hq:iY K H1 a xs\/hW K H1 a xs):iY K H' a xs\/hW K H' a xs:=hq.elim (λq=>.inl (s.seq q)) λq=>.inr (q.grow s.grow)
def GS {g:TG}{tb:TS}{D:Ends}(hq:iY K H1 a xs\/hW K H1 a xs)(Pv:Nat->St->Hp->Prop)(h0:Pv 0 σ H)(hl:∀i σ H',Pv i σ H'->ar H1 H')
  (hs:∀i x σ H,xs[i]? =some x->Pv i σ H->g x σ H λσ2 H2=>tb {D with nx:=Pv (i + 1),ct:=Pv (i + 1),bk:=D.nx} σ2 H2) (hd:∀σ H,Pv xs.length σ H->D.nx σ H) :
  (iY K H a xs/\KO (Bv K a) g tb D σ H)\/(hW K H a xs/\KO (Hy K a) g tb D σ H):=
 hq.elim (λq=>.inl ⟨(hl _ _ _ h0).seq q,wx Pv h0 (λi σ H' _ p=>(hl i σ H' p).seq q) hs hd⟩) λq=>.inr ⟨q.grow (hl _ _ _ h0).grow,Gr Pv h0 (λi σ H' _ p=>q.grow (hl i σ H' p).grow) hs hd⟩
def zW (J:It)(own:Nat)(ixs:@G_)(g:TG)(tt:TT)(te:TE)(Q:VK)(D:Addr)(σ:St)(H:Hp):Prop:=∃W:Nat->Nat->St->Hp->Prop,(∃m,W 0 m (dv own ixs σ) (upd H D (.lst [])))/\∀i m σ' H',W i m σ' H'->
   (J.stop i H'/\(∃acc,H' D=some (.lst acc))/\Q (.ref D) H')\/
   (J.go i H'/\∃N:St->Hp->Prop,(∀σ2 H2,N σ2 H2->∃m',m' < m/\W (i + 1) m' σ2 H2)/\∀x H2,J.yld i H' x H2->de g tt te D x σ' H2 N)
structure wF (own:Nat)(ixs:@G_)(wi:TI)(g:TG)(tt:TT)(te:TE)(σ:St)(H:Hp)(Q:VK):Prop where
 out:wi σ H λJ H1=>∀D,H1 D=none->zW J own ixs g tt te Q D σ H1
def yF {own:Nat}{ixs:@G_}{wi:TI}{g:TG}{tt:TT}{te:TE}{Q:VK}(h:wi σ H λJ H1=>∀D,H1 D=none->zW J own ixs g tt te Q D σ H1):wF own ixs wi g tt te σ H Q:=⟨h⟩
def vn {X:Cx}{NB:@H_}{own:Nat}{ixs:@G_}{scope:Scope}{tg iter elt:Expr}{ifs:List Expr}{wi:TI}{g:TG}{tt:TT}{te:TE}{pos:Pos}(hc:X.calm=true)(S:bA X NB own ixs scope)(hi:PI X tg iter wi)
  (hg:∀C ex s3 H3 pn,PG @Fk tg g) (ht:∀C ex s3 H3 pn,yZ @Fk ifs tt) (he:∀C ex s3 H3 pn,PE @Fk elt te)
  (hs:∀x,foldedSetIterable iter X.env x=pure x:=by intro _;rfl):PE X @IO (wF own ixs wi g tt te):=
 λpins s σ H Q I h=>wL hc S hi hg ht he hs pins s σ H Q I h.out
section
variable {own:Nat}{ixs:@G_}{g:TG}{tt:TT}{te:TE}{Q:VK}{D:Addr}
def GU (Pv:Nat->St->Hp->Prop)(h0:Pv 0 (dv own ixs σ) (upd H D (.lst [])))(hl:∀i σ H,i<=xs.length->Pv i σ H->iY K H a xs)
  (hs:∀i x σ H,xs[i]? =some x->Pv i σ H->de g tt te D x σ H (Pv (i + 1))) (hd:∀σ H,Pv xs.length σ H->(∃acc,H D=some (.lst acc))/\Q (.ref D) H):zW (Bv K a) own ixs g tt te Q D σ H:=AL Pv h0 hl hs hd
def wN {lo:Int}{n:Nat}(Pv:Nat->St->Hp->Prop)(h0:Pv 0 (dv own ixs σ) (upd H D (.lst [])))
  (hs:∀i σ H,i < n->Pv i σ H->de g tt te D (.int (lo + i)) σ H (Pv (i + 1))) (hd:∀σ H,Pv n σ H->(∃acc,H D=some (.lst acc))/\Q (.ref D) H):zW (Bm lo n) own ixs g tt te Q D σ H:=yY Pv h0 hs hd
end
def qX {i:Nat}{te:TE}{D:Addr}{x:V}{N:St->Hp->Prop}(h:te (σ.set i (some x)) H λv H5=>∃acc,H5 D=some (.lst acc)/\acc.length < sizeLine/\N (σ.set i (some x)) (upd H5 D (.lst (acc ++ [v])))):de (la i) Jr te D x σ H N:=by
 unfold de la Jr
 exact rq h
def DI {i j:Nat}{x y:V}{Q:St->Hp->Prop}(h:hW K H a [x,y])(q:Q ((σ.set i (some x)).set j (some y)) H):Gn K 2 (qp (la i) (qp (la j) Ga)) (.ref a) σ H Q:=⟨a,_,rfl,h,rfl,x,_,rfl,y,_,rfl,rfl,q⟩
def Ny {c A B:Prop}[Decidable c](h:c)(a:A):if c then A else B:=by rw[Ov h];exact a
def Ni {c A B:Prop}[Decidable c](h:¬c)(b:B):if c then A else B:=by rw[OA h];exact b
def take_snoc {α:Type}{l:List α}{i:Nat}{x:α}(h:l[i]? =some x):l.take (i + 1)=l.take i ++ [x]:=by
 rw[List.take_add_one,h];rfl
def take_all {α:Type}(l:List α):l.take l.length=l:=List.take_of_length_le (Ox _)
end
def fP (n:Nat):(OM.du n).length=n * n:=by unfold OM.du;simp
def EJ {n i:Nat}(h:i < n * n):(OM.du n)[i]? =some (((i / n:Nat):Int),((i % n:Nat):Int)):=by
 unfold OM.du
 rw[OK,QB h];rfl
def NU {n:Nat}(h:n<=8):n * n<=64:=Qh h h
section
variable {P:Program}{w:World}{K:Frag}{mg:@FM}{base:Heap}
def zO (K:Frag):Sp:=λvs H Q _=>∃n:Nat,vs= [.int n]/\1<=n/\n<=8/\∀H' l ws,ar H H'->H l=none->H' l=some (.lst ws)->bg K H' ws (OM.du n)->Q (.ref l) H'
def G7:aF ["many"] ["many"] (ah ki):=@AC
def Lg:(["number","many"]:@H_).Nodup:=@Ev
def DN {f:Addr}{fd:FuncData}(F:Fn K mg "every_pair" ki ["many"] f fd)(B:Bt mg):e8 P w K mg base sk 1 f fd ["many"] (zO K):=by
 refine F.F.ok G7 (λvs H Q E h=>?_) (λcdv A outer s H vs Q E hr h=>?_)
 ·obtain⟨n,rfl,_⟩:=h;rfl
 ·obtain⟨n,rfl,h1,h8,k⟩:=h
  refine⟨_,eM (jD (vn (NB:=["number","many"]) (own:=1) (ixs:=[0]) rfl (mj (by kernel_rfl)) (l8 rfl B.range (aw (oF lR (pv 0) (pv 0)) aR))
   (λC ex s3 H3 pn=>cS (i:=0) Lg rfl (Or.inl rfl) (hf:=Or.inr rfl)) (λC ex s3 H3 pn=>ql)
   (λC ex s3 H3 pn=>yA (aw (oF uD (pv 0) (pv 1)) (aw (oF nI (pv 0) (pv 1)) aR))))),?_⟩
  have hn:=NU h8
  have e0:((n:Int) * (n:Int))=((n * n:Nat):Int):=by rw[Int.natCast_mul]
  refine yF ⟨_,rfl,_,rfl,_,_,rfl,rfl,.inl ⟨@AT,@AT ⟩,_,rfl,by rw[e0];omega,by rw[e0];omega,λD hD=>?_⟩
  rw[e0,O8]
  refine wN (λi σ' H'=>(∃v,σ'= [v,some (.int n)])/\ar H H'/\∃vs,H' D=some (.lst vs)/\bg K H' vs ((OM.du n).take i)) ⟨⟨none,rfl⟩,(ar.refl H).put hD (Fq hD),[],az,.nil⟩ ?_ ?_
  ·rintro i σ' H' hi ⟨⟨v,rfl⟩,s1,vs,hv,hp⟩
   have hn0:(0:Int) < (n:Int):=@AT
   refine qX ⟨_,rfl,_,rfl,_,_,rfl,rfl,⟨hn0,@AT ⟩,_,rfl,_,rfl,_,_,rfl,rfl,hn0,by show 2<=sizeLine;rw[O4];omega,λp hp0=>?_⟩
   have hpD:D≠p:=aM hv hp0
   have hl:=hp.len
   refine⟨vs,by rw[aE hpD];exact hv,?_,⟨_,rfl⟩,?_,vs ++ [.ref p],az,?_⟩
   ·rw[hl,Pu,O4];rw[fP];omega
   ·exact (s1.put (s1.free hp0) (Fq hp0)).put hD (JQ (xs:=vs) (by rw[aE hpD];exact hv))
   ·rw[take_snoc (EJ hi)]
    have g1:jP H' (upd H' p (.tup [.int ((0 + (i:Int)) / n),.int ((0 + (i:Int)) % n)])):=jP.new hp0
    have g2:∀o,jP (upd H' p (.tup [.int ((0 + (i:Int)) / n),.int ((0 + (i:Int)) % n)])) (upd (upd H' p (.tup [.int ((0 + (i:Int)) / n),.int ((0 + (i:Int)) % n)])) D o):=λo=>jP.list (by rw[aE hpD];exact hv)
    refine bg.snoc ?_ (hp.grow (g1.trans (g2 _)))
    refine (hW.grow ?_ (g2 _))
    refine .inl (.inl ?_)
    rw[az,PN];rfl
  ·rintro σ' H' ⟨_,s1,vs,hv,hp⟩
   refine⟨⟨_,hv⟩,k H' D vs s1 hD hv ?_⟩
   rw[<-fP n,take_all] at hp
   exact hp
end
end RO
end
namespace RO
open PySem L2
structure TabAt (n:Nat)(M:OM.Tb)(L:Addr)(r:Nat->Addr)(H:Hp):Prop where
 top:H L=some (.lst ((List.range n).map λi=>V.ref (r i)))
 row:∀i,i < n->H (r i)=some (.lst ((List.range n).map λj=>V.bl (M i j)))
 inj:∀i j,i < n->j < n->r i=r j->i=j
 ne:∀i,i < n->r i≠L
def AB {n x:Nat}(h:x < n):vR n (x:Int)=some x:=by
 unfold vR;rw[Ov (@AT),Ov (@AT)];simp
def Dz {α:Type}{xs:List α}{x:Nat}(h:x < xs.length):mT xs (x:Int)=xs[x]?:=by
 unfold mT;rw[AB h];rfl
def gR {f:Nat->V}{n x:Nat}(h:x < n):mT ((List.range n).map f) (x:Int)=some (f x):=by
 rw[Dz (by simpa using h),OK,QB h];rfl
def tH {f:Nat->V}{n x:Nat}(h:x < n):vR ((List.range n).map f).length (x:Int)=some x:=by
 rw[OB,PU];exact AB h
def Bc {f:Nat->V}{n y:Nat}{v:V}:((List.range n).map f).set y v=(List.range n).map λj=>if j=y then v else f j:=by
 apply List.ext_getElem?
 intro i
 by_cases hi:i < n
 ·by_cases e:y=i
  ·subst e;simp[List.getElem?_set,hi]
  ·have e':¬i=y:=λz=>e z.symm
   simp[List.getElem?_set,hi,e,e']
 ·rw[PY (by simp;omega),PY (by simp;omega)]
section
variable {n:Nat}{M:OM.Tb}{L:Addr}{r:Nat->Addr}{H H':Hp}
def TabAt.set (T:TabAt n M L r H){x y:Nat}(hx:x < n):TabAt n (M.set x y) L r (upd H (r x) (.lst (((List.range n).map λj=>V.bl (M x j)).set y (.bl true)))):=by
 refine⟨by rw[aE (T.ne x hx).symm];exact T.top,λi hi=>?_,T.inj,T.ne⟩
 by_cases e:i=x
 ·subst e
  rw[az,Bc]
  refine congrArg _ (congrArg _ (PV λj _=>?_))
  unfold OM.Tb.set
  by_cases c:j=y
  ·simp[c]
  ·simp[c]
 ·rw[aE (λz=>e (T.inj i x hi hx z)),T.row i hi]
  refine congrArg _ (congrArg _ (PV λj _=>?_))
  unfold OM.Tb.set;simp[e]
def TabAt.same (T:TabAt n M L r H)(s:ar H H'):TabAt n M L r H':=⟨s _ _ T.top,λi hi=>s _ _ (T.row i hi),T.inj,T.ne⟩
end
def vq {n:Nat}{ps:List (Int×Int)}(w:OM.Wn n ps){p:Int×Int}(h:p∈ps):∃u v:Nat,p=((u:Int),(v:Int))/\u < n/\v < n:=by
 obtain⟨x,y⟩:=p
 have q:=w _ h
 simp only at q
 exact⟨x.toNat,y.toNat,by rw[Int.toNat_of_nonneg q.1.1,Int.toNat_of_nonneg q.2.1],@AT,@AT ⟩
def jo {M0 M:OM.Tb}{m:Nat}{D D':Nat->Nat->Prop}(P:OM.Phase M0 M m D)(h:∀a b,D a b↔D' a b):OM.Phase M0 M m D':=λa b=>by rw[P a b,h a b]
def mq {l:List (Int×Int)}{u v a b:Nat}:(((a:Int),(b:Int))∈l\/(a=u/\b=v))↔((a:Int),(b:Int))∈l ++ [((u:Int),(v:Int))]:=by
 rw[OR,OY,Prod.mk.injEq]
 constructor
 ·rintro (h | ⟨h1,h2⟩)
  ·exact .inl h
  ·exact .inr ⟨@AT,@AT ⟩
 ·rintro (h | ⟨h1,h2⟩)
  ·exact .inl h
  ·exact .inr ⟨@AT,@AT ⟩
def FG {M:OM.Tb}{u v a b:Nat}:M.set u v a b=true↔M a b=true\/(a=u/\b=v):=by
 unfold OM.Tb.set
 by_cases c:a=u/\b=v
 ·simp[c]
 ·rw[OA c];exact⟨.inl,λh=>h.resolve_right c⟩
def Ld (n:Nat)(x:V):(List.replicate n [x]).flatten=(List.range n).map λ_=>x:=by
 rw[List.flatten_replicate_singleton,List.map_const',PU]
section
variable {P:Program}{w:World}{K:Frag}{mg:@FM}{base:Heap}
def Ea (K:Frag):Sp:=λvs H Q _=>∃(n:Nat) (a:Addr) (xs:List V) (ps:List (Int×Int)),vs= [.int n,.ref a]/\1<=n/\n<=8/\(iY K H a xs\/hW K H a xs)/\bg K H xs ps/\OM.Wn n ps/\
 ∀H' t ws,ar H H'->H t=none->H' t=some (.tup ws)->bg K H' ws (OM.jV n (OM.Tr (OM.Mem ps)))->Q (.ref t) H'
def gQ:aF ["many","pairs","corners","leads","a","b","middle"] ["many","pairs"] (ah ou):=@AC
def Ls:(["start","many"]:@H_).Nodup:=@Ev
def IJ:(["a","b","leads"]:@H_).Nodup:=@Ev
set_option maxHeartbeats 1000000 in
theorem AU {f g:Addr}{fd gd:FuncData}(F:Fn K mg "closed" ou ["many","pairs"] f fd)(G:Fn K mg "every_pair" ki ["many"] g gd)(GE:e8 P w K mg base sk 1 g gd ["many"] (zO K))(B:Bt mg):e8 P w K mg base sk 2 f fd ["many","pairs"] (Ea K):=by
 refine F.F.ok gQ (λvs H Q E h=>?_) (λcdv A outer s H vs Q E hr h=>?_)
 ·obtain⟨n,a,xs,ps,rfl,_⟩:=h;rfl
 ·obtain⟨n,a,xs,ps,rfl,h1,h8,hq,hp,wn,k⟩:=h
  refine⟨_,dz (lP (i:=2) gQ.nd rfl (Or.inl rfl) (ot GE hr rfl G.mg G.F.kp G.b .nil DP (aw (pv 0) aR)))
   (dz (lP (i:=3) gQ.nd rfl (Or.inr rfl) (vn (NB:=["start","many"]) (own:=1) (ixs:=[0]) rfl (mj (by kernel_rfl)) (l8 rfl B.range (aw (pv 0) aR))
    (λC ex s3 H3 pn=>cS (i:=0) Ls rfl (Or.inl rfl) (hf:=Or.inr rfl)) (λC ex s3 H3 pn=>ql) (λC ex s3 H3 pn=>oF B4 (pe (aw vW aR)) (pv 1))))
   (dz (va PassesOwn.never rfl (Iq (pv 1)) (rG rfl (dW (cS (i:=4) gQ.nd rfl (Or.inl rfl)) (dW (cS (i:=5) gQ.nd rfl (Or.inl rfl)) og)))
    (eM (qB vW (uI (mX iL (pv 3) (pv 4) @D_) (pv 5) set_list))))
   (dz (va PassesOwn.never rfl (l8 rfl B.range (aw (pv 0) aR)) (cS (i:=6) gQ.nd rfl (Or.inl rfl))
    (eM (va PassesOwn.never rfl (As (pv 2)) (rG rfl (dW (cS (i:=4) gQ.nd rfl (Or.inl rfl)) (dW (cS (i:=5) gQ.nd rfl (Or.inl rfl)) og)))
     (eM (Dl (PW.pt (Cm (o8 (mX iL (mX iL (pv 3) (pv 4) @D_) (pv 6) @D_)) (Aw (o8 (mX iL (mX iL (pv 3) (pv 6) @D_) (pv 5) @D_)))))
      (eM (qB vW (uI (mX iL (pv 3) (pv 4) @D_) (pv 5) set_list))) uz)))))
   (eM (jD (mD df rfl B.tuple (@Ev) (aw (vn (NB:=["a","b","leads"]) (own:=2) (ixs:=[3]) rfl (mj (by kernel_rfl)) (As (pv 2))
    (λC ex s3 H3 pn=>IL K 0 1 IJ rfl rfl rfl rfl rfl rfl)
    (λC ex s3 H3 pn=>vF (o8 (mX (NW K) (mX (NW K) (pv 2) (pv 0) @D_) (pv 1) @D_))) (λC ex s3 H3 pn=>yA (aw (pv 0) (aw (pv 1) aR)))) aR))))))),?_⟩
  have hn:=NU h8
  have hn0:(0:Int)<=(n:Int):=@AT
  refine⟨_,rfl,n,rfl,h1,h8,λH1 c ws s1 hc0 hc hw=>?_⟩
  have hwl:ws.length=n * n:=by rw[hw.len,fP]
  have gw:OM.Wn n (OM.du n):=λp hp=>OM.bV.mp hp
  refine yF ?_
  refine⟨_,rfl,n,rfl,@AT,@AT,λD hD=>?_⟩
  rw[O8]
  refine wN (λi σ' H'=>(∃v,σ'= [v,some (.int n)])/\ar H1 H'/\∃r:Nat->Addr,H' D=some (.lst ((List.range i).map λk=>V.ref (r k)))/\
   (∀k,k < i->H' (r k)=some (.lst ((List.range n).map λ_=>V.bl false))/\H1 (r k)=none/\r k≠D)/\∀j k,j < i->k < i->r j=r k->j=k)
   ?_ ?_ ?_
  ·exact⟨⟨none,rfl⟩,(ar.refl H1).put hD (Fq hD),λ_=>0,az,λk hk=>absurd hk (Nat.not_lt_zero _),λj k hj=>absurd hj (Nat.not_lt_zero _)⟩
  ·rintro i σ' H' hi ⟨⟨v,rfl⟩,s2,r,hr0,hr1,hr2⟩
   refine qX ⟨by show 1<=sizeLine;rw[O4];omega,λp hp0=>⟨_,rfl,p,n,[.bl false],rfl,rfl,az,@AT,@AT,by show 1 * (n:Int).toNat<=sizeLine;rw[O4];omega,λq hq0=>?_⟩⟩
   have hqp:q≠p:=by intro e;subst e;rw[az] at hq0;cases hq0
   have hq1:H' q=none:=by rw[aE hqp] at hq0;exact hq0
   have hDp:D≠p:=aM hr0 hp0
   have hDq:D≠q:=aM hr0 hq1
   rw[O8,Ld]
   refine⟨_,by rw[aE hDq,aE hDp];exact hr0,by rw[OB,PU,O4];omega,⟨_,rfl⟩,((s2.put (s2.free hp0) (Fq hp0)).put (s2.free hq1) (Fq hq0)).put hD (JQ (by rw[aE hDq,aE hDp];exact hr0)),λk=>if k=i then q else r k,?_,λk hk=>?_,λj k hj hk e=>?_⟩
   ·have e:(List.range i).map (λk=>V.ref (r k))=(List.range i).map (λk=>V.ref (if k=i then q else r k)):=PV λk hk=>by
     have:=Po.mp hk
     rw[OA (@AT)]
    rw[az,List.range_succ,Pb,e]
    simp
   ·dsimp only
    by_cases e:k=i
    ·rw[Ov e]
     exact⟨by rw[aE hDq.symm,az],s2.free hq1,hDq.symm⟩
    ·rw[OA e]
     obtain⟨a1,a2,a3⟩:=hr1 k (@AT)
     exact⟨by rw[aE a3,aE (aM a1 hq1),aE (aM a1 hp0)];exact a1,a2,a3⟩
   ·dsimp only at e
    by_cases ej:j=i
    ·by_cases ek:k=i
     ·omega
     ·rw[Ov ej,OA ek] at e
      exact absurd e.symm (aM (hr1 k (@AT)).1 hq1)
    ·by_cases ek:k=i
     ·rw[OA ej,Ov ek] at e
      exact absurd e (aM (hr1 j (@AT)).1 hq1)
     ·rw[OA ej,OA ek] at e
      exact hr2 j k (@AT) (@AT) e
  rintro σ2 H2 ⟨_,s2,r,hr0,hr1,hr2⟩
  refine⟨⟨_,hr0⟩,?_⟩
  have sep:∀i,i < n->H1 (r i)=none:=λi hi=>(hr1 i hi).2.1
  have T0:TabAt n (λ_ _=>false) D r H2:=⟨hr0,λi hi=>(hr1 i hi).1,hr2,λi hi=>(hr1 i hi).2.2⟩
  refine⟨_,rfl,a,xs,rfl,GS (H1:=H1) (Fi s1 hq) (λi σ' H'=>(∃x y,σ'= [some (.int n),some (.ref a),some (.ref c),some (.ref D),x,y,none])/\ar H1 H'/\∃M,TabAt n M D r H'/\∀u v:Nat,M u v=true↔((u:Int),(v:Int))∈ps.take i)
   ⟨⟨none,none,rfl⟩,s2,_,T0,λu v=>by simp⟩ (λi σ' H' q=>q.2.1) ?_ ?_⟩
  ·rintro i x σ' H' hx ⟨⟨_,_,rfl⟩,s3,M,T,hM⟩
   obtain⟨p,hpi,b,rfl,hb⟩:=(hp.same (s1.trans s3)).at hx
   obtain⟨u,v,rfl,hu,hv⟩:=vq wn (OV hpi)
   refine DI hb ?_
   refine⟨_,rfl,_,rfl,D,_,u,_,rfl,rfl,.inl (.inl T.top),gR hu,_,rfl,r u,_,v,v,rfl,rfl,T.row u hu,tH hv,⟨_,_,rfl⟩,s3.put (sep u hu) (JQ (T.row u hu)),_,T.set hu,λx y=>?_⟩
   rw[take_snoc hpi,<-mq,FG,hM]
  rintro σ3 H3 ⟨⟨x3,y3,rfl⟩,s3,M3,T3,hM3⟩
  rw[hp.len,take_all] at hM3
  refine⟨_,rfl,n,rfl,@AT,@AT,?_⟩
  rw[O8]
  refine AV (λm σ' H'=>(∃x y z,σ'= [some (.int n),some (.ref a),some (.ref c),some (.ref D),x,y,z])/\ar H1 H'/\∃M,TabAt n M D r H'/\OM.Tab n ps M/\OM.E5 M m)
   ⟨⟨_,_,_,rfl⟩,s3,M3,T3,⟨λa b h=>by have:=wn _ ((hM3 a b).mp h);simp only at this;omega,λa b h=>(hM3 a b).mpr h,λa b h=>.one ((hM3 a b).mp h)⟩,λk a b hk=>absurd hk (Nat.not_lt_zero _)⟩ ?_ ?_
  ·rintro m σ' H' hm ⟨⟨_,_,_,rfl⟩,s4,M,T,TT,Th⟩
   rw[PN]
   refine⟨_,rfl,c,rfl,⟨ws,.inl (.inl (s4 _ _ hc))⟩,wx (xs:=ws) (λi σ' H'=>(∃x y,σ'= [some (.int n),some (.ref a),some (.ref c),some (.ref D),x,y,some (.int m)])/\ar H1 H'/\∃M',TabAt n M' D r H'/\OM.Phase M M' m λu v=>((u:Int),(v:Int))∈(OM.du n).take i)
    ⟨⟨_,_,rfl⟩,s4,M,T,jo (OM.Phase.start M m) λa b=>by simp⟩ (λi σ' H' _ q=>.inl (.inl (q.2.1 _ _ hc))) ?_ ?_⟩
   ·rintro i x σ' H' hx ⟨⟨_,_,rfl⟩,s5,M',T',Ph⟩
    obtain⟨p,hpi,b,rfl,hb⟩:=(hw.same s5).at hx
    obtain⟨u,v,rfl,hu,hv⟩:=vq gw (OV hpi)
    refine DI hb ?_
    have st:=Ph.step u v
    refine⟨_,rfl,_,rfl,D,_,u,_,rfl,rfl,.inl (.inl T'.top),gR hu,_,rfl,r u,_,m,_,rfl,rfl,.inl (.inl (T'.row u hu)),gR hm,_,rfl,?_⟩
    by_cases c1:M' u m=true
    ·refine Ny c1 ?_
     refine⟨_,rfl,_,rfl,D,_,m,_,rfl,rfl,.inl (.inl T'.top),gR hm,_,rfl,r m,_,v,_,rfl,rfl,.inl (.inl (T'.row m hm)),gR hv,_,rfl,?_⟩
     by_cases c2:M' m v=true
     ·refine Ny c2 ?_
      rw[Ov ⟨c1,c2⟩] at st
      refine⟨_,rfl,_,rfl,D,_,u,_,rfl,rfl,.inl (.inl T'.top),gR hu,_,rfl,r u,_,v,v,rfl,rfl,T'.row u hu,tH hv,⟨_,_,rfl⟩,s5.put (sep u hu) (JQ (T'.row u hu)),_,T'.set hu,jo st λa b=>?_⟩
      rw[take_snoc hpi];exact mq
     ·refine Ni c2 ?_
      rw[OA λz=>c2 z.2] at st
      refine⟨⟨_,_,rfl⟩,s5,_,T',jo st λa b=>?_⟩
      rw[take_snoc hpi];exact mq
    ·refine Ni c1 ?_
     rw[OA λz=>c1 z.1] at st
     refine pA ⟨⟨_,_,rfl⟩,s5,_,T',jo st λa b=>?_⟩
     rw[take_snoc hpi];exact mq
   ·rintro σ' H' ⟨⟨_,_,rfl⟩,s5,M',T',Ph⟩
    rw[hw.len,take_all] at Ph
    have dn:=Ph.done (n:=n) (λa b ha hb=>OM.bV.mpr ⟨⟨by simp,by simp;omega⟩,by simp,by simp;omega⟩) TT.inn Th
    exact⟨⟨_,_,_,rfl⟩,s5,M',T',TT.phase Ph,dn.1⟩
  rintro σ4 H4 ⟨⟨x4,y4,z4,rfl⟩,s4,M,T,TT,Th⟩
  refine yF ⟨_,rfl,c,rfl,⟨ws,.inl (.inl (s4 _ _ hc))⟩,λD' hD'=>GU (xs:=ws) (λi σ' H'=>(∃x y,σ'= [x,y,some (.ref D)])/\ar H4 H'/\∃vs,H' D'=some (.lst vs)/\bg K H' vs (((OM.du n).take i).filter λp=>M p.1.toNat p.2.toNat))
   ⟨⟨_,_,rfl⟩,(ar.refl H4).put hD' (Fq hD'),[],az,.nil⟩ (λi σ' H' _ q=>.inl (.inl (q.2.1 _ _ (s4 _ _ hc)))) ?_ ?_⟩
  ·rintro i x σ' H' hx ⟨⟨_,_,rfl⟩,s5,vs,hv,hpv⟩
   obtain⟨p,hpi,b,rfl,hb⟩:=(hw.same (s4.trans s5)).at hx
   obtain⟨u,v,rfl,hu,hv'⟩:=vq gw (OV hpi)
   refine DI hb ?_
   have T':=T.same s5
   refine⟨_,rfl,_,rfl,D,_,u,_,rfl,rfl,.inl (.inl T'.top),gR hu,_,rfl,r u,_,v,_,rfl,rfl,.inl (.inl (T'.row u hu)),gR hv',_,rfl,?_⟩
   by_cases c1:M u v=true
   ·refine Ny c1 ?_
    refine⟨_,rfl,_,rfl,by show 2<=sizeLine;rw[O4];omega,λp hp0=>?_⟩
    have hpD:D'≠p:=aM hv hp0
    refine⟨vs,by rw[aE hpD];exact hv,?_,⟨_,_,rfl⟩,(s5.put (s5.free hp0) (Fq hp0)).put hD' (JQ (by rw[aE hpD];exact hv)),_,az,?_⟩
    ·rw[hpv.len]
     refine Nat.lt_of_le_of_lt (Pa ..) ?_
     rw[Pu,fP,O4];omega
    ·rw[take_snoc hpi,List.filter_append,List.filter_cons_of_pos (by simpa using c1),List.filter_nil]
     have g1:jP H' (upd H' p (.tup [.int u,.int v])):=jP.new hp0
     have g2:∀o,jP (upd H' p (.tup [.int u,.int v])) (upd (upd H' p (.tup [.int u,.int v])) D' o):=λo=>jP.list (by rw[aE hpD];exact hv)
     refine bg.snoc ?_ (hpv.grow (g1.trans (g2 _)))
     exact hW.grow (.inl (.inl az)) (g2 _)
   ·refine Ni c1 ?_
    refine⟨⟨_,_,rfl⟩,s5,vs,hv,?_⟩
    rw[take_snoc hpi,List.filter_append,List.filter_cons_of_neg (by simpa using c1),List.filter_nil,Qa]
    exact hpv
  ·rintro σ' H' ⟨_,s5,vs,hv,hpv⟩
   rw[hw.len,take_all] at hpv
   refine⟨⟨_,hv⟩,D',vs,rfl,.inl ⟨.inl (.inl hv),λt ht=>?_⟩⟩
   have sA:ar H H':=(s1.trans s4).trans s5
   refine k _ t vs (sA.put (sA.free ht) (Fq ht)) (sA.free ht) az ?_
   have e:((OM.du n).filter λp=>M p.1.toNat p.2.toNat)=OM.jV n (OM.Tr (OM.Mem ps)):=by
    unfold OM.jV
    refine Q0 λp hp=>?_
    obtain⟨u,v,rfl,hu,hv⟩:=vq gw hp
    have:=TT.all wn Th u v
    simp only[O8]
    rw[O3,this]
    simp
   rw[e] at hpv
   exact hpv.grow (jP.new ht)
end
end RO
namespace RO
open PySem L2 RM
section
variable {P:Program}{w:World}{K:Frag}{mg:@FM}{base:Heap}{ca:Str->Addr}
def Oa {k:Nat}{f:Addr}{fd:FuncData}{ps:@H_}{sp:Sp}(F:e8 P w K mg base sk k f fd ps sp):e8 P w K mg base (lg P w) k f fd ps sp:=
 ⟨F.len,λA outer s H args us vs Q E hr he hb hv hs=>QS (F.run A outer s H args us vs Q E hr he hb hv hs) λr s' h=>by
  cases r with
  |ok x=>cases x <;> exact h
  |error e=>exact h.elim⟩
def yT {G H:Hp}(s:ar G H){ws:List V}{ps:@C_}(h:bg K H ws ps):bg K (oR G H) ws ps:=Paired.mapP h λv p ⟨a,e,q⟩=>⟨a,e,rL s q⟩
def qr {ds:List D}(h:dY ds≠.bad):∃(n:Nat) (d:D) (ps:@C_),ds= [.int n,d]/\p6 d=some (ps.map aB)/\1<=n/\n<=8/\OM.Wn n ps/\dY ds=.ok (.tuple ((OM.jV n (OM.Tr (OM.Mem ps))).map aB)) false:=by
 unfold dY at h
 split at h
 ·rename_i n d
  cases q:p6 d with
  |none=>rw[q] at h;exact absurd rfl h
  |some es=>
   rw[q] at h
   dsimp only at h
   cases q2:i9 es with
   |none=>rw[q2] at h;exact absurd rfl h
   |some ps=>
    rw[q2] at h
    dsimp only at h
    by_cases c:1<=n/\n<=8/\OM.Wn n.toNat ps
    ·have e:((n.toNat:Nat):Int)=n:=@AT
     refine⟨n.toNat,d,ps,by rw[e],by rw[q,mC q2],@AT,@AT,c.2.2,?_⟩
     unfold dY
     dsimp only
     rw[q]
     dsimp only
     rw[q2]
     dsimp only
     rw[Ov c]
    ·rw[OA c] at h;exact absurd rfl h
 ·exact absurd rfl h
def xY {f g:Addr}{fd gd:FuncData}(F:fX K mg "closed" ou ["many","pairs"] f fd)(E:fX K mg "every_pair" ki ["many"] g gd)(B:ic mg):cu P w K mg base ca "closed" ["many","pairs"] 3 dY:=by
 refine⟨⟨f,fd,F.mg,F.F.kp,F.b,((Oa (AU F E (DN E B) B)).mono @Go).imp ?_⟩,λds h=>?_⟩
 ·rintro vs H Q X ⟨G,ds,s,hl,r,h⟩
  have hb:dY ds≠.bad:=λz=>by rw[z] at h;exact h
  obtain⟨n,d,ps,rfl,hd,h1,h8,wn,e⟩:=qr hb
  rw[e] at h
  cases r with
  |cons r1 r=>
   cases r with
   |cons r2 r=>
    cases r
    cases r1
    obtain⟨a,xs,rfl,hq,hr⟩:=(mS.seq (B:=none) (G:=G) (H:=G) (.inl r2) hd (ar.refl _))
    refine⟨n,a,xs,ps,rfl,h1,h8,hq.elim (λq=>.inl (s.seq q)) (λq=>.inr (q.grow s.grow)),(hr.pairs).grow s.grow,wn,λH' t ws hh ht ht' hp=>?_⟩
    have s2:=s.trans hh
    refine h (.ref t) (oR G H') H' hh tJ (wJ s2) (λb m hb=>by rw[zQ hh m];exact hb) ?_
    exact .tup (rL s2 (.inl (.inl ht'))) (bg.rps (yT s2 hp))
 ·obtain⟨n,d,ps,rfl,_⟩:=qr h
  rfl
end
end RO
namespace RO
open PySem L2
structure GJ (mg:@FM)(R:Addr)(c:Nat->Addr):Prop where
 mR:mg "RankError"=some (.ref R)
 m0:mg "NoOrder"=some (.ref (c 0))
 m1:mg "NoMany"=some (.ref (c 1))
 m2:mg "NoPairs"=some (.ref (c 2))
 m3:mg "Ring"=some (.ref (c 3))
 m4:mg "NoThing"=some (.ref (c 4))
 m5:mg "NoRow"=some (.ref (c 5))
 m6:mg "NoRows"=some (.ref (c 6))
 m7:mg "NoNumber"=some (.ref (c 7))
 m8:mg "NoChain"=some (.ref (c 8))
 m9:mg "NoTurns"=some (.ref (c 9))
 m10:mg "NoPoints"=some (.ref (c 10))
 m11:mg "NoKind"=some (.ref (c 11))
 m12:mg "TooMany"=some (.ref (c 12))
 m13:mg "Bare"=some (.ref (c 13))
 m14:mg "NoLine"=some (.ref (c 14))
 m15:mg "NoText"=some (.ref (c 15))
structure oY (K:Frag)(D R:Addr)(c:Nat->Addr)(j:Nat):Prop where
 ex:xD K D
 R:PySem.W.kitOne K (.ref D) (.ref R)=some true
 V:PySem.W.kitOne K (.ref D) (.type "ValueError")=some true
 k:∀i,i < 16->PySem.W.kitOne K (.ref D) (.ref (c i))=some (decide (i=j))
def b4 (a j:Nat):List V:=[.bl (decide (a=j)),.bl (decide (a + 1=j)),.bl (decide (a + 2=j)),.bl (decide (a + 3=j))]
def N4 (j:Nat):List V:=((b4 0 j ++ b4 4 j) ++ b4 8 j) ++ b4 12 j
def jN {n:Nat}(h:n<=100):n<=sizeLine:=by rw[O4];omega
section
variable {P:Program}{w:World}{K:Frag}{mg:@FM}{base:Heap}
def tx (K:Frag)(R:Addr)(c:Nat->Addr):Sp:=λvs H Q _=>∃(ea D:Addr) (j:Nat),vs= [.ref ea]/\H ea=some (.ext (fH ea (.ref D)))/\oY K D R c j/\∀q H',ar H H'->H q=none->H' q=some (.lst (N4 j))->Q (.ref q) H'
def mF:aF ["e","found"] ["e"] (ah jW):=@AC
set_option maxHeartbeats 2000000 in
theorem yV {f R:Addr}{c:Nat->Addr}{fd:FuncData}(F:Fn K mg "_law_classes" jW ["e"] f fd)(e:GJ mg R c)(B:Bt mg):zX P w K mg base sk 1 f fd ["e"] (tx K R c):=by
 refine F.F.okH mF (λvs H Q E h=>?_) (λcdv A outer s H vs Q E hr h=>?_)
 ·obtain⟨ea,D,j,rfl,_⟩:=h;rfl
 ·obtain⟨ea,D,j,rfl,hx,kt,k⟩:=h
  refine⟨_,dz (lP (i:=1) mF.nd rfl (Or.inl rfl) (pe (aw (bB bG rfl B.isinstance (@Ev) (aw (pv 0) (aw (cz rfl e.m0 (show RelV (.ref (c 0)) _ from rfl)) aR))) (aw (bB bG rfl B.isinstance (@Ev) (aw (pv 0) (aw (cz rfl e.m1 (show RelV (.ref (c 1)) _ from rfl)) aR))) (aw (bB bG rfl B.isinstance (@Ev) (aw (pv 0) (aw (cz rfl e.m2 (show RelV (.ref (c 2)) _ from rfl)) aR))) (aw (bB bG rfl B.isinstance (@Ev) (aw (pv 0) (aw (cz rfl e.m3 (show RelV (.ref (c 3)) _ from rfl)) aR))) aR))))))
   (dz (lP (i:=1) mF.nd rfl (Or.inl rfl) (oF yp (pv 1) (pe (aw (bB bG rfl B.isinstance (@Ev) (aw (pv 0) (aw (cz rfl e.m4 (show RelV (.ref (c 4)) _ from rfl)) aR))) (aw (bB bG rfl B.isinstance (@Ev) (aw (pv 0) (aw (cz rfl e.m5 (show RelV (.ref (c 5)) _ from rfl)) aR))) (aw (bB bG rfl B.isinstance (@Ev) (aw (pv 0) (aw (cz rfl e.m6 (show RelV (.ref (c 6)) _ from rfl)) aR))) (aw (bB bG rfl B.isinstance (@Ev) (aw (pv 0) (aw (cz rfl e.m7 (show RelV (.ref (c 7)) _ from rfl)) aR))) aR)))))))
   (dz (lP (i:=1) mF.nd rfl (Or.inl rfl) (oF yp (pv 1) (pe (aw (bB bG rfl B.isinstance (@Ev) (aw (pv 0) (aw (cz rfl e.m8 (show RelV (.ref (c 8)) _ from rfl)) aR))) (aw (bB bG rfl B.isinstance (@Ev) (aw (pv 0) (aw (cz rfl e.m9 (show RelV (.ref (c 9)) _ from rfl)) aR))) (aw (bB bG rfl B.isinstance (@Ev) (aw (pv 0) (aw (cz rfl e.m10 (show RelV (.ref (c 10)) _ from rfl)) aR))) (aw (bB bG rfl B.isinstance (@Ev) (aw (pv 0) (aw (cz rfl e.m11 (show RelV (.ref (c 11)) _ from rfl)) aR))) aR)))))))
   (eM (jD (oF yp (pv 1) (pe (aw (bB bG rfl B.isinstance (@Ev) (aw (pv 0) (aw (cz rfl e.m12 (show RelV (.ref (c 12)) _ from rfl)) aR))) (aw (bB bG rfl B.isinstance (@Ev) (aw (pv 0) (aw (cz rfl e.m13 (show RelV (.ref (c 13)) _ from rfl)) aR))) (aw (bB bG rfl B.isinstance (@Ev) (aw (pv 0) (aw (cz rfl e.m14 (show RelV (.ref (c 14)) _ from rfl)) aR))) (aw (bB bG rfl B.isinstance (@Ev) (aw (pv 0) (aw (cz rfl e.m15 (show RelV (.ref (c 15)) _ from rfl)) aR))) aR)))))))))),?_⟩
  refine⟨_,rfl,ea,D,_,_,_,rfl,λu r=>r,hx,kt.ex,kt.k 0 (@AT),_,rfl,ea,D,_,_,_,rfl,λu r=>r,hx,kt.ex,kt.k 1 (@AT),_,rfl,ea,D,_,_,_,rfl,λu r=>r,hx,kt.ex,kt.k 2 (@AT),_,rfl,ea,D,_,_,_,rfl,λu r=>r,hx,kt.ex,kt.k 3 (@AT),jN (by show 4<=100;omega),λq1 h1=>?_⟩
  have s1:=ar.new (o:=.lst (b4 0 j)) h1
  refine⟨_,rfl,_,rfl,ea,D,_,_,_,rfl,λu r=>r,s1 _ _ hx,kt.ex,kt.k 4 (@AT),_,rfl,ea,D,_,_,_,rfl,λu r=>r,s1 _ _ hx,kt.ex,kt.k 5 (@AT),_,rfl,ea,D,_,_,_,rfl,λu r=>r,s1 _ _ hx,kt.ex,kt.k 6 (@AT),_,rfl,ea,D,_,_,_,rfl,λu r=>r,s1 _ _ hx,kt.ex,kt.k 7 (@AT),jN (by show 4<=100;omega),λq2 h2=>?_⟩
  refine⟨q1,q2,_,_,rfl,rfl,ar.new h2 _ _ az,az,jN (by show 8<=100;omega),λq3 h3=>?_⟩
  have s3:=(s1.trans (ar.new (o:=.lst (b4 4 j)) h2)).trans (ar.new (o:=.lst (b4 0 j ++ b4 4 j)) h3)
  refine⟨_,rfl,_,rfl,ea,D,_,_,_,rfl,λu r=>r,s3 _ _ hx,kt.ex,kt.k 8 (@AT),_,rfl,ea,D,_,_,_,rfl,λu r=>r,s3 _ _ hx,kt.ex,kt.k 9 (@AT),_,rfl,ea,D,_,_,_,rfl,λu r=>r,s3 _ _ hx,kt.ex,kt.k 10 (@AT),_,rfl,ea,D,_,_,_,rfl,λu r=>r,s3 _ _ hx,kt.ex,kt.k 11 (@AT),jN (by show 4<=100;omega),λq4 h4=>?_⟩
  refine⟨q3,q4,_,_,rfl,rfl,ar.new h4 _ _ az,az,jN (by show 12<=100;omega),λq5 h5=>?_⟩
  have s5:=(s3.trans (ar.new (o:=.lst (b4 8 j)) h4)).trans (ar.new (o:=.lst ((b4 0 j ++ b4 4 j) ++ b4 8 j)) h5)
  refine⟨_,rfl,_,rfl,ea,D,_,_,_,rfl,λu r=>r,s5 _ _ hx,kt.ex,kt.k 12 (@AT),_,rfl,ea,D,_,_,_,rfl,λu r=>r,s5 _ _ hx,kt.ex,kt.k 13 (@AT),_,rfl,ea,D,_,_,_,rfl,λu r=>r,s5 _ _ hx,kt.ex,kt.k 14 (@AT),_,rfl,ea,D,_,_,_,rfl,λu r=>r,s5 _ _ hx,kt.ex,kt.k 15 (@AT),jN (by show 4<=100;omega),λq6 h6=>?_⟩
  refine⟨q5,q6,_,_,rfl,rfl,ar.new h6 _ _ az,az,jN (by show 16<=100;omega),λq7 h7=>?_⟩
  have s7:=(s5.trans (ar.new (o:=.lst (b4 12 j)) h6)).trans (ar.new (o:=.lst (N4 j)) h7)
  refine k q7 _ s7 ?_ az
  have back:∀{G:Hp} {a b:Addr} {o:HO},upd G a o b=none->G b=none:=λ{G a b o} h=>by
   by_cases z:b=a
   ·subst z;rw[az] at h;cases h
   ·rw[aE z] at h;exact h
  exact back (back (back (back (back (back h7)))))
theorem uT {K:Frag}{H:Hp}:∀bs:List Bool,ll K H (bs.map V.bl) (bs.map PyData.bool)
 | []=>.nil
 |b :: bs=>.cons (.bl b) (uT bs)
theorem zw:∀ns:List Bool,PyData.canLayAll0 (ns.map PyData.bool)=true
 | []=>rfl
 |n :: ns=>by
  show ((PyData.bool n).canLay0 && PyData.canLayAll0 (ns.map PyData.bool))=true
  rw[zw ns];rfl
theorem Ac:∀ns:List Bool,PyData.depthAll (ns.map PyData.bool)=0
 | []=>rfl
 |n :: ns=>by
  show max (PyData.bool n).depth (PyData.depthAll (ns.map PyData.bool))=0
  rw[Ac ns];rfl
def rM (ns:List Bool):SeqAt.shaped (.list (ns.map PyData.bool))=true:=by
 unfold SeqAt.shaped
 have h1:(PyData.list (ns.map PyData.bool)).canLay0=true:=by simp only[PyData.canLay0];exact zw ns
 have h2:(PyData.list (ns.map PyData.bool)).depth<=64:=by simp only[PyData.depth];rw[Ac];omega
 rw[h1,OE h2];rfl
theorem AA:∀l m:List Bool,PyData.eqvAll (l.map PyData.bool) (m.map PyData.bool)=decide (l=m)
 | [],[]=>rfl
 | [],_ :: _=>rfl
 |_ :: _,[]=>rfl
 |p :: l,q :: m=>by
  show (PyData.eqv (.bool p) (.bool q) && PyData.eqvAll (l.map PyData.bool) (m.map PyData.bool))=_
  rw[AA l m,O3]
  cases p <;> cases q <;> simp[PyData.eqv]
def yM (j:Nat):List Bool:=(List.range 16).map λa=>decide (a=j)
def GF:∀p,p < 16->∀j,j < 16->decide (yM j=yM p)=decide (p=j):=@Ev
def CZ (K:Frag)(R:Addr)(c:Nat->Addr):Addr->Sp:=λx0 vs H Q _=>∃(D:Addr) (j p:Nat),vs= [.ref x0,.int p]/\p < 16/\j < 16/\H x0=some (.ext (fH x0 (.ref D)))/\oY K D R c j/\∀H',ar H H'->Q (.bl (decide (p=j))) H'
def Jq:aF ["e","place"] ["e","place"] (ah wy):=@AC
def LP:(["k","place"]:@H_).Nodup:=@Ev
set_option maxHeartbeats 2000000 in
theorem Fj {f R fc:Addr}{c:Nat->Addr}{fd fdc:FuncData}(F:Fn K mg "_law_only" wy ["e","place"] f fd)(Fc:Fn K mg "_law_classes" jW ["e"] fc fdc)(e:GJ mg R c)(B:Bt mg)(hv:mg "ValueError"=none):tP P w K mg base sk 2 f fd ["e","place"] (CZ K R c):=by
 have O:zX P w K mg base sk 1 fc fdc ["e"] (tx K R c):=yV Fc e B
 refine F.F.okE Jq (λx0 vs H Q E h=>?_) (λx0 cdv A outer s H vs Q E hr hh h=>?_)
 ·obtain⟨D,j,p,rfl,_⟩:=h;rfl
 ·obtain⟨D,j,p,rfl,hp,hj,hx,kt,k⟩:=h
  refine⟨_,dz (Dl (PW.pt (Hn (yn (o8 (bB bG rfl B.isinstance (@Ev) (aw (pv 0) (aw (cz rfl e.mR (show RelV (.ref R) _ from rfl)) aR))) λ_=>rfl)) (CM (yn (o8 (bB bG rfl B.isinstance (@Ev) (aw (pv 0) (aw (zL rfl hv (@Ev) (show RelV (.ty "ValueError") _ from rfl)) aR))) λ_=>rfl))))) (eM (jD vW)) uz)
   (eM (jD (u4 (cW hr.units) (Cn O (hr.mono (@AT)) rfl Fc.mg Fc.F.kp Fc.b .nil DP (aw (pv 0) aR))
    (v9 (NB:=["k","place"]) (own:=1) (ixs:=[1]) (mj (by kernel_rfl)) (zP rfl B.range (aw pB aR))
     (λC ex s3 H3 pn=>cS (i:=0) LP rfl (Or.inl rfl) (hf:=Or.inr rfl)) (λC ex s3 H3 pn=>ql)
     (λC ex s3 H3 pn=>u4 K4 (pv 0) (pv 1) (bf _))) rfl))),?_⟩
  refine⟨_,rfl,x0,D,_,_,true,rfl,λu r=>r,hx,kt.ex,kt.R,_,rfl,pA ?_⟩
  refine⟨_,rfl,x0,D,_,_,true,rfl,λu r=>r,hx,kt.ex,kt.V,_,rfl,pA ?_⟩
  refine⟨_,rfl,x0,D,j,rfl,hx,kt,λq H1 s1 hq e1=>?_⟩
  refine⟨⟨16,rfl,@AT,@AT,λD' hD=>?_⟩⟩
  refine pM (lo:=0) (n:=16) (λi σ' H'=>(∃v,σ'= [v,some (.int (p:Int))])/\ar H1 H'/\H' D'=some (.lst ((List.range i).map λ(a:Nat)=>V.bl (decide (V.int (0 + (a:Int))=V.int (p:Int)))))) ?_ ?_ ?_ ?_
  ·exact λi σ' H' h=>⟨x0,.ref D,hh,h.2.1 _ _ (s1 _ _ hx)⟩
  ·exact⟨⟨none,rfl⟩,(ar.refl H1).put hD (Fq hD),az⟩
  ·rintro i σ' H' hi ⟨⟨v,rfl⟩,s2,hv'⟩
   refine qX ⟨_,rfl,_,rfl,rfl,_,hv',by rw[OB,PU,O4];omega,⟨_,rfl⟩,s2.put hD (JQ hv'),?_⟩
   rw[az,List.range_succ,Pb];rfl
  ·rintro σ' H' ⟨_,s2,hv'⟩
   have e2:((List.range 16).map λ(a:Nat)=>V.bl (decide (V.int (0 + (a:Int))=V.int (p:Int))))=(yM p).map V.bl:=by
    unfold yM
    rw[QX]
    refine PV λa _=>?_
    show V.bl _=V.bl _
    congr 1
    rw[Aj,PN,O3,OP,beq_iff_eq]
    omega
   rw[e2] at hv'
   have e1':H1 q=some (.lst ((yM j).map V.bl)):=e1
   refine⟨⟨_,hv'⟩,_,_,.lst (.inl (.inl (s2 _ _ e1'))) (uT _),.lst (.inl (.inl hv')) (uT _),rM _,rM _,?_⟩
   have e3:PyData.eqv (.list ((yM j).map PyData.bool)) (.list ((yM p).map PyData.bool))=decide (p=j):=by
    simp only[PyData.eqv,AA]
    exact GF p hp j hj
   rw[OA OI,e3]
   exact k _ (s1.trans s2)
end
def MW {P:Program}{w:World}{K:Frag}{mg:@FM}{base:Heap}{ca:Str->Addr}{f R fc:Addr}{c:Nat->Addr}{fd fdc:FuncData}{tbl:List (Str×Nat)}(F:fX K mg "_law_only" wy ["e","place"] f fd)(Fc:fX K mg "_law_classes" jW ["e"] fc fdc)(e:GJ mg R c)(B:ic mg)(hv:mg "ValueError"=none)
  (ha:∀x j,tbl.lookup x=some j->Mt K (.ref (ca x)) R/\oY K (ca x) R c j/\j < 16):LY P w K mg base ca "RankError" "_law_only" (λx=>tbl.lookup x):=by
 have O:tP P w K mg base sk 2 f fd ["e","place"] (CZ K R c):=Fj F Fc e B hv
 refine⟨f,R,fd,λD j=>oY K D R c j/\j < 16,⟨λx0 vs H Q E q=>by obtain⟨D,j,p,rfl,_⟩:=q;rfl,λx0 A outer s H args us vs Q E hr hh he hb hv' hs=>O.run x0 A outer s H args us vs Q E hr hh he hb hv' (by
   obtain⟨D,j,p,rfl,hp,hx,⟨kj,hj⟩,q⟩:=hs
   exact⟨D,j,p,rfl,hp,hj,hx,kj,q⟩)⟩,F.mg,F.F.kp,F.b,e.mR,λx j h=>?_⟩
 obtain⟨h1,h2,h3⟩:=ha x j h
 exact⟨h1,⟨h2,h3⟩,h3⟩
end RO
section
namespace RO
open PySem L2 RM
def JD {T:Addr}{K:Frag}{ca:Str->Addr}(vs:List V)(H:Hp)(Q:VK)(E:XK)(h:vv T K vs H Q E):spT T K ca 1 Jy vs H Q E:=by
 obtain⟨a,ns,rfl,hT,hS,q⟩:=h
 refine⟨H,[cZ ns],M9 hT,ar.refl _,rfl,.cons (.scr hS) .nil,?_⟩
 rw[Ko]
 intro v G' H' s1 s2 s3 s4 fv
 have fv:Rp K G' v (.bool true):=fv
 cases fv
 exact q H' s1
def all_mk:HI:=by
 intro T c0 l w K h mg fa f49 R q0 q1 q2 q3 q4 q5 q6 q7 q8 q9 q10 q11 q12 q13 q14 q15 X G hfa od49 an49 sl49 oc49 kV49 dc49 pm49 cd49 ct49 tMOST_ROWS tMOST_THINGS F1 F2 F3 F4 F5 F6 F7 F8 F9 F10 F11 F12 F13 F14 F15 F16 F17 F18 F19 F20 F21 F22 F23 F24 F25 F26 F27 F28 F29 F30 F31 F32 F33 F34 F35 F36 F37 F38 F39 F40 F41 F42 F43 F44 F45 F46 F47 F48 a49 l49 c49 k49 zB yMOST_ROWS yMOST_THINGS mR n0 n1 n2 n3 n4 n5 n6 n7 n8 n9 n10 n11 n12 n13 n14 n15 zV eR e0 e1 up0 g1_0 g2_0 g3_0 g4_0 g7_0 g8_0 kR0 kV0 kt0_0 kt0_1 kt0_2 kt0_3 kt0_4 kt0_5 kt0_6 kt0_7 kt0_8 kt0_9 kt0_10 kt0_11 kt0_12 kt0_13 kt0_14 kt0_15 up7 g1_7 g2_7 g3_7 g4_7 g7_7 g8_7 kR7 kV7 kt7_0 kt7_1 kt7_2 kt7_3 kt7_4 kt7_5 kt7_6 kt7_7 kt7_8 kt7_9 kt7_10 kt7_11 kt7_12 kt7_13 kt7_14 kt7_15 g5 g6
 have e:=hfa.symm.trans (O1 X G a49)
 cases e
 have B:ic mg:=K6 X G zB
 have lW:=O1 X G yMOST_ROWS
 have jO:=O1 X G yMOST_THINGS
 obtain⟨f1,d1,rK⟩:=F1.ex
 obtain⟨f2,d2,vX⟩:=F2.ex
 obtain⟨f3,d3,bD⟩:=F3.ex
 obtain⟨f4,d4,fk⟩:=F4.ex
 obtain⟨f5,d5,iZ⟩:=F5.ex
 obtain⟨f6,d6,cT⟩:=F6.ex
 obtain⟨f7,d7,c7⟩:=F7.ex
 obtain⟨f8,d8,jU⟩:=F8.ex
 obtain⟨f9,d9,gy⟩:=F9.ex
 obtain⟨f10,d10,gA⟩:=F10.ex
 obtain⟨f11,d11,aI⟩:=F11.ex
 obtain⟨f12,d12,bY⟩:=F12.ex
 obtain⟨f13,d13,aJ⟩:=F13.ex
 obtain⟨f14,d14,dg⟩:=F14.ex
 obtain⟨f15,d15,dq⟩:=F15.ex
 obtain⟨f16,d16,fF⟩:=F16.ex
 obtain⟨f17,d17,kX⟩:=F17.ex
 obtain⟨f18,d18,gp⟩:=F18.ex
 obtain⟨f19,d19,bw⟩:=F19.ex
 obtain⟨f20,d20,iQ⟩:=F20.ex
 obtain⟨f21,d21,fw⟩:=F21.ex
 obtain⟨f22,d22,bW⟩:=F22.ex
 obtain⟨f23,d23,bE⟩:=F23.ex
 obtain⟨f24,d24,fx⟩:=F24.ex
 obtain⟨f25,d25,bX⟩:=F25.ex
 obtain⟨f26,d26,gi⟩:=F26.ex
 obtain⟨f27,d27,fE⟩:=F27.ex
 obtain⟨f28,d28,iX⟩:=F28.ex
 obtain⟨f29,d29,fB⟩:=F29.ex
 obtain⟨f30,d30,b8,hcode⟩:=F30.ex
 obtain⟨f31,d31,eN⟩:=F31.ex
 obtain⟨f32,d32,bH⟩:=F32.ex
 obtain⟨f33,d33,j6⟩:=F33.ex
 obtain⟨f34,d34,bP⟩:=F34.ex
 obtain⟨f35,d35,dO⟩:=F35.ex
 obtain⟨f36,d36,pC⟩:=F36.ex
 obtain⟨f37,d37,cF⟩:=F37.ex
 obtain⟨f38,d38,mH⟩:=F38.ex
 obtain⟨f39,d39,gk⟩:=F39.ex
 obtain⟨f40,d40,a8⟩:=F40.ex
 obtain⟨f41,d41,dH⟩:=F41.ex
 obtain⟨f42,d42,gx⟩:=F42.ex
 obtain⟨f43,d43,aP⟩:=F43.ex
 obtain⟨f44,d44,cE⟩:=F44.ex
 obtain⟨f45,d45,cg⟩:=F45.ex
 obtain⟨f46,d46,fC⟩:=F46.ex
 obtain⟨f47,d47,dI⟩:=F47.ex
 obtain⟨f48,d48,bO⟩:=F48.ex
 have U49:=rO (st:=RQ.mU) l49 c49 k49
 have K9:fX K mg "law" RQ.mU ["script"] fa _:=⟨O1 X G a49,U49,U49.binds (ps:=["script"]) λ_ _ _ _ _ _=>xT λ_=>rfl⟩
 obtain⟨ca,hca⟩:∃ca:Str->Addr,ca "NoNumber"=q7/\ca "NoOrder"=q0:=⟨λs=>if s="NoNumber" then q7 else if s="NoOrder" then q0 else 0,by first |rfl |decide |simp,by first |rfl |decide |simp⟩
 have jc:Exc K mg ca "NoNumber":=⟨by rw[hca.1];exact O1 X G n7,by rw[hca.1];exact e0⟩
 have jY:Exc K mg ca "NoOrder":=⟨by rw[hca.2];exact O1 X G n0,by rw[hca.2];exact e1⟩
 refine⟨PySem.W.fnOf "law" "law" (iJ RQ.mU) (cG RQ.mU) (ah RQ.mU) .none kV49 dc49 pm49 an49 cd49 ct49,λs v=>.of_eq rfl,λbase _ _ LT=>?_⟩
 have er:GJ mg R (λi=>[q0,q1,q2,q3,q4,q5,q6,q7,q8,q9,q10,q11,q12,q13,q14,q15].getD i 0):=⟨O1 X G mR,O1 X G n0,O1 X G n1,O1 X G n2,O1 X G n3,O1 X G n4,O1 X G n5,O1 X G n6,O1 X G n7,O1 X G n8,O1 X G n9,O1 X G n10,O1 X G n11,O1 X G n12,O1 X G n13,O1 X G n14,O1 X G n15⟩
 have kt0:oY K q0 R (λi=>[q0,q1,q2,q3,q4,q5,q6,q7,q8,q9,q10,q11,q12,q13,q14,q15].getD i 0) 0:=⟨⟨g1_0,g2_0,g3_0,g4_0,g5,g6,g7_0,g8_0⟩,kR0,kV0,λi hi=>by
  match i,hi with
  | 0,_=>exact kt0_0
  | 1,_=>exact kt0_1
  | 2,_=>exact kt0_2
  | 3,_=>exact kt0_3
  | 4,_=>exact kt0_4
  | 5,_=>exact kt0_5
  | 6,_=>exact kt0_6
  | 7,_=>exact kt0_7
  | 8,_=>exact kt0_8
  | 9,_=>exact kt0_9
  | 10,_=>exact kt0_10
  | 11,_=>exact kt0_11
  | 12,_=>exact kt0_12
  | 13,_=>exact kt0_13
  | 14,_=>exact kt0_14
  | 15,_=>exact kt0_15
  |i + 16,h=>omega⟩
 have mt0:Mt K (.ref q0) R:=Hz e1 eR @Go up0
 have kt7:oY K q7 R (λi=>[q0,q1,q2,q3,q4,q5,q6,q7,q8,q9,q10,q11,q12,q13,q14,q15].getD i 0) 7:=⟨⟨g1_7,g2_7,g3_7,g4_7,g5,g6,g7_7,g8_7⟩,kR7,kV7,λi hi=>by
  match i,hi with
  | 0,_=>exact kt7_0
  | 1,_=>exact kt7_1
  | 2,_=>exact kt7_2
  | 3,_=>exact kt7_3
  | 4,_=>exact kt7_4
  | 5,_=>exact kt7_5
  | 6,_=>exact kt7_6
  | 7,_=>exact kt7_7
  | 8,_=>exact kt7_8
  | 9,_=>exact kt7_9
  | 10,_=>exact kt7_10
  | 11,_=>exact kt7_11
  | 12,_=>exact kt7_12
  | 13,_=>exact kt7_13
  | 14,_=>exact kt7_14
  | 15,_=>exact kt7_15
  |i + 16,h=>omega⟩
 have mt7:Mt K (.ref q7) R:=Hz e0 eR @Go up7
 have MK:LY l.prog w K mg base ca "RankError" "_law_only" (λx=>Bl.lookup x):=by
  refine MW vX rK er B (PySem.W.mg_none_of X G zV) λc j h=>?_
  unfold Bl at h
  by_cases z0:c="NoOrder"
  ·subst z0
   cases h
   rw[hca.2];exact⟨mt0,kt0,@AT ⟩
  by_cases z7:c="NoNumber"
  ·subst z7
   cases h
   rw[hca.1];exact⟨mt7,kt7,@AT ⟩
  simp only[Qx,List.lookup_nil,beq_false_of_ne z0,beq_false_of_ne z7] at h
  cases h
 have c4:=(RQ.vj (P:=l.prog) (w:=w) (base:=base) (ca:=ca) bD B).imp Gi
 have kK:=(RQ.uK (P:=l.prog) (w:=w) (base:=base) (ca:=ca) fk B c4).imp FE
 have o7:=(RQ.xP (P:=l.prog) (w:=w) (base:=base) (ca:=ca) iZ B c4 jO).imp Jz
 have iR:=RQ.xx (P:=l.prog) (w:=w) (base:=base) (ca:=ca) cT B kK
 have iI:=RQ.qw (P:=l.prog) (w:=w) (base:=base) (ca:=ca) c7 B
 have rN:=xY (P:=l.prog) (w:=w) (base:=base) (ca:=ca) jU c7 B
 have nz:=(RQ.vc (P:=l.prog) (w:=w) (base:=base) (ca:=ca) gy B).imp Ju
 have nt:=RQ.vA (P:=l.prog) (w:=w) (base:=base) (ca:=ca) gA B o7 iR rN nz
 have a7:=RQ.qR (P:=l.prog) (w:=w) (base:=base) (ca:=ca) aI B nt jY
 have dD:=RQ.tu (P:=l.prog) (w:=w) (base:=base) (ca:=ca) bY B
 have ba:=RQ.sh (P:=l.prog) (w:=w) (base:=base) (ca:=ca) aJ B
 have jK:=RQ.pY (P:=l.prog) (w:=w) (base:=base) (ca:=ca) dg B ba
 have jQ:=RQ.pZ (P:=l.prog) (w:=w) (base:=base) (ca:=ca) dq B ba
 have lV:=RQ.sL (P:=l.prog) (w:=w) (base:=base) (ca:=ca) fF B jQ ba
 have vh:=RQ.uj (P:=l.prog) (w:=w) (base:=base) (ca:=ca) kX B a7 iI dD
 have kH:=RQ.uW (P:=l.prog) (w:=w) (base:=base) (ca:=ca) gp B
 have dX:=RQ.lb (P:=l.prog) (w:=w) (base:=base) (ca:=ca) bw B vh kH
 have oQ:=RQ.wH (P:=l.prog) (w:=w) (base:=base) (ca:=ca) iQ B iR dD
 have lZ:=RQ.su (P:=l.prog) (w:=w) (base:=base) (ca:=ca) fw B oQ
 have dB:=RQ.uJ (P:=l.prog) (w:=w) (base:=base) (ca:=ca) bW B
 have c8:=RQ.vN (P:=l.prog) (w:=w) (base:=base) (ca:=ca) bE B ba
 have lI:=RQ.sU (P:=l.prog) (w:=w) (base:=base) (ca:=ca) fx B c8
 have fo:=RQ.sV (P:=l.prog) (w:=w) (base:=base) (ca:=ca) bX B c8
 have nk:=RQ.uy (P:=l.prog) (w:=w) (base:=base) (ca:=ca) gi B c8 ba
 have lK:=RQ.sX (P:=l.prog) (w:=w) (base:=base) (ca:=ca) fE B dB
 have lJ:=RQ.sJ (P:=l.prog) (w:=w) (base:=base) (ca:=ca) fB B fo
 have jh:=xh (T:=T) (P:=l.prog) (w:=w) (base:=base) (ca:=ca) (j:=7) b8 (λk F' hk h=>RQ.uR (@AT) b8 B hcode LT (RQ.wB (@AT) iX B h fo lK nk) lI lV lJ) 40
 have td:=a7.imp Gg
 have Cz:=RQ.uj (P:=l.prog) (w:=w) (base:=base) (ca:=ca) kX B td iI dD
 have qt:=RQ.lb (P:=l.prog) (w:=w) (base:=base) (ca:=ca) bw B Cz kH
 have kb:=RQ.A1 (P:=l.prog) (w:=w) (base:=base) (ca:=ca) eN B jK jh qt
 have dh:=RQ.pX (P:=l.prog) (w:=w) (base:=base) (ca:=ca) bH B a7 kb
 have rB:=RQ.ya (P:=l.prog) (w:=w) (base:=base) (ca:=ca) j6 B dh
 have dJ:=RQ.qP (P:=l.prog) (w:=w) (base:=base) (ca:=ca) bP B c4 jc lW
 have kE:=RQ.rT (P:=l.prog) (w:=w) (base:=base) (ca:=ca) dO B a7 dJ kb
 have yh:=RQ.DJ (P:=l.prog) (w:=w) (base:=base) (ca:=ca) pC B
 have ij:=RQ.nZ (P:=l.prog) (w:=w) (base:=base) (ca:=ca) cF B a7 dJ yh
 have uC:=RQ.AX (P:=l.prog) (w:=w) (base:=base) (ca:=ca) mH B dB
 have nr:=RQ.uB (P:=l.prog) (w:=w) (base:=base) (ca:=ca) gk B a7 lZ
 have dc:=Ai (P:=l.prog) (w:=w) (base:=base) (ca:=ca) (j:=2) a8 (λk F' hk h=>RQ.nY hk a8 B h uC) 40
 have kT:=RQ.rn (P:=l.prog) (w:=w) (base:=base) (ca:=ca) dH B dc dX
 have ng:=RQ.uZ (P:=l.prog) (w:=w) (base:=base) (ca:=ca) gx B
 have bo:=RQ.sD (P:=l.prog) (w:=w) (base:=base) aP B
 have hZ:=RQ.nK (P:=l.prog) (w:=w) (base:=base) cE B bo
 have dZ:=RQ.oJ (P:=l.prog) (w:=w) (base:=base) cg B bo
 have lC:=RQ.sO (P:=l.prog) (w:=w) (base:=base) (ca:=ca) fC B
 have ky:=RQ.rQ (P:=l.prog) (w:=w) (base:=base) (ca:=ca) dI B lC bo dZ
 have cX:=RQ.o5 (P:=l.prog) (w:=w) (base:=base) (ca:=ca) bO B kE ij rB dh nr kT MK
 have J3:=RQ.EI (P:=l.prog) (w:=w) (base:=base) (ca:=ca) K9 B ng cX ky hZ bo
 exact e8.imp (sp:=spT T K ca 1 Jy) J3 JD
end RO
theorem PySem.Challenge.cw_rowsorder_k46_fewest_refused_holds : PySem.Challenge.rw_rowsorder_k46_fewest_refused.Holds :=
 RO.head RO.all_mk
end
